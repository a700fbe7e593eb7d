/- A body that comes in: how many bytes its slices take at most. -/
import Derived.Test.YtiecdgcdcpmgaaaM22
import Derived.SizedLaws
import Derived.Test.YtiecdgcdcpmgaaaSeDj
import Derived.Test.YtiecdgcdcpmgaaaSeDkM
import Derived.Test.YtiecdgcdcpmgaaaSeDrb
import Derived.Test.YtiecdgcdcpmgaaaSeDsM
import Derived.Test.YtiecdgcdcpmgaaaSeIeM
import Derived.Test.YtiecdgcdcpmgaaaSeInM
import Derived.Test.YtiecdgcdcpmgaaaSeRf1
import Derived.Test.YtiecdgcdcpmgaaaSeRf2
import Derived.Test.YtiecdgcdcpmgaaaM06
namespace Go.Proofs.Ytiecdgcdcpmgaaa.Iv
open Go.ChangeShapes Go.WideShapes Go.ChangeAt Go.RowKit Go.Deep
theorem bDir31:Try.prog.bytesOf 47=48:=by kernel_rfl
theorem bIv31:Try.prog.bytesOf 25=16:=by kernel_rfl
theorem slice_w31 {H:Type} {enc:TypeId × Value→H} {w:World} {fuel:Nat} {spare:Nat→Bool} {held:Bool} {x:DataW H × List MemPlace} {t e:TypeId} {a:Option Addr} {n c:Nat} (ht:Try.prog.underlying t=some (.slice e))
  (h:DataW.trod enc Try.prog w 0 spare held fuel t [.slice a n c]=some x) (hw:∀k∈x.1.weights Try.prog t,k≤reachBytes):n*Try.prog.bytesOf e≤reachBytes:=by
 rcases open_slice ht h with ⟨hcs,_⟩|⟨a',l,c',m,k,D,Pl,hcs,_,hl,hm,hmm,hx,_⟩
 ·simp at hcs;obtain ⟨_,rfl,_⟩:=hcs;rw [Nat.zero_mul];exact Nat.zero_le _
 ·simp at hcs;obtain ⟨_,rfl,_⟩:=hcs;have:=hw ((((List.range n).map D).length+((List.range (m - n)).map fun j=>D (n+j)).length)*Try.prog.bytesOf e) (by rw [hx];simp [DataW.weights,ht]);simp only [List.length_map,List.length_range] at this;exact Nat.le_trans (Nat.mul_le_mul_right _ (Nat.le_add_right _ _)) this
set_option maxRecDepth 100000 in
theorem body_w31 {H:Type} {enc:TypeId × Value→H} {w:World} {fuel:Nat} {spare:Nat→Bool} {held:Bool} {x:DataW H × List MemPlace} {na da:Option Addr} {n m nc dc:Nat} {i0 i1:Int}
  (h:DataW.trod enc Try.prog w 0 spare held fuel 27 [.slice na n nc,.slice da m dc,.int .i64 i0,.int .i64 i1]=some x) (hw:∀k∈x.1.weights Try.prog 27,k≤reachBytes):n*48≤reachBytes∧m*16≤reachBytes:=by
 obtain ⟨xs,f,_,hx,_,hxl,hf⟩:=DataW.trod_struct Try.underlying27 h;have h0:DataW.trod enc Try.prog w 0 spare held f 22 ((([.slice na n nc,.slice da m dc,.int .i64 i0,.int .i64 i1]:List Value).drop 0).take (Try.prog.cellsOf 22))=xs[0]?:=hf 0 _ rfl;have h1:DataW.trod enc Try.prog w 0 spare held f 23 ((([.slice na n nc,.slice da m dc,.int .i64 i0,.int .i64 i1]:List Value).drop 1).take (Try.prog.cellsOf 23))=xs[1]?:=hf 1 _ rfl;rw [cDirs31] at h0;rw [cIvs31] at h1
 have hl:xs.length=3:=by simpa using hxl
 match xs,hl with
 | [x0,x1,x2],_=>
  subst hx
  have g0:=slice_w31 Try.underlying22 (h0.trans rfl) (fun k hk=>hw k (by
   simp only [DataW.weights,Try.underlying27]
   exact DataW.weights_mem_each (j:=0) rfl rfl k hk))
  have g1:=slice_w31 Try.underlying23 (h1.trans rfl) (fun k hk=>hw k (by
   simp only [DataW.weights,Try.underlying27]
   exact DataW.weights_mem_each (j:=1) rfl rfl k hk))
  rw [bDir31] at g0;rw [bIv31] at g1;exact ⟨g0,g1⟩
set_option maxRecDepth 100000 in
theorem body_sz {H:Type} {enc:TypeId × Value→H} {w:World} {r:Reach} {b0:Nat} {spare:Nat→Bool} {held:Bool} {v:Value} {d:DataW H} {p:List MemPlace}
  (hv:Value.okWide Try.prog w r b0 27 v) (h:DataW.Trod enc Try.prog w 0 spare held 27 v d p) (hw:∀k∈d.weights Try.prog 27,k≤reachBytes) :
  ∃na L nc da M dc i0 i1,v = .agg #[.slice na (L:List D).length nc,.slice da (M:List (Int × Int)).length dc,.int .i64 i0,.int .i64 i1]∧NAt w na L∧PAt w da M∧L.length*48≤140737488351232∧M.length*16≤140737488351232:=by
 obtain ⟨l,fuel,rfl,hf⟩:=agg_of Try.underlying27 hv h;obtain ⟨na,L,nc,da,M,dc,i0,i1,rfl,h1,h2,h3,h4⟩:=body31 hf;obtain ⟨g0,g1⟩:=body_w31 hf hw;exact ⟨na,L,nc,da,M,dc,i0,i1,rfl,h1,h2,g0,g1⟩
end Go.Proofs.Ytiecdgcdcpmgaaa.Iv
