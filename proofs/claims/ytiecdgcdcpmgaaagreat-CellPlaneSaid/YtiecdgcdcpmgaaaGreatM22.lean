/- Texts PTuRow, PTx1, PCRow, PTuSz. -/
import Derived.Test.YtiecdgcdcpmgaaaGreatM06
import Derived.Test.YtiecdgcdcpmgaaaGreatRows
import Derived.Test.YtiecdgcdcpmgaaaGreatM21
import Derived.Test.YtiecdgcdcpmgaaaGreatM20
import Derived.ProofKit
import Derived.OpenShut
import Derived.ShutString
import Derived.ChangeOld
import Derived.Below
import Derived.Deep.Slices
import Derived.Test.YtiecdgcdcpmgaaaGreatM17
import Derived.Deep.AppendLies
import Derived.Maps.AppendAt
import Derived.LoopNIn
import Derived.Test.YtiecdgcdcpmgaaaGreatM12
import Derived.SizedLaws

/- What the cells of a body, a ray, a path, a light are when they come in as arguments. -/
namespace Go.Proofs.YtiecdgcdcpmgaaaGreat.Iv
open Go.ChangeShapes Go.WideShapes Go.ChangeAt Go.RowKit Go.Deep
theorem own31:ownKnob Tryz.prog.godebug=none:=by kernel_rfl
theorem laidOut31:laidOutB Tryz.prog=true:=by kernel_rfl
theorem cInt31:Tryz.prog.cellsOf 3=1:=by kernel_rfl
theorem cIv31:Tryz.prog.cellsOf 25=2:=by kernel_rfl
theorem cDir31:Tryz.prog.cellsOf 45=6:=by kernel_rfl
theorem cBody31:Tryz.prog.cellsOf 27=4:=by kernel_rfl
theorem cDirs31:Tryz.prog.cellsOf 22=1:=by kernel_rfl
theorem cIvs31:Tryz.prog.cellsOf 23=1:=by kernel_rfl
theorem fields31 {H:Type} {enc:TypeId × Value→H} {w:World} {base fuel:Nat} {spare:Nat→Bool} {held:Bool} {cs:List Value} {x:DataW H × List MemPlace} {t:TypeId} {fs:Array Field} (ht:Tryz.prog.underlying t=some (.struct fs)) (h:DataW.trod enc Tryz.prog w base spare held fuel t cs=some x) :
  cs.length=Tryz.prog.cellsOf t∧∃n,∀(i:Nat) (f:Field),fs.toList[i]? = some f→∃y,DataW.trod enc Tryz.prog w base spare held n f.type ((cs.drop f.offset).take (Tryz.prog.cellsOf f.type))=some y:=by
 obtain ⟨xs,n,_,_,hl,hxl,hf⟩:=DataW.trod_struct ht h;refine ⟨hl,n,fun i f hi=>?_⟩;rw [Array.getElem?_toList] at hi;have hlt:i<fs.size:=(Array.getElem?_eq_some_iff.1 hi).1;exact ⟨_,(hf i f hi).trans (List.getElem?_eq_getElem (by omega))⟩
theorem cut31 (cs:List Value) (o a b:Nat):(cs.drop o).take (a+b)=(cs.drop o).take a ++ (cs.drop (o+a)).take b:=by
 rw [List.take_add,List.drop_drop]
theorem whole31 {cs:List Value} {n:Nat} (h:cs.length=n):cs=(cs.drop 0).take n:=by
 rw [List.drop_zero,←h,List.take_length]
theorem int_cells31 {H:Type} {enc:TypeId × Value→H} {w:World} {base fuel:Nat} {spare:Nat→Bool} {held:Bool} {cs:List Value} {x:DataW H × List MemPlace} (h:DataW.trod enc Tryz.prog w base spare held fuel 3 cs=some x):∃a:Int,cs = [.int .i64 a]:=by
 obtain ⟨a,p0,_⟩:=DataW.trod_int Tryz.underlying3 h;exact ⟨a,p0⟩
theorem iv_cells31 {H:Type} {enc:TypeId × Value→H} {w:World} {base fuel:Nat} {spare:Nat→Bool} {held:Bool} {cs:List Value} {x:DataW H × List MemPlace} (h:DataW.trod enc Tryz.prog w base spare held fuel 25 cs=some x):∃a b:Int,cs = [.int .i64 a,.int .i64 b]:=by
 obtain ⟨hl,n,hf⟩:=fields31 Tryz.underlying25 h;obtain ⟨_,h0⟩:=hf 0 _ rfl;obtain ⟨_,h1⟩:=hf 1 _ rfl;obtain ⟨a,p0⟩:=int_cells31 h0;obtain ⟨b,p1⟩:=int_cells31 h1;rw [cIv31] at hl;dsimp only at p0 p1;rw [cInt31] at p0 p1;have e:=whole31 hl;rw [show (2:Nat)=1+1 from rfl,cut31,p0,p1] at e;exact ⟨a,b,e⟩
abbrev dcs (s:D):List Value:=[.int .i64 s.a,.int .i64 s.b,.int .i64 s.c,.int .i64 s.d,.int .i64 s.e,.int .i64 s.f]
abbrev pcs (s:Int × Int):List Value:=[.int .i64 s.1,.int .i64 s.2]
set_option maxRecDepth 100000 in
theorem dir_cells31 {H:Type} {enc:TypeId × Value→H} {w:World} {base fuel:Nat} {spare:Nat→Bool} {held:Bool} {cs:List Value} {x:DataW H × List MemPlace} (h:DataW.trod enc Tryz.prog w base spare held fuel 45 cs=some x):∃s:D,cs=dcs s:=by
 obtain ⟨hl,n,hf⟩:=fields31 Tryz.underlying45 h;obtain ⟨_,h0⟩:=hf 0 _ rfl;obtain ⟨_,h1⟩:=hf 1 _ rfl;obtain ⟨_,h2⟩:=hf 2 _ rfl;obtain ⟨a,b,p0⟩:=iv_cells31 h0;obtain ⟨c,d,p1⟩:=iv_cells31 h1;obtain ⟨e',f,p2⟩:=iv_cells31 h2;rw [cDir31] at hl;dsimp only at p0 p1 p2;rw [cIv31] at p0 p1 p2;have e:=whole31 hl;rw [show (6:Nat)=2+(2+2) from rfl,cut31,cut31,p0,p1,p2] at e;exact ⟨⟨a,b,c,d,e',f⟩,e⟩
theorem elems31 {H:Type} {enc:TypeId × Value→H} {w:World} {fuel:Nat} {spare:Nat→Bool} {held:Bool} {cs:List Value} {x:DataW H × List MemPlace} {α : Type} [Inhabited α] (f : α→List Value) (k:Nat) (hk:0<k) (hlen:∀a,(f a).length=k) {t e:TypeId} (ht:Tryz.prog.underlying t=some (.slice e)) (hc:Tryz.prog.cellsOf e=k)
  (he:∀n cs x,DataW.trod enc Tryz.prog w 0 spare held n e cs=some x→∃a : α,cs=f a) (h:DataW.trod enc Tryz.prog w 0 spare held fuel t cs=some x) :
  ∃(ao:Option Addr) (L:List α) (cp:Nat),cs = [.slice ao L.length cp]∧L.length≤cp∧cp≤maxLen∧(0<L.length→∃b off,ao=some ⟨b,off,none⟩∧b<w.heap.size∧∀i s,L[i]? = some s→∀j,j<k→w.cell? ⟨b,off+i*k+j,none⟩=(f s)[j]?):=by
 rcases open_slice ht h with ⟨hcs,_⟩|⟨a,l,c,m,n,D,Pl,hcs,_,hl,hm,hmm,_,hi⟩
 ·exact ⟨none,[],0,hcs,Nat.le_refl _,Nat.zero_le _,fun h=>absurd h (Nat.lt_irrefl 0)⟩
 ·have hlm:l≤m:=by rw [hmm];split<;>omega
  have hex:∀i,i<l→∃e : α,∀j,j<k→w.cell? (a.add (i*k+j))=(f e)[j]?:=by
   intro i hil;obtain ⟨cs',hc',ht'⟩:=hi i (by omega);obtain ⟨e',rfl⟩:=he _ _ _ ht';rw [hc] at hc';obtain ⟨_,_,hat⟩:=World.cells?_some hc';exact ⟨e',fun j hj=>by rw [←add_add];exact hat j hj⟩
  obtain ⟨E,hE⟩:=choose_lt hex;refine ⟨some a,(List.range l).map E,c,by simpa using hcs,by simpa using hl,hm,fun hpos=>?_⟩;rw [List.length_map,List.length_range] at hpos;obtain ⟨b,off,spot⟩:=a;have h0:=hE 0 hpos 0 hk;obtain ⟨u,hu⟩:∃u,(f (E 0))[0]? = some u:=⟨_,List.getElem?_eq_getElem (by rw [hlen];exact hk)⟩;have hc0:=h0.trans hu
  have hspot:spot=none:=by simpa [Addr.add] using World.cell?_spot hc0
  subst hspot
  have hadd:∀k,(⟨b,off,none⟩:Addr).add k=⟨b,off+k,none⟩:=by intro k;unfold Addr.add;split<;>simp_all
  have hlt:b<w.heap.size:=by
   rcases Nat.lt_or_ge b w.heap.size with h|h
   ·exact h
   ·rw [hadd] at hc0;simp [World.cell?,Array.getElem?_eq_none h] at hc0
  refine ⟨b,off,rfl,hlt,fun i s hs j hj=>?_⟩;rw [List.getElem?_map] at hs
  have hil:i<l:=by
   rcases Nat.lt_or_ge i l with h|h
   ·exact h
   ·rw [List.getElem?_eq_none (by simpa using h)] at hs;cases hs
  rw [List.getElem?_range hil,Option.map_some,Option.some.injEq] at hs;subst hs;have:=hE i hil j hj;rw [hadd,←Nat.add_assoc] at this;exact this
instance : Inhabited D := ⟨⟨0, 0, 0, 0, 0, 0⟩⟩
theorem dirs31 {H:Type} {enc:TypeId × Value→H} {w:World} {fuel:Nat} {spare:Nat→Bool} {held:Bool} {cs:List Value} {x:DataW H × List MemPlace} (h:DataW.trod enc Tryz.prog w 0 spare held fuel 22 cs=some x):∃ao L cp,cs = [.slice ao (L:List D).length cp]∧L.length≤cp∧cp≤maxLen∧NAt w ao L:=
 elems31 dcs 6 (by decide) (fun _=>rfl) Tryz.underlying22 cDir31 (fun _ _ _ h=>dir_cells31 h) h
theorem ivs31 {H:Type} {enc:TypeId × Value→H} {w:World} {fuel:Nat} {spare:Nat→Bool} {held:Bool} {cs:List Value} {x:DataW H × List MemPlace} (h:DataW.trod enc Tryz.prog w 0 spare held fuel 23 cs=some x):∃ao L cp,cs = [.slice ao (L:List (Int × Int)).length cp]∧L.length≤cp∧cp≤maxLen∧PAt w ao L:=
 elems31 pcs 2 (by decide) (fun _=>rfl) Tryz.underlying23 cIv31 (fun _ _ _ h=>by obtain ⟨a,b,rfl⟩:=iv_cells31 h;exact ⟨(a,b),rfl⟩) h
set_option maxRecDepth 100000 in
theorem body31 {H:Type} {enc:TypeId × Value→H} {w:World} {fuel:Nat} {spare:Nat→Bool} {held:Bool} {cs:List Value} {x:DataW H × List MemPlace} (h:DataW.trod enc Tryz.prog w 0 spare held fuel 27 cs=some x) :
  ∃na L nc da M dc i0 i1,cs = [.slice na (L:List D).length nc,.slice da (M:List (Int × Int)).length dc,.int .i64 i0,.int .i64 i1]∧NAt w na L∧PAt w da M∧L.length≤maxLen∧M.length≤maxLen:=by
 obtain ⟨hl,n,hf⟩:=fields31 Tryz.underlying27 h;obtain ⟨_,h0⟩:=hf 0 _ rfl;obtain ⟨_,h1⟩:=hf 1 _ rfl;obtain ⟨_,h2⟩:=hf 2 _ rfl;obtain ⟨na,L,nc,p0,q0,r0,s0⟩:=dirs31 h0;obtain ⟨da,M,dc,p1,q1,r1,s1⟩:=ivs31 h1;obtain ⟨i0,i1,p2⟩:=iv_cells31 h2;rw [cBody31] at hl;dsimp only at p0 p1 p2;rw [cDirs31] at p0;rw [cIvs31] at p1;rw [cIv31] at p2;have e:=whole31 hl;rw [show (4:Nat)=1+(1+2) from rfl,cut31,cut31,p0,p1,p2] at e;exact ⟨na,L,nc,da,M,dc,i0,i1,e,s0,s1,by omega,by omega⟩
set_option maxRecDepth 100000 in
theorem agg_of {H:Type} {enc:TypeId × Value→H} {w:World} {base:Nat} {spare:Nat→Bool} {held:Bool} {t:TypeId} {fs:Array Field} {v:Value} {r:Reach} {b0:Nat} {d:DataW H} {p:List MemPlace}
  (ht:Tryz.prog.underlying t=some (.struct fs)) (hv:Value.okWide Tryz.prog w r b0 t v) (h:DataW.Trod enc Tryz.prog w base spare held t v d p):∃l fuel,v = .agg ⟨l⟩∧DataW.trod enc Tryz.prog w base spare held fuel t l=some (d,p):=by
 obtain ⟨cs,rfl,hsz⟩:=okWide_struct ht hv;obtain ⟨l⟩:=cs;obtain ⟨fuel,hf⟩:=h;exact ⟨l,fuel,rfl,hf⟩
end Go.Proofs.YtiecdgcdcpmgaaaGreat.Iv

/- Contracts of the laws' helpers: Theirs, Few. -/
namespace Go.Proofs.YtiecdgcdcpmgaaaGreat.Iv
open Go.RowKit
attribute [local go_sem] Oper.semAt_some
theorem info_rdir:(Tryz.prog.info? 57).map (fun i=>(i.zero,i.size,i.bytes))=some (some (.agg #[.int .i64 0,.int .i64 0,.int .i64 0,.int .i64 0,.int .i64 0,.int .i64 0]),6,48):=by kernel_rfl
structure TI (w:World) (na da:Option Addr) (m nc mm dc:Nat) (i0 i1:Int) (L:List D) (uo u:Value) (k:Nat) (W:World):Prop where
 below:Below w.heap.size w W
 sz:w.heap.size+1+1+1≤W.heap.size
 bd:Rd W w.heap.size [.slice na m nc,.slice da mm dc,.int .i64 i0,.int .i64 i1]
 rs:Bx W (w.heap.size+1) [.slice none 0 0,.slice none 0 0,.int .i64 0,.int .i64 0]
 o:Bx W (w.heap.size+1+1) [uo,.slice da mm dc,.int .i64 i0,.int .i64 i1]
 row:W.ownsRow (w.heap.size+1+1+1) 57 6 u k ((L.take k).flatMap dcs)
theorem TI.kept {w:World} {na da:Option Addr} {m nc mm dc:Nat} {i0 i1:Int} {L:List D} {uo u:Value} {k:Nat} {W W':World} (h:TI w na da m nc mm dc i0 i1 L uo u k W) (hb:Below W.heap.size W W'):TI w na da m nc mm dc i0 i1 L uo u k W':=by
 refine ⟨h.below.trans (hb.mono h.below.size),Nat.le_trans h.sz hb.size,h.bd.kept hb,h.rs.kept hb,h.o.kept hb,h.row.1,?_⟩;rcases h.row.2 with h3|⟨g,cap,cur,h3,h4,h5,h6⟩
 ·exact .inl h3
 ·exact .inr ⟨g,cap,cur,h3,h4,(hb.block _ (Array.getElem?_eq_some_iff.1 h5).1).trans h5,h6⟩
theorem row_lt6 {W:World} {base size n:Nat} {e:TypeId} {u:Value} {xs:List Value} (h:W.ownsRow base e size u n xs) {b:Nat} (hb:b<base):some b≠u.ownBlock:=by
 rcases h.2 with ⟨rfl,_⟩|⟨g,cap,cur,rfl,hg,h2,_⟩
 ·simp [Value.ownBlock]
 ·intro e'
  have:b=g:=by simpa [Value.ownBlock] using e'
  omega
theorem TI.app {w:World} {na da:Option Addr} {m nc mm dc:Nat} {i0 i1:Int} {L:List D} {uo u u':Value} {k:Nat} {x:D} {W W':World} (h:TI w na da m nc mm dc i0 i1 L uo u k W) (hx:L[k]? = some x) (hown:W'.ownsRow (w.heap.size+1+1+1) 57 6 u' (k+1) ((L.take k).flatMap dcs ++ dcs x)) (hg:W.grownBy W' u.ownBlock):TI w na da m nc mm dc i0 i1 L uo u' (k+1) W':=by
 have ne:∀b,b<w.heap.size+1+1+1→some b≠u.ownBlock:=fun b hb=>row_lt6 h.row hb
 have ne2:∀q,u.ownBlock=some q→w.heap.size+1+1+1≤q:=fun q hq=>by
  rcases Nat.lt_or_ge q (w.heap.size+1+1+1) with k|k
  ·exact absurd hq.symm (ne q k)
  ·exact k
 refine ⟨h.below.grown hg h.below.size (fun q hq=>by have:=ne2 q hq;omega),Nat.le_trans h.sz hg.size,h.bd.grown hg (ne _ (by omega)),h.rs.grown hg (ne _ (by omega)),h.o.grown hg (ne _ (by omega)),?_⟩;rw [List.take_add_one,hx,List.flatMap_append];simpa using hown
theorem grown_set31 (W:World) (b i:Nat) (v:Value):W.grownBy (W.setCell ⟨b,i,none⟩ v) (some b):=
 ⟨rfl,rfl,rfl,(KeepsWalks.setCell W _ v).size,fun k _ hk=>Below.heap_setCell _ _ _ k (fun e=>hk (by rw [e]))⟩
theorem TI.put {w:World} {na da:Option Addr} {m nc mm dc:Nat} {i0 i1:Int} {L:List D} {uo u:Value} {k:Nat} {W:World} (h:TI w na da m nc mm dc i0 i1 L uo u k W):TI w na da m nc mm dc i0 i1 L u u k (W.setCell ⟨w.heap.size+1+1,0,none⟩ u):=by
 have hg:=grown_set31 W (w.heap.size+1+1) 0 u;exact ⟨h.below.setCell (by simp;omega) _,Nat.le_trans h.sz hg.size,h.bd.set (by omega),h.rs.set (by omega),h.o.put,h.row.kept hg (.inr (row_lt6 h.row (by omega)).symm)⟩
theorem row_form6 {W:World} {base size n:Nat} {e:TypeId} {u:Value} {xs:List Value} (h:W.ownsRow base e size u n xs):∃ao cap,u = .slice ao n cap:=by
 rcases h.2 with ⟨rfl,rfl⟩|⟨g,cap,cur,rfl,_⟩
 ·exact ⟨_,_,rfl⟩
 ·exact ⟨_,_,rfl⟩
theorem row_set6 {W:World} {b i base size n:Nat} {e:TypeId} {u x:Value} {xs:List Value} (h:W.ownsRow base e size u n xs) (hb:b<base):(W.setCell ⟨b,i,none⟩ x).ownsRow base e size u n xs:=
 h.kept (grown_set31 W b i x) (.inr (row_lt6 h hb).symm)
theorem row_down6 {W:World} {base base' size n:Nat} {e:TypeId} {u:Value} {xs:List Value} (h:W.ownsRow base e size u n xs) (hb:base'≤base):W.ownsRow base' e size u n xs:=by
 refine ⟨h.1,?_⟩;rcases h.2 with h3|⟨g,cap,cur,h3,h4,h5⟩
 ·exact .inl h3
 ·exact .inr ⟨g,cap,cur,h3,Nat.le_trans hb h4,h5⟩
theorem TI.drew {w:World} {na da:Option Addr} {m nc mm dc:Nat} {i0 i1:Int} {L:List D} {uo u:Value} {k:Nat} {W:World} (h:TI w na da m nc mm dc i0 i1 L uo u k W):TI w na da m nc mm dc i0 i1 L uo u k W.drew:=h.kept (Below.refl _ _).drew
theorem add31 (g n:Nat):(⟨g,0,none⟩:Addr).add n=⟨g,n,none⟩:=by unfold Addr.add;split<;>simp_all
structure Ap (w:World) (na da:Option Addr) (m nc mm dc k nb no:Nat) (i0 i1:Int) (L:List D) (u:Value) (s:D) (W:World) (l0 l1 l2 l3 l4 l5 l6 l7 l8 l9 l10:Bool) (v0 v1 v2 v3 v4 v5 v6 v7 v8 v9:Value) (b7 g7 cap7:Nat):Prop where
 a:l8=false→TI w (some ⟨nb,no,none⟩) da m nc mm dc i0 i1 L (u) (u) (k) W
 b:l8=true→l10=false→TI w (some ⟨nb,no,none⟩) da m nc mm dc i0 i1 L (u) (.slice (some ⟨g7,0,none⟩) (k+1) cap7) (k+1) W
 c:l10=true→TI w (some ⟨nb,no,none⟩) da m nc mm dc i0 i1 L (.slice (some ⟨g7,0,none⟩) (k+1) cap7) (.slice (some ⟨g7,0,none⟩) (k+1) cap7) (k+1) W
 r:l8=false→Rs W nb (no+k*6) (dcs s)
 z:l7=true→l8=false→Bx W b7 (dcs s)
 o1_0:l1=true→l0=true
 o3_2:l3=true→l2=true
 o5_3:l5=true→l3=true
 o5_4:l5=true→l4=true
 o6_5:l6=true→l5=true
 o7_6:l7=true→l6=true
 o8_1:l8=true→l1=true
 o8_7:l8=true→l7=true
 o9_0:l9=true→l0=true
 o9_1:l9=true→l1=true
 o9_2:l9=true→l2=true
 o9_3:l9=true→l3=true
 o9_4:l9=true→l4=true
 o9_5:l9=true→l5=true
 o9_6:l9=true→l6=true
 o9_7:l9=true→l7=true
 o9_8:l9=true→l8=true
 o10_9:l10=true→l9=true
 o10_8:l10=true→l8=true
 o10_0:l10=true→l0=true
 o10_1:l10=true→l1=true
 o10_2:l10=true→l2=true
 o10_3:l10=true→l3=true
 o10_4:l10=true→l4=true
 o10_5:l10=true→l5=true
 o10_6:l10=true→l6=true
 o10_7:l10=true→l7=true
 ev0:l0=true→v0 = .pointer (some ⟨w.heap.size+1+1,0,none⟩)
 ev1:l1=true→v1=u
 ev2:l2=true→v2 = .pointer (some ⟨w.heap.size,0,none⟩)
 ev3:l3=true→v3 = .slice (some ⟨nb,no,none⟩) m nc
 ev4:l4=true→v4 = .int .i64 k
 ev5:l5=true→v5 = .pointer (some ⟨nb,no+k*6,none⟩)
 ev6:l6=true→v6=dv s
 ev7:l7=true→v7 = .slice (some ⟨b7,0,none⟩) 1 1
 ev8:l8=true→v8 = .slice (some ⟨g7,0,none⟩) (k+1) cap7
 ev9:l9=true→v9 = .pointer (some ⟨w.heap.size+1+1,0,none⟩)
theorem Ap.kept {w:World} {na da:Option Addr} {m nc mm dc k nb no:Nat} {i0 i1:Int} {L:List D} {u:Value} {s:D} {W:World} {l0 l1 l2 l3 l4 l5 l6 l7 l8 l9 l10:Bool} {v0 v1 v2 v3 v4 v5 v6 v7 v8 v9:Value} {b7 g7 cap7:Nat} {W':World} (h:Ap w na da m nc mm dc k nb no i0 i1 L u s W l0 l1 l2 l3 l4 l5 l6 l7 l8 l9 l10 v0 v1 v2 v3 v4 v5 v6 v7 v8 v9 b7 g7 cap7) (hb:Below W.heap.size W W'):Ap w na da m nc mm dc k nb no i0 i1 L u s W' l0 l1 l2 l3 l4 l5 l6 l7 l8 l9 l10 v0 v1 v2 v3 v4 v5 v6 v7 v8 v9 b7 g7 cap7:=
 {h with a:=fun p=>(h.a p).kept hb,b:=fun p q=>(h.b p q).kept hb,c:=fun p=>(h.c p).kept hb,r:=fun p=>(h.r p).kept hb,z:=fun p q=>(h.z p q).kept hb}
def Ap.I (w:World) (na da:Option Addr) (m nc mm dc k nb no:Nat) (i0 i1:Int) (L:List D) (u:Value) (s:D):Act→Array Bool→Act→World→Prop:=fun aO LX aX W=>∃(l0 l1 l2 l3 l4 l5 l6 l7 l8 l9 l10:Bool) (v0 v1 v2 v3 v4 v5 v6 v7 v8 v9:Value) (b7 g7 cap7:Nat),LX=#[l0,l1,l2,l3,l4,l5,l6,l7,l8,l9,l10]∧aX=((((((((((aO.put (some 17) v0).put (some 18) v1).put (some 19) v2).put (some 20) v3).put (some 21) v4).put (some 22) v5).put (some 23) v6).put (some 24) v7).put (some 25) v8).put (some 26) v9)∧Ap w na da m nc mm dc k nb no i0 i1 L u s W l0 l1 l2 l3 l4 l5 l6 l7 l8 l9 l10 v0 v1 v2 v3 v4 v5 v6 v7 v8 v9 b7 g7 cap7
set_option maxRecDepth 100000 in
set_option maxHeartbeats 16000000 in
theorem theirs31_any {na da:Option Addr} {nc mm dc:Nat} {i0 i1:Int} {L:List D} (w:World) (hn:NAt w na L) (hl:L.length*48≤140737488351232) :
  Calls Tryz.prog 7 #[.agg #[.slice na L.length nc,.slice da mm dc,.int .i64 i0,.int .i64 i1]] w fun e w'=>
   (∃u,e = .returned (.agg #[u,.slice da mm dc,.int .i64 i0,.int .i64 i1])∧w'.ownsRow w.heap.size 57 6 u L.length (L.flatMap dcs))∧Below w.heap.size w w':=by
 obtain ⟨j0,hj,hz0,hz1,hz2⟩:=info_parts info_rdir;have HN:=Lib.hid hn;clear hn;go_enter Tryz.func7,Tryz.ntmps7
 go_wp2_with fail
 go_loopw [4] (fun i wr=>∃(k:Nat) (u:Value),k≤L.length∧i = .int .i64 k∧TI w na da L.length nc mm dc i0 i1 L u u k wr) (fun i _=>L.length - (intOf i).toNat)
 case atStart=>
  refine ⟨0,.slice none 0 0,Nat.zero_le _,rfl,?_⟩;exact ⟨((((Below.refl _ _).alloc (Nat.le_refl _) _).alloc (by simp) _).alloc (by simp;omega) _),by simp,((Rd.new rfl).alc _).alc _,(Bx.new (by simp)).alc _,Bx.new (by simp),World.ownsRow_nil _ _ _ _⟩
 case round=>
  obtain ⟨k,u,hk,rfl,hI⟩:=hrel;obtain ⟨ao,cap,rfl⟩:=row_form6 hI.row;have x0:=hI.bd.c;have x1:=hI.bd.lt;have i15:IntKind.i64.wrap ((k:Int)+1)=(k:Int)+1:=IntWalk.i64_in _ (by omega);rcases Nat.lt_or_ge k L.length with hlt|hge
  ·obtain ⟨nb,no,rfl,hnb,hNc⟩:=(HN.out.kept hI.below) (by omega);have hx:=List.getElem?_eq_getElem hlt;generalize L[k]=s at hx;have HX:=Lib.hid hx;have RS:Rs wr nb (no+k*6) (dcs s):=Rs.mk hnb (hNc k s hx)
   have hlt':(k:Int)<(L.length:Int):=by omega
   have hge':(0:Int)≤(k:Int):=by omega
   have h63:k+1≤2 ^ 63 - 1:=by omega
   have hby:(k+1)*48≤140737488355328:=by omega
   clear hx hNc
   go_wp2_with fail
   go_upto_region 5 with fail
   clear x0 x1;refine region_sets (Ap.I w (some ⟨nb,no,none⟩) da L.length nc mm dc k nb no i0 i1 L (.slice ao k cap) s) (by kernel_rfl) ?_ ?_ ?_
   ·refine ⟨false,false,false,false,false,false,false,false,false,false,false,u17,u18,u19,u20,u21,u22,u23,u24,u25,u26,0,0,0,rfl,by simp only [Act.put,sS],?_⟩;constructor
    ·exact fun _=>hI.drew
    ·intro h;cases h
    ·intro h;cases h
    ·exact fun _=>RS.drew
    all_goals (intro h;cases h)
   ·intro L9 aa ww hI i hi;obtain ⟨l0,l1,l2,l3,l4,l5,l6,l7,l8,l9,l10,v0,v1,v2,v3,v4,v5,v6,v7,v8,v9,b7,g7,cap7,rfl,rfl,h⟩:=hI;have hlt:=ready_lt hi
    match i,hi,hlt with
    |0,hi,_=>
     obtain rfl:l0=false:=rl rfl hi;clear hi hlt;have H:=Lib.hid h;clear h;refine wpOp_shut rfl (fun K hK=>?_)
     try simp only [Act.put,sS]
     go_simp;refine hK.out _ _ ?_;unfold Ap.I;refine ⟨_,_,_,_,_,_,_,_,_,_,_,(.pointer (some ⟨w.heap.size+1+1,0,none⟩)),v1,v2,v3,v4,v5,v6,v7,v8,v9,b7,g7,cap7,rfl,?_,?_⟩
     ·simp only [Act.put,sS]
     ·exact {H.out with ev0:=fun _=>rfl,o1_0:=fun _=>rfl,o9_0:=fun _=>rfl,o10_0:=fun _=>rfl}
    |1,hi,_=>
     obtain rfl:l1=false:=rl rfl hi;obtain rfl:l0=true:=rk rfl hi 0 .data;clear hi hlt;obtain rfl:=h.ev0 rfl
     have kA:l8=false:=by
      rcases Bool.eq_false_or_eq_true l8 with q|q
      ·exact nomatch (h.o8_1 q)
      ·exact q
     subst kA;have c:=(h.a rfl).o.c;have H:=Lib.hid h;clear h;refine wpOp_shut rfl (fun K hK=>?_)
     try simp only [Act.put,sS]
     go_simp;refine hK.out _ _ ?_;unfold Ap.I;refine ⟨_,_,_,_,_,_,_,_,_,_,_,(.pointer (some ⟨w.heap.size+1+1,0,none⟩)),(.slice ao k cap),v2,v3,v4,v5,v6,v7,v8,v9,b7,g7,cap7,rfl,?_,?_⟩
     ·simp only [Act.put,sS]
     ·exact {H.out with ev1:=fun _=>rfl,o1_0:=fun _=>rfl,o8_1:=fun _=>rfl,o9_1:=fun _=>rfl,o10_1:=fun _=>rfl}
    |2,hi,_=>
     obtain rfl:l2=false:=rl rfl hi;clear hi hlt;have H:=Lib.hid h;clear h;refine wpOp_shut rfl (fun K hK=>?_)
     try simp only [Act.put,sS]
     go_simp;refine hK.out _ _ ?_;unfold Ap.I;refine ⟨_,_,_,_,_,_,_,_,_,_,_,v0,v1,(.pointer (some ⟨w.heap.size,0,none⟩)),v3,v4,v5,v6,v7,v8,v9,b7,g7,cap7,rfl,?_,?_⟩
     ·simp only [Act.put,sS]
     ·exact {H.out with ev2:=fun _=>rfl,o3_2:=fun _=>rfl,o9_2:=fun _=>rfl,o10_2:=fun _=>rfl}
    |3,hi,_=>
     obtain rfl:l3=false:=rl rfl hi;obtain rfl:l2=true:=rk rfl hi 2 .data;clear hi hlt;obtain rfl:=h.ev2 rfl
     have kA:l8=false:=by
      rcases Bool.eq_false_or_eq_true l8 with q|q
      ·exact nomatch (h.o5_3 (h.o6_5 (h.o7_6 (h.o8_7 q))))
      ·exact q
     subst kA;have c:=(h.a rfl).bd.c;have H:=Lib.hid h;clear h;refine wpOp_shut rfl (fun K hK=>?_)
     try simp only [Act.put,sS]
     go_simp;refine hK.out _ _ ?_;unfold Ap.I;refine ⟨_,_,_,_,_,_,_,_,_,_,_,v0,v1,(.pointer (some ⟨w.heap.size,0,none⟩)),(.slice (some ⟨nb,no,none⟩) L.length nc),v4,v5,v6,v7,v8,v9,b7,g7,cap7,rfl,?_,?_⟩
     ·simp only [Act.put,sS]
     ·exact {H.out with ev3:=fun _=>rfl,o3_2:=fun _=>rfl,o5_3:=fun _=>rfl,o9_3:=fun _=>rfl,o10_3:=fun _=>rfl}
    |4,hi,_=>
     obtain rfl:l4=false:=rl rfl hi;clear hi hlt;have H:=Lib.hid h;clear h;refine wpOp_shut rfl (fun K hK=>?_)
     try simp only [Act.put,sS]
     go_simp;refine hK.out _ _ ?_;unfold Ap.I;refine ⟨_,_,_,_,_,_,_,_,_,_,_,v0,v1,v2,v3,(.int .i64 k),v5,v6,v7,v8,v9,b7,g7,cap7,rfl,?_,?_⟩
     ·simp only [Act.put,sS]
     ·exact {H.out with ev4:=fun _=>rfl,o5_4:=fun _=>rfl,o9_4:=fun _=>rfl,o10_4:=fun _=>rfl}
    |5,hi,_=>
     obtain rfl:l5=false:=rl rfl hi;obtain rfl:l3=true:=rk rfl hi 3 .data;obtain rfl:l4=true:=rk rfl hi 4 .data;clear hi hlt;obtain rfl:=h.ev3 rfl;obtain rfl:=h.ev4 rfl;have H:=Lib.hid h;clear h;refine wpOp_shut rfl (fun K hK=>?_)
     try simp only [Act.put,sS]
     go_simp;refine hK.out _ _ ?_;unfold Ap.I;refine ⟨_,_,_,_,_,_,_,_,_,_,_,v0,v1,v2,(.slice (some ⟨nb,no,none⟩) L.length nc),(.int .i64 k),(.pointer (some ⟨nb,no+k*6,none⟩)),v6,v7,v8,v9,b7,g7,cap7,rfl,?_,?_⟩
     ·simp only [Act.put,sS]
     ·exact {H.out with ev5:=fun _=>rfl,o5_3:=fun _=>rfl,o5_4:=fun _=>rfl,o6_5:=fun _=>rfl,o9_5:=fun _=>rfl,o10_5:=fun _=>rfl}
    |6,hi,_=>
     obtain rfl:l6=false:=rl rfl hi;obtain rfl:l5=true:=rk rfl hi 5 .data;clear hi hlt;obtain rfl:=h.ev5 rfl
     have kA:l8=false:=by
      rcases Bool.eq_false_or_eq_true l8 with q|q
      ·exact nomatch (h.o7_6 (h.o8_7 q))
      ·exact q
     subst kA;have c0:=(h.r rfl).c 0 (by simp);have c1:=(h.r rfl).c 1 (by simp);have c2:=(h.r rfl).c 2 (by simp);have c3:=(h.r rfl).c 3 (by simp);have c4:=(h.r rfl).c 4 (by simp);have c5:=(h.r rfl).c 5 (by simp);simp only [Nat.add_zero] at c0;have H:=Lib.hid h;clear h;refine wpOp_shut rfl (fun K hK=>?_)
     try simp only [Act.put,sS]
     go_simp;refine hK.out _ _ ?_;unfold Ap.I;refine ⟨_,_,_,_,_,_,_,_,_,_,_,v0,v1,v2,v3,v4,(.pointer (some ⟨nb,no+k*6,none⟩)),(dv s),v7,v8,v9,b7,g7,cap7,rfl,?_,?_⟩
     ·simp only [Act.put,sS]
     ·exact {H.out with ev6:=fun _=>rfl,o6_5:=fun _=>rfl,o7_6:=fun _=>rfl,o9_6:=fun _=>rfl,o10_6:=fun _=>rfl}
    |7,hi,_=>
     obtain rfl:l7=false:=rl rfl hi;obtain rfl:l6=true:=rk rfl hi 6 .data;clear hi hlt;obtain rfl:=h.ev6 rfl
     have kA:l8=false:=by
      rcases Bool.eq_false_or_eq_true l8 with q|q
      ·exact nomatch (h.o8_7 q)
      ·exact q
     subst kA;have H:=Lib.hid h;clear h;refine wpOp_shut rfl (fun K hK=>?_)
     try simp only [Act.put,sS]
     go_simp;refine hK.out _ _ ?_;unfold Ap.I;refine ⟨_,_,_,_,_,_,_,_,_,_,_,v0,v1,v2,v3,v4,v5,(dv s),(.slice (some ⟨ww.heap.size,0,none⟩) 1 1),v8,v9,ww.heap.size,g7,cap7,rfl,?_,?_⟩
     ·simp only [Act.put,sS]
     ·have h2:=H.out.kept ((Below.refl _ _).alloc (Nat.le_refl _) (.cells (List.toArray (dcs s)) 57));exact {h2 with ev7:=fun _=>rfl,o7_6:=fun _=>rfl,o8_7:=fun _=>rfl,o9_7:=fun _=>rfl,o10_7:=fun _=>rfl,z:=fun _ _=>Bx.new rfl}
    |8,hi,_=>
     obtain rfl:l8=false:=rl rfl hi;obtain rfl:l1=true:=rk rfl hi 1 .data;obtain rfl:l7=true:=rk rfl hi 7 .data;clear hi hlt;obtain rfl:=h.ev1 rfl;obtain rfl:=h.ev7 rfl
     have kS:l10=false:=by
      rcases Bool.eq_false_or_eq_true l10 with q|q
      ·exact nomatch (h.o10_8 q)
      ·exact q
     subst kS;have ha:=h.a rfl;have hz:=h.z rfl rfl;have H:=Lib.hid h;clear h;refine wpOp_shut rfl (fun K hK=>?_)
     try simp only [Act.put,sS]
     simp only [List.getElem_toArray,List.getElem_cons_succ,List.getElem_cons_zero];rw [if_pos (by first|rfl|simp [Region.wanted])];refine wp_append_lies _ _ _ 35 rfl (w.heap.size+1+1+1) 57 j0 (.agg #[.int .i64 0,.int .i64 0,.int .i64 0,.int .i64 0,.int .i64 0,.int .i64 0]) 6 48 Tryz.underlying35 hj hz0 hz1 hz2 rfl (by decide) _ _ _ rfl ha.row ⟨b7,0,none⟩ 1 1 (dcs s) rfl rfl (fun j x hx=>by rw [add31,hz.c];exact hx) (by intro x hx;simp at hx;rcases hx with rfl|rfl|rfl|rfl|rfl|rfl<;>rfl) (by decide) (by unfold maxLen;exact h63) hby ha.sz _ rfl ?_;intro g9 cap9 w9 hown hgrow _ _;refine hK.out _ _ ?_;unfold Ap.I;refine ⟨_,_,_,_,_,_,_,_,_,_,_,v0,(.slice ao k cap),v2,v3,v4,v5,v6,(.slice (some ⟨b7,0,none⟩) 1 1),(.slice (some ⟨g9,0,none⟩) (k+1) cap9),v9,b7,g9,cap9,rfl,?_,?_⟩
     ·simp only [Act.put,sS]
     ·exact {H.out with ev8:=fun _=>rfl,o8_1:=fun _=>rfl,o8_7:=fun _=>rfl,o9_8:=fun _=>rfl,o10_8:=fun _=>rfl,a:=fun p=>(nomatch p),z:=fun _ p=>(nomatch p),b:=fun _ _=>(H.out.a rfl).app HX.out hown hgrow,c:=fun p=>(nomatch p),r:=fun p=>(nomatch p)}
    |9,hi,_=>
     obtain rfl:l9=false:=rl rfl hi;obtain rfl:l0=true:=rk rfl hi 0 .phase;obtain rfl:l1=true:=rk rfl hi 1 .phase;obtain rfl:l2=true:=rk rfl hi 2 .phase;obtain rfl:l3=true:=rk rfl hi 3 .phase;obtain rfl:l4=true:=rk rfl hi 4 .phase;obtain rfl:l5=true:=rk rfl hi 5 .phase;obtain rfl:l6=true:=rk rfl hi 6 .phase;obtain rfl:l7=true:=rk rfl hi 7 .phase;obtain rfl:l8=true:=rk rfl hi 8 .phase;clear hi hlt;obtain rfl:=h.ev0 rfl;obtain rfl:=h.ev1 rfl;obtain rfl:=h.ev2 rfl;obtain rfl:=h.ev3 rfl;obtain rfl:=h.ev4 rfl;obtain rfl:=h.ev5 rfl;obtain rfl:=h.ev6 rfl;obtain rfl:=h.ev7 rfl;obtain rfl:=h.ev8 rfl;have H:=Lib.hid h;clear h;refine wpOp_shut rfl (fun K hK=>?_)
     try simp only [Act.put,sS]
     go_simp;refine hK.out _ _ ?_;unfold Ap.I;refine ⟨_,_,_,_,_,_,_,_,_,_,_,(.pointer (some ⟨w.heap.size+1+1,0,none⟩)),(.slice ao k cap),(.pointer (some ⟨w.heap.size,0,none⟩)),(.slice (some ⟨nb,no,none⟩) L.length nc),(.int .i64 k),(.pointer (some ⟨nb,no+k*6,none⟩)),(dv s),(.slice (some ⟨b7,0,none⟩) 1 1),(.slice (some ⟨g7,0,none⟩) (k+1) cap7),(.pointer (some ⟨w.heap.size+1+1,0,none⟩)),b7,g7,cap7,rfl,?_,?_⟩
     ·simp only [Act.put,sS]
     ·exact {H.out with ev9:=fun _=>rfl,o9_0:=fun _=>rfl,o9_1:=fun _=>rfl,o9_2:=fun _=>rfl,o9_3:=fun _=>rfl,o9_4:=fun _=>rfl,o9_5:=fun _=>rfl,o9_6:=fun _=>rfl,o9_7:=fun _=>rfl,o9_8:=fun _=>rfl,o10_9:=fun _=>rfl}
    |10,hi,_=>
     obtain rfl:l10=false:=rl rfl hi;obtain rfl:l9=true:=rk rfl hi 9 .data;obtain rfl:l8=true:=rk rfl hi 8 .phase;obtain rfl:l0=true:=rk rfl hi 0 .phase;obtain rfl:l1=true:=rk rfl hi 1 .phase;obtain rfl:l2=true:=rk rfl hi 2 .phase;obtain rfl:l3=true:=rk rfl hi 3 .phase;obtain rfl:l4=true:=rk rfl hi 4 .phase;obtain rfl:l5=true:=rk rfl hi 5 .phase;obtain rfl:l6=true:=rk rfl hi 6 .phase;obtain rfl:l7=true:=rk rfl hi 7 .phase;clear hi hlt;obtain rfl:=h.ev9 rfl;obtain rfl:=h.ev8 rfl;obtain rfl:=h.ev0 rfl;obtain rfl:=h.ev1 rfl;obtain rfl:=h.ev2 rfl;obtain rfl:=h.ev3 rfl;obtain rfl:=h.ev4 rfl;obtain rfl:=h.ev5 rfl;obtain rfl:=h.ev6 rfl;obtain rfl:=h.ev7 rfl;have c:=(h.b rfl rfl).o.c;have f:=(h.b rfl rfl).o.f;have H:=Lib.hid h;clear h;refine wpOp_shut rfl (fun K hK=>?_)
     try simp only [Act.put,sS]
     go_simp;refine hK.out _ _ ?_;unfold Ap.I;refine ⟨_,_,_,_,_,_,_,_,_,_,_,(.pointer (some ⟨w.heap.size+1+1,0,none⟩)),(.slice ao k cap),(.pointer (some ⟨w.heap.size,0,none⟩)),(.slice (some ⟨nb,no,none⟩) L.length nc),(.int .i64 k),(.pointer (some ⟨nb,no+k*6,none⟩)),(dv s),(.slice (some ⟨b7,0,none⟩) 1 1),(.slice (some ⟨g7,0,none⟩) (k+1) cap7),(.pointer (some ⟨w.heap.size+1+1,0,none⟩)),b7,g7,cap7,rfl,?_,?_⟩
     ·simp only [Act.put,sS]
     ·exact {H.out with o10_9:=fun _=>rfl,o10_8:=fun _=>rfl,o10_0:=fun _=>rfl,o10_1:=fun _=>rfl,o10_2:=fun _=>rfl,o10_3:=fun _=>rfl,o10_4:=fun _=>rfl,o10_5:=fun _=>rfl,o10_6:=fun _=>rfl,o10_7:=fun _=>rfl,a:=fun p=>(nomatch p),z:=fun _ p=>(nomatch p),b:=fun _ p=>(nomatch p),c:=fun _=>(H.out.b rfl rfl).put,r:=fun p=>(nomatch p)}
    |i+11,_,hlt=>exact absurd hlt (by simp)
   ·intro L9 aa ww hI hn;obtain ⟨l0,l1,l2,l3,l4,l5,l6,l7,l8,l9,l10,v0,v1,v2,v3,v4,v5,v6,v7,v8,v9,b7,g7,cap7,rfl,rfl,h⟩:=hI;obtain rfl:l0=true:=nr 0 rfl hn;obtain rfl:l1=true:=nr 1 rfl hn;obtain rfl:l2=true:=nr 2 rfl hn;obtain rfl:l3=true:=nr 3 rfl hn;obtain rfl:l4=true:=nr 4 rfl hn;obtain rfl:l5=true:=nr 5 rfl hn;obtain rfl:l6=true:=nr 6 rfl hn;obtain rfl:l7=true:=nr 7 rfl hn;obtain rfl:l8=true:=nr 8 rfl hn;obtain rfl:l9=true:=nr 9 rfl hn;obtain rfl:l10=true:=nr 10 rfl hn;clear hn;obtain rfl:=h.ev0 rfl;obtain rfl:=h.ev1 rfl;obtain rfl:=h.ev2 rfl;obtain rfl:=h.ev3 rfl;obtain rfl:=h.ev4 rfl;obtain rfl:=h.ev5 rfl;obtain rfl:=h.ev6 rfl;obtain rfl:=h.ev7 rfl;obtain rfl:=h.ev8 rfl;obtain rfl:=h.ev9 rfl;simp only [Act.put,sS]
    rename World=>w12
    have I12:=h.c rfl;clear h hI RS
    go_wp2_with fail
    go_roundw
    case rel=>exact ⟨k+1,_,hlt,by simp,I12⟩
    case measure=>simp only [intOf];omega
  ·obtain rfl:k=L.length:=by omega
   have y0:=hI.o.c;have y1:=hI.o.lt;have z0:=hI.rs.c;have z1:=hI.rs.f;have z2:=hI.rs.lt;have lo:=hI.sz
   go_wp2_with fail
   have KB:Bx _ (w.heap.size+1) [.slice ao L.length cap,.slice da mm dc,.int .i64 i0,.int .i64 i1]:=(((hI.rs.put (i:=0) (u:=.slice ao L.length cap)).put (i:=1) (u:=.slice da mm dc)).put (i:=2) (u:=.int .i64 i0)).put (i:=3) (u:=.int .i64 i1);have KL:=(((hI.below.setCell (p:=⟨w.heap.size+1,0,none⟩) (by simp) (.slice ao L.length cap)).setCell (p:=⟨w.heap.size+1,1,none⟩) (by simp) (.slice da mm dc)).setCell (p:=⟨w.heap.size+1,2,none⟩) (by simp) (.int .i64 i0)).setCell (p:=⟨w.heap.size+1,3,none⟩) (by simp) (.int .i64 i1);have hrow:=hI.row;rw [List.take_length] at hrow;have KR:=row_set6 (b:=w.heap.size+1) (i:=3) (x:=.int .i64 i1) (row_set6 (b:=w.heap.size+1) (i:=2) (x:=.int .i64 i0) (row_set6 (b:=w.heap.size+1) (i:=1) (x:=.slice da mm dc) (row_set6 (b:=w.heap.size+1) (i:=0) (x:=.slice ao L.length cap) hrow (by omega)) (by omega)) (by omega)) (by omega);refine bodyPost_box (b:=w.heap.size+1) (cs:=[.slice ao L.length cap,.slice da mm dc,.int .i64 i0,.int .i64 i1]) (v:=.agg #[.slice ao L.length cap,.slice da mm dc,.int .i64 i0,.int .i64 i1]) KB (fun X hX=>by simp [results,Tryz.results7,go_sem,hX]) rfl ⟨⟨_,rfl,row_down6 KR (by omega)⟩,KL⟩
def fewB (n m:Nat):Bool:=decide (n≤20) && decide (m≤20)
set_option maxRecDepth 100000 in
theorem few31_any {a b:Option Addr} {n m c d:Nat} {i0 i1:Int} (w:World):Calls Tryz.prog 8 #[.agg #[.slice a n c,.slice b m d,.int .i64 i0,.int .i64 i1]] w fun e w'=>e = .returned (.bool (fewB n m))∧Below w.heap.size w w':=by
 have H0:=(Ho.nil w).bx [.slice a n c,.slice b m d,.int .i64 i0,.int .i64 i1] 37 w.heap.size rfl
 by_cases h:(n:Int)≤20
 ·have h1:fewB n m=decide ((m:Int)≤20):=by
   unfold fewB;rw [decide_eq_true (by omega),Bool.true_and];exact decide_eq_decide.2 (by omega)
  rw [h1];go_enter Tryz.func8,Tryz.ntmps8
  go_wp2_with fail
  go_ret
  exact ⟨rfl,H0.below⟩
 ·have h1:fewB n m=false:=by
   unfold fewB;rw [decide_eq_false (by omega),Bool.false_and]
  rw [h1];go_enter Tryz.func8,Tryz.ntmps8
  go_wp2_with fail
  go_ret
  exact ⟨rfl,H0.below⟩
end Go.Proofs.YtiecdgcdcpmgaaaGreat.Iv

/- What the cells of a cell are when it comes in as an argument. -/
namespace Go.Proofs.YtiecdgcdcpmgaaaGreat.Iv
open Go.ChangeShapes Go.WideShapes Go.ChangeAt Go.RowKit Go.Deep
theorem cCell32:Tryz.prog.cellsOf 29=9:=by kernel_rfl
set_option maxRecDepth 100000 in
theorem cell_of {H:Type} {enc:TypeId × Value→H} {w:World} {r:Reach} {b0:Nat} {spare:Nat→Bool} {held:Bool} {v:Value} {d:DataW H} {p:List MemPlace}
  (hv:Value.okWide Tryz.prog w r b0 29 v) (h:DataW.Trod enc Tryz.prog w 0 spare held 29 v d p):∃c:CV,v=cellv c:=by
 obtain ⟨l,fuel,rfl,hf⟩:=agg_of Tryz.underlying29 hv h;obtain ⟨hl,n,hx⟩:=fields31 Tryz.underlying29 hf;obtain ⟨_,h0⟩:=hx 0 _ rfl;obtain ⟨_,h1⟩:=hx 1 _ rfl;obtain ⟨_,h2⟩:=hx 2 _ rfl;obtain ⟨_,h3⟩:=hx 3 _ rfl;obtain ⟨_,h4⟩:=hx 4 _ rfl;obtain ⟨f,p0⟩:=int_cells31 h0;obtain ⟨a1,b1,p1⟩:=iv_cells31 h1;obtain ⟨a2,b2,p2⟩:=iv_cells31 h2;obtain ⟨a3,b3,p3⟩:=iv_cells31 h3;obtain ⟨a4,b4,p4⟩:=iv_cells31 h4;rw [cCell32] at hl;dsimp only at p0 p1 p2 p3 p4;rw [cInt31] at p0;rw [cIv31] at p1 p2 p3 p4;have e:=whole31 hl;rw [show (9:Nat)=1+(2+(2+(2+2))) from rfl,cut31,cut31,cut31,cut31,p0,p1,p2,p3,p4] at e;exact ⟨⟨f,a1,b1,a2,b2,a3,b3,a4,b4⟩,by rw [e];rfl⟩
end Go.Proofs.YtiecdgcdcpmgaaaGreat.Iv

/- A body that comes in: how many bytes its slices take at most. -/
namespace Go.Proofs.YtiecdgcdcpmgaaaGreat.Iv
open Go.ChangeShapes Go.WideShapes Go.ChangeAt Go.RowKit Go.Deep
theorem bDir31:Tryz.prog.bytesOf 45=48:=by kernel_rfl
theorem bIv31:Tryz.prog.bytesOf 25=16:=by kernel_rfl
theorem slice_w31 {H:Type} {enc:TypeId × Value→H} {w:World} {fuel:Nat} {spare:Nat→Bool} {held:Bool} {x:DataW H × List MemPlace} {t e:TypeId} {a:Option Addr} {n c:Nat} (ht:Tryz.prog.underlying t=some (.slice e))
  (h:DataW.trod enc Tryz.prog w 0 spare held fuel t [.slice a n c]=some x) (hw:∀k∈x.1.weights Tryz.prog t,k≤reachBytes):n*Tryz.prog.bytesOf e≤reachBytes:=by
 rcases open_slice ht h with ⟨hcs,_⟩|⟨a',l,c',m,k,D,Pl,hcs,_,hl,hm,hmm,hx,_⟩
 ·simp at hcs;obtain ⟨_,rfl,_⟩:=hcs;rw [Nat.zero_mul];exact Nat.zero_le _
 ·simp at hcs;obtain ⟨_,rfl,_⟩:=hcs;have:=hw ((((List.range n).map D).length+((List.range (m - n)).map fun j=>D (n+j)).length)*Tryz.prog.bytesOf e) (by rw [hx];simp [DataW.weights,ht]);simp only [List.length_map,List.length_range] at this;exact Nat.le_trans (Nat.mul_le_mul_right _ (Nat.le_add_right _ _)) this
set_option maxRecDepth 100000 in
theorem body_w31 {H:Type} {enc:TypeId × Value→H} {w:World} {fuel:Nat} {spare:Nat→Bool} {held:Bool} {x:DataW H × List MemPlace} {na da:Option Addr} {n m nc dc:Nat} {i0 i1:Int}
  (h:DataW.trod enc Tryz.prog w 0 spare held fuel 27 [.slice na n nc,.slice da m dc,.int .i64 i0,.int .i64 i1]=some x) (hw:∀k∈x.1.weights Tryz.prog 27,k≤reachBytes):n*48≤reachBytes∧m*16≤reachBytes:=by
 obtain ⟨xs,f,_,hx,_,hxl,hf⟩:=DataW.trod_struct Tryz.underlying27 h;have h0:DataW.trod enc Tryz.prog w 0 spare held f 22 ((([.slice na n nc,.slice da m dc,.int .i64 i0,.int .i64 i1]:List Value).drop 0).take (Tryz.prog.cellsOf 22))=xs[0]?:=hf 0 _ rfl;have h1:DataW.trod enc Tryz.prog w 0 spare held f 23 ((([.slice na n nc,.slice da m dc,.int .i64 i0,.int .i64 i1]:List Value).drop 1).take (Tryz.prog.cellsOf 23))=xs[1]?:=hf 1 _ rfl;rw [cDirs31] at h0;rw [cIvs31] at h1
 have hl:xs.length=3:=by simpa using hxl
 match xs,hl with
 | [x0,x1,x2],_=>
  subst hx
  have g0:=slice_w31 Tryz.underlying22 (h0.trans rfl) (fun k hk=>hw k (by
   simp only [DataW.weights,Tryz.underlying27]
   exact DataW.weights_mem_each (j:=0) rfl rfl k hk))
  have g1:=slice_w31 Tryz.underlying23 (h1.trans rfl) (fun k hk=>hw k (by
   simp only [DataW.weights,Tryz.underlying27]
   exact DataW.weights_mem_each (j:=1) rfl rfl k hk))
  rw [bDir31] at g0;rw [bIv31] at g1;exact ⟨g0,g1⟩
set_option maxRecDepth 100000 in
theorem body_sz {H:Type} {enc:TypeId × Value→H} {w:World} {r:Reach} {b0:Nat} {spare:Nat→Bool} {held:Bool} {v:Value} {d:DataW H} {p:List MemPlace}
  (hv:Value.okWide Tryz.prog w r b0 27 v) (h:DataW.Trod enc Tryz.prog w 0 spare held 27 v d p) (hw:∀k∈d.weights Tryz.prog 27,k≤reachBytes) :
  ∃na L nc da M dc i0 i1,v = .agg #[.slice na (L:List D).length nc,.slice da (M:List (Int × Int)).length dc,.int .i64 i0,.int .i64 i1]∧NAt w na L∧PAt w da M∧L.length*48≤140737488351232∧M.length*16≤140737488351232:=by
 obtain ⟨l,fuel,rfl,hf⟩:=agg_of Tryz.underlying27 hv h;obtain ⟨na,L,nc,da,M,dc,i0,i1,rfl,h1,h2,h3,h4⟩:=body31 hf;obtain ⟨g0,g1⟩:=body_w31 hf hw;exact ⟨na,L,nc,da,M,dc,i0,i1,rfl,h1,h2,g0,g1⟩
end Go.Proofs.YtiecdgcdcpmgaaaGreat.Iv
