/- What the cells of a Depth are when it comes in as an argument. -/
import Derived.Test.YtiecdgcdcpmgaaaM22
import Derived.Test.YtiecdgcdcpmgaaaM06
namespace Go.Proofs.Ytiecdgcdcpmgaaa.Iv
open Go.ChangeShapes Go.WideShapes Go.ChangeAt Go.RowKit Go.Deep
theorem cDepth33:Try.prog.cellsOf 62=2:=by kernel_rfl
set_option maxRecDepth 100000 in
theorem depth_of {H:Type} {enc:TypeId × Value→H} {w:World} {r:Reach} {b0:Nat} {spare:Nat→Bool} {held:Bool} {v:Value} {d:DataW H} {p:List MemPlace}
  (hv:Value.okWide Try.prog w r b0 62 v) (h:DataW.Trod enc Try.prog w 0 spare held 62 v d p):∃a b:Int,v = .agg #[.int .i64 a,.int .i64 b]:=by
 obtain ⟨l,fuel,rfl,hf⟩:=agg_of Try.underlying62 hv h;obtain ⟨hl,n,hx⟩:=fields31 Try.underlying62 hf;obtain ⟨_,h0⟩:=hx 0 _ rfl;obtain ⟨_,h1⟩:=hx 1 _ rfl;obtain ⟨f,p0⟩:=int_cells31 h0;obtain ⟨a1,p1⟩:=int_cells31 h1;rw [cDepth33] at hl;dsimp only at p0 p1;rw [cInt31] at p0 p1;have e:=whole31 hl;rw [show (2:Nat)=1+1 from rfl,cut31,p0,p1] at e;exact ⟨f,a1,by rw [e];rfl⟩
end Go.Proofs.Ytiecdgcdcpmgaaa.Iv
