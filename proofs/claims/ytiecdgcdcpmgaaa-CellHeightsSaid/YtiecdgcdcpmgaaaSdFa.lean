/- What two bytes are when they come in as an argument. -/
import Derived.Test.YtiecdgcdcpmgaaaM22
import Derived.Test.YtiecdgcdcpmgaaaSdDj
import Derived.Test.YtiecdgcdcpmgaaaSdDrb
import Derived.Test.YtiecdgcdcpmgaaaSdIeM
import Derived.Test.YtiecdgcdcpmgaaaSdRf1
import Derived.Test.YtiecdgcdcpmgaaaSdRf2
import Derived.Test.YtiecdgcdcpmgaaaM06
namespace Go.Proofs.Ytiecdgcdcpmgaaa.Iv
open Go.ChangeShapes Go.WideShapes Go.ChangeAt Go.RowKit Go.Deep
set_option maxRecDepth 100000 in
theorem byte_in {w:World} {r:Reach} {b0:Nat} {v:Value} (h:Cell.okWide Try.prog w r b0 5 v):∃n:Int,v = .int .u8 n∧(0≤n∧n≤255):=by
 have hv:Value.okWide Try.prog w r b0 5 v:=by
  unfold Value.okWide;rw [Try.underlying5];exact h
 obtain ⟨n,rfl⟩:=okWide_int Try.underlying5 hv;unfold Cell.okWide Cell.ok at h;rw [Try.underlying5] at h;exact ⟨n,rfl,h.2.1,h.2.2⟩
set_option maxRecDepth 100000 in
theorem faces_of {w:World} {r:Reach} {b0:Nat} {v:Value} (hv:Value.okWide Try.prog w r b0 54 v):∃f0 f1:Int,v = .agg #[.int .u8 f0,.int .u8 f1]∧(0≤f0∧f0≤255)∧(0≤f1∧f1≤255):=by
 unfold Value.okWide at hv;rw [Try.underlying54] at hv;obtain ⟨cs,rfl,hs,ts,h2,_,h3⟩:=hv
 have e:Try.prog.cellTypes Try.prog.depth 54=some [5,5]:=by kernel_rfl
 have s:Try.prog.cellsOf 54=2:=by kernel_rfl
 rw [e] at h2;cases h2;rw [s] at hs;obtain ⟨l⟩:=cs
 match l,hs with
 | [x,y],_=>
  obtain ⟨u,h4,h5⟩:=h3 0 x rfl
  have h6:5=u:=by simpa using h4
  subst h6;obtain ⟨u,h4,h7⟩:=h3 1 y rfl
  have h6:5=u:=by simpa using h4
  subst h6;obtain ⟨a,rfl,ha⟩:=byte_in h5;obtain ⟨b,rfl,hb⟩:=byte_in h7;exact ⟨a,b,rfl,ha,hb⟩
end Go.Proofs.Ytiecdgcdcpmgaaa.Iv
