/- Plain facts: a ray that is contained in a box hits the face that the box hits, at lengths that are contained in those of the box. -/
import Derived.Test.YtiecdgcdcpmgaaaSdTv1
import Derived.Test.YtiecdgcdcpmgaaaM20
import Derived.Test.YtiecdgcdcpmgaaaSdDj
import Derived.Test.YtiecdgcdcpmgaaaSdDrb
import Derived.Test.YtiecdgcdcpmgaaaSdIeM
import Derived.Test.YtiecdgcdcpmgaaaSdRf1
import Derived.Test.YtiecdgcdcpmgaaaSdRf2
import Derived.Test.YtiecdgcdcpmgaaaM06
namespace Go.Proofs.Ytiecdgcdcpmgaaa.Iv
theorem subD_refl {s:D} (h:vD s=true):SubD s s:=by
 have hv:vB s.a s.b=true∧vB s.c s.d=true∧vB s.e s.f=true:=by simpa [vD] using h
 exact ⟨sub_refl hv.1,sub_refl hv.2.1,sub_refl hv.2.2⟩
end Go.Proofs.Ytiecdgcdcpmgaaa.Iv
