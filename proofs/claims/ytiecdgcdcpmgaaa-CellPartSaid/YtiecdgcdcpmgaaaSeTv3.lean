/- Plain facts: a ray that is contained in a box hits the face that the box hits, at lengths that are contained in those of the box. -/
import Derived.Test.YtiecdgcdcpmgaaaSeTv1
import Derived.Test.YtiecdgcdcpmgaaaM20
import Derived.Test.YtiecdgcdcpmgaaaSeDkM
import Derived.Test.YtiecdgcdcpmgaaaSeDj
import Derived.Test.YtiecdgcdcpmgaaaSeDrb
import Derived.Test.YtiecdgcdcpmgaaaSeDsM
import Derived.Test.YtiecdgcdcpmgaaaSeIeM
import Derived.Test.YtiecdgcdcpmgaaaSeInM
import Derived.Test.YtiecdgcdcpmgaaaSeRf1
import Derived.Test.YtiecdgcdcpmgaaaSeRf2
import Derived.Test.YtiecdgcdcpmgaaaM06
namespace Go.Proofs.Ytiecdgcdcpmgaaa.Iv
theorem subD_refl {s:D} (h:vD s=true):SubD s s:=by
 have hv:vB s.a s.b=true∧vB s.c s.d=true∧vB s.e s.f=true:=by simpa [vD] using h
 exact ⟨sub_refl hv.1,sub_refl hv.2.1,sub_refl hv.2.2⟩
end Go.Proofs.Ytiecdgcdcpmgaaa.Iv
