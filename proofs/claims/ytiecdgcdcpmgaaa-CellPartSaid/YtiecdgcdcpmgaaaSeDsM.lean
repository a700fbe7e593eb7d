/- Plain facts: with the ratio 1, the box of the refracted ray contains that of the ray, and the cosines meet. -/
import Derived.Test.YtiecdgcdcpmgaaaM13
import Derived.Test.YtiecdgcdcpmgaaaM07
import Derived.Test.YtiecdgcdcpmgaaaSeIeM
import Derived.Test.YtiecdgcdcpmgaaaSeRf1
import Derived.Test.YtiecdgcdcpmgaaaSeRf2
import Derived.Test.YtiecdgcdcpmgaaaM14
namespace Go.Proofs.Ytiecdgcdcpmgaaa.Iv
def insD (s t:D):Bool:=insB s.a s.b t.a t.b && (insB s.c s.d t.c t.d && insB s.e s.f t.e t.f)
end Go.Proofs.Ytiecdgcdcpmgaaa.Iv
