/- Plain facts: what Reflect, Hits and Refract return for boxes that are contained in others is contained in what they return for these. -/
import Derived.Test.YtiecdgcdcpmgaaaM19
import Derived.Test.YtiecdgcdcpmgaaaSeInM
import Derived.Test.YtiecdgcdcpmgaaaM14
import Derived.Test.YtiecdgcdcpmgaaaSeDsM
import Derived.Test.YtiecdgcdcpmgaaaM12
import Derived.Test.YtiecdgcdcpmgaaaSeIeM
import Derived.Test.YtiecdgcdcpmgaaaSeRf1
import Derived.Test.YtiecdgcdcpmgaaaSeRf2
import Derived.Test.YtiecdgcdcpmgaaaM20
import Derived.Test.YtiecdgcdcpmgaaaM06
namespace Go.Proofs.Ytiecdgcdcpmgaaa.Iv
theorem ins_of_sub {a' b' a b:Int} (h:Sub a' b' a b):insB a' b' a b=true:=by
 simp only [insB,decide_eq_true_eq];exact ⟨h.v',h.v,h.l,h.r⟩
theorem SubD.ins {s' s:D} (h:SubD s' s):insD s' s=true:=by
 simp [insD,ins_of_sub h.x,ins_of_sub h.y,ins_of_sub h.z]
end Go.Proofs.Ytiecdgcdcpmgaaa.Iv
