/- Contracts of (*refine.Count).add, the closure of refine.Share, refine.check. -/
import Derived.Test.YtiecdgcdcpmgaaaM26
import Derived.Test.YtiecdgcdcpmgaaaSeCr2
import Derived.Test.YtiecdgcdcpmgaaaSeDj
import Derived.Test.YtiecdgcdcpmgaaaSeDkM
import Derived.Test.YtiecdgcdcpmgaaaSeDrb
import Derived.Test.YtiecdgcdcpmgaaaSeDsM
import Derived.Test.YtiecdgcdcpmgaaaSeIeM
import Derived.Test.YtiecdgcdcpmgaaaSeInM
import Derived.Test.YtiecdgcdcpmgaaaSeRf1
import Derived.Test.YtiecdgcdcpmgaaaSeRf2
import Derived.Test.YtiecdgcdcpmgaaaM06
namespace Go.Proofs.Ytiecdgcdcpmgaaa.Iv
open Go.RowKit
attribute [local go_sem] Oper.semAt_some
structure C3 where
 x:Int
 y:Int
 z:Int
def c3 (s:C3):List Value:=[.int .i64 s.x,.int .i64 s.y,.int .i64 s.z]
end Go.Proofs.Ytiecdgcdcpmgaaa.Iv
