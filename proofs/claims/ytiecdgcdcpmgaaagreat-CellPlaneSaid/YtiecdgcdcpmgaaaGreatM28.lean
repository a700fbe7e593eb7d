/- Texts PVs1, PVs2, PVs3, PVm. -/
import Derived.Test.YtiecdgcdcpmgaaaGreatM06
import Derived.Test.YtiecdgcdcpmgaaaGreatM26
import Derived.Test.YtiecdgcdcpmgaaaGreatM27

/- Contracts of (*refine.Count).add, the closure of refine.Share, refine.check. -/
namespace Go.Proofs.YtiecdgcdcpmgaaaGreat.Iv
open Go.RowKit
attribute [local go_sem] Oper.semAt_some
structure C3 where
 x:Int
 y:Int
 z:Int
def c3 (s:C3):List Value:=[.int .i64 s.x,.int .i64 s.y,.int .i64 s.z]
end Go.Proofs.YtiecdgcdcpmgaaaGreat.Iv

/- Contracts of refine.visit, its closure, refine.Share. -/
namespace Go.Proofs.YtiecdgcdcpmgaaaGreat.Iv
open Go.RowKit
attribute [local go_sem] Oper.semAt_some
end Go.Proofs.YtiecdgcdcpmgaaaGreat.Iv

/- Contracts of refine.visit and refine.Share. -/
namespace Go.Proofs.YtiecdgcdcpmgaaaGreat.Iv
open Go.RowKit
attribute [local go_sem] Oper.semAt_some
end Go.Proofs.YtiecdgcdcpmgaaaGreat.Iv

/- Plain facts about the numbers of leaves: they add up, they are bounded. -/
namespace Go.Proofs.YtiecdgcdcpmgaaaGreat.Iv
open Go.RowKit
end Go.Proofs.YtiecdgcdcpmgaaaGreat.Iv
