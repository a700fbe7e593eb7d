/- Contracts of cell.Inside, of the laws' theirs, and of the reference's Part. -/
import Derived.Test.YtiecdgcdcpmgaaaM27
import Derived.Test.YtiecdgcdcpmgaaaM06
namespace Go.Proofs.Ytiecdgcdcpmgaaa.Iv
open Go.RowKit
attribute [local go_sem] Oper.semAt_some idx4_0 idx4_1 idx4_2 idx4_3
def insC (x y:CV):Bool:=insB x.a x.b y.a y.b && (insB x.c x.d y.c y.d && (insB x.p x.q y.p y.q && (insB x.r x.s y.r y.s && decide (x.f=y.f))))
end Go.Proofs.Ytiecdgcdcpmgaaa.Iv
