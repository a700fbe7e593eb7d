/- A region that draws its order, by sets of what is done: one proof for each operation, whatever the order. Boxes that are read, boxes of one's own, and what a walk carries. -/
import Derived.Deep.RegionHeld3
import Derived.Below
import Derived.WalkKit
import Derived.WalkSpells
import Derived.WalkLawsBesides
import Derived.WalkSmall
import Derived.Tactics2
import Derived.Test.YtiecdgcdcpmgaaaGreatM01
namespace Go.Proofs.YtiecdgcdcpmgaaaGreat.Iv
open Go.RowKit
theorem Ho.up {w0 W:World} {n:Nat} {l:List (Nat × List Value)} (h:Ho w0 W n l):Ho w0 W W.heap.size l:=
 ⟨h.below,Nat.le_trans h.base h.size,Nat.le_refl _,fun p hp=>⟨(h.rd p hp).2.lt,(h.rd p hp).2⟩⟩
end Go.Proofs.YtiecdgcdcpmgaaaGreat.Iv
