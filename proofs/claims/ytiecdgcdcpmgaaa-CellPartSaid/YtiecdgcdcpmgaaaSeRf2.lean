/- Contracts of the reference's products and squares of intervals: package culetref27 returns what the plain functions say. -/
import Derived.Test.YtiecdgcdcpmgaaaM03
import Derived.Test.YtiecdgcdcpmgaaaSeRf1
import Derived.Deep.QuietTactic
import Derived.BigQuiet
import Derived.Test.YtiecdgcdcpmgaaaM04
namespace Go.Proofs.Ytiecdgcdcpmgaaa.Iv
open Go.RowKit
attribute [local go_sem ↓] run_min2' run_max2'
attribute [local go_sem] run_min_int4 run_max_int4 frozen_drewN
theorem rvalid_below (lo hi:Int) (w:World):Calls Try.prog 33 #[iv lo hi] w fun e w'=>e = .returned (.bool (vB lo hi))∧Below w.heap.size w w':=
 (rvalid_any lo hi w).mono fun _ _ ⟨he,hw⟩=>⟨he,by rw [←hw];exact (Below.refl _ _).alloc (Nat.le_refl _) _⟩
end Go.Proofs.Ytiecdgcdcpmgaaa.Iv
