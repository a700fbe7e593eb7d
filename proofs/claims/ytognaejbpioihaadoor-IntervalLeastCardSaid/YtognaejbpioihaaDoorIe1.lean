/- Contract of the law's helper: a number of units in an interval. -/
import Derived.Test.YtognaejbpioihaaDoorIeM
import Derived.Test.YtognaejbpioihaaDoorSq2
import Derived.Test.YtognaejbpioihaaDoorIs1
import Derived.BigQuiet
namespace Go.Proofs.YtognaejbpioihaaDoor.Iv
open Go.RowKit

theorem div_le {a b c d p q : Int} (h : divR a b c d = ⟨p, q, 0⟩) : p ≤ q := by
  unfold divR at h
  split at h
  · rename_i v
    obtain ⟨_, hab, _⟩ := vB_iff.1 v.1
    obtain ⟨_, hcd, _⟩ := vB_iff.1 v.2
    split at h
    · injection h with _ _ h; exact absurd h (by decide)
    · rename_i h0
      obtain ⟨hp, hq, k⟩ := within_ok h
      have m1 := qfl_in h0 hcd (Int.le_refl a) hab (Int.le_refl c) hcd
      have m2 := qce_in h0 hcd (Int.le_refl a) hab (Int.le_refl c) hcd
      have := qfl_le_qce (n := a) (d := c) (by omega)
      omega
  · injection h with _ _ h; exact absurd h (by decide)
theorem sqrt_two {a b p q e A : Int} (h : sqrtR a b = ⟨p, q, e⟩) (v : vB a b = true) (h1 : a ≤ A) (h2 : A ≤ b) :
    (a < 0 ∧ e = 2) ∨ (0 ≤ a ∧ e = 0 ∧ p * p ≤ A * 16777216 ∧ A * 16777216 ≤ q * q ∧ 0 ≤ p * p ∧ q * q ≤ 18014398777917441) := by
  obtain ⟨_, hab, hb⟩ := vB_iff.1 v
  by_cases h0 : a < 0
  · left
    rw [show sqrtR a b = ⟨0, 0, 2⟩ from (if_pos v).trans (if_pos h0)] at h
    injection h with _ _ h
    exact ⟨h0, h.symm⟩
  · right
    have h' := h
    rw [show sqrtR a b = ⟨isq (a * 16777216), rup b, 0⟩ from (if_pos v).trans (if_neg h0)] at h
    injection h with hp hq he
    subst he
    obtain ⟨x1, x2, x3, x4⟩ := sqrt_ok h' h1 h2
    have y := sq_mono x4 (show q ≤ 134217729 by rw [← hq]; exact rup_le (by omega) hb)
    exact ⟨by omega, rfl, x1, x2, Int.mul_nonneg x3 x3, y⟩
theorem bdrewN {B : Nat} {a w : World} (h : Below B a w) (n : Nat) : Below B a (w.drewN n) := h.trans ⟨rfl, rfl, rfl, Nat.le_refl _, fun _ _ => rfl⟩
theorem inside_of (lo hi k : Int) (w : World) (h : vB lo hi = true) (k0 : 0 ≤ k) (k1 : k ≤ 4294967295) :
    Calls Tryd.prog 29 #[iv lo hi, .int .u32 k] w fun e w' => e = .returned (.int .i64 (inR lo hi k)) ∧ Below w.heap.size w w' := by
  obtain ⟨a1, a2, a3⟩ := vB_iff.1 h
  obtain ⟨b1, b2⟩ := in_ok k a2
  have e1 : k.tmod (hi - lo + 1) = k % (hi - lo + 1) := Int.tmod_eq_emod_of_nonneg k0
  have z : (hi - lo + 1 == 0) = false := by simp; omega
  have e0 : IntKind.i64.wrap (hi - lo) = hi - lo := IntWalk.i64_in _ (by omega)
  have e2 : IntKind.i64.wrap (hi - lo + 1) = hi - lo + 1 := IntWalk.i64_in _ (by omega)
  unfold inR at b1 b2 ⊢
  obtain ⟨r, hr⟩ : ∃ r, k % (hi - lo + 1) = r := ⟨_, rfl⟩
  rw [hr] at e1 b1 b2 ⊢
  have e3 : IntKind.i64.wrap (lo + r) = lo + r := IntWalk.i64_in _ (by omega)
  have e4 : IntKind.i64.wrap k = k := IntWalk.i64_in _ (by omega)
  have e5 : IntKind.i64.wrap r = r := IntWalk.i64_in _ (by omega)
  clear h
  go_enter Tryd.func29, Tryd.ntmps29
  go_wp2_with fail
  go_quiet (fail)
  go_wp2
  go_ret
  exact ⟨rfl, bdrewN ((Below.refl _ _).alloc (Nat.le_refl _) _) _⟩
end Go.Proofs.YtognaejbpioihaaDoor.Iv
