/- Plain facts for square roots of whole numbers: Newton's step from above, and the number of binary digits. -/
import Derived.Test.YtjppcndhaejfpaaIvMath
import Derived.Lib.BitFns
namespace Go.Proofs.Ytjppcndhaejfpaa.Iv

theorem lt_bitLenAux : ∀ (f x : Nat), x < 2 ^ f → x < 2 ^ Lib.bitLenAux f x
  | 0, x, h => by simpa [Lib.bitLenAux] using h
  | f + 1, x, h => by
    rw [Lib.bitLenAux]
    by_cases h0 : x = 0
    · rw [if_pos h0, h0]; decide
    · rw [if_neg h0]
      have i := lt_bitLenAux f (x / 2) (by rw [Nat.pow_succ] at h; omega)
      rw [Nat.add_comm, Nat.pow_succ]
      omega
theorem lt_bitLen (x : Nat) (h : x < 2 ^ 64) : x < 2 ^ Lib.bitLen x := lt_bitLenAux 64 x h

theorem sq_le_mul {r s : Int} : (2 * s - r) * r ≤ s * s := by
  have h : 0 ≤ (s - r) * (s - r) := by
    rcases Int.le_total 0 (s - r) with h | h
    · exact Int.mul_nonneg h h
    · exact Int.mul_nonneg_of_nonpos_of_nonpos h h
  have e1 : (2 * s - r) * r = 2 * (s * r) - r * r := by rw [Int.sub_mul, Int.mul_assoc]
  have e2 : (s - r) * (s - r) = s * s - 2 * (s * r) + r * r := by
    rw [Int.sub_mul, Int.mul_sub, Int.mul_sub, Int.mul_comm r s]; omega
  omega
theorem newton_ge {n r : Int} (hn : 0 ≤ n) (hr : 0 < r) : isq n ≤ (r + n / r) / 2 := by
  have h := isq_le hn
  have q := Int.lt_ediv_add_one_mul_self n hr
  have m := sq_le_mul (r := r) (s := isq n)
  rcases (show r + n / r < 2 * isq n ∨ 2 * isq n ≤ r + n / r from by omega) with k | k
  · exfalso
    have : (n / r + 1) * r ≤ (2 * isq n - r) * r := Int.mul_le_mul_of_nonneg_right (by omega) (by omega)
    omega
  · omega
theorem sq_mono {a b : Int} (h : 0 ≤ a) (k : a ≤ b) : a * a ≤ b * b := Int.mul_le_mul k k h (by omega)
theorem le_isq {n r : Int} (h : 0 ≤ n) (hr : r * r ≤ n) : r ≤ isq n := by
  rcases (show isq n < r ∨ r ≤ isq n from by omega) with k | k
  · have := sq_mono (a := isq n + 1) (by have := isq_nonneg n; omega) (by omega : isq n + 1 ≤ r)
    have := isq_lt h
    omega
  · exact k
theorem isq_pos {n : Int} (h : 1 ≤ n) : 1 ≤ isq n := le_isq (by omega) (by omega)
theorem newton_stop {n r : Int} (hn : 0 ≤ n) (hr : 0 < r) (h : r ≤ (r + n / r) / 2) (k : isq n ≤ r) : isq n = r := by
  have h1 : r ≤ n / r := by omega
  have h2 := Int.mul_le_of_le_ediv hr h1
  have := le_isq hn h2
  omega
theorem isq_up {n r : Int} (hr : 0 ≤ r) (h : n < r * r) (hn : 0 ≤ n) : isq n ≤ r := by
  rcases (show r < isq n ∨ isq n ≤ r from by omega) with k | k
  · have := sq_mono hr (by omega : r ≤ isq n)
    have := isq_le hn
    omega
  · exact k
/-- the start: a power of two whose square is above the number -/
theorem start_ge {n : Nat} (h : n < 2 ^ 64) : isq (n : Int) ≤ ((2 ^ ((Lib.bitLen n + 1) / 2) : Nat) : Int) := by
  have l := lt_bitLen n h
  refine isq_up (Int.natCast_nonneg _) ?_ (Int.natCast_nonneg _)
  have e : 2 ^ Lib.bitLen n ≤ 2 ^ ((Lib.bitLen n + 1) / 2) * 2 ^ ((Lib.bitLen n + 1) / 2) := by
    rw [← Nat.pow_add]
    exact Nat.pow_le_pow_right (by decide) (by omega)
  have : n < 2 ^ ((Lib.bitLen n + 1) / 2) * 2 ^ ((Lib.bitLen n + 1) / 2) := by omega
  exact_mod_cast this
theorem isq_zero : isq 0 = 0 := isq_eq (by decide) (by decide) (by decide)
end Go.Proofs.Ytjppcndhaejfpaa.Iv
