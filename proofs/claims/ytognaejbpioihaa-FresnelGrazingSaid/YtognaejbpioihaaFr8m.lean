/- FresnelGrazing returns true for every surface, and leaves memory that was there as it was: the plain facts and the walk. -/
import Derived.Test.YtognaejbpioihaaFr7
namespace Go.Proofs.Ytognaejbpioihaa.Iv
open Go.RowKit

/-! which errors there are -/
theorem bind_e {r : R} {f : Int → Int → R} {p : Int → Prop} (h1 : r.e = 0 ∨ p r.e) (h2 : r.e = 0 → p (f r.lo r.hi).e ∨ (f r.lo r.hi).e = 0) : (bind r f).e = 0 ∨ p (bind r f).e := by
  by_cases h : r.e = 0
  · rw [bind_ok h]; exact (h2 h).symm
  · rw [bind_err h]; rcases h1 with k | k
    · exact absurd k h
    · exact .inr k
theorem within_e' {lo hi : Int} : (withinR lo hi).e = 0 ∨ ((withinR lo hi).e = 1 ∨ (withinR lo hi).e = 3) := by
  rcases within_e (lo := lo) (hi := hi) with h | h
  · exact .inl h
  · exact .inr (.inr h)
theorem add_e (a b c d : Int) : (addR a b c d).e = 0 ∨ ((addR a b c d).e = 1 ∨ (addR a b c d).e = 3) := by
  unfold addR; split
  · exact within_e'
  · exact .inr (.inl rfl)
theorem sub_e (a b c d : Int) : (subR a b c d).e = 0 ∨ ((subR a b c d).e = 1 ∨ (subR a b c d).e = 3) := by
  unfold subR; split
  · exact within_e'
  · exact .inr (.inl rfl)
theorem mul_e (a b c d : Int) : (mulR a b c d).e = 0 ∨ ((mulR a b c d).e = 1 ∨ (mulR a b c d).e = 3) := by
  unfold mulR; split
  · exact within_e'
  · exact .inr (.inl rfl)
theorem sq_e (a b : Int) : (sqR a b).e = 0 ∨ ((sqR a b).e = 1 ∨ (sqR a b).e = 3) := by
  unfold sqR; split
  · exact within_e'
  · exact .inr (.inl rfl)
theorem div_e (a b c d : Int) (h : 0 < c) : (divR a b c d).e = 0 ∨ ((divR a b c d).e = 1 ∨ (divR a b c d).e = 3) := by
  unfold divR; split
  · rw [if_neg (by omega)]; exact within_e'
  · exact .inr (.inl rfl)
theorem contrast_e (a b c d : Int) (h : (addR a b c d).e = 0 → 0 < (addR a b c d).lo) : (contrastR a b c d).e = 0 ∨ ((contrastR a b c d).e = 1 ∨ (contrastR a b c d).e = 3) := by
  unfold contrastR
  refine bind_e (p := fun e => e = 1 ∨ e = 3) (sub_e _ _ _ _) (fun _ => ?_)
  refine (bind_e (p := fun e => e = 1 ∨ e = 3) (add_e _ _ _ _) (fun h2 => ?_)).symm
  refine (bind_e (p := fun e => e = 1 ∨ e = 3) (div_e _ _ _ _ (h h2)) (fun _ => ?_)).symm
  refine (bind_e (p := fun e => e = 1 ∨ e = 3) (sq_e _ _) (fun _ => .inr rfl)).symm
/-- a product with [0, 0], and one of positive numbers -/
theorem mul_zero' {a b : Int} (h : vB a b = true) : mulR a b 0 0 = ⟨0, 0, 0⟩ := by
  rw [mulR, if_pos ⟨h, by decide⟩]
  simp only [Int.mul_zero]
  rfl
theorem mul_pos' {a b c d : Int} (h1 : vB a b = true) (h2 : vB c d = true) (ha : 16777216 ≤ a) (hc : 0 < c) : 1 ≤ (mulR a b c d).lo ∨ (mulR a b c d).e ≠ 0 := by
  rw [mulR, if_pos ⟨h1, h2⟩]
  have k1 := (vB_iff.1 h1).2.1
  have k2 := (vB_iff.1 h2).2.1
  have m : ∀ x y : Int, a ≤ x → c ≤ y → 16777216 ≤ x * y := by
    intro x y hx hy
    have := Int.mul_le_mul (show 16777216 ≤ x by omega) (show (1 : Int) ≤ y by omega) (by decide) (by omega)
    omega
  have m1 := m a c (by omega) (by omega)
  have m2 := m a d (by omega) (by omega)
  have m3 := m b c (by omega) (by omega)
  have m4 := m b d (by omega) (by omega)
  unfold withinR
  split
  · exact .inr (by decide)
  · refine .inl ?_
    show 1 ≤ fl (min4 (a * c) (a * d) (b * c) (b * d))
    unfold fl min4
    omega
theorem mulR_v {a b c d : Int} (h : (mulR a b c d).e = 0) : vB (mulR a b c d).lo (mulR a b c d).hi = true := by
  have o := mulR_ord a b c d
  rw [vB_iff]
  revert h o
  unfold mulR
  split
  · unfold withinR
    split
    · intro h; cases h
    · intro _ o; simp only at o ⊢; omega
  · intro h; cases h
theorem add_zero' {a b : Int} (h : vB a b = true) : addR 0 0 a b = ⟨a, b, 0⟩ := by
  have k := vB_iff.1 h
  rw [addR, if_pos ⟨by decide, h⟩, Int.zero_add, Int.zero_add, within_yes (by omega) (by omega)]
theorem sub_zero' {a b : Int} (h : vB a b = true) : subR 0 0 a b = ⟨-b, -a, 0⟩ := by
  have k := vB_iff.1 h
  rw [subR, if_pos ⟨by decide, h⟩, Int.zero_sub, Int.zero_sub, within_yes (by omega) (by omega)]
/-- the contrast of 0 and a positive interval reaches 1 -/
theorem contrast_one {a b : Int} (h : vB a b = true) (ha : 0 < a) (he : (contrastR 0 0 a b).e = 0) : (contrastR 0 0 a b).hi = 16777216 := by
  have k := vB_iff.1 h
  unfold contrastR at he ⊢
  rw [sub_zero' h, bind_ok rfl, add_zero' h, bind_ok rfl] at he ⊢
  simp only at he ⊢
  obtain ⟨h1, e1⟩ := bind_inv he
  rw [e1] at he ⊢
  obtain ⟨h2, e2⟩ := bind_inv he
  rw [e2]
  show cutI _ = 16777216
  have hq : (divR (-b) (-a) a b).lo ≤ -16777216 := by
    revert h1
    unfold divR
    rw [if_pos ⟨by rw [vB_neg]; exact h, h⟩, if_neg (by omega)]
    unfold withinR
    split
    · intro h; cases h
    · intro _
      show min4 (qfl (-b) a) (qfl (-b) b) (qfl (-a) a) (qfl (-a) b) ≤ -16777216
      have hx : qfl (-b) b = -16777216 := by
        unfold qfl
        refine fdiv_pos (by omega) ?_ ?_
        · rw [Int.neg_mul, Int.neg_mul, Int.mul_comm b]; exact Int.le_refl _
        · rw [Int.neg_mul, Int.add_mul, Int.neg_mul, Int.mul_comm b]; omega
      unfold min4
      omega
  obtain ⟨u, hu⟩ : ∃ u, u = (divR (-b) (-a) a b).lo := ⟨_, rfl⟩
  obtain ⟨v, hv⟩ : ∃ v, v = (divR (-b) (-a) a b).hi := ⟨_, rfl⟩
  rw [← hu, ← hv] at h2 ⊢
  rw [← hu] at hq
  have hs : 16777216 ≤ (sqR u v).hi := by
    revert h2
    unfold sqR
    split
    · unfold withinR
      split
      · intro h; cases h
      · intro _
        show 16777216 ≤ ce (max (u * u) (v * v))
        have := Int.mul_le_mul (show 16777216 ≤ -u by omega) (show 16777216 ≤ -u by omega) (by decide) (by omega)
        rw [Int.neg_mul_neg] at this
        unfold ce
        omega
    · intro h; cases h
  unfold cutI
  omega
end Go.Proofs.Ytognaejbpioihaa.Iv
