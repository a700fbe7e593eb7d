/- The example's numbers. -/
import Derived.Test.YtjppcndhaejfpaaDr8
import Derived.Test.YtjppcndhaejfpaaDr9
namespace Go.Proofs.Ytjppcndhaejfpaa.Iv
theorem isq_b : isq (16777216 * 16777216) = 16777216 := isq_eq (by decide) (by decide) (by decide)
theorem sqrt_b : sqrtR 16777216 16777216 = ⟨16777216, 16777216, 0⟩ := by
  rw [show sqrtR 16777216 16777216 = ⟨isq (16777216 * 16777216), rup 16777216, 0⟩ from by unfold sqrtR; rw [if_pos (by decide), if_neg (by decide)], isq_b]
  unfold rup
  rw [isq_b, if_pos (by decide)]
abbrev upD : D := ⟨0, 0, 0, 0, 16777216, 16777216⟩
theorem dot_up : dotR upD upD = ⟨16777216, 16777216, 0⟩ := by rfl
theorem rad_up : radR 16777216 16777216 33554432 33554432 = ⟨16777216, 16777216, 0⟩ := by rfl
theorem hits_up : hitsR upD upD 33554432 33554432 = ⟨2, 0⟩ := by rfl
theorem tail_up : tailF upD upD 33554432 33554432 16777216 16777216 16777216 16777216 = ⟨upD, 16777216, 16777216, 16777216, 16777216, 0⟩ := by rfl
theorem refr_up : refrR upD upD 33554432 33554432 = ⟨upD, 16777216, 16777216, 16777216, 16777216, 0⟩ := by
  have ha : afterR 16777216 16777216 16777216 16777216 = ⟨16777216, 16777216, 0⟩ := by
    unfold afterR
    rw [if_neg (by decide), sqrt_b]
  rw [show refrR upD upD 33554432 33554432 = _ from if_pos (by decide), dot_up]
  dsimp only
  rw [rad_up, if_pos rfl, if_neg (by decide)]
  dsimp only
  rw [if_pos rfl, if_neg (by decide), ha]
  exact tail_up
end Go.Proofs.Ytjppcndhaejfpaa.Iv
