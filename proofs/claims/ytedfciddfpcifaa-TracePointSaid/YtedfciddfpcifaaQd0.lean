/- Contracts of the reference's operations with boxes: Add, Sub, Scale, Dot. -/
import Derived.Test.YtedfciddfpcifaaQc

/- Contracts of the reference's operations with boxes: Add, Sub, Scale, Dot. -/
namespace Go.Proofs.Ytedfciddfpcifaa.Iv
open Go.RowKit

theorem keep_comb (r s t : R) : dirR (keepE (keepE (keepE 0 r.e) s.e) t.e) ⟨r.lo, r.hi, s.lo, s.hi, t.lo, t.hi⟩ = comb r s t := by
  unfold comb dirR keepE
  by_cases h1 : r.e = 0
  · by_cases h2 : s.e = 0
    · by_cases h3 : t.e = 0 <;> simp [h1, h2, h3]
    · simp [h1, h2]
  · simp [h1]
theorem keep_dot (r s t : R) : onlE (keepE (keepE (keepE (keepE (keepE 0 r.e) s.e) t.e) (addR r.lo r.hi s.lo s.hi).e) (addR (addR r.lo r.hi s.lo s.hi).lo (addR r.lo r.hi s.lo s.hi).hi t.lo t.hi).e) (addR (addR r.lo r.hi s.lo s.hi).lo (addR r.lo r.hi s.lo s.hi).hi t.lo t.hi).lo (addR (addR r.lo r.hi s.lo s.hi).lo (addR r.lo r.hi s.lo s.hi).hi t.lo t.hi).hi
    = onlyR (sumG (comb r s t).e (comb r s t).d) := by
  unfold onlyR sumG onlE keepE comb goOn
  by_cases h1 : r.e = 0
  · by_cases h2 : s.e = 0
    · by_cases h3 : t.e = 0
      · simp [h1, h2, h3]
        by_cases h4 : (addR r.lo r.hi s.lo s.hi).e = 0
        · simp [h4]
        · simp [h4]
      · simp [h1, h2, h3]
    · simp [h1, h2]
  · simp [h1]
end Go.Proofs.Ytedfciddfpcifaa.Iv
