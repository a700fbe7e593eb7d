/- Contracts of the program's products and squares of intervals: Mul and Square of package interval return what the plain functions say. -/
import Derived.Test.YtjppcndhaejfpaaIv1
namespace Go.Proofs.Ytjppcndhaejfpaa.Iv
open Go.RowKit

theorem ext3 (x y z u : Int) : minL x [y, z, u] 3 = min4 x y z u ∧ maxL x [y, z, u] 3 = max4 x y z u := ⟨rfl, rfl⟩
theorem ext1 (x y : Int) : minL x [y] 1 = min x y ∧ maxL x [y] 1 = max x y := ⟨rfl, rfl⟩
theorem ints3 {w : World} {g : Nat} (x y z : Int) (hg : g = w.heap.size) : IntsAt (w.alloc (.cells #[.int .i64 x, .int .i64 y, .int .i64 z] 3)) (some ⟨g, 0, none⟩) [x, y, z] := by
  subst hg
  intro _
  refine ⟨_, _, rfl, by simp, fun i hi => ?_⟩
  have h : i = 0 ∨ i = 1 ∨ i = 2 := by simp at hi; omega
  rcases h with rfl | rfl | rfl <;> simp [World.cell?_alloc_at]
theorem ints1 {w : World} {g : Nat} (x : Int) (hg : g = w.heap.size) : IntsAt (w.alloc (.cells #[.int .i64 x] 3)) (some ⟨g, 0, none⟩) [x] := by
  subst hg
  intro _
  refine ⟨_, _, rfl, by simp, fun i hi => ?_⟩
  have h : i = 0 := by simp at hi; omega
  subst h
  simp [World.cell?_alloc_at]

set_option maxRecDepth 100000 in
theorem mul_any (a b c d : Int) (w : World) :
    Calls Try.prog 46 #[iv a b, iv c d] w fun e w' => e = retR (mulR a b c d) ∧ Below w.heap.size w w' := by
  by_cases h1 : vB a b = true
  · by_cases h2 : vB c d = true
    · have e1 : mulR a b c d = withinR (fl (minL (a * c) [a * d, b * c, b * d] 3)) (ce (maxL (a * c) [a * d, b * c, b * d] 3)) := if_pos ⟨h1, h2⟩
      rw [e1]
      have k1 := vB_iff.1 h1
      have k2 := vB_iff.1 h2
      obtain ⟨q1, q2, q3⟩ := k1
      obtain ⟨q4, q5, q6⟩ := k2
      have m1 := mul_bd q1 (by omega : a ≤ 1073741824) q4 (by omega : c ≤ 1073741824)
      have m2 := mul_bd q1 (by omega : a ≤ 1073741824) (by omega : -1073741824 ≤ d) q6
      have m3 := mul_bd (by omega : -1073741824 ≤ b) q3 q4 (by omega : c ≤ 1073741824)
      have m4 := mul_bd (by omega : -1073741824 ≤ b) q3 (by omega : -1073741824 ≤ d) q6
      obtain ⟨m11, m12⟩ := m1
      obtain ⟨m21, m22⟩ := m2
      obtain ⟨m31, m32⟩ := m3
      obtain ⟨m41, m42⟩ := m4
      clear e1
      have hx1 : -4611686018427387904 ≤ maxL (a * c) [a * d, b * c, b * d] 3 := by show _ ≤ max (max (max (a * c) (a * d)) (b * c)) (b * d); omega
      have hx2 : maxL (a * c) [a * d, b * c, b * d] 3 ≤ 4611686018427387904 := by show max (max (max (a * c) (a * d)) (b * c)) (b * d) ≤ _; omega
      go_enter Try.func46, Try.ntmps46
      go_wp2_with (first | (go_at_call 42; refine (valid_any _ _ _).mono ?_; rintro e w1 ⟨rfl, rfl⟩) | (go_at_call 68; refine (within_any _ _ _).mono ?_; rintro e w1 ⟨rfl, rfl⟩) | (go_at_call 74; refine (down_any _ _).mono ?_; rintro e w1 ⟨rfl, rfl⟩) | (go_at_call 75; refine (up_any _ _ hx1 hx2).mono ?_; rintro e w1 ⟨rfl, rfl⟩) | (go_at_call 73; refine (extremes_any (a * c) _ 3 3 [a * d, b * c, b * d] _ rfl (by decide) (ints3 _ _ _ (by simp))).mono ?_; rintro e w1 ⟨rfl, rfl⟩))
      exact bodyPost_ret (v := .tuple #[.agg #[.int .i64 (withinR (fl (minL (a * c) [a * d, b * c, b * d] 3)) (ce (maxL (a * c) [a * d, b * c, b * d] 3))).lo, .int .i64 (withinR (fl (minL (a * c) [a * d, b * c, b * d] 3)) (ce (maxL (a * c) [a * d, b * c, b * d] 3))).hi], .int .i64 (withinR (fl (minL (a * c) [a * d, b * c, b * d] 3)) (ce (maxL (a * c) [a * d, b * c, b * d] 3))).e]) (by simp [results, Try.results46, go_sem]) rfl ⟨rfl, (by repeat (first | exact Below.refl _ _ | refine Below.alloc ?_ (by simp <;> omega) _))⟩
    · have h2' : vB c d = false := by simpa using h2
      have e1 : mulR a b c d = ⟨0, 0, 1⟩ := if_neg (fun h => h2 h.2)
      rw [e1]
      clear h2 e1
      go_enter Try.func46, Try.ntmps46
      go_wp2_with (first | (go_at_call 42; refine (valid_any _ _ _).mono ?_; rintro e w1 ⟨rfl, rfl⟩) | (go_at_call 68; refine (within_any _ _ _).mono ?_; rintro e w1 ⟨rfl, rfl⟩) | (go_at_call 74; refine (down_any _ _).mono ?_; rintro e w1 ⟨rfl, rfl⟩) | (go_at_call 75; refine (up_any _ _ hx1 hx2).mono ?_; rintro e w1 ⟨rfl, rfl⟩) | (go_at_call 73; refine (extremes_any (a * c) _ 3 3 [a * d, b * c, b * d] _ rfl (by decide) (ints3 _ _ _ (by simp))).mono ?_; rintro e w1 ⟨rfl, rfl⟩))
      exact bodyPost_ret (v := .tuple #[.agg #[.int .i64 0, .int .i64 0], .int .i64 1]) (by simp [results, Try.results46, go_sem]) rfl ⟨rfl, (by repeat (first | exact Below.refl _ _ | refine Below.alloc ?_ (by simp <;> omega) _))⟩
  · have h1' : vB a b = false := by simpa using h1
    have e1 : mulR a b c d = ⟨0, 0, 1⟩ := if_neg (fun h => h1 h.1)
    rw [e1]
    clear h1 e1
    go_enter Try.func46, Try.ntmps46
    go_wp2_with (first | (go_at_call 42; refine (valid_any _ _ _).mono ?_; rintro e w1 ⟨rfl, rfl⟩) | (go_at_call 68; refine (within_any _ _ _).mono ?_; rintro e w1 ⟨rfl, rfl⟩) | (go_at_call 74; refine (down_any _ _).mono ?_; rintro e w1 ⟨rfl, rfl⟩) | (go_at_call 75; refine (up_any _ _ hx1 hx2).mono ?_; rintro e w1 ⟨rfl, rfl⟩) | (go_at_call 73; refine (extremes_any (a * c) _ 3 3 [a * d, b * c, b * d] _ rfl (by decide) (ints3 _ _ _ (by simp))).mono ?_; rintro e w1 ⟨rfl, rfl⟩))
    exact bodyPost_ret (v := .tuple #[.agg #[.int .i64 0, .int .i64 0], .int .i64 1]) (by simp [results, Try.results46, go_sem]) rfl ⟨rfl, (by repeat (first | exact Below.refl _ _ | refine Below.alloc ?_ (by simp <;> omega) _))⟩

set_option maxRecDepth 100000 in
theorem square_any (a b : Int) (w : World) :
    Calls Try.prog 53 #[iv a b] w fun e w' => e = retR (sqR a b) ∧ Below w.heap.size w w' := by
  by_cases h1 : vB a b = true
  · have k1 := vB_iff.1 h1
    obtain ⟨q1, q2, q3⟩ := k1
    have m1 := mul_bd q1 (by omega : a ≤ 1073741824) q1 (by omega : a ≤ 1073741824)
    have m2 := mul_bd (by omega : -1073741824 ≤ b) q3 (by omega : -1073741824 ≤ b) q3
    obtain ⟨m11, m12⟩ := m1
    obtain ⟨m21, m22⟩ := m2
    have hx1 : -4611686018427387904 ≤ maxL (a * a) [b * b] 1 := by show _ ≤ max (a * a) (b * b); omega
    have hx2 : maxL (a * a) [b * b] 1 ≤ 4611686018427387904 := by show max (a * a) (b * b) ≤ _; omega
    by_cases h2 : a ≤ 0 ∧ 0 ≤ b
    · have e1 : sqR a b = withinR (fl 0) (ce (maxL (a * a) [b * b] 1)) := by
        show (if vB a b = true then withinR (fl (least2 a b)) _ else _) = _
        rw [if_pos h1, least2, if_pos h2]; rfl
      rw [e1]
      obtain ⟨r1, r2⟩ := h2
      clear e1
      go_enter Try.func53, Try.ntmps53
      go_wp2_with (first | (go_at_call 42; refine (valid_any _ _ _).mono ?_; rintro e w1 ⟨rfl, rfl⟩) | (go_at_call 68; refine (within_any _ _ _).mono ?_; rintro e w1 ⟨rfl, rfl⟩) | (go_at_call 74; refine (down_any _ _).mono ?_; rintro e w1 ⟨rfl, rfl⟩) | (go_at_call 75; refine (up_any _ _ hx1 hx2).mono ?_; rintro e w1 ⟨rfl, rfl⟩) | (go_at_call 73; refine (extremes_any (a * a) _ 1 1 [b * b] _ rfl (by decide) (ints1 _ (by simp))).mono ?_; rintro e w1 ⟨rfl, rfl⟩))
      exact bodyPost_ret (v := .tuple #[.agg #[.int .i64 (withinR (fl 0) (ce (maxL (a * a) [b * b] 1))).lo, .int .i64 (withinR (fl 0) (ce (maxL (a * a) [b * b] 1))).hi], .int .i64 (withinR (fl 0) (ce (maxL (a * a) [b * b] 1))).e]) (by simp [results, Try.results53, go_sem]) rfl ⟨rfl, (by repeat (first | exact Below.refl _ _ | refine Below.alloc ?_ (by simp <;> omega) _))⟩
    · have e1 : sqR a b = withinR (fl (minL (a * a) [b * b] 1)) (ce (maxL (a * a) [b * b] 1)) := by
        show (if vB a b = true then withinR (fl (least2 a b)) _ else _) = _
        rw [if_pos h1, least2, if_neg h2]; rfl
      rw [e1]
      clear e1
      by_cases r1 : a ≤ 0
      · have r2 : b < 0 := by omega
        clear h2
        go_enter Try.func53, Try.ntmps53
        go_wp2_with (first | (go_at_call 42; refine (valid_any _ _ _).mono ?_; rintro e w1 ⟨rfl, rfl⟩) | (go_at_call 68; refine (within_any _ _ _).mono ?_; rintro e w1 ⟨rfl, rfl⟩) | (go_at_call 74; refine (down_any _ _).mono ?_; rintro e w1 ⟨rfl, rfl⟩) | (go_at_call 75; refine (up_any _ _ hx1 hx2).mono ?_; rintro e w1 ⟨rfl, rfl⟩) | (go_at_call 73; refine (extremes_any (a * a) _ 1 1 [b * b] _ rfl (by decide) (ints1 _ (by simp))).mono ?_; rintro e w1 ⟨rfl, rfl⟩))
        exact bodyPost_ret (v := .tuple #[.agg #[.int .i64 (withinR (fl (minL (a * a) [b * b] 1)) (ce (maxL (a * a) [b * b] 1))).lo, .int .i64 (withinR (fl (minL (a * a) [b * b] 1)) (ce (maxL (a * a) [b * b] 1))).hi], .int .i64 (withinR (fl (minL (a * a) [b * b] 1)) (ce (maxL (a * a) [b * b] 1))).e]) (by simp [results, Try.results53, go_sem]) rfl ⟨rfl, (by repeat (first | exact Below.refl _ _ | refine Below.alloc ?_ (by simp <;> omega) _))⟩
      · have r1' : 0 < a := by omega
        clear h2 r1
        go_enter Try.func53, Try.ntmps53
        go_wp2_with (first | (go_at_call 42; refine (valid_any _ _ _).mono ?_; rintro e w1 ⟨rfl, rfl⟩) | (go_at_call 68; refine (within_any _ _ _).mono ?_; rintro e w1 ⟨rfl, rfl⟩) | (go_at_call 74; refine (down_any _ _).mono ?_; rintro e w1 ⟨rfl, rfl⟩) | (go_at_call 75; refine (up_any _ _ hx1 hx2).mono ?_; rintro e w1 ⟨rfl, rfl⟩) | (go_at_call 73; refine (extremes_any (a * a) _ 1 1 [b * b] _ rfl (by decide) (ints1 _ (by simp))).mono ?_; rintro e w1 ⟨rfl, rfl⟩))
        exact bodyPost_ret (v := .tuple #[.agg #[.int .i64 (withinR (fl (minL (a * a) [b * b] 1)) (ce (maxL (a * a) [b * b] 1))).lo, .int .i64 (withinR (fl (minL (a * a) [b * b] 1)) (ce (maxL (a * a) [b * b] 1))).hi], .int .i64 (withinR (fl (minL (a * a) [b * b] 1)) (ce (maxL (a * a) [b * b] 1))).e]) (by simp [results, Try.results53, go_sem]) rfl ⟨rfl, (by repeat (first | exact Below.refl _ _ | refine Below.alloc ?_ (by simp <;> omega) _))⟩
  · have h1' : vB a b = false := by simpa using h1
    have e1 : sqR a b = ⟨0, 0, 1⟩ := if_neg h1
    rw [e1]
    clear h1 e1
    go_enter Try.func53, Try.ntmps53
    go_wp2_with (first | (go_at_call 42; refine (valid_any _ _ _).mono ?_; rintro e w1 ⟨rfl, rfl⟩) | (go_at_call 68; refine (within_any _ _ _).mono ?_; rintro e w1 ⟨rfl, rfl⟩) | (go_at_call 74; refine (down_any _ _).mono ?_; rintro e w1 ⟨rfl, rfl⟩) | (go_at_call 75; refine (up_any _ _ hx1 hx2).mono ?_; rintro e w1 ⟨rfl, rfl⟩) | (go_at_call 73; refine (extremes_any (a * a) _ 1 1 [b * b] _ rfl (by decide) (ints1 _ (by simp))).mono ?_; rintro e w1 ⟨rfl, rfl⟩))
    exact bodyPost_ret (v := .tuple #[.agg #[.int .i64 0, .int .i64 0], .int .i64 1]) (by simp [results, Try.results53, go_sem]) rfl ⟨rfl, (by repeat (first | exact Below.refl _ _ | refine Below.alloc ?_ (by simp <;> omega) _))⟩
end Go.Proofs.Ytjppcndhaejfpaa.Iv
