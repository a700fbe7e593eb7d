/- Contracts of the reference's tests, bounds, roundings, sums and differences of intervals: package culetref27 returns what the plain functions say. -/
import Derived.Test.YtjppcndhaejfpaaIv1
namespace Go.Proofs.Ytjppcndhaejfpaa.Iv
open Go.RowKit

theorem rvalid_any (lo hi : Int) (w : World) :
    Calls Try.prog 23 #[iv lo hi] w fun e w' => e = .returned (.bool (vB lo hi)) ∧ boxed w lo hi = w' := by
  go_enter Try.func23, Try.ntmps23
  go_wp2
  all_goals go_ret
  all_goals refine ⟨ret_bool ?_, rfl⟩
  all_goals (simp only [vB]; first | (rw [decide_eq_decide]; omega) | (symm; rw [decide_eq_false_iff_not]; omega))

theorem both_any (a b c d : Int) (w : World) :
    Calls Try.prog 64 #[iv a b, iv c d] w fun e w' => e = .returned (.bool (vB a b && vB c d)) ∧ Below w.heap.size w w' := by
  cases h1 : vB a b
  · go_enter Try.func64, Try.ntmps64
    go_wp2_with (first | (go_at_call 23; refine (rvalid_any _ _ _).mono ?_; rintro e w1 ⟨rfl, rfl⟩))
    go_ret
    exact ⟨rfl, by repeat (first | exact Below.refl _ _ | refine Below.drew ?_ | refine Below.setCell ?_ (by first | omega | (simp <;> omega)) _ | refine Below.alloc ?_ (by first | omega | (simp <;> omega)) _)⟩
  · go_enter Try.func64, Try.ntmps64
    go_wp2_with (first | (go_at_call 23; refine (rvalid_any _ _ _).mono ?_; rintro e w1 ⟨rfl, rfl⟩))
    go_ret
    exact ⟨ret_bool (by simp), by repeat (first | exact Below.refl _ _ | refine Below.drew ?_ | refine Below.setCell ?_ (by first | omega | (simp <;> omega)) _ | refine Below.alloc ?_ (by first | omega | (simp <;> omega)) _)⟩

def checkedR (lo hi : Int) : R := if vB lo hi = true then ⟨lo, hi, 0⟩ else ⟨0, 0, 3⟩
theorem checked_within {lo hi : Int} (h : lo ≤ hi) : checkedR lo hi = withinR lo hi := by
  unfold checkedR withinR
  by_cases k : vB lo hi = true
  · rw [if_pos k, if_neg (by have := vB_iff.1 k; omega)]
  · rw [if_neg k, if_pos (by have := vB_not.1 (by simpa using k : vB lo hi = false); omega)]
theorem checked_any (lo hi : Int) (w : World) :
    Calls Try.prog 71 #[.int .i64 lo, .int .i64 hi] w fun e w' => e = retR (checkedR lo hi) ∧ Below w.heap.size w w' := by
  unfold checkedR
  cases h1 : vB lo hi
  · go_enter Try.func71, Try.ntmps71
    go_wp2_with (first | (go_at_call 23; refine (rvalid_any _ _ _).mono ?_; rintro e w1 ⟨rfl, rfl⟩))
    exact bodyPost_ret (v := .tuple #[iv 0 0, .int .i64 3]) (by simp [results, Try.results71, go_sem]) rfl ⟨rfl, by repeat (first | exact Below.refl _ _ | refine Below.drew ?_ | refine Below.setCell ?_ (by first | omega | (simp <;> omega)) _ | refine Below.alloc ?_ (by first | omega | (simp <;> omega)) _)⟩
  · go_enter Try.func71, Try.ntmps71
    go_wp2_with (first | (go_at_call 23; refine (rvalid_any _ _ _).mono ?_; rintro e w1 ⟨rfl, rfl⟩))
    exact bodyPost_ret (v := .tuple #[iv lo hi, .int .i64 0]) (by simp [results, Try.results71, go_sem]) rfl ⟨rfl, by repeat (first | exact Below.refl _ _ | refine Below.drew ?_ | refine Below.setCell ?_ (by first | omega | (simp <;> omega)) _ | refine Below.alloc ?_ (by first | omega | (simp <;> omega)) _)⟩

/-- rounding down as the reference does it -/
theorem floor_up {a b : Int} (hb : 0 < b) (h : a < a.tdiv b * b) : a.fdiv b = a.tdiv b - 1 := by
  have e := Int.mul_tdiv_add_tmod a b
  have l := tm_lt a b (by omega)
  rw [Int.mul_comm] at e
  refine fdiv_pos hb ?_ ?_
  · rw [Int.sub_mul]; omega
  · rw [Int.sub_add_cancel]; omega
theorem floor_same {a b : Int} (hb : 0 < b) (h : a.tdiv b * b ≤ a) : a.fdiv b = a.tdiv b := by
  have e := Int.mul_tdiv_add_tmod a b
  have l := tm_lt a b (by omega)
  rw [Int.mul_comm] at e
  refine fdiv_pos hb h ?_
  rw [Int.add_mul]; omega
theorem floor_bd {a b : Int} (hb : 0 < b) (h1 : -2305843009213693952 ≤ a) (h2 : a ≤ 2305843009213693952) (h3 : b ≤ 2305843009213693952) :
    (-4611686018427387904 ≤ a.tdiv b ∧ a.tdiv b ≤ 4611686018427387904) ∧ -4611686018427387904 ≤ a.tdiv b * b ∧ a.tdiv b * b ≤ 4611686018427387904 := by
  have e := Int.mul_tdiv_add_tmod a b
  have l := tm_lt a b (by omega)
  have t := td_bd a b
  rw [Int.mul_comm] at e
  omega
set_option maxRecDepth 100000 in
theorem floor_any (a b : Int) (w : World) (h1 : -2305843009213693952 ≤ a) (h2 : a ≤ 2305843009213693952) (h3 : -2305843009213693952 ≤ b) (h4 : b ≤ 2305843009213693952) (h5 : b ≠ 0) :
    Calls Try.prog 91 #[.int .i64 a, .int .i64 b] w fun e w' => e = .returned (.int .i64 (a.fdiv b)) ∧ w = w' := by
  by_cases hb : 0 < b
  · obtain ⟨⟨b1, b2⟩, b3, b4⟩ := floor_bd hb h1 h2 h4
    by_cases ht : a < a.tdiv b * b
    · have e1 := Lib.hid (floor_up hb ht)
      go_enter Try.func91, Try.ntmps91
      go_wp2
      go_ret
      exact ⟨ret_int (by rw [e1.out]), rfl⟩
    · have ht' : a.tdiv b * b ≤ a := by omega
      have e1 := Lib.hid (floor_same hb ht')
      clear ht
      go_enter Try.func91, Try.ntmps91
      go_wp2
      go_ret
      exact ⟨ret_int (by rw [e1.out]), rfl⟩
  · have hb' : b < 0 := by omega
    have hn : 0 < -b := by omega
    obtain ⟨⟨b1, b2⟩, b3, b4⟩ := floor_bd hn (show -2305843009213693952 ≤ -a by omega) (by omega) (by omega)
    have t : (-a).tdiv (-b) = a.tdiv b := Int.neg_tdiv_neg a b
    rw [t] at b1 b2 b3 b4
    by_cases ht : -a < a.tdiv b * -b
    · have e1 := Lib.hid (floor_up hn (by rw [t]; exact ht))
      rw [t] at e1
      clear t
      clear hb
      go_enter Try.func91, Try.ntmps91
      go_wp2
      go_ret
      exact ⟨ret_int (by rw [← fdiv_negneg, e1.out]), rfl⟩
    · have ht' : a.tdiv b * -b ≤ -a := by omega
      have e1 := Lib.hid (floor_same hn (by rw [t]; exact ht'))
      rw [t] at e1
      clear t
      clear hb ht
      go_enter Try.func91, Try.ntmps91
      go_wp2
      go_ret
      exact ⟨ret_int (by rw [← fdiv_negneg, e1.out]), rfl⟩
theorem ceil_any (a b : Int) (w : World) (h1 : -2305843009213693952 ≤ a) (h2 : a ≤ 2305843009213693952) (h3 : -2305843009213693952 ≤ b) (h4 : b ≤ 2305843009213693952) (h5 : b ≠ 0) (h6 : -4611686018427387904 ≤ (-a).fdiv b ∧ (-a).fdiv b ≤ 4611686018427387904) :
    Calls Try.prog 92 #[.int .i64 a, .int .i64 b] w fun e w' => e = .returned (.int .i64 (-((-a).fdiv b))) ∧ w = w' := by
  obtain ⟨k1, k2⟩ := h6
  go_enter Try.func92, Try.ntmps92
  go_wp2_with fail
  refine (floor_any (-a) b _ (by omega) (by omega) (by omega) (by omega) h5).mono ?_
  rintro e w1 ⟨rfl, rfl⟩
  go_wp2_with fail
  go_ret
  exact ⟨rfl, rfl⟩

set_option maxRecDepth 100000 in
theorem radd_any (a b c d : Int) (w : World) :
    Calls Try.prog 39 #[iv a b, iv c d] w fun e w' => e = retR (addR a b c d) ∧ Below w.heap.size w w' := by
  by_cases h1 : vB a b = true ∧ vB c d = true
  · have e1 : addR a b c d = withinR (a + c) (b + d) := if_pos h1
    rw [e1]
    obtain ⟨v1, v2⟩ := h1
    have k1 := vB_iff.1 v1
    have k2 := vB_iff.1 v2
    obtain ⟨q1, q2, q3⟩ := k1
    obtain ⟨q4, q5, q6⟩ := k2
    rw [← checked_within (show a + c ≤ b + d by omega)]
    clear e1
    go_enter Try.func39, Try.ntmps39
    go_wp2_with fail
    refine (both_any a b c d _).mono ?_
    rintro e w1 ⟨rfl, hb1⟩
    obtain ⟨hc1, hf1⟩ := bcell hb1
    have hz1 := hb1.size
    try simp at hz1
    have hs1_0 : w.heap.size < w1.heap.size := by omega
    have hs1_1 : w.heap.size + 1 < w1.heap.size := by omega
    have hs1_2 : w.heap.size + 1 + 1 < w1.heap.size := by omega
    have hw1 : Below w.heap.size w w1 := Below.trans (by repeat (first | exact Below.refl _ _ | refine Below.drew ?_ | refine Below.setCell ?_ (by first | omega | (simp <;> omega)) _ | refine Below.alloc ?_ (by first | omega | (simp <;> omega)) _)) (hb1.mono (by first | omega | (simp <;> omega)))
    clear hb1 hz1
    go_wp2_with fail
    refine (checked_any (a + c) (b + d) _).mono ?_
    rintro e w2 ⟨rfl, hb2⟩
    obtain ⟨hc2, hf2⟩ := bcell hb2
    have hz2 := hb2.size
    try simp at hz2
    have hs2_0 : w.heap.size < w2.heap.size := by omega
    have hs2_1 : w.heap.size + 1 < w2.heap.size := by omega
    have hs2_2 : w.heap.size + 1 + 1 < w2.heap.size := by omega
    have hw2 : Below w.heap.size w w2 := Below.trans (by repeat (first | exact hw1 | refine Below.drew ?_ | refine Below.setCell ?_ (by first | omega | (simp <;> omega)) _ | refine Below.alloc ?_ (by first | omega | (simp <;> omega)) _)) (hb2.mono (by first | omega | (simp <;> omega)))
    clear hb2 hz2
    go_wp2_with fail
    exact bodyPost_ret (v := .tuple #[.agg #[.int .i64 (checkedR (a + c) (b + d)).lo, .int .i64 (checkedR (a + c) (b + d)).hi], .int .i64 (checkedR (a + c) (b + d)).e]) (by simp [results, Try.results39, go_sem, *]) rfl ⟨rfl, by repeat (first | exact hw2 | refine Below.drew ?_ | refine Below.setCell ?_ (by first | omega | (simp <;> omega)) _ | refine Below.alloc ?_ (by first | omega | (simp <;> omega)) _)⟩
  · have e1 : addR a b c d = ⟨0, 0, 1⟩ := if_neg h1
    rw [e1]
    have hv : (vB a b && vB c d) = false := by simpa using h1
    clear e1 h1
    go_enter Try.func39, Try.ntmps39
    go_wp2_with fail
    refine (both_any a b c d _).mono ?_
    rintro e w1 ⟨rfl, hb1⟩
    obtain ⟨hc1, hf1⟩ := bcell hb1
    have hz1 := hb1.size
    try simp at hz1
    have hs1_0 : w.heap.size < w1.heap.size := by omega
    have hs1_1 : w.heap.size + 1 < w1.heap.size := by omega
    have hs1_2 : w.heap.size + 1 + 1 < w1.heap.size := by omega
    have hw1 : Below w.heap.size w w1 := Below.trans (by repeat (first | exact Below.refl _ _ | refine Below.drew ?_ | refine Below.setCell ?_ (by first | omega | (simp <;> omega)) _ | refine Below.alloc ?_ (by first | omega | (simp <;> omega)) _)) (hb1.mono (by first | omega | (simp <;> omega)))
    clear hb1 hz1
    rw [hv]
    go_wp2_with fail
    exact bodyPost_ret (v := .tuple #[iv 0 0, .int .i64 1]) (by simp [results, Try.results39, go_sem, *]) rfl ⟨rfl, by repeat (first | exact hw1 | refine Below.drew ?_ | refine Below.setCell ?_ (by first | omega | (simp <;> omega)) _ | refine Below.alloc ?_ (by first | omega | (simp <;> omega)) _)⟩

set_option maxRecDepth 100000 in
theorem rsub_any (a b c d : Int) (w : World) :
    Calls Try.prog 78 #[iv a b, iv c d] w fun e w' => e = retR (subR a b c d) ∧ Below w.heap.size w w' := by
  by_cases h1 : vB a b = true ∧ vB c d = true
  · have e1 : subR a b c d = withinR (a - d) (b - c) := if_pos h1
    rw [e1]
    obtain ⟨v1, v2⟩ := h1
    have k1 := vB_iff.1 v1
    have k2 := vB_iff.1 v2
    obtain ⟨q1, q2, q3⟩ := k1
    obtain ⟨q4, q5, q6⟩ := k2
    rw [← checked_within (show a - d ≤ b - c by omega)]
    clear e1
    go_enter Try.func78, Try.ntmps78
    go_wp2_with fail
    refine (both_any a b c d _).mono ?_
    rintro e w1 ⟨rfl, hb1⟩
    obtain ⟨hc1, hf1⟩ := bcell hb1
    have hz1 := hb1.size
    try simp at hz1
    have hs1_0 : w.heap.size < w1.heap.size := by omega
    have hs1_1 : w.heap.size + 1 < w1.heap.size := by omega
    have hs1_2 : w.heap.size + 1 + 1 < w1.heap.size := by omega
    have hw1 : Below w.heap.size w w1 := Below.trans (by repeat (first | exact Below.refl _ _ | refine Below.drew ?_ | refine Below.setCell ?_ (by first | omega | (simp <;> omega)) _ | refine Below.alloc ?_ (by first | omega | (simp <;> omega)) _)) (hb1.mono (by first | omega | (simp <;> omega)))
    clear hb1 hz1
    go_wp2_with fail
    refine (checked_any (a - d) (b - c) _).mono ?_
    rintro e w2 ⟨rfl, hb2⟩
    obtain ⟨hc2, hf2⟩ := bcell hb2
    have hz2 := hb2.size
    try simp at hz2
    have hs2_0 : w.heap.size < w2.heap.size := by omega
    have hs2_1 : w.heap.size + 1 < w2.heap.size := by omega
    have hs2_2 : w.heap.size + 1 + 1 < w2.heap.size := by omega
    have hw2 : Below w.heap.size w w2 := Below.trans (by repeat (first | exact hw1 | refine Below.drew ?_ | refine Below.setCell ?_ (by first | omega | (simp <;> omega)) _ | refine Below.alloc ?_ (by first | omega | (simp <;> omega)) _)) (hb2.mono (by first | omega | (simp <;> omega)))
    clear hb2 hz2
    go_wp2_with fail
    exact bodyPost_ret (v := .tuple #[.agg #[.int .i64 (checkedR (a - d) (b - c)).lo, .int .i64 (checkedR (a - d) (b - c)).hi], .int .i64 (checkedR (a - d) (b - c)).e]) (by simp [results, Try.results78, go_sem, *]) rfl ⟨rfl, by repeat (first | exact hw2 | refine Below.drew ?_ | refine Below.setCell ?_ (by first | omega | (simp <;> omega)) _ | refine Below.alloc ?_ (by first | omega | (simp <;> omega)) _)⟩
  · have e1 : subR a b c d = ⟨0, 0, 1⟩ := if_neg h1
    rw [e1]
    have hv : (vB a b && vB c d) = false := by simpa using h1
    clear e1 h1
    go_enter Try.func78, Try.ntmps78
    go_wp2_with fail
    refine (both_any a b c d _).mono ?_
    rintro e w1 ⟨rfl, hb1⟩
    obtain ⟨hc1, hf1⟩ := bcell hb1
    have hz1 := hb1.size
    try simp at hz1
    have hs1_0 : w.heap.size < w1.heap.size := by omega
    have hs1_1 : w.heap.size + 1 < w1.heap.size := by omega
    have hs1_2 : w.heap.size + 1 + 1 < w1.heap.size := by omega
    have hw1 : Below w.heap.size w w1 := Below.trans (by repeat (first | exact Below.refl _ _ | refine Below.drew ?_ | refine Below.setCell ?_ (by first | omega | (simp <;> omega)) _ | refine Below.alloc ?_ (by first | omega | (simp <;> omega)) _)) (hb1.mono (by first | omega | (simp <;> omega)))
    clear hb1 hz1
    rw [hv]
    go_wp2_with fail
    exact bodyPost_ret (v := .tuple #[iv 0 0, .int .i64 1]) (by simp [results, Try.results78, go_sem, *]) rfl ⟨rfl, by repeat (first | exact hw1 | refine Below.drew ?_ | refine Below.setCell ?_ (by first | omega | (simp <;> omega)) _ | refine Below.alloc ?_ (by first | omega | (simp <;> omega)) _)⟩
end Go.Proofs.Ytjppcndhaejfpaa.Iv
