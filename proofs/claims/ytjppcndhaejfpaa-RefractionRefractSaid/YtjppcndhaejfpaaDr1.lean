/- Contracts of Neg, Inside and Sign of intervals, the program's and the reference's, at a seat without their other functions. -/
import Derived.Test.YtjppcndhaejfpaaDr0
import Derived.Test.YtjppcndhaejfpaaRf3
namespace Go.Proofs.Ytjppcndhaejfpaa.Iv
open Go.RowKit

theorem neg_any (a b : Int) (w : World) :
    Calls Try.prog 86 #[iv a b] w fun e w' => e = retR (negR a b) ∧ Below w.heap.size w w' := by
  by_cases h1 : vB a b = true
  · have e1 : negR a b = ⟨-b, -a, 0⟩ := if_pos h1
    rw [e1]
    obtain ⟨_, _, _⟩ := vB_iff.1 h1
    have i1 : IntKind.i64.wrap (-b) = -b := IntWalk.i64_in _ (by omega)
    have i2 : IntKind.i64.wrap (-a) = -a := IntWalk.i64_in _ (by omega)
    clear e1
    go_enter Try.func86, Try.ntmps86
    go_wp2_with (first | (go_at_call 42; refine (valid_any _ _ _).mono ?_; rintro e w1 ⟨rfl, rfl⟩))
    exact bodyPost_ret (v := .tuple #[iv (-b) (-a), .int .i64 0]) (by simp [results, Try.results86, go_sem]) rfl ⟨rfl, (by repeat (first | exact Below.refl _ _ | refine Below.drew ?_ | refine below_drewN ?_ _ | refine Below.setCell ?_ (by first | omega | (simp <;> omega)) _ | refine Below.alloc ?_ (by first | omega | (simp <;> omega)) _))⟩
  · have h1' : vB a b = false := by simpa using h1
    have e1 : negR a b = ⟨0, 0, 1⟩ := if_neg h1
    rw [e1]
    clear h1 e1
    go_enter Try.func86, Try.ntmps86
    go_wp2_with (first | (go_at_call 42; refine (valid_any _ _ _).mono ?_; rintro e w1 ⟨rfl, rfl⟩))
    exact bodyPost_ret (v := .tuple #[iv 0 0, .int .i64 1]) (by simp [results, Try.results86, go_sem]) rfl ⟨rfl, (by repeat (first | exact Below.refl _ _ | refine Below.drew ?_ | refine below_drewN ?_ _ | refine Below.setCell ?_ (by first | omega | (simp <;> omega)) _ | refine Below.alloc ?_ (by first | omega | (simp <;> omega)) _))⟩

theorem rneg_any (a b : Int) (w : World) :
    Calls Try.prog 88 #[iv a b] w fun e w' => e = retR (negR a b) ∧ Below w.heap.size w w' := by
  by_cases h1 : vB a b = true
  · have e1 : negR a b = ⟨-b, -a, 0⟩ := if_pos h1
    rw [e1]
    obtain ⟨_, _, _⟩ := vB_iff.1 h1
    have i1 : IntKind.i64.wrap (-b) = -b := IntWalk.i64_in _ (by omega)
    have i2 : IntKind.i64.wrap (-a) = -a := IntWalk.i64_in _ (by omega)
    clear e1
    go_enter Try.func88, Try.ntmps88
    go_wp2_with (first | (go_at_call 23; refine (rvalid_any _ _ _).mono ?_; rintro e w1 ⟨rfl, rfl⟩))
    exact bodyPost_ret (v := .tuple #[iv (-b) (-a), .int .i64 0]) (by simp [results, Try.results88, go_sem]) rfl ⟨rfl, (by repeat (first | exact Below.refl _ _ | refine Below.drew ?_ | refine below_drewN ?_ _ | refine Below.setCell ?_ (by first | omega | (simp <;> omega)) _ | refine Below.alloc ?_ (by first | omega | (simp <;> omega)) _))⟩
  · have h1' : vB a b = false := by simpa using h1
    have e1 : negR a b = ⟨0, 0, 1⟩ := if_neg h1
    rw [e1]
    clear h1 e1
    go_enter Try.func88, Try.ntmps88
    go_wp2_with (first | (go_at_call 23; refine (rvalid_any _ _ _).mono ?_; rintro e w1 ⟨rfl, rfl⟩))
    exact bodyPost_ret (v := .tuple #[iv 0 0, .int .i64 1]) (by simp [results, Try.results88, go_sem]) rfl ⟨rfl, (by repeat (first | exact Below.refl _ _ | refine Below.drew ?_ | refine below_drewN ?_ _ | refine Below.setCell ?_ (by first | omega | (simp <;> omega)) _ | refine Below.alloc ?_ (by first | omega | (simp <;> omega)) _))⟩

theorem inside_any (a b c d : Int) (w : World) :
    Calls Try.prog 63 #[iv a b, iv c d] w fun e w' => e = .returned (.bool (insB a b c d)) ∧ Below w.heap.size w w' := by
  cases h1 : vB a b
  · have e1 : insB a b c d = false := by simp [insB, h1]
    rw [e1]; clear e1
    go_enter Try.func63, Try.ntmps63
    go_wp2_with (first | (go_at_call 42; refine (valid_any _ _ _).mono ?_; rintro e w1 ⟨rfl, rfl⟩))
    go_ret
    exact ⟨rfl, (by repeat (first | exact Below.refl _ _ | refine Below.drew ?_ | refine below_drewN ?_ _ | refine Below.setCell ?_ (by first | omega | (simp <;> omega)) _ | refine Below.alloc ?_ (by first | omega | (simp <;> omega)) _))⟩
  · cases h2 : vB c d
    · have e1 : insB a b c d = false := by simp [insB, h2]
      rw [e1]; clear e1
      go_enter Try.func63, Try.ntmps63
      go_wp2_with (first | (go_at_call 42; refine (valid_any _ _ _).mono ?_; rintro e w1 ⟨rfl, rfl⟩))
      go_ret
      exact ⟨rfl, (by repeat (first | exact Below.refl _ _ | refine Below.drew ?_ | refine below_drewN ?_ _ | refine Below.setCell ?_ (by first | omega | (simp <;> omega)) _ | refine Below.alloc ?_ (by first | omega | (simp <;> omega)) _))⟩
    · have e1 : insB a b c d = decide (c ≤ a ∧ b ≤ d) := by simp [insB, h1, h2]
      rw [e1]; clear e1
      go_enter Try.func63, Try.ntmps63
      go_wp2_with (first | (go_at_call 42; refine (valid_any _ _ _).mono ?_; rintro e w1 ⟨rfl, rfl⟩))
      all_goals go_ret
      all_goals refine ⟨ret_bool ?_, (by repeat (first | exact Below.refl _ _ | refine Below.drew ?_ | refine below_drewN ?_ _ | refine Below.setCell ?_ (by first | omega | (simp <;> omega)) _ | refine Below.alloc ?_ (by first | omega | (simp <;> omega)) _))⟩
      all_goals first | (rw [decide_eq_decide]; omega) | (symm; rw [decide_eq_true_iff]; omega) | (symm; rw [decide_eq_false_iff_not]; omega) | (simp; omega) | (symm; simp; omega)

/-- the sign of all numbers of an interval, or 0 -/
def sgn (a b : Int) : Int := if vB a b = true then (if 0 < a then 1 else if b < 0 then -1 else 0) else 0
theorem sign_any (a b : Int) (w : World) :
    Calls Try.prog 50 #[iv a b] w fun e w' => e = .returned (.int .i64 (sgn a b)) ∧ Below w.heap.size w w' := by
  cases h1 : vB a b
  · rw [show sgn a b = 0 from if_neg (by rw [h1]; decide)]
    go_enter Try.func50, Try.ntmps50
    go_wp2_with (go_at_call 42; refine (valid_any _ _ _).mono ?_; rintro e w1 ⟨rfl, rfl⟩)
    all_goals go_ret
    all_goals exact ⟨rfl, (by repeat (first | exact Below.refl _ _ | refine Below.drew ?_ | refine below_drewN ?_ _ | refine Below.setCell ?_ (by first | omega | (simp <;> omega)) _ | refine Below.alloc ?_ (by first | omega | (simp <;> omega)) _))⟩
  · rw [show sgn a b = (if 0 < a then 1 else if b < 0 then -1 else 0) from if_pos h1]
    go_enter Try.func50, Try.ntmps50
    go_wp2_with (go_at_call 42; refine (valid_any _ _ _).mono ?_; rintro e w1 ⟨rfl, rfl⟩)
    all_goals go_ret
    all_goals refine ⟨ret_int ?_, (by repeat (first | exact Below.refl _ _ | refine Below.drew ?_ | refine below_drewN ?_ _ | refine Below.setCell ?_ (by first | omega | (simp <;> omega)) _ | refine Below.alloc ?_ (by first | omega | (simp <;> omega)) _))⟩
    all_goals (repeat' split) <;> first | rfl | omega
theorem rsign_any (a b : Int) (w : World) :
    Calls Try.prog 51 #[iv a b] w fun e w' => e = .returned (.int .i64 (sgn a b)) ∧ Below w.heap.size w w' := by
  cases h1 : vB a b
  · rw [show sgn a b = 0 from if_neg (by rw [h1]; decide)]
    go_enter Try.func51, Try.ntmps51
    go_wp2_with (go_at_call 23; refine (rvalid_any _ _ _).mono ?_; rintro e w1 ⟨rfl, rfl⟩)
    all_goals go_ret
    all_goals exact ⟨rfl, (by repeat (first | exact Below.refl _ _ | refine Below.drew ?_ | refine below_drewN ?_ _ | refine Below.setCell ?_ (by first | omega | (simp <;> omega)) _ | refine Below.alloc ?_ (by first | omega | (simp <;> omega)) _))⟩
  · rw [show sgn a b = (if 0 < a then 1 else if b < 0 then -1 else 0) from if_pos h1]
    go_enter Try.func51, Try.ntmps51
    go_wp2_with (go_at_call 23; refine (rvalid_any _ _ _).mono ?_; rintro e w1 ⟨rfl, rfl⟩)
    all_goals go_ret
    all_goals refine ⟨ret_int ?_, (by repeat (first | exact Below.refl _ _ | refine Below.drew ?_ | refine below_drewN ?_ _ | refine Below.setCell ?_ (by first | omega | (simp <;> omega)) _ | refine Below.alloc ?_ (by first | omega | (simp <;> omega)) _))⟩
    all_goals (repeat' split) <;> first | rfl | omega
end Go.Proofs.Ytjppcndhaejfpaa.Iv
