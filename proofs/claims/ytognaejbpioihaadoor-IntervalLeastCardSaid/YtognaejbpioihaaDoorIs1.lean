/- Contracts of the program's functions of sets of intervals: Neg, Hull, Meet, Inside, Split, and the reference's test. -/
import Derived.Test.YtognaejbpioihaaDoorAw
import Derived.Deep.QuietTactic
import Derived.BigQuiet
namespace Go.Proofs.YtognaejbpioihaaDoor.Iv
open Go.RowKit

theorem refvalid_any (lo hi : Int) (w : World) :
    Calls Tryd.prog 28 #[iv lo hi] w fun e w' => e = .returned (.bool (vB lo hi)) ∧ boxed w lo hi = w' := by
  go_enter Tryd.func28, Tryd.ntmps28
  go_wp2
  all_goals go_ret
  all_goals refine ⟨ret_bool ?_, rfl⟩
  all_goals (simp only [vB]; first | (rw [decide_eq_decide]; omega) | (symm; rw [decide_eq_false_iff_not]; omega))

theorem neg_any (a b : Int) (w : World) :
    Calls Tryd.prog 18 #[iv a b] w fun e w' => e = retR (negR a b) ∧ Below w.heap.size w w' := by
  by_cases h1 : vB a b = true
  · have e1 : negR a b = ⟨-b, -a, 0⟩ := if_pos h1
    rw [e1]
    obtain ⟨_, _, _⟩ := vB_iff.1 h1
    have i1 : IntKind.i64.wrap (-b) = -b := IntWalk.i64_in _ (by omega)
    have i2 : IntKind.i64.wrap (-a) = -a := IntWalk.i64_in _ (by omega)
    clear e1
    go_enter Tryd.func18, Tryd.ntmps18
    go_wp2_with (first | (go_at_call 36; refine (valid_any _ _ _).mono ?_; rintro e w1 ⟨rfl, rfl⟩))
    exact bodyPost_ret (v := .tuple #[iv (-b) (-a), .int .i64 0]) (by simp [results, Tryd.results18, go_sem]) rfl ⟨rfl, (by repeat (first | exact Below.refl _ _ | refine Below.drew ?_ | refine below_drewN ?_ _ | refine Below.setCell ?_ (by first | omega | (simp <;> omega)) _ | refine Below.alloc ?_ (by first | omega | (simp <;> omega)) _))⟩
  · have h1' : vB a b = false := by simpa using h1
    have e1 : negR a b = ⟨0, 0, 1⟩ := if_neg h1
    rw [e1]
    clear h1 e1
    go_enter Tryd.func18, Tryd.ntmps18
    go_wp2_with (first | (go_at_call 36; refine (valid_any _ _ _).mono ?_; rintro e w1 ⟨rfl, rfl⟩))
    exact bodyPost_ret (v := .tuple #[iv 0 0, .int .i64 1]) (by simp [results, Tryd.results18, go_sem]) rfl ⟨rfl, (by repeat (first | exact Below.refl _ _ | refine Below.drew ?_ | refine below_drewN ?_ _ | refine Below.setCell ?_ (by first | omega | (simp <;> omega)) _ | refine Below.alloc ?_ (by first | omega | (simp <;> omega)) _))⟩

theorem hull_any (a b c d : Int) (w : World) :
    Calls Tryd.prog 24 #[iv a b, iv c d] w fun e w' => e = retR (hullR a b c d) ∧ Below w.heap.size w w' := by
  by_cases h1 : vB a b = true
  · by_cases h2 : vB c d = true
    · have e1 : hullR a b c d = ⟨min a c, max b d, 0⟩ := if_pos ⟨h1, h2⟩
      rw [e1]
      clear e1
      go_enter Tryd.func24, Tryd.ntmps24
      go_wp2_with (first | (go_at_call 36; refine (valid_any _ _ _).mono ?_; rintro e w1 ⟨rfl, rfl⟩))
      exact bodyPost_ret (v := .tuple #[iv (min a c) (max b d), .int .i64 0]) (by simp [results, Tryd.results24, go_sem]) rfl ⟨rfl, (by repeat (first | exact Below.refl _ _ | refine Below.drew ?_ | refine below_drewN ?_ _ | refine Below.setCell ?_ (by first | omega | (simp <;> omega)) _ | refine Below.alloc ?_ (by first | omega | (simp <;> omega)) _))⟩
    · have h2' : vB c d = false := by simpa using h2
      have e1 : hullR a b c d = ⟨0, 0, 1⟩ := if_neg (fun h => h2 h.2)
      rw [e1]
      clear h2 e1
      go_enter Tryd.func24, Tryd.ntmps24
      go_wp2_with (first | (go_at_call 36; refine (valid_any _ _ _).mono ?_; rintro e w1 ⟨rfl, rfl⟩))
      exact bodyPost_ret (v := .tuple #[iv 0 0, .int .i64 1]) (by simp [results, Tryd.results24, go_sem]) rfl ⟨rfl, (by repeat (first | exact Below.refl _ _ | refine Below.drew ?_ | refine below_drewN ?_ _ | refine Below.setCell ?_ (by first | omega | (simp <;> omega)) _ | refine Below.alloc ?_ (by first | omega | (simp <;> omega)) _))⟩
  · have h1' : vB a b = false := by simpa using h1
    have e1 : hullR a b c d = ⟨0, 0, 1⟩ := if_neg (fun h => h1 h.1)
    rw [e1]
    clear h1 e1
    go_enter Tryd.func24, Tryd.ntmps24
    go_wp2_with (first | (go_at_call 36; refine (valid_any _ _ _).mono ?_; rintro e w1 ⟨rfl, rfl⟩))
    exact bodyPost_ret (v := .tuple #[iv 0 0, .int .i64 1]) (by simp [results, Tryd.results24, go_sem]) rfl ⟨rfl, (by repeat (first | exact Below.refl _ _ | refine Below.drew ?_ | refine below_drewN ?_ _ | refine Below.setCell ?_ (by first | omega | (simp <;> omega)) _ | refine Below.alloc ?_ (by first | omega | (simp <;> omega)) _))⟩

theorem meet_any (a b c d : Int) (w : World) :
    Calls Tryd.prog 26 #[iv a b, iv c d] w fun e w' => e = retR (meetR a b c d) ∧ Below w.heap.size w w' := by
  by_cases h1 : vB a b = true
  · by_cases h2 : vB c d = true
    · by_cases h3 : min b d < max a c
      · have e1 : meetR a b c d = ⟨0, 0, 7⟩ := (if_pos ⟨h1, h2⟩).trans (if_pos h3)
        rw [e1]
        clear e1
        go_enter Tryd.func26, Tryd.ntmps26
        go_wp2_with (first | (go_at_call 36; refine (valid_any _ _ _).mono ?_; rintro e w1 ⟨rfl, rfl⟩))
        go_region
        all_goals go_wp2
        all_goals exact bodyPost_ret (v := .tuple #[iv 0 0, .int .i64 7]) (by simp [results, Tryd.results26, go_sem]) rfl ⟨rfl, (by repeat (first | exact Below.refl _ _ | refine Below.drew ?_ | refine below_drewN ?_ _ | refine Below.setCell ?_ (by first | omega | (simp <;> omega)) _ | refine Below.alloc ?_ (by first | omega | (simp <;> omega)) _))⟩
      · have e1 : meetR a b c d = ⟨max a c, min b d, 0⟩ := (if_pos ⟨h1, h2⟩).trans (if_neg h3)
        rw [e1]
        have h3' : max a c ≤ min b d := by omega
        clear e1 h3
        go_enter Tryd.func26, Tryd.ntmps26
        go_wp2_with (first | (go_at_call 36; refine (valid_any _ _ _).mono ?_; rintro e w1 ⟨rfl, rfl⟩))
        go_region
        all_goals go_wp2
        all_goals exact bodyPost_ret (v := .tuple #[iv (max a c) (min b d), .int .i64 0]) (by simp [results, Tryd.results26, go_sem]) rfl ⟨rfl, (by repeat (first | exact Below.refl _ _ | refine Below.drew ?_ | refine below_drewN ?_ _ | refine Below.setCell ?_ (by first | omega | (simp <;> omega)) _ | refine Below.alloc ?_ (by first | omega | (simp <;> omega)) _))⟩
    · have h2' : vB c d = false := by simpa using h2
      have e1 : meetR a b c d = ⟨0, 0, 1⟩ := if_neg (fun h => h2 h.2)
      rw [e1]
      clear h2 e1
      go_enter Tryd.func26, Tryd.ntmps26
      go_wp2_with (first | (go_at_call 36; refine (valid_any _ _ _).mono ?_; rintro e w1 ⟨rfl, rfl⟩))
      exact bodyPost_ret (v := .tuple #[iv 0 0, .int .i64 1]) (by simp [results, Tryd.results26, go_sem]) rfl ⟨rfl, (by repeat (first | exact Below.refl _ _ | refine Below.drew ?_ | refine below_drewN ?_ _ | refine Below.setCell ?_ (by first | omega | (simp <;> omega)) _ | refine Below.alloc ?_ (by first | omega | (simp <;> omega)) _))⟩
  · have h1' : vB a b = false := by simpa using h1
    have e1 : meetR a b c d = ⟨0, 0, 1⟩ := if_neg (fun h => h1 h.1)
    rw [e1]
    clear h1 e1
    go_enter Tryd.func26, Tryd.ntmps26
    go_wp2_with (first | (go_at_call 36; refine (valid_any _ _ _).mono ?_; rintro e w1 ⟨rfl, rfl⟩))
    exact bodyPost_ret (v := .tuple #[iv 0 0, .int .i64 1]) (by simp [results, Tryd.results26, go_sem]) rfl ⟨rfl, (by repeat (first | exact Below.refl _ _ | refine Below.drew ?_ | refine below_drewN ?_ _ | refine Below.setCell ?_ (by first | omega | (simp <;> omega)) _ | refine Below.alloc ?_ (by first | omega | (simp <;> omega)) _))⟩

theorem inside_any (a b c d : Int) (w : World) :
    Calls Tryd.prog 32 #[iv a b, iv c d] w fun e w' => e = .returned (.bool (insB a b c d)) ∧ Below w.heap.size w w' := by
  cases h1 : vB a b
  · have e1 : insB a b c d = false := by simp [insB, h1]
    rw [e1]; clear e1
    go_enter Tryd.func32, Tryd.ntmps32
    go_wp2_with (first | (go_at_call 36; refine (valid_any _ _ _).mono ?_; rintro e w1 ⟨rfl, rfl⟩))
    go_ret
    exact ⟨rfl, (by repeat (first | exact Below.refl _ _ | refine Below.drew ?_ | refine below_drewN ?_ _ | refine Below.setCell ?_ (by first | omega | (simp <;> omega)) _ | refine Below.alloc ?_ (by first | omega | (simp <;> omega)) _))⟩
  · cases h2 : vB c d
    · have e1 : insB a b c d = false := by simp [insB, h2]
      rw [e1]; clear e1
      go_enter Tryd.func32, Tryd.ntmps32
      go_wp2_with (first | (go_at_call 36; refine (valid_any _ _ _).mono ?_; rintro e w1 ⟨rfl, rfl⟩))
      go_ret
      exact ⟨rfl, (by repeat (first | exact Below.refl _ _ | refine Below.drew ?_ | refine below_drewN ?_ _ | refine Below.setCell ?_ (by first | omega | (simp <;> omega)) _ | refine Below.alloc ?_ (by first | omega | (simp <;> omega)) _))⟩
    · have e1 : insB a b c d = decide (c ≤ a ∧ b ≤ d) := by simp [insB, h1, h2]
      rw [e1]; clear e1
      go_enter Tryd.func32, Tryd.ntmps32
      go_wp2_with (first | (go_at_call 36; refine (valid_any _ _ _).mono ?_; rintro e w1 ⟨rfl, rfl⟩))
      all_goals go_ret
      all_goals refine ⟨ret_bool ?_, (by repeat (first | exact Below.refl _ _ | refine Below.drew ?_ | refine below_drewN ?_ _ | refine Below.setCell ?_ (by first | omega | (simp <;> omega)) _ | refine Below.alloc ?_ (by first | omega | (simp <;> omega)) _))⟩
      all_goals first | (rw [decide_eq_decide]; omega) | (symm; rw [decide_eq_true_iff]; omega) | (symm; rw [decide_eq_false_iff_not]; omega) | (simp; omega) | (symm; simp; omega)

structure R2 where
  a : Int
  b : Int
  c : Int
  d : Int
  e : Int
def splitR (a b : Int) : R2 := if vB a b = true then if b - a < 2 then ⟨0, 0, 0, 0, 7⟩ else ⟨a, (a + b) / 2, (a + b) / 2, b, 0⟩ else ⟨0, 0, 0, 0, 1⟩
abbrev retR2 (r : R2) : Ending := .returned (.tuple #[iv r.a r.b, iv r.c r.d, .int .i64 r.e])
theorem split_any (a b : Int) (w : World) :
    Calls Tryd.prog 33 #[iv a b] w fun e w' => e = retR2 (splitR a b) ∧ Below w.heap.size w w' := by
  by_cases h1 : vB a b = true
  · obtain ⟨_, _, _⟩ := vB_iff.1 h1
    have i1 : IntKind.i64.wrap (b - a) = b - a := IntWalk.i64_in _ (by omega)
    have i2 : IntKind.i64.wrap (a + b) = a + b := IntWalk.i64_in _ (by omega)
    by_cases h3 : b - a < 2
    · have e1 : splitR a b = ⟨0, 0, 0, 0, 7⟩ := (if_pos h1).trans (if_pos h3)
      rw [e1]
      clear e1
      go_enter Tryd.func33, Tryd.ntmps33
      go_wp2_with (first | (go_at_call 36; refine (valid_any _ _ _).mono ?_; rintro e w1 ⟨rfl, rfl⟩))
      exact bodyPost_ret (v := .tuple #[iv 0 0, iv 0 0, .int .i64 7]) (by simp [results, Tryd.results33, go_sem]) rfl ⟨rfl, (by repeat (first | exact Below.refl _ _ | refine Below.drew ?_ | refine below_drewN ?_ _ | refine Below.setCell ?_ (by first | omega | (simp <;> omega)) _ | refine Below.alloc ?_ (by first | omega | (simp <;> omega)) _))⟩
    · have e1 : splitR a b = ⟨a, (a + b) / 2, (a + b) / 2, b, 0⟩ := (if_pos h1).trans (if_neg h3)
      rw [e1]
      have h3' : 2 ≤ b - a := by omega
      clear e1 h3
      go_enter Tryd.func33, Tryd.ntmps33
      go_wp2_with (first | (go_at_call 36; refine (valid_any _ _ _).mono ?_; rintro e w1 ⟨rfl, rfl⟩))
      go_region
      all_goals go_wp2
      all_goals exact bodyPost_ret (v := .tuple #[iv a ((a + b) / 2), iv ((a + b) / 2) b, .int .i64 0]) (by simp [results, Tryd.results33, go_sem]) rfl ⟨rfl, (by repeat (first | exact Below.refl _ _ | refine Below.drew ?_ | refine below_drewN ?_ _ | refine Below.setCell ?_ (by first | omega | (simp <;> omega)) _ | refine Below.alloc ?_ (by first | omega | (simp <;> omega)) _))⟩
  · have h1' : vB a b = false := by simpa using h1
    have e1 : splitR a b = ⟨0, 0, 0, 0, 1⟩ := if_neg h1
    rw [e1]
    clear h1 e1
    go_enter Tryd.func33, Tryd.ntmps33
    go_wp2_with (first | (go_at_call 36; refine (valid_any _ _ _).mono ?_; rintro e w1 ⟨rfl, rfl⟩))
    exact bodyPost_ret (v := .tuple #[iv 0 0, iv 0 0, .int .i64 1]) (by simp [results, Tryd.results33, go_sem]) rfl ⟨rfl, (by repeat (first | exact Below.refl _ _ | refine Below.drew ?_ | refine below_drewN ?_ _ | refine Below.setCell ?_ (by first | omega | (simp <;> omega)) _ | refine Below.alloc ?_ (by first | omega | (simp <;> omega)) _))⟩
end Go.Proofs.YtognaejbpioihaaDoor.Iv
