/- Contracts of the program's sums and differences of intervals: Add and Sub of package interval return what the plain functions say. -/
import Derived.Test.YtjppcndhaejfpaaIv1
namespace Go.Proofs.Ytjppcndhaejfpaa.Iv
open Go.RowKit

theorem add_any (a b c d : Int) (w : World) :
    Calls Try.prog 37 #[iv a b, iv c d] w fun e w' => e = retR (addR a b c d) ∧ Below w.heap.size w w' := by
  by_cases h1 : vB a b = true
  · by_cases h2 : vB c d = true
    · have e1 : addR a b c d = withinR (a + c) (b + d) := if_pos ⟨h1, h2⟩
      rw [e1]
      have k1 := vB_iff.1 h1
      have k2 := vB_iff.1 h2
      obtain ⟨_, _, _⟩ := k1
      obtain ⟨_, _, _⟩ := k2
      clear e1
      go_enter Try.func37, Try.ntmps37
      go_wp2_with (first | (go_at_call 42; refine (valid_any _ _ _).mono ?_; rintro e w1 ⟨rfl, rfl⟩) | (go_at_call 68; refine (within_any _ _ _).mono ?_; rintro e w1 ⟨rfl, rfl⟩) | (go_at_call 74; refine (down_any _ _).mono ?_; rintro e w1 ⟨rfl, rfl⟩) | (go_at_call 75; refine (up_any _ _).mono ?_; rintro e w1 ⟨rfl, rfl⟩))
      exact bodyPost_ret (v := .tuple #[.agg #[.int .i64 (withinR (a + c) (b + d)).lo, .int .i64 (withinR (a + c) (b + d)).hi], .int .i64 (withinR (a + c) (b + d)).e]) (by simp [results, Try.results37, go_sem]) rfl ⟨rfl, (by repeat (first | exact Below.refl _ _ | refine Below.alloc ?_ (by simp <;> omega) _))⟩
    · have h2' : vB c d = false := by simpa using h2
      have e1 : addR a b c d = ⟨0, 0, 1⟩ := if_neg (fun h => h2 h.2)
      rw [e1]
      clear h2 e1
      go_enter Try.func37, Try.ntmps37
      go_wp2_with (first | (go_at_call 42; refine (valid_any _ _ _).mono ?_; rintro e w1 ⟨rfl, rfl⟩) | (go_at_call 68; refine (within_any _ _ _).mono ?_; rintro e w1 ⟨rfl, rfl⟩) | (go_at_call 74; refine (down_any _ _).mono ?_; rintro e w1 ⟨rfl, rfl⟩) | (go_at_call 75; refine (up_any _ _).mono ?_; rintro e w1 ⟨rfl, rfl⟩))
      exact bodyPost_ret (v := .tuple #[.agg #[.int .i64 0, .int .i64 0], .int .i64 1]) (by simp [results, Try.results37, go_sem]) rfl ⟨rfl, (by repeat (first | exact Below.refl _ _ | refine Below.alloc ?_ (by simp <;> omega) _))⟩
  · have h1' : vB a b = false := by simpa using h1
    have e1 : addR a b c d = ⟨0, 0, 1⟩ := if_neg (fun h => h1 h.1)
    rw [e1]
    clear h1 e1
    go_enter Try.func37, Try.ntmps37
    go_wp2_with (first | (go_at_call 42; refine (valid_any _ _ _).mono ?_; rintro e w1 ⟨rfl, rfl⟩) | (go_at_call 68; refine (within_any _ _ _).mono ?_; rintro e w1 ⟨rfl, rfl⟩) | (go_at_call 74; refine (down_any _ _).mono ?_; rintro e w1 ⟨rfl, rfl⟩) | (go_at_call 75; refine (up_any _ _).mono ?_; rintro e w1 ⟨rfl, rfl⟩))
    exact bodyPost_ret (v := .tuple #[.agg #[.int .i64 0, .int .i64 0], .int .i64 1]) (by simp [results, Try.results37, go_sem]) rfl ⟨rfl, (by repeat (first | exact Below.refl _ _ | refine Below.alloc ?_ (by simp <;> omega) _))⟩

theorem sub_any (a b c d : Int) (w : World) :
    Calls Try.prog 44 #[iv a b, iv c d] w fun e w' => e = retR (subR a b c d) ∧ Below w.heap.size w w' := by
  by_cases h1 : vB a b = true
  · by_cases h2 : vB c d = true
    · have e1 : subR a b c d = withinR (a - d) (b - c) := if_pos ⟨h1, h2⟩
      rw [e1]
      have k1 := vB_iff.1 h1
      have k2 := vB_iff.1 h2
      obtain ⟨_, _, _⟩ := k1
      obtain ⟨_, _, _⟩ := k2
      clear e1
      go_enter Try.func44, Try.ntmps44
      go_wp2_with (first | (go_at_call 42; refine (valid_any _ _ _).mono ?_; rintro e w1 ⟨rfl, rfl⟩) | (go_at_call 68; refine (within_any _ _ _).mono ?_; rintro e w1 ⟨rfl, rfl⟩) | (go_at_call 74; refine (down_any _ _).mono ?_; rintro e w1 ⟨rfl, rfl⟩) | (go_at_call 75; refine (up_any _ _).mono ?_; rintro e w1 ⟨rfl, rfl⟩))
      exact bodyPost_ret (v := .tuple #[.agg #[.int .i64 (withinR (a - d) (b - c)).lo, .int .i64 (withinR (a - d) (b - c)).hi], .int .i64 (withinR (a - d) (b - c)).e]) (by simp [results, Try.results44, go_sem]) rfl ⟨rfl, (by repeat (first | exact Below.refl _ _ | refine Below.alloc ?_ (by simp <;> omega) _))⟩
    · have h2' : vB c d = false := by simpa using h2
      have e1 : subR a b c d = ⟨0, 0, 1⟩ := if_neg (fun h => h2 h.2)
      rw [e1]
      clear h2 e1
      go_enter Try.func44, Try.ntmps44
      go_wp2_with (first | (go_at_call 42; refine (valid_any _ _ _).mono ?_; rintro e w1 ⟨rfl, rfl⟩) | (go_at_call 68; refine (within_any _ _ _).mono ?_; rintro e w1 ⟨rfl, rfl⟩) | (go_at_call 74; refine (down_any _ _).mono ?_; rintro e w1 ⟨rfl, rfl⟩) | (go_at_call 75; refine (up_any _ _).mono ?_; rintro e w1 ⟨rfl, rfl⟩))
      exact bodyPost_ret (v := .tuple #[.agg #[.int .i64 0, .int .i64 0], .int .i64 1]) (by simp [results, Try.results44, go_sem]) rfl ⟨rfl, (by repeat (first | exact Below.refl _ _ | refine Below.alloc ?_ (by simp <;> omega) _))⟩
  · have h1' : vB a b = false := by simpa using h1
    have e1 : subR a b c d = ⟨0, 0, 1⟩ := if_neg (fun h => h1 h.1)
    rw [e1]
    clear h1 e1
    go_enter Try.func44, Try.ntmps44
    go_wp2_with (first | (go_at_call 42; refine (valid_any _ _ _).mono ?_; rintro e w1 ⟨rfl, rfl⟩) | (go_at_call 68; refine (within_any _ _ _).mono ?_; rintro e w1 ⟨rfl, rfl⟩) | (go_at_call 74; refine (down_any _ _).mono ?_; rintro e w1 ⟨rfl, rfl⟩) | (go_at_call 75; refine (up_any _ _).mono ?_; rintro e w1 ⟨rfl, rfl⟩))
    exact bodyPost_ret (v := .tuple #[.agg #[.int .i64 0, .int .i64 0], .int .i64 1]) (by simp [results, Try.results44, go_sem]) rfl ⟨rfl, (by repeat (first | exact Below.refl _ _ | refine Below.alloc ?_ (by simp <;> omega) _))⟩
end Go.Proofs.Ytjppcndhaejfpaa.Iv
