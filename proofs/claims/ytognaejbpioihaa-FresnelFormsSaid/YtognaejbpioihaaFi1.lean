/- Contracts of the reference's tests of surfaces and of containment: between and Valid of package culetref30, Inside of culetref27. -/
import Derived.Test.YtognaejbpioihaaFr3
import Derived.Test.YtognaejbpioihaaRf1
namespace Go.Proofs.Ytognaejbpioihaa.Iv
open Go.RowKit

theorem rwin_any (a b l h : Int) (w : World) (h1 : 0 ≤ l) (h2 : l ≤ 10) (h3 : 0 ≤ h) (h4 : h ≤ 10) :
    Calls Try.prog 32 #[iv a b, .int .i64 l, .int .i64 h] w fun e w' => e = .returned (.bool (winB a b l h)) ∧ Below w.heap.size w w' := by
  by_cases v : vB a b = true
  · go_enter Try.func32, Try.ntmps32
    go_wp2_with (first | (go_at_call 49; refine (rvalid_any _ _ _).mono ?_; rintro e w1 ⟨rfl, rfl⟩))
    all_goals go_ret
    all_goals refine ⟨ret_bool ?_, by repeat (first | exact Below.refl _ _ | refine Below.drew ?_ | refine Below.setCell ?_ (by first | omega | (simp <;> omega)) _ | refine Below.alloc ?_ (by first | omega | (simp <;> omega)) _)⟩
    all_goals (simp only [winB]; first | (rw [decide_eq_decide]; simp only [v, true_and]; omega) | (symm; rw [decide_eq_false_iff_not]; simp only [v, true_and]; omega))
  · have v' : vB a b = false := by simpa using v
    go_enter Try.func32, Try.ntmps32
    go_wp2_with (first | (go_at_call 49; refine (rvalid_any _ _ _).mono ?_; rintro e w1 ⟨rfl, rfl⟩))
    all_goals go_ret
    all_goals refine ⟨ret_bool ?_, by repeat (first | exact Below.refl _ _ | refine Below.drew ?_ | refine Below.setCell ?_ (by first | omega | (simp <;> omega)) _ | refine Below.alloc ?_ (by first | omega | (simp <;> omega)) _)⟩
    all_goals simp [winB, v']

set_option maxRecDepth 100000 in
theorem rsf_any (s : Sf) (w : World) :
    Calls Try.prog 15 #[sv s] w fun e w' => e = .returned (.bool (sfB s)) ∧ Below w.heap.size w w' := by
  go_enter Try.func15, Try.ntmps15
  go_wp2_with fail
  refine (rwin_any s.bl s.bh 0 1 _ (by decide) (by decide) (by decide) (by decide)).mono ?_
  rintro e w1 ⟨rfl, hb1⟩
  obtain ⟨hc1, hf1⟩ := bcell hb1
  have hz1 := hb1.size
  try simp at hz1
  have hs1_0 : w.heap.size < w1.heap.size := by omega
  have hw1 : Below w.heap.size w w1 := Below.trans (by repeat (first | exact Below.refl _ _ | refine Below.drew ?_ | refine Below.setCell ?_ (by first | omega | (simp <;> omega)) _ | refine Below.alloc ?_ (by first | omega | (simp <;> omega)) _)) (hb1.mono (by first | omega | (simp <;> omega)))
  clear hb1 hz1
  cases V1 : winB s.bl s.bh 0 1
  · go_wp2_with fail
    go_ret
    exact ⟨ret_bool (by simp [sfB, V1]), by repeat (first | exact hw1 | refine Below.drew ?_ | refine Below.setCell ?_ (by first | omega | (simp <;> omega)) _ | refine Below.alloc ?_ (by first | omega | (simp <;> omega)) _)⟩
  · skip
    go_wp2_with fail
    refine (rwin_any s.al s.ah 0 1 _ (by decide) (by decide) (by decide) (by decide)).mono ?_
    rintro e w2 ⟨rfl, hb2⟩
    obtain ⟨hc2, hf2⟩ := bcell hb2
    have hz2 := hb2.size
    try simp at hz2
    have hs2_0 : w.heap.size < w2.heap.size := by omega
    have hw2 : Below w.heap.size w w2 := Below.trans (by repeat (first | exact hw1 | refine Below.drew ?_ | refine Below.setCell ?_ (by first | omega | (simp <;> omega)) _ | refine Below.alloc ?_ (by first | omega | (simp <;> omega)) _)) (hb2.mono (by first | omega | (simp <;> omega)))
    clear hb2 hz2
    cases V2 : winB s.al s.ah 0 1
    · go_wp2_with fail
      go_ret
      exact ⟨ret_bool (by simp [sfB, V1, V2]), by repeat (first | exact hw2 | refine Below.drew ?_ | refine Below.setCell ?_ (by first | omega | (simp <;> omega)) _ | refine Below.alloc ?_ (by first | omega | (simp <;> omega)) _)⟩
    · skip
      go_wp2_with fail
      refine (rwin_any s.fl s.fh 1 4 _ (by decide) (by decide) (by decide) (by decide)).mono ?_
      rintro e w3 ⟨rfl, hb3⟩
      obtain ⟨hc3, hf3⟩ := bcell hb3
      have hz3 := hb3.size
      try simp at hz3
      have hs3_0 : w.heap.size < w3.heap.size := by omega
      have hw3 : Below w.heap.size w w3 := Below.trans (by repeat (first | exact hw2 | refine Below.drew ?_ | refine Below.setCell ?_ (by first | omega | (simp <;> omega)) _ | refine Below.alloc ?_ (by first | omega | (simp <;> omega)) _)) (hb3.mono (by first | omega | (simp <;> omega)))
      clear hb3 hz3
      cases V3 : winB s.fl s.fh 1 4
      · go_wp2_with fail
        go_ret
        exact ⟨ret_bool (by simp [sfB, V1, V2, V3]), by repeat (first | exact hw3 | refine Below.drew ?_ | refine Below.setCell ?_ (by first | omega | (simp <;> omega)) _ | refine Below.alloc ?_ (by first | omega | (simp <;> omega)) _)⟩
      · skip
        go_wp2_with fail
        refine (rwin_any s.tl s.th 1 4 _ (by decide) (by decide) (by decide) (by decide)).mono ?_
        rintro e w4 ⟨rfl, hb4⟩
        obtain ⟨hc4, hf4⟩ := bcell hb4
        have hz4 := hb4.size
        try simp at hz4
        have hs4_0 : w.heap.size < w4.heap.size := by omega
        have hw4 : Below w.heap.size w w4 := Below.trans (by repeat (first | exact hw3 | refine Below.drew ?_ | refine Below.setCell ?_ (by first | omega | (simp <;> omega)) _ | refine Below.alloc ?_ (by first | omega | (simp <;> omega)) _)) (hb4.mono (by first | omega | (simp <;> omega)))
        clear hb4 hz4
        cases V4 : winB s.tl s.th 1 4
        · go_wp2_with fail
          go_ret
          exact ⟨ret_bool (by simp [sfB, V1, V2, V3, V4]), by repeat (first | exact hw4 | refine Below.drew ?_ | refine Below.setCell ?_ (by first | omega | (simp <;> omega)) _ | refine Below.alloc ?_ (by first | omega | (simp <;> omega)) _)⟩
        · go_wp2_with fail
          go_ret
          exact ⟨ret_bool (by simp [sfB, V1, V2, V3, V4]), by repeat (first | exact hw4 | refine Below.drew ?_ | refine Below.setCell ?_ (by first | omega | (simp <;> omega)) _ | refine Below.alloc ?_ (by first | omega | (simp <;> omega)) _)⟩

def insB' (a b c d : Int) : Bool := decide (c ≤ a ∧ b ≤ d)
theorem rinside_any (a b c d : Int) (w : World) (h1 : vB a b = true) (h2 : vB c d = true) (h3 : c ≤ a) (h4 : b ≤ d) :
    Calls Try.prog 26 #[iv a b, iv c d] w fun e w' => e = .returned (.bool true) ∧ Below w.heap.size w w' := by
  go_enter Try.func26, Try.ntmps26
  go_wp2_with fail
  refine (both_any a b c d _).mono ?_
  rintro e w1 ⟨rfl, hb1⟩
  obtain ⟨hc1, hf1⟩ := bcell hb1
  have hz1 := hb1.size
  try simp at hz1
  have hs1_0 : w.heap.size < w1.heap.size := by omega
  have hs1_1 : w.heap.size + 1 < w1.heap.size := by omega
  have hw1 : Below w.heap.size w w1 := Below.trans (by repeat (first | exact Below.refl _ _ | refine Below.drew ?_ | refine Below.setCell ?_ (by first | omega | (simp <;> omega)) _ | refine Below.alloc ?_ (by first | omega | (simp <;> omega)) _)) (hb1.mono (by first | omega | (simp <;> omega)))
  clear hb1 hz1
  rw [show (vB a b && vB c d) = true from by simp [h1, h2]]
  go_wp2
  go_ret
  exact ⟨rfl, by repeat (first | exact hw1 | refine Below.drew ?_ | refine Below.setCell ?_ (by first | omega | (simp <;> omega)) _ | refine Below.alloc ?_ (by first | omega | (simp <;> omega)) _)⟩
end Go.Proofs.Ytognaejbpioihaa.Iv
