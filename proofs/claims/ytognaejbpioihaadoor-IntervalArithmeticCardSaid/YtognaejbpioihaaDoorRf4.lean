/- Contracts of the reference's opposite, hull and intersection of intervals. -/
import Derived.Test.YtognaejbpioihaaDoorRf3
import Derived.Test.YtognaejbpioihaaDoorIs1
namespace Go.Proofs.YtognaejbpioihaaDoor.Iv
open Go.RowKit
attribute [local go_sem] run_min2' run_max2'

theorem rneg_any (a b : Int) (w : World) :
    Calls Tryd.prog 19 #[iv a b] w fun e w' => e = retR (negR a b) ∧ Below w.heap.size w w' := by
  by_cases h1 : vB a b = true
  · have e1 : negR a b = ⟨-b, -a, 0⟩ := if_pos h1
    rw [e1]
    obtain ⟨_, _, _⟩ := vB_iff.1 h1
    have i1 : IntKind.i64.wrap (-b) = -b := IntWalk.i64_in _ (by omega)
    have i2 : IntKind.i64.wrap (-a) = -a := IntWalk.i64_in _ (by omega)
    clear e1
    go_enter Tryd.func19, Tryd.ntmps19
    go_wp2_with (first | (go_at_call 28; refine (rvalid_any _ _ _).mono ?_; rintro e w1 ⟨rfl, rfl⟩))
    exact bodyPost_ret (v := .tuple #[iv (-b) (-a), .int .i64 0]) (by simp [results, Tryd.results19, go_sem]) rfl ⟨rfl, (by repeat (first | exact Below.refl _ _ | refine Below.drew ?_ | refine below_drewN ?_ _ | refine Below.setCell ?_ (by first | omega | (simp <;> omega)) _ | refine Below.alloc ?_ (by first | omega | (simp <;> omega)) _))⟩
  · have h1' : vB a b = false := by simpa using h1
    have e1 : negR a b = ⟨0, 0, 1⟩ := if_neg h1
    rw [e1]
    clear h1 e1
    go_enter Tryd.func19, Tryd.ntmps19
    go_wp2_with (first | (go_at_call 28; refine (rvalid_any _ _ _).mono ?_; rintro e w1 ⟨rfl, rfl⟩))
    exact bodyPost_ret (v := .tuple #[iv 0 0, .int .i64 1]) (by simp [results, Tryd.results19, go_sem]) rfl ⟨rfl, (by repeat (first | exact Below.refl _ _ | refine Below.drew ?_ | refine below_drewN ?_ _ | refine Below.setCell ?_ (by first | omega | (simp <;> omega)) _ | refine Below.alloc ?_ (by first | omega | (simp <;> omega)) _))⟩

theorem rhull_any (a b c d : Int) (w : World) :
    Calls Tryd.prog 25 #[iv a b, iv c d] w fun e w' => e = retR (hullR a b c d) ∧ Below w.heap.size w w' := by
  by_cases h1 : vB a b = true
  · by_cases h2 : vB c d = true
    · have e1 : hullR a b c d = ⟨min a c, max b d, 0⟩ := if_pos ⟨h1, h2⟩
      rw [e1]
      clear e1
      go_enter Tryd.func25, Tryd.ntmps25
      go_wp2_with fail
      refine (both_any a b c d _).mono ?_
      rintro e w1 ⟨rfl, hb1⟩
      obtain ⟨hc1, hf1⟩ := bcell hb1
      have hz1 := hb1.size
      try simp at hz1
      have hs1_0 : w.heap.size < w1.heap.size := by omega
      have hs1_1 : w.heap.size + 1 < w1.heap.size := by omega
      have hs1_2 : w.heap.size + 1 + 1 < w1.heap.size := by omega
      have hw1 : Below w.heap.size w w1 := Below.trans (by repeat (first | exact Below.refl _ _ | refine Below.drew ?_ | refine below_drewN ?_ _ | refine Below.setCell ?_ (by first | omega | (simp <;> omega)) _ | refine Below.alloc ?_ (by first | omega | (simp <;> omega)) _)) (hb1.mono (by first | omega | (simp <;> omega)))
      clear hb1 hz1
      rw [show (vB a b && vB c d) = true from by simp [h1, h2]]
      go_wp2_with fail
      exact bodyPost_ret (v := .tuple #[iv (min a c) (max b d), .int .i64 0]) (by simp [results, Tryd.results25, go_sem, *]) rfl ⟨rfl, (by repeat (first | exact Below.refl _ _ | exact hw1 | refine Below.drew ?_ | refine below_drewN ?_ _ | refine Below.setCell ?_ (by first | omega | (simp <;> omega)) _ | refine Below.alloc ?_ (by first | omega | (simp <;> omega)) _))⟩
    · have h2' : vB c d = false := by simpa using h2
      have e1 : hullR a b c d = ⟨0, 0, 1⟩ := if_neg (fun h => h2 h.2)
      rw [e1]
      clear e1
      go_enter Tryd.func25, Tryd.ntmps25
      go_wp2_with fail
      refine (both_any a b c d _).mono ?_
      rintro e w1 ⟨rfl, hb1⟩
      obtain ⟨hc1, hf1⟩ := bcell hb1
      have hz1 := hb1.size
      try simp at hz1
      have hs1_0 : w.heap.size < w1.heap.size := by omega
      have hs1_1 : w.heap.size + 1 < w1.heap.size := by omega
      have hs1_2 : w.heap.size + 1 + 1 < w1.heap.size := by omega
      have hw1 : Below w.heap.size w w1 := Below.trans (by repeat (first | exact Below.refl _ _ | refine Below.drew ?_ | refine below_drewN ?_ _ | refine Below.setCell ?_ (by first | omega | (simp <;> omega)) _ | refine Below.alloc ?_ (by first | omega | (simp <;> omega)) _)) (hb1.mono (by first | omega | (simp <;> omega)))
      clear hb1 hz1
      rw [show (vB a b && vB c d) = false from by simp [h2']]
      go_wp2_with fail
      exact bodyPost_ret (v := .tuple #[iv 0 0, .int .i64 1]) (by simp [results, Tryd.results25, go_sem, *]) rfl ⟨rfl, (by repeat (first | exact Below.refl _ _ | exact hw1 | refine Below.drew ?_ | refine below_drewN ?_ _ | refine Below.setCell ?_ (by first | omega | (simp <;> omega)) _ | refine Below.alloc ?_ (by first | omega | (simp <;> omega)) _))⟩
  · have h1' : vB a b = false := by simpa using h1
    have e1 : hullR a b c d = ⟨0, 0, 1⟩ := if_neg (fun h => h1 h.1)
    rw [e1]
    clear e1
    go_enter Tryd.func25, Tryd.ntmps25
    go_wp2_with fail
    refine (both_any a b c d _).mono ?_
    rintro e w1 ⟨rfl, hb1⟩
    obtain ⟨hc1, hf1⟩ := bcell hb1
    have hz1 := hb1.size
    try simp at hz1
    have hs1_0 : w.heap.size < w1.heap.size := by omega
    have hs1_1 : w.heap.size + 1 < w1.heap.size := by omega
    have hs1_2 : w.heap.size + 1 + 1 < w1.heap.size := by omega
    have hw1 : Below w.heap.size w w1 := Below.trans (by repeat (first | exact Below.refl _ _ | refine Below.drew ?_ | refine below_drewN ?_ _ | refine Below.setCell ?_ (by first | omega | (simp <;> omega)) _ | refine Below.alloc ?_ (by first | omega | (simp <;> omega)) _)) (hb1.mono (by first | omega | (simp <;> omega)))
    clear hb1 hz1
    rw [show (vB a b && vB c d) = false from by simp [h1']]
    go_wp2_with fail
    exact bodyPost_ret (v := .tuple #[iv 0 0, .int .i64 1]) (by simp [results, Tryd.results25, go_sem, *]) rfl ⟨rfl, (by repeat (first | exact Below.refl _ _ | exact hw1 | refine Below.drew ?_ | refine below_drewN ?_ _ | refine Below.setCell ?_ (by first | omega | (simp <;> omega)) _ | refine Below.alloc ?_ (by first | omega | (simp <;> omega)) _))⟩

theorem rmeet_any (a b c d : Int) (w : World) :
    Calls Tryd.prog 27 #[iv a b, iv c d] w fun e w' => e = retR (meetR a b c d) ∧ Below w.heap.size w w' := by
  by_cases h1 : vB a b = true
  · by_cases h2 : vB c d = true
    · by_cases h3 : min b d < max a c
      · have e1 : meetR a b c d = ⟨0, 0, 7⟩ := (if_pos ⟨h1, h2⟩).trans (if_pos h3)
        rw [e1]
        clear e1
        go_enter Tryd.func27, Tryd.ntmps27
        go_wp2_with fail
        refine (both_any a b c d _).mono ?_
        rintro e w1 ⟨rfl, hb1⟩
        obtain ⟨hc1, hf1⟩ := bcell hb1
        have hz1 := hb1.size
        try simp at hz1
        have hs1_0 : w.heap.size < w1.heap.size := by omega
        have hs1_1 : w.heap.size + 1 < w1.heap.size := by omega
        have hs1_2 : w.heap.size + 1 + 1 < w1.heap.size := by omega
        have hw1 : Below w.heap.size w w1 := Below.trans (by repeat (first | exact Below.refl _ _ | refine Below.drew ?_ | refine below_drewN ?_ _ | refine Below.setCell ?_ (by first | omega | (simp <;> omega)) _ | refine Below.alloc ?_ (by first | omega | (simp <;> omega)) _)) (hb1.mono (by first | omega | (simp <;> omega)))
        clear hb1 hz1
        rw [show (vB a b && vB c d) = true from by simp [h1, h2]]
        go_wp2_with fail
        exact bodyPost_ret (v := .tuple #[iv 0 0, .int .i64 7]) (by simp [results, Tryd.results27, go_sem, *]) rfl ⟨rfl, (by repeat (first | exact Below.refl _ _ | exact hw1 | refine Below.drew ?_ | refine below_drewN ?_ _ | refine Below.setCell ?_ (by first | omega | (simp <;> omega)) _ | refine Below.alloc ?_ (by first | omega | (simp <;> omega)) _))⟩
      · have e1 : meetR a b c d = ⟨max a c, min b d, 0⟩ := (if_pos ⟨h1, h2⟩).trans (if_neg h3)
        rw [e1]
        have h3' : max a c ≤ min b d := by omega
        clear e1 h3
        go_enter Tryd.func27, Tryd.ntmps27
        go_wp2_with fail
        refine (both_any a b c d _).mono ?_
        rintro e w1 ⟨rfl, hb1⟩
        obtain ⟨hc1, hf1⟩ := bcell hb1
        have hz1 := hb1.size
        try simp at hz1
        have hs1_0 : w.heap.size < w1.heap.size := by omega
        have hs1_1 : w.heap.size + 1 < w1.heap.size := by omega
        have hs1_2 : w.heap.size + 1 + 1 < w1.heap.size := by omega
        have hw1 : Below w.heap.size w w1 := Below.trans (by repeat (first | exact Below.refl _ _ | refine Below.drew ?_ | refine below_drewN ?_ _ | refine Below.setCell ?_ (by first | omega | (simp <;> omega)) _ | refine Below.alloc ?_ (by first | omega | (simp <;> omega)) _)) (hb1.mono (by first | omega | (simp <;> omega)))
        clear hb1 hz1
        rw [show (vB a b && vB c d) = true from by simp [h1, h2]]
        go_wp2_with fail
        exact bodyPost_ret (v := .tuple #[iv (max a c) (min b d), .int .i64 0]) (by simp [results, Tryd.results27, go_sem, *]) rfl ⟨rfl, (by repeat (first | exact Below.refl _ _ | exact hw1 | refine Below.drew ?_ | refine below_drewN ?_ _ | refine Below.setCell ?_ (by first | omega | (simp <;> omega)) _ | refine Below.alloc ?_ (by first | omega | (simp <;> omega)) _))⟩
    · have h2' : vB c d = false := by simpa using h2
      have e1 : meetR a b c d = ⟨0, 0, 1⟩ := if_neg (fun h => h2 h.2)
      rw [e1]
      clear e1
      go_enter Tryd.func27, Tryd.ntmps27
      go_wp2_with fail
      refine (both_any a b c d _).mono ?_
      rintro e w1 ⟨rfl, hb1⟩
      obtain ⟨hc1, hf1⟩ := bcell hb1
      have hz1 := hb1.size
      try simp at hz1
      have hs1_0 : w.heap.size < w1.heap.size := by omega
      have hs1_1 : w.heap.size + 1 < w1.heap.size := by omega
      have hs1_2 : w.heap.size + 1 + 1 < w1.heap.size := by omega
      have hw1 : Below w.heap.size w w1 := Below.trans (by repeat (first | exact Below.refl _ _ | refine Below.drew ?_ | refine below_drewN ?_ _ | refine Below.setCell ?_ (by first | omega | (simp <;> omega)) _ | refine Below.alloc ?_ (by first | omega | (simp <;> omega)) _)) (hb1.mono (by first | omega | (simp <;> omega)))
      clear hb1 hz1
      rw [show (vB a b && vB c d) = false from by simp [h2']]
      go_wp2_with fail
      exact bodyPost_ret (v := .tuple #[iv 0 0, .int .i64 1]) (by simp [results, Tryd.results27, go_sem, *]) rfl ⟨rfl, (by repeat (first | exact Below.refl _ _ | exact hw1 | refine Below.drew ?_ | refine below_drewN ?_ _ | refine Below.setCell ?_ (by first | omega | (simp <;> omega)) _ | refine Below.alloc ?_ (by first | omega | (simp <;> omega)) _))⟩
  · have h1' : vB a b = false := by simpa using h1
    have e1 : meetR a b c d = ⟨0, 0, 1⟩ := if_neg (fun h => h1 h.1)
    rw [e1]
    clear e1
    go_enter Tryd.func27, Tryd.ntmps27
    go_wp2_with fail
    refine (both_any a b c d _).mono ?_
    rintro e w1 ⟨rfl, hb1⟩
    obtain ⟨hc1, hf1⟩ := bcell hb1
    have hz1 := hb1.size
    try simp at hz1
    have hs1_0 : w.heap.size < w1.heap.size := by omega
    have hs1_1 : w.heap.size + 1 < w1.heap.size := by omega
    have hs1_2 : w.heap.size + 1 + 1 < w1.heap.size := by omega
    have hw1 : Below w.heap.size w w1 := Below.trans (by repeat (first | exact Below.refl _ _ | refine Below.drew ?_ | refine below_drewN ?_ _ | refine Below.setCell ?_ (by first | omega | (simp <;> omega)) _ | refine Below.alloc ?_ (by first | omega | (simp <;> omega)) _)) (hb1.mono (by first | omega | (simp <;> omega)))
    clear hb1 hz1
    rw [show (vB a b && vB c d) = false from by simp [h1']]
    go_wp2_with fail
    exact bodyPost_ret (v := .tuple #[iv 0 0, .int .i64 1]) (by simp [results, Tryd.results27, go_sem, *]) rfl ⟨rfl, (by repeat (first | exact Below.refl _ _ | exact hw1 | refine Below.drew ?_ | refine below_drewN ?_ _ | refine Below.setCell ?_ (by first | omega | (simp <;> omega)) _ | refine Below.alloc ?_ (by first | omega | (simp <;> omega)) _))⟩

end Go.Proofs.YtognaejbpioihaaDoor.Iv
