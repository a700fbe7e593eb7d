/- Contract of the reference's transmittance: Transmittance of package culetref30. -/
import Derived.Test.YtognaejbpioihaaRr1
namespace Go.Proofs.Ytognaejbpioihaa.Iv
open Go.RowKit

set_option maxRecDepth 100000 in
set_option maxHeartbeats 4000000 in
theorem rtrans_any (s : Sf) (w : World) :
    Calls Try.prog 19 #[sv s] w fun e w' => e = retR (transR s) ∧ Below w.heap.size w w' := by
  obtain ⟨⟨p1, q1, e1⟩, h1⟩ : ∃ r : R, reflR s = r := ⟨_, rfl⟩
  obtain ⟨⟨p2, q2, e2⟩, h2⟩ : ∃ r : R, subR 16777216 16777216 p1 q1 = r := ⟨_, rfl⟩
  have H1 := Lib.hid (show retR (reflR s) = .returned (.tuple #[iv p1 q1, .int .i64 e1]) from by rw [h1])
  have H2 := Lib.hid (show retR (subR 16777216 16777216 p1 q1) = .returned (.tuple #[iv p2 q2, .int .i64 e2]) from by rw [h2])
  have R0 := Lib.hid (show e1 ≠ 0 → transR s = ⟨0, 0, e1⟩ from fun h => by rw [transR, h1, bind_err h])
  have R1 := Lib.hid (show e1 = 0 → transR s = ⟨p2, q2, e2⟩ from fun h => by rw [transR, h1, bind_ok h, h2])
  clear h1 h2
  go_enter Try.func19, Try.ntmps19
  go_wp2_with fail
  refine (rrefl_any s _).mono ?_
  rintro e w1 ⟨rfl, hb1⟩
  obtain ⟨hc1, hf1⟩ := bcell hb1
  have hz1 := hb1.size
  try simp at hz1
  have hw1 : Below w.heap.size w w1 := Below.trans (by repeat (first | exact Below.refl _ _ | refine Below.drew ?_ | refine bdrewS ?_ _ | refine Below.setCell ?_ (by first | omega | (simp <;> omega)) _ | refine Below.alloc ?_ (by first | omega | (simp <;> omega)) _)) (hb1.mono (by first | omega | (simp <;> omega)))
  have hy1 := hw1.size
  have d1_0_0 : w1.cell? ⟨w.heap.size + 1, 0, none⟩ = some (.int .i64 0) := (hc1 _ _ (by first | omega | (simp <;> omega))).trans (by first | (simp [go_sem, *]; done) | rfl)
  have d1_0_1 : w1.cell? ⟨w.heap.size + 1, 1, none⟩ = some (.int .i64 0) := (hc1 _ _ (by first | omega | (simp <;> omega))).trans (by first | (simp [go_sem, *]; done) | rfl)
  have l1_0 : w.heap.size + 1 < w1.heap.size := by omega
  have hm1_0 : w.heap.size + 1 < w1.heap.size := by omega
  have hm1_1 : w.heap.size + 1 < w1.heap.size + 1 := by omega
  have hm1_2 : w.heap.size < w1.heap.size := by omega
  have hm1_3 : w.heap.size + 1 < w1.heap.size + 1 + 1 := by omega
  have hm1_4 : w.heap.size < w1.heap.size + 1 := by omega
  have r1_0 : w1.frozen? ⟨w.heap.size + 1, 0, none⟩ = false := (hf1 _ _ (by first | omega | (simp <;> omega))).trans (by first | (simp [go_sem, *]; done) | rfl)
  have r1_1 : w1.frozen? ⟨w.heap.size + 1, 1, none⟩ = false := (hf1 _ _ (by first | omega | (simp <;> omega))).trans (by first | (simp [go_sem, *]; done) | rfl)
  clear hb1 hc1 hf1 hz1 
  rw [H1.out]
  have x1 : ¬ (w.heap.size + 1 = w1.heap.size) := by omega
  have x2 : ¬ (w1.heap.size = w.heap.size + 1) := by omega
  have x3 : w.heap.size + 1 < w1.heap.size + 1 := by omega
  have x4 : w.heap.size + 1 < w1.heap.size + 1 + 1 := by omega
  by_cases hE : e1 = 0
  · have R3 := Lib.hid (R1.out hE)
    subst hE
    clear R0 R1
    go_wp2_with fail
    go_region_held3 (fun w' => w'.cell? ⟨w1.heap.size, 0, none⟩ = some (.int .i64 p1) ∧ w'.cell? ⟨w1.heap.size, 1, none⟩ = some (.int .i64 q1)) (first | (simp [go_sem, *]; done))
      (first | (go_at_call 22; refine (one_any _).mono ?_; rintro e w' ⟨rfl, rfl⟩) | (go_at_call 39; refine (rsub_any _ _ _ _ _).mono ?_; rintro e wS ⟨rfl, hbS⟩; rw [H2.out]; obtain ⟨hcS, hfS⟩ := bcell hbS; have zS := hbS.size; (try simp at zS); have u5_0 : wS.cell? ⟨w.heap.size + 1, 0, none⟩ = some (.int .i64 0) := (hcS _ _ (by first | omega | (simp <;> omega))).trans (by simp [go_sem, *]); have u7_0 : wS.frozen? ⟨w.heap.size + 1, 0, none⟩ = false := (hfS _ _ (by first | omega | (simp <;> omega))).trans (by simp [go_sem, *]); have u5_1 : wS.cell? ⟨w.heap.size + 1, 1, none⟩ = some (.int .i64 0) := (hcS _ _ (by first | omega | (simp <;> omega))).trans (by simp [go_sem, *]); have u7_1 : wS.frozen? ⟨w.heap.size + 1, 1, none⟩ = false := (hfS _ _ (by first | omega | (simp <;> omega))).trans (by simp [go_sem, *]); have u9_0 : wS.cell? ⟨w1.heap.size, 0, none⟩ = some (.int .i64 p1) := (hcS _ _ (by first | omega | (simp <;> omega))).trans (by simp [go_sem, *]); have u9_1 : wS.cell? ⟨w1.heap.size, 1, none⟩ = some (.int .i64 q1) := (hcS _ _ (by first | omega | (simp <;> omega))).trans (by simp [go_sem, *]); have bwS : Below w.heap.size w wS := Below.trans (by repeat (first | exact hw1 | refine Below.drew ?_ | refine bdrewS ?_ _ | refine Below.setCell ?_ (by first | omega | (simp <;> omega)) _ | refine Below.alloc ?_ (by first | omega | (simp <;> omega)) _)) (hbS.mono (by first | omega | (simp <;> omega)))))
    go_wp2
    exact bodyPost_ret (v := .tuple #[iv p2 q2, .int .i64 e2]) (by simp [results, Try.results19, go_sem, *]) rfl ⟨by rw [R3.out], by repeat (first | exact bwS | refine Below.drew ?_ | refine bdrewS ?_ _ | refine Below.setCell ?_ (by first | omega | (simp <;> omega)) _ | refine Below.alloc ?_ (by first | omega | (simp <;> omega)) _)⟩
  · have hE' : (e1 == 0) = false := by simpa using hE
    have R3 := Lib.hid (R0.out hE)
    clear R0 R1
    go_wp2_with fail
    exact bodyPost_ret (v := .tuple #[iv 0 0, .int .i64 e1]) (by simp [results, Try.results19, go_sem, *]) rfl ⟨by rw [R3.out], by repeat (first | exact hw1 | refine Below.drew ?_ | refine bdrewS ?_ _ | refine Below.setCell ?_ (by first | omega | (simp <;> omega)) _ | refine Below.alloc ?_ (by first | omega | (simp <;> omega)) _)⟩
end Go.Proofs.Ytognaejbpioihaa.Iv
