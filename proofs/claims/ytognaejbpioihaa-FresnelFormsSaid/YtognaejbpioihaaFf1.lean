/- FresnelForms: validity, both polarizations, reflectance and transmittance are what the reference says. -/
import Derived.Test.YtognaejbpioihaaRr2
import Derived.Test.YtognaejbpioihaaFr5
namespace Go.Proofs.Ytognaejbpioihaa.Iv
open Go.RowKit

set_option maxRecDepth 100000 in
set_option maxHeartbeats 8000000 in
theorem forms_any (s : Sf) (w : World) :
    Calls Try.prog 3 #[sv s] w fun e w' => e = .returned (.bool true) ∧ Below w.heap.size w w' := by
  obtain ⟨⟨p1, q1, e1⟩, h1⟩ : ∃ r : R, perpR s = r := ⟨_, rfl⟩
  have H1 := Lib.hid (show retR (perpR s) = .returned (.tuple #[iv p1 q1, .int .i64 e1]) from by rw [h1])
  clear h1
  obtain ⟨⟨p2, q2, e2⟩, h2⟩ : ∃ r : R, parR s = r := ⟨_, rfl⟩
  have H2 := Lib.hid (show retR (parR s) = .returned (.tuple #[iv p2 q2, .int .i64 e2]) from by rw [h2])
  clear h2
  obtain ⟨⟨p3, q3, e3⟩, h3⟩ : ∃ r : R, reflR s = r := ⟨_, rfl⟩
  have H3 := Lib.hid (show retR (reflR s) = .returned (.tuple #[iv p3 q3, .int .i64 e3]) from by rw [h3])
  clear h3
  obtain ⟨⟨p4, q4, e4⟩, h4⟩ : ∃ r : R, transR s = r := ⟨_, rfl⟩
  have H4 := Lib.hid (show retR (transR s) = .returned (.tuple #[iv p4 q4, .int .i64 e4]) from by rw [h4])
  clear h4
  obtain ⟨V, hV⟩ : ∃ V, sfB s = V := ⟨_, rfl⟩
  have HV := Lib.hid hV
  clear hV
  go_enter Try.func3, Try.ntmps3
  go_wp2_with fail
  refine (awake_any _).mono ?_
  rintro e w1 ⟨rfl, hb1⟩
  obtain ⟨hc1, hf1⟩ := bcell hb1
  have hz1 := hb1.size
  try simp at hz1
  have hw1 : Below w.heap.size w w1 := Below.trans (by repeat (first | exact Below.refl _ _ | refine Below.drew ?_ | refine bdrewS ?_ _ | refine Below.setCell ?_ (by first | omega | (simp <;> omega)) _ | refine Below.alloc ?_ (by first | omega | (simp <;> omega)) _)) (hb1.mono (by first | omega | (simp <;> omega)))
  have hy1 := hw1.size
  have d1_0_0 : w1.cell? ⟨w.heap.size, 0, none⟩ = some (.int .i64 s.bl) := (hc1 _ _ (by first | omega | (simp <;> omega))).trans (by first | (simp [go_sem, *]; done) | rfl)
  have d1_0_1 : w1.cell? ⟨w.heap.size, 1, none⟩ = some (.int .i64 s.bh) := (hc1 _ _ (by first | omega | (simp <;> omega))).trans (by first | (simp [go_sem, *]; done) | rfl)
  have d1_0_2 : w1.cell? ⟨w.heap.size, 2, none⟩ = some (.int .i64 s.al) := (hc1 _ _ (by first | omega | (simp <;> omega))).trans (by first | (simp [go_sem, *]; done) | rfl)
  have d1_0_3 : w1.cell? ⟨w.heap.size, 3, none⟩ = some (.int .i64 s.ah) := (hc1 _ _ (by first | omega | (simp <;> omega))).trans (by first | (simp [go_sem, *]; done) | rfl)
  have d1_0_4 : w1.cell? ⟨w.heap.size, 4, none⟩ = some (.int .i64 s.fl) := (hc1 _ _ (by first | omega | (simp <;> omega))).trans (by first | (simp [go_sem, *]; done) | rfl)
  have d1_0_5 : w1.cell? ⟨w.heap.size, 5, none⟩ = some (.int .i64 s.fh) := (hc1 _ _ (by first | omega | (simp <;> omega))).trans (by first | (simp [go_sem, *]; done) | rfl)
  have d1_0_6 : w1.cell? ⟨w.heap.size, 6, none⟩ = some (.int .i64 s.tl) := (hc1 _ _ (by first | omega | (simp <;> omega))).trans (by first | (simp [go_sem, *]; done) | rfl)
  have d1_0_7 : w1.cell? ⟨w.heap.size, 7, none⟩ = some (.int .i64 s.th) := (hc1 _ _ (by first | omega | (simp <;> omega))).trans (by first | (simp [go_sem, *]; done) | rfl)
  have l1_0 : w.heap.size < w1.heap.size := by omega
  have hm1_0 : w.heap.size < w1.heap.size := by omega
  have hm1_1 : w.heap.size < w1.heap.size + 1 := by omega
  have hm1_2 : w.heap.size < w1.heap.size + 1 + 1 := by omega
  clear hb1 hc1 hf1 hz1 
  have L1_0 : w.heap.size < w1.heap.size := by omega
  have M1_0 : ¬ (w.heap.size = w1.heap.size) := by omega
  have N1_0 : ¬ (w1.heap.size = w.heap.size) := by omega
  go_wp2_with fail
  refine (perp_any s _).mono ?_
  rintro e w2 ⟨rfl, hb2⟩
  obtain ⟨hc2, hf2⟩ := bcell hb2
  have hz2 := hb2.size
  try simp at hz2
  have hw2 : Below w.heap.size w w2 := Below.trans (by repeat (first | exact hw1 | refine Below.drew ?_ | refine bdrewS ?_ _ | refine Below.setCell ?_ (by first | omega | (simp <;> omega)) _ | refine Below.alloc ?_ (by first | omega | (simp <;> omega)) _)) (hb2.mono (by first | omega | (simp <;> omega)))
  have hy2 := hw2.size
  have d2_0_0 : w2.cell? ⟨w.heap.size, 0, none⟩ = some (.int .i64 s.bl) := (hc2 _ _ (by first | omega | (simp <;> omega))).trans (by first | (simp [go_sem, *]; done) | rfl)
  have d2_0_1 : w2.cell? ⟨w.heap.size, 1, none⟩ = some (.int .i64 s.bh) := (hc2 _ _ (by first | omega | (simp <;> omega))).trans (by first | (simp [go_sem, *]; done) | rfl)
  have d2_0_2 : w2.cell? ⟨w.heap.size, 2, none⟩ = some (.int .i64 s.al) := (hc2 _ _ (by first | omega | (simp <;> omega))).trans (by first | (simp [go_sem, *]; done) | rfl)
  have d2_0_3 : w2.cell? ⟨w.heap.size, 3, none⟩ = some (.int .i64 s.ah) := (hc2 _ _ (by first | omega | (simp <;> omega))).trans (by first | (simp [go_sem, *]; done) | rfl)
  have d2_0_4 : w2.cell? ⟨w.heap.size, 4, none⟩ = some (.int .i64 s.fl) := (hc2 _ _ (by first | omega | (simp <;> omega))).trans (by first | (simp [go_sem, *]; done) | rfl)
  have d2_0_5 : w2.cell? ⟨w.heap.size, 5, none⟩ = some (.int .i64 s.fh) := (hc2 _ _ (by first | omega | (simp <;> omega))).trans (by first | (simp [go_sem, *]; done) | rfl)
  have d2_0_6 : w2.cell? ⟨w.heap.size, 6, none⟩ = some (.int .i64 s.tl) := (hc2 _ _ (by first | omega | (simp <;> omega))).trans (by first | (simp [go_sem, *]; done) | rfl)
  have d2_0_7 : w2.cell? ⟨w.heap.size, 7, none⟩ = some (.int .i64 s.th) := (hc2 _ _ (by first | omega | (simp <;> omega))).trans (by first | (simp [go_sem, *]; done) | rfl)
  have d2_1_0 : w2.cell? ⟨w1.heap.size, 0, none⟩ = some (.int .i64 s.bl) := (hc2 _ _ (by first | omega | (simp <;> omega))).trans (by first | (simp [go_sem, *]; done) | rfl)
  have d2_1_1 : w2.cell? ⟨w1.heap.size, 1, none⟩ = some (.int .i64 s.bh) := (hc2 _ _ (by first | omega | (simp <;> omega))).trans (by first | (simp [go_sem, *]; done) | rfl)
  have d2_1_2 : w2.cell? ⟨w1.heap.size, 2, none⟩ = some (.int .i64 s.al) := (hc2 _ _ (by first | omega | (simp <;> omega))).trans (by first | (simp [go_sem, *]; done) | rfl)
  have d2_1_3 : w2.cell? ⟨w1.heap.size, 3, none⟩ = some (.int .i64 s.ah) := (hc2 _ _ (by first | omega | (simp <;> omega))).trans (by first | (simp [go_sem, *]; done) | rfl)
  have d2_1_4 : w2.cell? ⟨w1.heap.size, 4, none⟩ = some (.int .i64 s.fl) := (hc2 _ _ (by first | omega | (simp <;> omega))).trans (by first | (simp [go_sem, *]; done) | rfl)
  have d2_1_5 : w2.cell? ⟨w1.heap.size, 5, none⟩ = some (.int .i64 s.fh) := (hc2 _ _ (by first | omega | (simp <;> omega))).trans (by first | (simp [go_sem, *]; done) | rfl)
  have d2_1_6 : w2.cell? ⟨w1.heap.size, 6, none⟩ = some (.int .i64 s.tl) := (hc2 _ _ (by first | omega | (simp <;> omega))).trans (by first | (simp [go_sem, *]; done) | rfl)
  have d2_1_7 : w2.cell? ⟨w1.heap.size, 7, none⟩ = some (.int .i64 s.th) := (hc2 _ _ (by first | omega | (simp <;> omega))).trans (by first | (simp [go_sem, *]; done) | rfl)
  have l2_0 : w.heap.size < w2.heap.size := by omega
  have l2_1 : w1.heap.size < w2.heap.size := by omega
  have hm2_0 : w.heap.size < w2.heap.size := by omega
  have hm2_1 : w.heap.size < w2.heap.size + 1 := by omega
  have hm2_2 : w.heap.size < w2.heap.size + 1 + 1 := by omega
  have hm2_3 : w1.heap.size < w2.heap.size := by omega
  have hm2_4 : w1.heap.size < w2.heap.size + 1 := by omega
  have hm2_5 : w1.heap.size < w2.heap.size + 1 + 1 := by omega
  clear hb2 hc2 hf2 hz2 d1_0_0 d1_0_1 d1_0_2 d1_0_3 d1_0_4 d1_0_5 d1_0_6 d1_0_7 l1_0 hm1_0 hm1_1 hm1_2
  rw [H1.out]
  have L2_0 : w.heap.size < w2.heap.size := by omega
  have M2_0 : ¬ (w.heap.size = w2.heap.size) := by omega
  have N2_0 : ¬ (w2.heap.size = w.heap.size) := by omega
  have L2_1 : w1.heap.size < w2.heap.size := by omega
  have M2_1 : ¬ (w1.heap.size = w2.heap.size) := by omega
  have N2_1 : ¬ (w2.heap.size = w1.heap.size) := by omega
  go_wp2_with fail
  refine (rperp_any s _).mono ?_
  rintro e w3 ⟨rfl, hb3⟩
  obtain ⟨hc3, hf3⟩ := bcell hb3
  have hz3 := hb3.size
  try simp at hz3
  have hw3 : Below w.heap.size w w3 := Below.trans (by repeat (first | exact hw2 | refine Below.drew ?_ | refine bdrewS ?_ _ | refine Below.setCell ?_ (by first | omega | (simp <;> omega)) _ | refine Below.alloc ?_ (by first | omega | (simp <;> omega)) _)) (hb3.mono (by first | omega | (simp <;> omega)))
  have hy3 := hw3.size
  have d3_0_0 : w3.cell? ⟨w.heap.size, 0, none⟩ = some (.int .i64 s.bl) := (hc3 _ _ (by first | omega | (simp <;> omega))).trans (by first | (simp [go_sem, *]; done) | rfl)
  have d3_0_1 : w3.cell? ⟨w.heap.size, 1, none⟩ = some (.int .i64 s.bh) := (hc3 _ _ (by first | omega | (simp <;> omega))).trans (by first | (simp [go_sem, *]; done) | rfl)
  have d3_0_2 : w3.cell? ⟨w.heap.size, 2, none⟩ = some (.int .i64 s.al) := (hc3 _ _ (by first | omega | (simp <;> omega))).trans (by first | (simp [go_sem, *]; done) | rfl)
  have d3_0_3 : w3.cell? ⟨w.heap.size, 3, none⟩ = some (.int .i64 s.ah) := (hc3 _ _ (by first | omega | (simp <;> omega))).trans (by first | (simp [go_sem, *]; done) | rfl)
  have d3_0_4 : w3.cell? ⟨w.heap.size, 4, none⟩ = some (.int .i64 s.fl) := (hc3 _ _ (by first | omega | (simp <;> omega))).trans (by first | (simp [go_sem, *]; done) | rfl)
  have d3_0_5 : w3.cell? ⟨w.heap.size, 5, none⟩ = some (.int .i64 s.fh) := (hc3 _ _ (by first | omega | (simp <;> omega))).trans (by first | (simp [go_sem, *]; done) | rfl)
  have d3_0_6 : w3.cell? ⟨w.heap.size, 6, none⟩ = some (.int .i64 s.tl) := (hc3 _ _ (by first | omega | (simp <;> omega))).trans (by first | (simp [go_sem, *]; done) | rfl)
  have d3_0_7 : w3.cell? ⟨w.heap.size, 7, none⟩ = some (.int .i64 s.th) := (hc3 _ _ (by first | omega | (simp <;> omega))).trans (by first | (simp [go_sem, *]; done) | rfl)
  have d3_1_0 : w3.cell? ⟨w1.heap.size, 0, none⟩ = some (.int .i64 s.bl) := (hc3 _ _ (by first | omega | (simp <;> omega))).trans (by first | (simp [go_sem, *]; done) | rfl)
  have d3_1_1 : w3.cell? ⟨w1.heap.size, 1, none⟩ = some (.int .i64 s.bh) := (hc3 _ _ (by first | omega | (simp <;> omega))).trans (by first | (simp [go_sem, *]; done) | rfl)
  have d3_1_2 : w3.cell? ⟨w1.heap.size, 2, none⟩ = some (.int .i64 s.al) := (hc3 _ _ (by first | omega | (simp <;> omega))).trans (by first | (simp [go_sem, *]; done) | rfl)
  have d3_1_3 : w3.cell? ⟨w1.heap.size, 3, none⟩ = some (.int .i64 s.ah) := (hc3 _ _ (by first | omega | (simp <;> omega))).trans (by first | (simp [go_sem, *]; done) | rfl)
  have d3_1_4 : w3.cell? ⟨w1.heap.size, 4, none⟩ = some (.int .i64 s.fl) := (hc3 _ _ (by first | omega | (simp <;> omega))).trans (by first | (simp [go_sem, *]; done) | rfl)
  have d3_1_5 : w3.cell? ⟨w1.heap.size, 5, none⟩ = some (.int .i64 s.fh) := (hc3 _ _ (by first | omega | (simp <;> omega))).trans (by first | (simp [go_sem, *]; done) | rfl)
  have d3_1_6 : w3.cell? ⟨w1.heap.size, 6, none⟩ = some (.int .i64 s.tl) := (hc3 _ _ (by first | omega | (simp <;> omega))).trans (by first | (simp [go_sem, *]; done) | rfl)
  have d3_1_7 : w3.cell? ⟨w1.heap.size, 7, none⟩ = some (.int .i64 s.th) := (hc3 _ _ (by first | omega | (simp <;> omega))).trans (by first | (simp [go_sem, *]; done) | rfl)
  have d3_2_0 : w3.cell? ⟨w2.heap.size, 0, none⟩ = some (.int .i64 p1) := (hc3 _ _ (by first | omega | (simp <;> omega))).trans (by first | (simp [go_sem, *]; done) | rfl)
  have d3_2_1 : w3.cell? ⟨w2.heap.size, 1, none⟩ = some (.int .i64 q1) := (hc3 _ _ (by first | omega | (simp <;> omega))).trans (by first | (simp [go_sem, *]; done) | rfl)
  have l3_0 : w.heap.size < w3.heap.size := by omega
  have l3_1 : w1.heap.size < w3.heap.size := by omega
  have l3_2 : w2.heap.size < w3.heap.size := by omega
  have hm3_0 : w.heap.size < w3.heap.size := by omega
  have hm3_1 : w.heap.size < w3.heap.size + 1 := by omega
  have hm3_2 : w.heap.size < w3.heap.size + 1 + 1 := by omega
  have hm3_3 : w1.heap.size < w3.heap.size := by omega
  have hm3_4 : w1.heap.size < w3.heap.size + 1 := by omega
  have hm3_5 : w1.heap.size < w3.heap.size + 1 + 1 := by omega
  have hm3_6 : w2.heap.size < w3.heap.size := by omega
  have hm3_7 : w2.heap.size < w3.heap.size + 1 := by omega
  have hm3_8 : w2.heap.size < w3.heap.size + 1 + 1 := by omega
  have r3_2_0 : w3.frozen? ⟨w2.heap.size, 0, none⟩ = false := (hf3 _ _ (by first | omega | (simp <;> omega))).trans (by first | (simp [go_sem, *]; done) | rfl)
  have r3_2_1 : w3.frozen? ⟨w2.heap.size, 1, none⟩ = false := (hf3 _ _ (by first | omega | (simp <;> omega))).trans (by first | (simp [go_sem, *]; done) | rfl)
  clear hb3 hc3 hf3 hz3 d2_0_0 d2_0_1 d2_0_2 d2_0_3 d2_0_4 d2_0_5 d2_0_6 d2_0_7 d2_1_0 d2_1_1 d2_1_2 d2_1_3 d2_1_4 d2_1_5 d2_1_6 d2_1_7 l2_0 l2_1 hm2_0 hm2_1 hm2_2 hm2_3 hm2_4 hm2_5
  rw [H1.out]
  have L3_0 : w.heap.size < w3.heap.size := by omega
  have M3_0 : ¬ (w.heap.size = w3.heap.size) := by omega
  have N3_0 : ¬ (w3.heap.size = w.heap.size) := by omega
  have L3_1 : w1.heap.size < w3.heap.size := by omega
  have M3_1 : ¬ (w1.heap.size = w3.heap.size) := by omega
  have N3_1 : ¬ (w3.heap.size = w1.heap.size) := by omega
  have L3_2 : w2.heap.size < w3.heap.size := by omega
  have M3_2 : ¬ (w2.heap.size = w3.heap.size) := by omega
  have N3_2 : ¬ (w3.heap.size = w2.heap.size) := by omega
  go_wp2_with fail
  refine (par_any s _).mono ?_
  rintro e w4 ⟨rfl, hb4⟩
  obtain ⟨hc4, hf4⟩ := bcell hb4
  have hz4 := hb4.size
  try simp at hz4
  have hw4 : Below w.heap.size w w4 := Below.trans (by repeat (first | exact hw3 | refine Below.drew ?_ | refine bdrewS ?_ _ | refine Below.setCell ?_ (by first | omega | (simp <;> omega)) _ | refine Below.alloc ?_ (by first | omega | (simp <;> omega)) _)) (hb4.mono (by first | omega | (simp <;> omega)))
  have hy4 := hw4.size
  have d4_0_0 : w4.cell? ⟨w.heap.size, 0, none⟩ = some (.int .i64 s.bl) := (hc4 _ _ (by first | omega | (simp <;> omega))).trans (by first | (simp [go_sem, *]; done) | rfl)
  have d4_0_1 : w4.cell? ⟨w.heap.size, 1, none⟩ = some (.int .i64 s.bh) := (hc4 _ _ (by first | omega | (simp <;> omega))).trans (by first | (simp [go_sem, *]; done) | rfl)
  have d4_0_2 : w4.cell? ⟨w.heap.size, 2, none⟩ = some (.int .i64 s.al) := (hc4 _ _ (by first | omega | (simp <;> omega))).trans (by first | (simp [go_sem, *]; done) | rfl)
  have d4_0_3 : w4.cell? ⟨w.heap.size, 3, none⟩ = some (.int .i64 s.ah) := (hc4 _ _ (by first | omega | (simp <;> omega))).trans (by first | (simp [go_sem, *]; done) | rfl)
  have d4_0_4 : w4.cell? ⟨w.heap.size, 4, none⟩ = some (.int .i64 s.fl) := (hc4 _ _ (by first | omega | (simp <;> omega))).trans (by first | (simp [go_sem, *]; done) | rfl)
  have d4_0_5 : w4.cell? ⟨w.heap.size, 5, none⟩ = some (.int .i64 s.fh) := (hc4 _ _ (by first | omega | (simp <;> omega))).trans (by first | (simp [go_sem, *]; done) | rfl)
  have d4_0_6 : w4.cell? ⟨w.heap.size, 6, none⟩ = some (.int .i64 s.tl) := (hc4 _ _ (by first | omega | (simp <;> omega))).trans (by first | (simp [go_sem, *]; done) | rfl)
  have d4_0_7 : w4.cell? ⟨w.heap.size, 7, none⟩ = some (.int .i64 s.th) := (hc4 _ _ (by first | omega | (simp <;> omega))).trans (by first | (simp [go_sem, *]; done) | rfl)
  have d4_1_0 : w4.cell? ⟨w1.heap.size, 0, none⟩ = some (.int .i64 s.bl) := (hc4 _ _ (by first | omega | (simp <;> omega))).trans (by first | (simp [go_sem, *]; done) | rfl)
  have d4_1_1 : w4.cell? ⟨w1.heap.size, 1, none⟩ = some (.int .i64 s.bh) := (hc4 _ _ (by first | omega | (simp <;> omega))).trans (by first | (simp [go_sem, *]; done) | rfl)
  have d4_1_2 : w4.cell? ⟨w1.heap.size, 2, none⟩ = some (.int .i64 s.al) := (hc4 _ _ (by first | omega | (simp <;> omega))).trans (by first | (simp [go_sem, *]; done) | rfl)
  have d4_1_3 : w4.cell? ⟨w1.heap.size, 3, none⟩ = some (.int .i64 s.ah) := (hc4 _ _ (by first | omega | (simp <;> omega))).trans (by first | (simp [go_sem, *]; done) | rfl)
  have d4_1_4 : w4.cell? ⟨w1.heap.size, 4, none⟩ = some (.int .i64 s.fl) := (hc4 _ _ (by first | omega | (simp <;> omega))).trans (by first | (simp [go_sem, *]; done) | rfl)
  have d4_1_5 : w4.cell? ⟨w1.heap.size, 5, none⟩ = some (.int .i64 s.fh) := (hc4 _ _ (by first | omega | (simp <;> omega))).trans (by first | (simp [go_sem, *]; done) | rfl)
  have d4_1_6 : w4.cell? ⟨w1.heap.size, 6, none⟩ = some (.int .i64 s.tl) := (hc4 _ _ (by first | omega | (simp <;> omega))).trans (by first | (simp [go_sem, *]; done) | rfl)
  have d4_1_7 : w4.cell? ⟨w1.heap.size, 7, none⟩ = some (.int .i64 s.th) := (hc4 _ _ (by first | omega | (simp <;> omega))).trans (by first | (simp [go_sem, *]; done) | rfl)
  have d4_2_0 : w4.cell? ⟨w2.heap.size, 0, none⟩ = some (.int .i64 p1) := (hc4 _ _ (by first | omega | (simp <;> omega))).trans (by first | (simp [go_sem, *]; done) | rfl)
  have d4_2_1 : w4.cell? ⟨w2.heap.size, 1, none⟩ = some (.int .i64 q1) := (hc4 _ _ (by first | omega | (simp <;> omega))).trans (by first | (simp [go_sem, *]; done) | rfl)
  have d4_3_0 : w4.cell? ⟨w3.heap.size, 0, none⟩ = some (.int .i64 p1) := (hc4 _ _ (by first | omega | (simp <;> omega))).trans (by first | (simp [go_sem, *]; done) | rfl)
  have d4_3_1 : w4.cell? ⟨w3.heap.size, 1, none⟩ = some (.int .i64 q1) := (hc4 _ _ (by first | omega | (simp <;> omega))).trans (by first | (simp [go_sem, *]; done) | rfl)
  have l4_0 : w.heap.size < w4.heap.size := by omega
  have l4_1 : w1.heap.size < w4.heap.size := by omega
  have l4_2 : w2.heap.size < w4.heap.size := by omega
  have l4_3 : w3.heap.size < w4.heap.size := by omega
  have hm4_0 : w.heap.size < w4.heap.size := by omega
  have hm4_1 : w.heap.size < w4.heap.size + 1 := by omega
  have hm4_2 : w.heap.size < w4.heap.size + 1 + 1 := by omega
  have hm4_3 : w1.heap.size < w4.heap.size := by omega
  have hm4_4 : w1.heap.size < w4.heap.size + 1 := by omega
  have hm4_5 : w1.heap.size < w4.heap.size + 1 + 1 := by omega
  have hm4_6 : w2.heap.size < w4.heap.size := by omega
  have hm4_7 : w2.heap.size < w4.heap.size + 1 := by omega
  have hm4_8 : w2.heap.size < w4.heap.size + 1 + 1 := by omega
  have hm4_9 : w3.heap.size < w4.heap.size := by omega
  have hm4_10 : w3.heap.size < w4.heap.size + 1 := by omega
  have hm4_11 : w3.heap.size < w4.heap.size + 1 + 1 := by omega
  have r4_2_0 : w4.frozen? ⟨w2.heap.size, 0, none⟩ = false := (hf4 _ _ (by first | omega | (simp <;> omega))).trans (by first | (simp [go_sem, *]; done) | rfl)
  have r4_2_1 : w4.frozen? ⟨w2.heap.size, 1, none⟩ = false := (hf4 _ _ (by first | omega | (simp <;> omega))).trans (by first | (simp [go_sem, *]; done) | rfl)
  have r4_3_0 : w4.frozen? ⟨w3.heap.size, 0, none⟩ = false := (hf4 _ _ (by first | omega | (simp <;> omega))).trans (by first | (simp [go_sem, *]; done) | rfl)
  have r4_3_1 : w4.frozen? ⟨w3.heap.size, 1, none⟩ = false := (hf4 _ _ (by first | omega | (simp <;> omega))).trans (by first | (simp [go_sem, *]; done) | rfl)
  clear hb4 hc4 hf4 hz4 d3_0_0 d3_0_1 d3_0_2 d3_0_3 d3_0_4 d3_0_5 d3_0_6 d3_0_7 d3_1_0 d3_1_1 d3_1_2 d3_1_3 d3_1_4 d3_1_5 d3_1_6 d3_1_7 d3_2_0 d3_2_1 l3_0 l3_1 l3_2 hm3_0 hm3_1 hm3_2 hm3_3 hm3_4 hm3_5 hm3_6 hm3_7 hm3_8 r3_2_0 r3_2_1
  rw [H2.out]
  have L4_0 : w.heap.size < w4.heap.size := by omega
  have M4_0 : ¬ (w.heap.size = w4.heap.size) := by omega
  have N4_0 : ¬ (w4.heap.size = w.heap.size) := by omega
  have L4_1 : w1.heap.size < w4.heap.size := by omega
  have M4_1 : ¬ (w1.heap.size = w4.heap.size) := by omega
  have N4_1 : ¬ (w4.heap.size = w1.heap.size) := by omega
  have L4_2 : w2.heap.size < w4.heap.size := by omega
  have M4_2 : ¬ (w2.heap.size = w4.heap.size) := by omega
  have N4_2 : ¬ (w4.heap.size = w2.heap.size) := by omega
  have L4_3 : w3.heap.size < w4.heap.size := by omega
  have M4_3 : ¬ (w3.heap.size = w4.heap.size) := by omega
  have N4_3 : ¬ (w4.heap.size = w3.heap.size) := by omega
  go_wp2_with fail
  refine (rpar_any s _).mono ?_
  rintro e w5 ⟨rfl, hb5⟩
  obtain ⟨hc5, hf5⟩ := bcell hb5
  have hz5 := hb5.size
  try simp at hz5
  have hw5 : Below w.heap.size w w5 := Below.trans (by repeat (first | exact hw4 | refine Below.drew ?_ | refine bdrewS ?_ _ | refine Below.setCell ?_ (by first | omega | (simp <;> omega)) _ | refine Below.alloc ?_ (by first | omega | (simp <;> omega)) _)) (hb5.mono (by first | omega | (simp <;> omega)))
  have hy5 := hw5.size
  have d5_0_0 : w5.cell? ⟨w.heap.size, 0, none⟩ = some (.int .i64 s.bl) := (hc5 _ _ (by first | omega | (simp <;> omega))).trans (by first | (simp [go_sem, *]; done) | rfl)
  have d5_0_1 : w5.cell? ⟨w.heap.size, 1, none⟩ = some (.int .i64 s.bh) := (hc5 _ _ (by first | omega | (simp <;> omega))).trans (by first | (simp [go_sem, *]; done) | rfl)
  have d5_0_2 : w5.cell? ⟨w.heap.size, 2, none⟩ = some (.int .i64 s.al) := (hc5 _ _ (by first | omega | (simp <;> omega))).trans (by first | (simp [go_sem, *]; done) | rfl)
  have d5_0_3 : w5.cell? ⟨w.heap.size, 3, none⟩ = some (.int .i64 s.ah) := (hc5 _ _ (by first | omega | (simp <;> omega))).trans (by first | (simp [go_sem, *]; done) | rfl)
  have d5_0_4 : w5.cell? ⟨w.heap.size, 4, none⟩ = some (.int .i64 s.fl) := (hc5 _ _ (by first | omega | (simp <;> omega))).trans (by first | (simp [go_sem, *]; done) | rfl)
  have d5_0_5 : w5.cell? ⟨w.heap.size, 5, none⟩ = some (.int .i64 s.fh) := (hc5 _ _ (by first | omega | (simp <;> omega))).trans (by first | (simp [go_sem, *]; done) | rfl)
  have d5_0_6 : w5.cell? ⟨w.heap.size, 6, none⟩ = some (.int .i64 s.tl) := (hc5 _ _ (by first | omega | (simp <;> omega))).trans (by first | (simp [go_sem, *]; done) | rfl)
  have d5_0_7 : w5.cell? ⟨w.heap.size, 7, none⟩ = some (.int .i64 s.th) := (hc5 _ _ (by first | omega | (simp <;> omega))).trans (by first | (simp [go_sem, *]; done) | rfl)
  have d5_1_0 : w5.cell? ⟨w1.heap.size, 0, none⟩ = some (.int .i64 s.bl) := (hc5 _ _ (by first | omega | (simp <;> omega))).trans (by first | (simp [go_sem, *]; done) | rfl)
  have d5_1_1 : w5.cell? ⟨w1.heap.size, 1, none⟩ = some (.int .i64 s.bh) := (hc5 _ _ (by first | omega | (simp <;> omega))).trans (by first | (simp [go_sem, *]; done) | rfl)
  have d5_1_2 : w5.cell? ⟨w1.heap.size, 2, none⟩ = some (.int .i64 s.al) := (hc5 _ _ (by first | omega | (simp <;> omega))).trans (by first | (simp [go_sem, *]; done) | rfl)
  have d5_1_3 : w5.cell? ⟨w1.heap.size, 3, none⟩ = some (.int .i64 s.ah) := (hc5 _ _ (by first | omega | (simp <;> omega))).trans (by first | (simp [go_sem, *]; done) | rfl)
  have d5_1_4 : w5.cell? ⟨w1.heap.size, 4, none⟩ = some (.int .i64 s.fl) := (hc5 _ _ (by first | omega | (simp <;> omega))).trans (by first | (simp [go_sem, *]; done) | rfl)
  have d5_1_5 : w5.cell? ⟨w1.heap.size, 5, none⟩ = some (.int .i64 s.fh) := (hc5 _ _ (by first | omega | (simp <;> omega))).trans (by first | (simp [go_sem, *]; done) | rfl)
  have d5_1_6 : w5.cell? ⟨w1.heap.size, 6, none⟩ = some (.int .i64 s.tl) := (hc5 _ _ (by first | omega | (simp <;> omega))).trans (by first | (simp [go_sem, *]; done) | rfl)
  have d5_1_7 : w5.cell? ⟨w1.heap.size, 7, none⟩ = some (.int .i64 s.th) := (hc5 _ _ (by first | omega | (simp <;> omega))).trans (by first | (simp [go_sem, *]; done) | rfl)
  have d5_2_0 : w5.cell? ⟨w2.heap.size, 0, none⟩ = some (.int .i64 p1) := (hc5 _ _ (by first | omega | (simp <;> omega))).trans (by first | (simp [go_sem, *]; done) | rfl)
  have d5_2_1 : w5.cell? ⟨w2.heap.size, 1, none⟩ = some (.int .i64 q1) := (hc5 _ _ (by first | omega | (simp <;> omega))).trans (by first | (simp [go_sem, *]; done) | rfl)
  have d5_3_0 : w5.cell? ⟨w3.heap.size, 0, none⟩ = some (.int .i64 p1) := (hc5 _ _ (by first | omega | (simp <;> omega))).trans (by first | (simp [go_sem, *]; done) | rfl)
  have d5_3_1 : w5.cell? ⟨w3.heap.size, 1, none⟩ = some (.int .i64 q1) := (hc5 _ _ (by first | omega | (simp <;> omega))).trans (by first | (simp [go_sem, *]; done) | rfl)
  have d5_4_0 : w5.cell? ⟨w4.heap.size, 0, none⟩ = some (.int .i64 p2) := (hc5 _ _ (by first | omega | (simp <;> omega))).trans (by first | (simp [go_sem, *]; done) | rfl)
  have d5_4_1 : w5.cell? ⟨w4.heap.size, 1, none⟩ = some (.int .i64 q2) := (hc5 _ _ (by first | omega | (simp <;> omega))).trans (by first | (simp [go_sem, *]; done) | rfl)
  have l5_0 : w.heap.size < w5.heap.size := by omega
  have l5_1 : w1.heap.size < w5.heap.size := by omega
  have l5_2 : w2.heap.size < w5.heap.size := by omega
  have l5_3 : w3.heap.size < w5.heap.size := by omega
  have l5_4 : w4.heap.size < w5.heap.size := by omega
  have hm5_0 : w.heap.size < w5.heap.size := by omega
  have hm5_1 : w.heap.size < w5.heap.size + 1 := by omega
  have hm5_2 : w.heap.size < w5.heap.size + 1 + 1 := by omega
  have hm5_3 : w1.heap.size < w5.heap.size := by omega
  have hm5_4 : w1.heap.size < w5.heap.size + 1 := by omega
  have hm5_5 : w1.heap.size < w5.heap.size + 1 + 1 := by omega
  have hm5_6 : w2.heap.size < w5.heap.size := by omega
  have hm5_7 : w2.heap.size < w5.heap.size + 1 := by omega
  have hm5_8 : w2.heap.size < w5.heap.size + 1 + 1 := by omega
  have hm5_9 : w3.heap.size < w5.heap.size := by omega
  have hm5_10 : w3.heap.size < w5.heap.size + 1 := by omega
  have hm5_11 : w3.heap.size < w5.heap.size + 1 + 1 := by omega
  have hm5_12 : w4.heap.size < w5.heap.size := by omega
  have hm5_13 : w4.heap.size < w5.heap.size + 1 := by omega
  have hm5_14 : w4.heap.size < w5.heap.size + 1 + 1 := by omega
  have r5_2_0 : w5.frozen? ⟨w2.heap.size, 0, none⟩ = false := (hf5 _ _ (by first | omega | (simp <;> omega))).trans (by first | (simp [go_sem, *]; done) | rfl)
  have r5_2_1 : w5.frozen? ⟨w2.heap.size, 1, none⟩ = false := (hf5 _ _ (by first | omega | (simp <;> omega))).trans (by first | (simp [go_sem, *]; done) | rfl)
  have r5_3_0 : w5.frozen? ⟨w3.heap.size, 0, none⟩ = false := (hf5 _ _ (by first | omega | (simp <;> omega))).trans (by first | (simp [go_sem, *]; done) | rfl)
  have r5_3_1 : w5.frozen? ⟨w3.heap.size, 1, none⟩ = false := (hf5 _ _ (by first | omega | (simp <;> omega))).trans (by first | (simp [go_sem, *]; done) | rfl)
  have r5_4_0 : w5.frozen? ⟨w4.heap.size, 0, none⟩ = false := (hf5 _ _ (by first | omega | (simp <;> omega))).trans (by first | (simp [go_sem, *]; done) | rfl)
  have r5_4_1 : w5.frozen? ⟨w4.heap.size, 1, none⟩ = false := (hf5 _ _ (by first | omega | (simp <;> omega))).trans (by first | (simp [go_sem, *]; done) | rfl)
  clear hb5 hc5 hf5 hz5 d4_0_0 d4_0_1 d4_0_2 d4_0_3 d4_0_4 d4_0_5 d4_0_6 d4_0_7 d4_1_0 d4_1_1 d4_1_2 d4_1_3 d4_1_4 d4_1_5 d4_1_6 d4_1_7 d4_2_0 d4_2_1 d4_3_0 d4_3_1 l4_0 l4_1 l4_2 l4_3 hm4_0 hm4_1 hm4_2 hm4_3 hm4_4 hm4_5 hm4_6 hm4_7 hm4_8 hm4_9 hm4_10 hm4_11 r4_2_0 r4_2_1 r4_3_0 r4_3_1
  rw [H2.out]
  have L5_0 : w.heap.size < w5.heap.size := by omega
  have M5_0 : ¬ (w.heap.size = w5.heap.size) := by omega
  have N5_0 : ¬ (w5.heap.size = w.heap.size) := by omega
  have L5_1 : w1.heap.size < w5.heap.size := by omega
  have M5_1 : ¬ (w1.heap.size = w5.heap.size) := by omega
  have N5_1 : ¬ (w5.heap.size = w1.heap.size) := by omega
  have L5_2 : w2.heap.size < w5.heap.size := by omega
  have M5_2 : ¬ (w2.heap.size = w5.heap.size) := by omega
  have N5_2 : ¬ (w5.heap.size = w2.heap.size) := by omega
  have L5_3 : w3.heap.size < w5.heap.size := by omega
  have M5_3 : ¬ (w3.heap.size = w5.heap.size) := by omega
  have N5_3 : ¬ (w5.heap.size = w3.heap.size) := by omega
  have L5_4 : w4.heap.size < w5.heap.size := by omega
  have M5_4 : ¬ (w4.heap.size = w5.heap.size) := by omega
  have N5_4 : ¬ (w5.heap.size = w4.heap.size) := by omega
  go_upto_region 8 with fail
  go_cut [59] from 35 to 58 (fun c wx => c = .bool false ∧ wx.cell? ⟨w5.heap.size, 0, none⟩ = some (.int .i64 p2) ∧ wx.cell? ⟨w5.heap.size, 1, none⟩ = some (.int .i64 q2) ∧ wx.frozen? ⟨w5.heap.size, 0, none⟩ = false ∧ wx.frozen? ⟨w5.heap.size, 1, none⟩ = false ∧ w5.heap.size < wx.heap.size ∧ Below w5.heap.size w5 wx)
  case first =>
    clear H3 H4
    go_region_held3 (fun w' => w'.cell? ⟨w.heap.size, 0, none⟩ = some (.int .i64 s.bl) ∧ w'.cell? ⟨w.heap.size, 1, none⟩ = some (.int .i64 s.bh) ∧ w'.cell? ⟨w.heap.size, 2, none⟩ = some (.int .i64 s.al) ∧ w'.cell? ⟨w.heap.size, 3, none⟩ = some (.int .i64 s.ah) ∧ w'.cell? ⟨w.heap.size, 4, none⟩ = some (.int .i64 s.fl) ∧ w'.cell? ⟨w.heap.size, 5, none⟩ = some (.int .i64 s.fh) ∧ w'.cell? ⟨w.heap.size, 6, none⟩ = some (.int .i64 s.tl) ∧ w'.cell? ⟨w.heap.size, 7, none⟩ = some (.int .i64 s.th) ∧ w'.cell? ⟨w1.heap.size, 0, none⟩ = some (.int .i64 s.bl) ∧ w'.cell? ⟨w1.heap.size, 1, none⟩ = some (.int .i64 s.bh) ∧ w'.cell? ⟨w1.heap.size, 2, none⟩ = some (.int .i64 s.al) ∧ w'.cell? ⟨w1.heap.size, 3, none⟩ = some (.int .i64 s.ah) ∧ w'.cell? ⟨w1.heap.size, 4, none⟩ = some (.int .i64 s.fl) ∧ w'.cell? ⟨w1.heap.size, 5, none⟩ = some (.int .i64 s.fh) ∧ w'.cell? ⟨w1.heap.size, 6, none⟩ = some (.int .i64 s.tl) ∧ w'.cell? ⟨w1.heap.size, 7, none⟩ = some (.int .i64 s.th) ∧ w'.cell? ⟨w2.heap.size, 0, none⟩ = some (.int .i64 p1) ∧ w'.cell? ⟨w2.heap.size, 1, none⟩ = some (.int .i64 q1) ∧ w'.cell? ⟨w3.heap.size, 0, none⟩ = some (.int .i64 p1) ∧ w'.cell? ⟨w3.heap.size, 1, none⟩ = some (.int .i64 q1) ∧ w'.cell? ⟨w4.heap.size, 0, none⟩ = some (.int .i64 p2) ∧ w'.cell? ⟨w4.heap.size, 1, none⟩ = some (.int .i64 q2) ∧ w'.cell? ⟨w5.heap.size, 0, none⟩ = some (.int .i64 p2) ∧ w'.cell? ⟨w5.heap.size, 1, none⟩ = some (.int .i64 q2)) (first | (simp [go_sem, *]; done))
      (first | (go_at_call 14; refine (sf_any s _).mono ?_; rintro e wX ⟨rfl, hbX⟩; rw [HV.out]; obtain ⟨hcX, hfX⟩ := bcell hbX; have zX := hbX.size; (try simp at zX); have dX_0_0 : wX.cell? ⟨w.heap.size, 0, none⟩ = some (.int .i64 s.bl) := (hcX _ _ (by first | omega | (simp <;> omega))).trans (by simp [go_sem, *]); have dX_0_1 : wX.cell? ⟨w.heap.size, 1, none⟩ = some (.int .i64 s.bh) := (hcX _ _ (by first | omega | (simp <;> omega))).trans (by simp [go_sem, *]); have dX_0_2 : wX.cell? ⟨w.heap.size, 2, none⟩ = some (.int .i64 s.al) := (hcX _ _ (by first | omega | (simp <;> omega))).trans (by simp [go_sem, *]); have dX_0_3 : wX.cell? ⟨w.heap.size, 3, none⟩ = some (.int .i64 s.ah) := (hcX _ _ (by first | omega | (simp <;> omega))).trans (by simp [go_sem, *]); have dX_0_4 : wX.cell? ⟨w.heap.size, 4, none⟩ = some (.int .i64 s.fl) := (hcX _ _ (by first | omega | (simp <;> omega))).trans (by simp [go_sem, *]); have dX_0_5 : wX.cell? ⟨w.heap.size, 5, none⟩ = some (.int .i64 s.fh) := (hcX _ _ (by first | omega | (simp <;> omega))).trans (by simp [go_sem, *]); have dX_0_6 : wX.cell? ⟨w.heap.size, 6, none⟩ = some (.int .i64 s.tl) := (hcX _ _ (by first | omega | (simp <;> omega))).trans (by simp [go_sem, *]); have dX_0_7 : wX.cell? ⟨w.heap.size, 7, none⟩ = some (.int .i64 s.th) := (hcX _ _ (by first | omega | (simp <;> omega))).trans (by simp [go_sem, *]); have dX_1_0 : wX.cell? ⟨w1.heap.size, 0, none⟩ = some (.int .i64 s.bl) := (hcX _ _ (by first | omega | (simp <;> omega))).trans (by simp [go_sem, *]); have dX_1_1 : wX.cell? ⟨w1.heap.size, 1, none⟩ = some (.int .i64 s.bh) := (hcX _ _ (by first | omega | (simp <;> omega))).trans (by simp [go_sem, *]); have dX_1_2 : wX.cell? ⟨w1.heap.size, 2, none⟩ = some (.int .i64 s.al) := (hcX _ _ (by first | omega | (simp <;> omega))).trans (by simp [go_sem, *]); have dX_1_3 : wX.cell? ⟨w1.heap.size, 3, none⟩ = some (.int .i64 s.ah) := (hcX _ _ (by first | omega | (simp <;> omega))).trans (by simp [go_sem, *]); have dX_1_4 : wX.cell? ⟨w1.heap.size, 4, none⟩ = some (.int .i64 s.fl) := (hcX _ _ (by first | omega | (simp <;> omega))).trans (by simp [go_sem, *]); have dX_1_5 : wX.cell? ⟨w1.heap.size, 5, none⟩ = some (.int .i64 s.fh) := (hcX _ _ (by first | omega | (simp <;> omega))).trans (by simp [go_sem, *]); have dX_1_6 : wX.cell? ⟨w1.heap.size, 6, none⟩ = some (.int .i64 s.tl) := (hcX _ _ (by first | omega | (simp <;> omega))).trans (by simp [go_sem, *]); have dX_1_7 : wX.cell? ⟨w1.heap.size, 7, none⟩ = some (.int .i64 s.th) := (hcX _ _ (by first | omega | (simp <;> omega))).trans (by simp [go_sem, *]); have dX_2_0 : wX.cell? ⟨w2.heap.size, 0, none⟩ = some (.int .i64 p1) := (hcX _ _ (by first | omega | (simp <;> omega))).trans (by simp [go_sem, *]); have dX_2_1 : wX.cell? ⟨w2.heap.size, 1, none⟩ = some (.int .i64 q1) := (hcX _ _ (by first | omega | (simp <;> omega))).trans (by simp [go_sem, *]); have dX_3_0 : wX.cell? ⟨w3.heap.size, 0, none⟩ = some (.int .i64 p1) := (hcX _ _ (by first | omega | (simp <;> omega))).trans (by simp [go_sem, *]); have dX_3_1 : wX.cell? ⟨w3.heap.size, 1, none⟩ = some (.int .i64 q1) := (hcX _ _ (by first | omega | (simp <;> omega))).trans (by simp [go_sem, *]); have dX_4_0 : wX.cell? ⟨w4.heap.size, 0, none⟩ = some (.int .i64 p2) := (hcX _ _ (by first | omega | (simp <;> omega))).trans (by simp [go_sem, *]); have dX_4_1 : wX.cell? ⟨w4.heap.size, 1, none⟩ = some (.int .i64 q2) := (hcX _ _ (by first | omega | (simp <;> omega))).trans (by simp [go_sem, *]); have dX_5_0 : wX.cell? ⟨w5.heap.size, 0, none⟩ = some (.int .i64 p2) := (hcX _ _ (by first | omega | (simp <;> omega))).trans (by simp [go_sem, *]); have dX_5_1 : wX.cell? ⟨w5.heap.size, 1, none⟩ = some (.int .i64 q2) := (hcX _ _ (by first | omega | (simp <;> omega))).trans (by simp [go_sem, *]); have rX_0 : wX.frozen? ⟨w5.heap.size, 0, none⟩ = false := (hfX _ _ (by first | omega | (simp <;> omega))).trans (by simp [go_sem, *]); have rX_1 : wX.frozen? ⟨w5.heap.size, 1, none⟩ = false := (hfX _ _ (by first | omega | (simp <;> omega))).trans (by simp [go_sem, *]); have lX : w5.heap.size < wX.heap.size := (by omega); have bwX : Below w5.heap.size w5 wX := Below.trans (by repeat (first | exact Below.refl _ _ | refine Below.drew ?_ | refine Below.alloc ?_ (by first | omega | (simp <;> omega)) _)) (hbX.mono (by first | omega | (simp <;> omega)))) | (go_at_call 15; refine (rsf_any s _).mono ?_; rintro e wY ⟨rfl, hbY⟩; rw [HV.out]; obtain ⟨hcY, hfY⟩ := bcell hbY; have zY := hbY.size; (try simp at zY); have dY_0_0 : wY.cell? ⟨w.heap.size, 0, none⟩ = some (.int .i64 s.bl) := (hcY _ _ (by first | omega | (simp <;> omega))).trans (by simp [go_sem, *]); have dY_0_1 : wY.cell? ⟨w.heap.size, 1, none⟩ = some (.int .i64 s.bh) := (hcY _ _ (by first | omega | (simp <;> omega))).trans (by simp [go_sem, *]); have dY_0_2 : wY.cell? ⟨w.heap.size, 2, none⟩ = some (.int .i64 s.al) := (hcY _ _ (by first | omega | (simp <;> omega))).trans (by simp [go_sem, *]); have dY_0_3 : wY.cell? ⟨w.heap.size, 3, none⟩ = some (.int .i64 s.ah) := (hcY _ _ (by first | omega | (simp <;> omega))).trans (by simp [go_sem, *]); have dY_0_4 : wY.cell? ⟨w.heap.size, 4, none⟩ = some (.int .i64 s.fl) := (hcY _ _ (by first | omega | (simp <;> omega))).trans (by simp [go_sem, *]); have dY_0_5 : wY.cell? ⟨w.heap.size, 5, none⟩ = some (.int .i64 s.fh) := (hcY _ _ (by first | omega | (simp <;> omega))).trans (by simp [go_sem, *]); have dY_0_6 : wY.cell? ⟨w.heap.size, 6, none⟩ = some (.int .i64 s.tl) := (hcY _ _ (by first | omega | (simp <;> omega))).trans (by simp [go_sem, *]); have dY_0_7 : wY.cell? ⟨w.heap.size, 7, none⟩ = some (.int .i64 s.th) := (hcY _ _ (by first | omega | (simp <;> omega))).trans (by simp [go_sem, *]); have dY_1_0 : wY.cell? ⟨w1.heap.size, 0, none⟩ = some (.int .i64 s.bl) := (hcY _ _ (by first | omega | (simp <;> omega))).trans (by simp [go_sem, *]); have dY_1_1 : wY.cell? ⟨w1.heap.size, 1, none⟩ = some (.int .i64 s.bh) := (hcY _ _ (by first | omega | (simp <;> omega))).trans (by simp [go_sem, *]); have dY_1_2 : wY.cell? ⟨w1.heap.size, 2, none⟩ = some (.int .i64 s.al) := (hcY _ _ (by first | omega | (simp <;> omega))).trans (by simp [go_sem, *]); have dY_1_3 : wY.cell? ⟨w1.heap.size, 3, none⟩ = some (.int .i64 s.ah) := (hcY _ _ (by first | omega | (simp <;> omega))).trans (by simp [go_sem, *]); have dY_1_4 : wY.cell? ⟨w1.heap.size, 4, none⟩ = some (.int .i64 s.fl) := (hcY _ _ (by first | omega | (simp <;> omega))).trans (by simp [go_sem, *]); have dY_1_5 : wY.cell? ⟨w1.heap.size, 5, none⟩ = some (.int .i64 s.fh) := (hcY _ _ (by first | omega | (simp <;> omega))).trans (by simp [go_sem, *]); have dY_1_6 : wY.cell? ⟨w1.heap.size, 6, none⟩ = some (.int .i64 s.tl) := (hcY _ _ (by first | omega | (simp <;> omega))).trans (by simp [go_sem, *]); have dY_1_7 : wY.cell? ⟨w1.heap.size, 7, none⟩ = some (.int .i64 s.th) := (hcY _ _ (by first | omega | (simp <;> omega))).trans (by simp [go_sem, *]); have dY_2_0 : wY.cell? ⟨w2.heap.size, 0, none⟩ = some (.int .i64 p1) := (hcY _ _ (by first | omega | (simp <;> omega))).trans (by simp [go_sem, *]); have dY_2_1 : wY.cell? ⟨w2.heap.size, 1, none⟩ = some (.int .i64 q1) := (hcY _ _ (by first | omega | (simp <;> omega))).trans (by simp [go_sem, *]); have dY_3_0 : wY.cell? ⟨w3.heap.size, 0, none⟩ = some (.int .i64 p1) := (hcY _ _ (by first | omega | (simp <;> omega))).trans (by simp [go_sem, *]); have dY_3_1 : wY.cell? ⟨w3.heap.size, 1, none⟩ = some (.int .i64 q1) := (hcY _ _ (by first | omega | (simp <;> omega))).trans (by simp [go_sem, *]); have dY_4_0 : wY.cell? ⟨w4.heap.size, 0, none⟩ = some (.int .i64 p2) := (hcY _ _ (by first | omega | (simp <;> omega))).trans (by simp [go_sem, *]); have dY_4_1 : wY.cell? ⟨w4.heap.size, 1, none⟩ = some (.int .i64 q2) := (hcY _ _ (by first | omega | (simp <;> omega))).trans (by simp [go_sem, *]); have dY_5_0 : wY.cell? ⟨w5.heap.size, 0, none⟩ = some (.int .i64 p2) := (hcY _ _ (by first | omega | (simp <;> omega))).trans (by simp [go_sem, *]); have dY_5_1 : wY.cell? ⟨w5.heap.size, 1, none⟩ = some (.int .i64 q2) := (hcY _ _ (by first | omega | (simp <;> omega))).trans (by simp [go_sem, *]); have rY_0 : wY.frozen? ⟨w5.heap.size, 0, none⟩ = false := (hfY _ _ (by first | omega | (simp <;> omega))).trans (by simp [go_sem, *]); have rY_1 : wY.frozen? ⟨w5.heap.size, 1, none⟩ = false := (hfY _ _ (by first | omega | (simp <;> omega))).trans (by simp [go_sem, *]); have lY : w5.heap.size < wY.heap.size := (by omega); have bwY : Below w5.heap.size w5 wY := Below.trans (by repeat (first | exact bwX | refine Below.drew ?_ | refine Below.alloc ?_ (by first | omega | (simp <;> omega)) _)) (hbY.mono (by first | omega | (simp <;> omega)))))
    all_goals (go_wp2_with fail; go_meet)
    all_goals (refine ⟨?_, ?_, ?_, ?_, ?_, ?_, ?_⟩)
    all_goals first
      | rfl
      | omega
      | assumption
      | (simp [go_sem, *]; done)
      | ((repeat (first | exact bwY | refine Below.drew ?_ | refine Below.alloc ?_ (by first | omega | (simp <;> omega)) _)); done)
  case rest =>
    obtain ⟨rfl, y1, y2, y3, y4, l6, hb6⟩ := hcut
    obtain ⟨w6, hwc⟩ : ∃ x, x = wc := ⟨_, rfl⟩
    rw [← hwc] at y1 y2 y3 y4 l6 hb6
    rw [← hwc]
    clear hwc
    obtain ⟨hc6, hf6⟩ := bcell hb6
    have hz6 := hb6.size
    have hw6 : Below w.heap.size w w6 := Below.trans hw5 (hb6.mono (by first | omega | (simp <;> omega)))
    have hy6 := hw6.size
    have d6_0_0 : w6.cell? ⟨w.heap.size, 0, none⟩ = some (.int .i64 s.bl) := (hc6 _ _ (by first | omega | (simp <;> omega))).trans (by first | (simp [go_sem, *]; done) | rfl)
    have d6_0_1 : w6.cell? ⟨w.heap.size, 1, none⟩ = some (.int .i64 s.bh) := (hc6 _ _ (by first | omega | (simp <;> omega))).trans (by first | (simp [go_sem, *]; done) | rfl)
    have d6_0_2 : w6.cell? ⟨w.heap.size, 2, none⟩ = some (.int .i64 s.al) := (hc6 _ _ (by first | omega | (simp <;> omega))).trans (by first | (simp [go_sem, *]; done) | rfl)
    have d6_0_3 : w6.cell? ⟨w.heap.size, 3, none⟩ = some (.int .i64 s.ah) := (hc6 _ _ (by first | omega | (simp <;> omega))).trans (by first | (simp [go_sem, *]; done) | rfl)
    have d6_0_4 : w6.cell? ⟨w.heap.size, 4, none⟩ = some (.int .i64 s.fl) := (hc6 _ _ (by first | omega | (simp <;> omega))).trans (by first | (simp [go_sem, *]; done) | rfl)
    have d6_0_5 : w6.cell? ⟨w.heap.size, 5, none⟩ = some (.int .i64 s.fh) := (hc6 _ _ (by first | omega | (simp <;> omega))).trans (by first | (simp [go_sem, *]; done) | rfl)
    have d6_0_6 : w6.cell? ⟨w.heap.size, 6, none⟩ = some (.int .i64 s.tl) := (hc6 _ _ (by first | omega | (simp <;> omega))).trans (by first | (simp [go_sem, *]; done) | rfl)
    have d6_0_7 : w6.cell? ⟨w.heap.size, 7, none⟩ = some (.int .i64 s.th) := (hc6 _ _ (by first | omega | (simp <;> omega))).trans (by first | (simp [go_sem, *]; done) | rfl)
    have d6_1_0 : w6.cell? ⟨w1.heap.size, 0, none⟩ = some (.int .i64 s.bl) := (hc6 _ _ (by first | omega | (simp <;> omega))).trans (by first | (simp [go_sem, *]; done) | rfl)
    have d6_1_1 : w6.cell? ⟨w1.heap.size, 1, none⟩ = some (.int .i64 s.bh) := (hc6 _ _ (by first | omega | (simp <;> omega))).trans (by first | (simp [go_sem, *]; done) | rfl)
    have d6_1_2 : w6.cell? ⟨w1.heap.size, 2, none⟩ = some (.int .i64 s.al) := (hc6 _ _ (by first | omega | (simp <;> omega))).trans (by first | (simp [go_sem, *]; done) | rfl)
    have d6_1_3 : w6.cell? ⟨w1.heap.size, 3, none⟩ = some (.int .i64 s.ah) := (hc6 _ _ (by first | omega | (simp <;> omega))).trans (by first | (simp [go_sem, *]; done) | rfl)
    have d6_1_4 : w6.cell? ⟨w1.heap.size, 4, none⟩ = some (.int .i64 s.fl) := (hc6 _ _ (by first | omega | (simp <;> omega))).trans (by first | (simp [go_sem, *]; done) | rfl)
    have d6_1_5 : w6.cell? ⟨w1.heap.size, 5, none⟩ = some (.int .i64 s.fh) := (hc6 _ _ (by first | omega | (simp <;> omega))).trans (by first | (simp [go_sem, *]; done) | rfl)
    have d6_1_6 : w6.cell? ⟨w1.heap.size, 6, none⟩ = some (.int .i64 s.tl) := (hc6 _ _ (by first | omega | (simp <;> omega))).trans (by first | (simp [go_sem, *]; done) | rfl)
    have d6_1_7 : w6.cell? ⟨w1.heap.size, 7, none⟩ = some (.int .i64 s.th) := (hc6 _ _ (by first | omega | (simp <;> omega))).trans (by first | (simp [go_sem, *]; done) | rfl)
    have d6_2_0 : w6.cell? ⟨w2.heap.size, 0, none⟩ = some (.int .i64 p1) := (hc6 _ _ (by first | omega | (simp <;> omega))).trans (by first | (simp [go_sem, *]; done) | rfl)
    have d6_2_1 : w6.cell? ⟨w2.heap.size, 1, none⟩ = some (.int .i64 q1) := (hc6 _ _ (by first | omega | (simp <;> omega))).trans (by first | (simp [go_sem, *]; done) | rfl)
    have d6_3_0 : w6.cell? ⟨w3.heap.size, 0, none⟩ = some (.int .i64 p1) := (hc6 _ _ (by first | omega | (simp <;> omega))).trans (by first | (simp [go_sem, *]; done) | rfl)
    have d6_3_1 : w6.cell? ⟨w3.heap.size, 1, none⟩ = some (.int .i64 q1) := (hc6 _ _ (by first | omega | (simp <;> omega))).trans (by first | (simp [go_sem, *]; done) | rfl)
    have d6_4_0 : w6.cell? ⟨w4.heap.size, 0, none⟩ = some (.int .i64 p2) := (hc6 _ _ (by first | omega | (simp <;> omega))).trans (by first | (simp [go_sem, *]; done) | rfl)
    have d6_4_1 : w6.cell? ⟨w4.heap.size, 1, none⟩ = some (.int .i64 q2) := (hc6 _ _ (by first | omega | (simp <;> omega))).trans (by first | (simp [go_sem, *]; done) | rfl)
    have l6_0 : w.heap.size < w6.heap.size := by omega
    have l6_1 : w1.heap.size < w6.heap.size := by omega
    have l6_2 : w2.heap.size < w6.heap.size := by omega
    have l6_3 : w3.heap.size < w6.heap.size := by omega
    have l6_4 : w4.heap.size < w6.heap.size := by omega
    have hm6_0 : w.heap.size < w6.heap.size := by omega
    have hm6_1 : w.heap.size < w6.heap.size + 1 := by omega
    have hm6_2 : w.heap.size < w6.heap.size + 1 + 1 := by omega
    have hm6_3 : w1.heap.size < w6.heap.size := by omega
    have hm6_4 : w1.heap.size < w6.heap.size + 1 := by omega
    have hm6_5 : w1.heap.size < w6.heap.size + 1 + 1 := by omega
    have hm6_6 : w2.heap.size < w6.heap.size := by omega
    have hm6_7 : w2.heap.size < w6.heap.size + 1 := by omega
    have hm6_8 : w2.heap.size < w6.heap.size + 1 + 1 := by omega
    have hm6_9 : w3.heap.size < w6.heap.size := by omega
    have hm6_10 : w3.heap.size < w6.heap.size + 1 := by omega
    have hm6_11 : w3.heap.size < w6.heap.size + 1 + 1 := by omega
    have hm6_12 : w4.heap.size < w6.heap.size := by omega
    have hm6_13 : w4.heap.size < w6.heap.size + 1 := by omega
    have hm6_14 : w4.heap.size < w6.heap.size + 1 + 1 := by omega
    have r6_2_0 : w6.frozen? ⟨w2.heap.size, 0, none⟩ = false := (hf6 _ _ (by first | omega | (simp <;> omega))).trans (by first | (simp [go_sem, *]; done) | rfl)
    have r6_2_1 : w6.frozen? ⟨w2.heap.size, 1, none⟩ = false := (hf6 _ _ (by first | omega | (simp <;> omega))).trans (by first | (simp [go_sem, *]; done) | rfl)
    have r6_3_0 : w6.frozen? ⟨w3.heap.size, 0, none⟩ = false := (hf6 _ _ (by first | omega | (simp <;> omega))).trans (by first | (simp [go_sem, *]; done) | rfl)
    have r6_3_1 : w6.frozen? ⟨w3.heap.size, 1, none⟩ = false := (hf6 _ _ (by first | omega | (simp <;> omega))).trans (by first | (simp [go_sem, *]; done) | rfl)
    have r6_4_0 : w6.frozen? ⟨w4.heap.size, 0, none⟩ = false := (hf6 _ _ (by first | omega | (simp <;> omega))).trans (by first | (simp [go_sem, *]; done) | rfl)
    have r6_4_1 : w6.frozen? ⟨w4.heap.size, 1, none⟩ = false := (hf6 _ _ (by first | omega | (simp <;> omega))).trans (by first | (simp [go_sem, *]; done) | rfl)
    clear hb6 hc6 hf6 hz6 d5_0_0 d5_0_1 d5_0_2 d5_0_3 d5_0_4 d5_0_5 d5_0_6 d5_0_7 d5_1_0 d5_1_1 d5_1_2 d5_1_3 d5_1_4 d5_1_5 d5_1_6 d5_1_7 d5_2_0 d5_2_1 d5_3_0 d5_3_1 d5_4_0 d5_4_1 l5_0 l5_1 l5_2 l5_3 l5_4 hm5_0 hm5_1 hm5_2 hm5_3 hm5_4 hm5_5 hm5_6 hm5_7 hm5_8 hm5_9 hm5_10 hm5_11 hm5_12 hm5_13 hm5_14 r5_2_0 r5_2_1 r5_3_0 r5_3_1 r5_4_0 r5_4_1
    go_wp2_with fail
    refine (refl_any s _).mono ?_
    rintro e w7 ⟨rfl, hb7⟩
    obtain ⟨hc7, hf7⟩ := bcell hb7
    have hz7 := hb7.size
    try simp at hz7
    have hw7 : Below w.heap.size w w7 := Below.trans (by repeat (first | exact hw6 | refine Below.drew ?_ | refine bdrewS ?_ _ | refine Below.setCell ?_ (by first | omega | (simp <;> omega)) _ | refine Below.alloc ?_ (by first | omega | (simp <;> omega)) _)) (hb7.mono (by first | omega | (simp <;> omega)))
    have hy7 := hw7.size
    have d7_0_0 : w7.cell? ⟨w.heap.size, 0, none⟩ = some (.int .i64 s.bl) := (hc7 _ _ (by first | omega | (simp <;> omega))).trans (by first | (simp [go_sem, *]; done) | rfl)
    have d7_0_1 : w7.cell? ⟨w.heap.size, 1, none⟩ = some (.int .i64 s.bh) := (hc7 _ _ (by first | omega | (simp <;> omega))).trans (by first | (simp [go_sem, *]; done) | rfl)
    have d7_0_2 : w7.cell? ⟨w.heap.size, 2, none⟩ = some (.int .i64 s.al) := (hc7 _ _ (by first | omega | (simp <;> omega))).trans (by first | (simp [go_sem, *]; done) | rfl)
    have d7_0_3 : w7.cell? ⟨w.heap.size, 3, none⟩ = some (.int .i64 s.ah) := (hc7 _ _ (by first | omega | (simp <;> omega))).trans (by first | (simp [go_sem, *]; done) | rfl)
    have d7_0_4 : w7.cell? ⟨w.heap.size, 4, none⟩ = some (.int .i64 s.fl) := (hc7 _ _ (by first | omega | (simp <;> omega))).trans (by first | (simp [go_sem, *]; done) | rfl)
    have d7_0_5 : w7.cell? ⟨w.heap.size, 5, none⟩ = some (.int .i64 s.fh) := (hc7 _ _ (by first | omega | (simp <;> omega))).trans (by first | (simp [go_sem, *]; done) | rfl)
    have d7_0_6 : w7.cell? ⟨w.heap.size, 6, none⟩ = some (.int .i64 s.tl) := (hc7 _ _ (by first | omega | (simp <;> omega))).trans (by first | (simp [go_sem, *]; done) | rfl)
    have d7_0_7 : w7.cell? ⟨w.heap.size, 7, none⟩ = some (.int .i64 s.th) := (hc7 _ _ (by first | omega | (simp <;> omega))).trans (by first | (simp [go_sem, *]; done) | rfl)
    have d7_1_0 : w7.cell? ⟨w1.heap.size, 0, none⟩ = some (.int .i64 s.bl) := (hc7 _ _ (by first | omega | (simp <;> omega))).trans (by first | (simp [go_sem, *]; done) | rfl)
    have d7_1_1 : w7.cell? ⟨w1.heap.size, 1, none⟩ = some (.int .i64 s.bh) := (hc7 _ _ (by first | omega | (simp <;> omega))).trans (by first | (simp [go_sem, *]; done) | rfl)
    have d7_1_2 : w7.cell? ⟨w1.heap.size, 2, none⟩ = some (.int .i64 s.al) := (hc7 _ _ (by first | omega | (simp <;> omega))).trans (by first | (simp [go_sem, *]; done) | rfl)
    have d7_1_3 : w7.cell? ⟨w1.heap.size, 3, none⟩ = some (.int .i64 s.ah) := (hc7 _ _ (by first | omega | (simp <;> omega))).trans (by first | (simp [go_sem, *]; done) | rfl)
    have d7_1_4 : w7.cell? ⟨w1.heap.size, 4, none⟩ = some (.int .i64 s.fl) := (hc7 _ _ (by first | omega | (simp <;> omega))).trans (by first | (simp [go_sem, *]; done) | rfl)
    have d7_1_5 : w7.cell? ⟨w1.heap.size, 5, none⟩ = some (.int .i64 s.fh) := (hc7 _ _ (by first | omega | (simp <;> omega))).trans (by first | (simp [go_sem, *]; done) | rfl)
    have d7_1_6 : w7.cell? ⟨w1.heap.size, 6, none⟩ = some (.int .i64 s.tl) := (hc7 _ _ (by first | omega | (simp <;> omega))).trans (by first | (simp [go_sem, *]; done) | rfl)
    have d7_1_7 : w7.cell? ⟨w1.heap.size, 7, none⟩ = some (.int .i64 s.th) := (hc7 _ _ (by first | omega | (simp <;> omega))).trans (by first | (simp [go_sem, *]; done) | rfl)
    have d7_2_0 : w7.cell? ⟨w2.heap.size, 0, none⟩ = some (.int .i64 p1) := (hc7 _ _ (by first | omega | (simp <;> omega))).trans (by first | (simp [go_sem, *]; done) | rfl)
    have d7_2_1 : w7.cell? ⟨w2.heap.size, 1, none⟩ = some (.int .i64 q1) := (hc7 _ _ (by first | omega | (simp <;> omega))).trans (by first | (simp [go_sem, *]; done) | rfl)
    have d7_3_0 : w7.cell? ⟨w3.heap.size, 0, none⟩ = some (.int .i64 p1) := (hc7 _ _ (by first | omega | (simp <;> omega))).trans (by first | (simp [go_sem, *]; done) | rfl)
    have d7_3_1 : w7.cell? ⟨w3.heap.size, 1, none⟩ = some (.int .i64 q1) := (hc7 _ _ (by first | omega | (simp <;> omega))).trans (by first | (simp [go_sem, *]; done) | rfl)
    have d7_4_0 : w7.cell? ⟨w4.heap.size, 0, none⟩ = some (.int .i64 p2) := (hc7 _ _ (by first | omega | (simp <;> omega))).trans (by first | (simp [go_sem, *]; done) | rfl)
    have d7_4_1 : w7.cell? ⟨w4.heap.size, 1, none⟩ = some (.int .i64 q2) := (hc7 _ _ (by first | omega | (simp <;> omega))).trans (by first | (simp [go_sem, *]; done) | rfl)
    have d7_5_0 : w7.cell? ⟨w5.heap.size, 0, none⟩ = some (.int .i64 p2) := (hc7 _ _ (by first | omega | (simp <;> omega))).trans (by first | (simp [go_sem, *]; done) | rfl)
    have d7_5_1 : w7.cell? ⟨w5.heap.size, 1, none⟩ = some (.int .i64 q2) := (hc7 _ _ (by first | omega | (simp <;> omega))).trans (by first | (simp [go_sem, *]; done) | rfl)
    have l7_0 : w.heap.size < w7.heap.size := by omega
    have l7_1 : w1.heap.size < w7.heap.size := by omega
    have l7_2 : w2.heap.size < w7.heap.size := by omega
    have l7_3 : w3.heap.size < w7.heap.size := by omega
    have l7_4 : w4.heap.size < w7.heap.size := by omega
    have l7_5 : w5.heap.size < w7.heap.size := by omega
    have hm7_0 : w.heap.size < w7.heap.size := by omega
    have hm7_1 : w.heap.size < w7.heap.size + 1 := by omega
    have hm7_2 : w.heap.size < w7.heap.size + 1 + 1 := by omega
    have hm7_3 : w1.heap.size < w7.heap.size := by omega
    have hm7_4 : w1.heap.size < w7.heap.size + 1 := by omega
    have hm7_5 : w1.heap.size < w7.heap.size + 1 + 1 := by omega
    have hm7_6 : w2.heap.size < w7.heap.size := by omega
    have hm7_7 : w2.heap.size < w7.heap.size + 1 := by omega
    have hm7_8 : w2.heap.size < w7.heap.size + 1 + 1 := by omega
    have hm7_9 : w3.heap.size < w7.heap.size := by omega
    have hm7_10 : w3.heap.size < w7.heap.size + 1 := by omega
    have hm7_11 : w3.heap.size < w7.heap.size + 1 + 1 := by omega
    have hm7_12 : w4.heap.size < w7.heap.size := by omega
    have hm7_13 : w4.heap.size < w7.heap.size + 1 := by omega
    have hm7_14 : w4.heap.size < w7.heap.size + 1 + 1 := by omega
    have hm7_15 : w5.heap.size < w7.heap.size := by omega
    have hm7_16 : w5.heap.size < w7.heap.size + 1 := by omega
    have hm7_17 : w5.heap.size < w7.heap.size + 1 + 1 := by omega
    have r7_2_0 : w7.frozen? ⟨w2.heap.size, 0, none⟩ = false := (hf7 _ _ (by first | omega | (simp <;> omega))).trans (by first | (simp [go_sem, *]; done) | rfl)
    have r7_2_1 : w7.frozen? ⟨w2.heap.size, 1, none⟩ = false := (hf7 _ _ (by first | omega | (simp <;> omega))).trans (by first | (simp [go_sem, *]; done) | rfl)
    have r7_3_0 : w7.frozen? ⟨w3.heap.size, 0, none⟩ = false := (hf7 _ _ (by first | omega | (simp <;> omega))).trans (by first | (simp [go_sem, *]; done) | rfl)
    have r7_3_1 : w7.frozen? ⟨w3.heap.size, 1, none⟩ = false := (hf7 _ _ (by first | omega | (simp <;> omega))).trans (by first | (simp [go_sem, *]; done) | rfl)
    have r7_4_0 : w7.frozen? ⟨w4.heap.size, 0, none⟩ = false := (hf7 _ _ (by first | omega | (simp <;> omega))).trans (by first | (simp [go_sem, *]; done) | rfl)
    have r7_4_1 : w7.frozen? ⟨w4.heap.size, 1, none⟩ = false := (hf7 _ _ (by first | omega | (simp <;> omega))).trans (by first | (simp [go_sem, *]; done) | rfl)
    have r7_5_0 : w7.frozen? ⟨w5.heap.size, 0, none⟩ = false := (hf7 _ _ (by first | omega | (simp <;> omega))).trans (by first | (simp [go_sem, *]; done) | rfl)
    have r7_5_1 : w7.frozen? ⟨w5.heap.size, 1, none⟩ = false := (hf7 _ _ (by first | omega | (simp <;> omega))).trans (by first | (simp [go_sem, *]; done) | rfl)
    clear hb7 hc7 hf7 hz7 d6_0_0 d6_0_1 d6_0_2 d6_0_3 d6_0_4 d6_0_5 d6_0_6 d6_0_7 d6_1_0 d6_1_1 d6_1_2 d6_1_3 d6_1_4 d6_1_5 d6_1_6 d6_1_7 d6_2_0 d6_2_1 d6_3_0 d6_3_1 d6_4_0 d6_4_1 l6_0 l6_1 l6_2 l6_3 l6_4 hm6_0 hm6_1 hm6_2 hm6_3 hm6_4 hm6_5 hm6_6 hm6_7 hm6_8 hm6_9 hm6_10 hm6_11 hm6_12 hm6_13 hm6_14 r6_2_0 r6_2_1 r6_3_0 r6_3_1 r6_4_0 r6_4_1 y1 y2 y3 y4
    rw [H3.out]
    go_wp2_with fail
    refine (rrefl_any s _).mono ?_
    rintro e w8 ⟨rfl, hb8⟩
    obtain ⟨hc8, hf8⟩ := bcell hb8
    have hz8 := hb8.size
    try simp at hz8
    have hw8 : Below w.heap.size w w8 := Below.trans (by repeat (first | exact hw7 | refine Below.drew ?_ | refine bdrewS ?_ _ | refine Below.setCell ?_ (by first | omega | (simp <;> omega)) _ | refine Below.alloc ?_ (by first | omega | (simp <;> omega)) _)) (hb8.mono (by first | omega | (simp <;> omega)))
    have hy8 := hw8.size
    have d8_0_0 : w8.cell? ⟨w.heap.size, 0, none⟩ = some (.int .i64 s.bl) := (hc8 _ _ (by first | omega | (simp <;> omega))).trans (by first | (simp [go_sem, *]; done) | rfl)
    have d8_0_1 : w8.cell? ⟨w.heap.size, 1, none⟩ = some (.int .i64 s.bh) := (hc8 _ _ (by first | omega | (simp <;> omega))).trans (by first | (simp [go_sem, *]; done) | rfl)
    have d8_0_2 : w8.cell? ⟨w.heap.size, 2, none⟩ = some (.int .i64 s.al) := (hc8 _ _ (by first | omega | (simp <;> omega))).trans (by first | (simp [go_sem, *]; done) | rfl)
    have d8_0_3 : w8.cell? ⟨w.heap.size, 3, none⟩ = some (.int .i64 s.ah) := (hc8 _ _ (by first | omega | (simp <;> omega))).trans (by first | (simp [go_sem, *]; done) | rfl)
    have d8_0_4 : w8.cell? ⟨w.heap.size, 4, none⟩ = some (.int .i64 s.fl) := (hc8 _ _ (by first | omega | (simp <;> omega))).trans (by first | (simp [go_sem, *]; done) | rfl)
    have d8_0_5 : w8.cell? ⟨w.heap.size, 5, none⟩ = some (.int .i64 s.fh) := (hc8 _ _ (by first | omega | (simp <;> omega))).trans (by first | (simp [go_sem, *]; done) | rfl)
    have d8_0_6 : w8.cell? ⟨w.heap.size, 6, none⟩ = some (.int .i64 s.tl) := (hc8 _ _ (by first | omega | (simp <;> omega))).trans (by first | (simp [go_sem, *]; done) | rfl)
    have d8_0_7 : w8.cell? ⟨w.heap.size, 7, none⟩ = some (.int .i64 s.th) := (hc8 _ _ (by first | omega | (simp <;> omega))).trans (by first | (simp [go_sem, *]; done) | rfl)
    have d8_1_0 : w8.cell? ⟨w1.heap.size, 0, none⟩ = some (.int .i64 s.bl) := (hc8 _ _ (by first | omega | (simp <;> omega))).trans (by first | (simp [go_sem, *]; done) | rfl)
    have d8_1_1 : w8.cell? ⟨w1.heap.size, 1, none⟩ = some (.int .i64 s.bh) := (hc8 _ _ (by first | omega | (simp <;> omega))).trans (by first | (simp [go_sem, *]; done) | rfl)
    have d8_1_2 : w8.cell? ⟨w1.heap.size, 2, none⟩ = some (.int .i64 s.al) := (hc8 _ _ (by first | omega | (simp <;> omega))).trans (by first | (simp [go_sem, *]; done) | rfl)
    have d8_1_3 : w8.cell? ⟨w1.heap.size, 3, none⟩ = some (.int .i64 s.ah) := (hc8 _ _ (by first | omega | (simp <;> omega))).trans (by first | (simp [go_sem, *]; done) | rfl)
    have d8_1_4 : w8.cell? ⟨w1.heap.size, 4, none⟩ = some (.int .i64 s.fl) := (hc8 _ _ (by first | omega | (simp <;> omega))).trans (by first | (simp [go_sem, *]; done) | rfl)
    have d8_1_5 : w8.cell? ⟨w1.heap.size, 5, none⟩ = some (.int .i64 s.fh) := (hc8 _ _ (by first | omega | (simp <;> omega))).trans (by first | (simp [go_sem, *]; done) | rfl)
    have d8_1_6 : w8.cell? ⟨w1.heap.size, 6, none⟩ = some (.int .i64 s.tl) := (hc8 _ _ (by first | omega | (simp <;> omega))).trans (by first | (simp [go_sem, *]; done) | rfl)
    have d8_1_7 : w8.cell? ⟨w1.heap.size, 7, none⟩ = some (.int .i64 s.th) := (hc8 _ _ (by first | omega | (simp <;> omega))).trans (by first | (simp [go_sem, *]; done) | rfl)
    have d8_2_0 : w8.cell? ⟨w2.heap.size, 0, none⟩ = some (.int .i64 p3) := (hc8 _ _ (by first | omega | (simp <;> omega))).trans (by first | (simp [go_sem, *]; done) | rfl)
    have d8_2_1 : w8.cell? ⟨w2.heap.size, 1, none⟩ = some (.int .i64 q3) := (hc8 _ _ (by first | omega | (simp <;> omega))).trans (by first | (simp [go_sem, *]; done) | rfl)
    have d8_3_0 : w8.cell? ⟨w3.heap.size, 0, none⟩ = some (.int .i64 p1) := (hc8 _ _ (by first | omega | (simp <;> omega))).trans (by first | (simp [go_sem, *]; done) | rfl)
    have d8_3_1 : w8.cell? ⟨w3.heap.size, 1, none⟩ = some (.int .i64 q1) := (hc8 _ _ (by first | omega | (simp <;> omega))).trans (by first | (simp [go_sem, *]; done) | rfl)
    have d8_4_0 : w8.cell? ⟨w4.heap.size, 0, none⟩ = some (.int .i64 p2) := (hc8 _ _ (by first | omega | (simp <;> omega))).trans (by first | (simp [go_sem, *]; done) | rfl)
    have d8_4_1 : w8.cell? ⟨w4.heap.size, 1, none⟩ = some (.int .i64 q2) := (hc8 _ _ (by first | omega | (simp <;> omega))).trans (by first | (simp [go_sem, *]; done) | rfl)
    have d8_5_0 : w8.cell? ⟨w5.heap.size, 0, none⟩ = some (.int .i64 p2) := (hc8 _ _ (by first | omega | (simp <;> omega))).trans (by first | (simp [go_sem, *]; done) | rfl)
    have d8_5_1 : w8.cell? ⟨w5.heap.size, 1, none⟩ = some (.int .i64 q2) := (hc8 _ _ (by first | omega | (simp <;> omega))).trans (by first | (simp [go_sem, *]; done) | rfl)
    have l8_0 : w.heap.size < w8.heap.size := by omega
    have l8_1 : w1.heap.size < w8.heap.size := by omega
    have l8_2 : w2.heap.size < w8.heap.size := by omega
    have l8_3 : w3.heap.size < w8.heap.size := by omega
    have l8_4 : w4.heap.size < w8.heap.size := by omega
    have l8_5 : w5.heap.size < w8.heap.size := by omega
    have hm8_0 : w.heap.size < w8.heap.size := by omega
    have hm8_1 : w.heap.size < w8.heap.size + 1 := by omega
    have hm8_2 : w.heap.size < w8.heap.size + 1 + 1 := by omega
    have hm8_3 : w1.heap.size < w8.heap.size := by omega
    have hm8_4 : w1.heap.size < w8.heap.size + 1 := by omega
    have hm8_5 : w1.heap.size < w8.heap.size + 1 + 1 := by omega
    have hm8_6 : w2.heap.size < w8.heap.size := by omega
    have hm8_7 : w2.heap.size < w8.heap.size + 1 := by omega
    have hm8_8 : w2.heap.size < w8.heap.size + 1 + 1 := by omega
    have hm8_9 : w3.heap.size < w8.heap.size := by omega
    have hm8_10 : w3.heap.size < w8.heap.size + 1 := by omega
    have hm8_11 : w3.heap.size < w8.heap.size + 1 + 1 := by omega
    have hm8_12 : w4.heap.size < w8.heap.size := by omega
    have hm8_13 : w4.heap.size < w8.heap.size + 1 := by omega
    have hm8_14 : w4.heap.size < w8.heap.size + 1 + 1 := by omega
    have hm8_15 : w5.heap.size < w8.heap.size := by omega
    have hm8_16 : w5.heap.size < w8.heap.size + 1 := by omega
    have hm8_17 : w5.heap.size < w8.heap.size + 1 + 1 := by omega
    have r8_3_0 : w8.frozen? ⟨w3.heap.size, 0, none⟩ = false := (hf8 _ _ (by first | omega | (simp <;> omega))).trans (by first | (simp [go_sem, *]; done) | rfl)
    have r8_3_1 : w8.frozen? ⟨w3.heap.size, 1, none⟩ = false := (hf8 _ _ (by first | omega | (simp <;> omega))).trans (by first | (simp [go_sem, *]; done) | rfl)
    have r8_4_0 : w8.frozen? ⟨w4.heap.size, 0, none⟩ = false := (hf8 _ _ (by first | omega | (simp <;> omega))).trans (by first | (simp [go_sem, *]; done) | rfl)
    have r8_4_1 : w8.frozen? ⟨w4.heap.size, 1, none⟩ = false := (hf8 _ _ (by first | omega | (simp <;> omega))).trans (by first | (simp [go_sem, *]; done) | rfl)
    have r8_5_0 : w8.frozen? ⟨w5.heap.size, 0, none⟩ = false := (hf8 _ _ (by first | omega | (simp <;> omega))).trans (by first | (simp [go_sem, *]; done) | rfl)
    have r8_5_1 : w8.frozen? ⟨w5.heap.size, 1, none⟩ = false := (hf8 _ _ (by first | omega | (simp <;> omega))).trans (by first | (simp [go_sem, *]; done) | rfl)
    clear hb8 hc8 hf8 hz8 d7_0_0 d7_0_1 d7_0_2 d7_0_3 d7_0_4 d7_0_5 d7_0_6 d7_0_7 d7_1_0 d7_1_1 d7_1_2 d7_1_3 d7_1_4 d7_1_5 d7_1_6 d7_1_7 d7_2_0 d7_2_1 d7_3_0 d7_3_1 d7_4_0 d7_4_1 d7_5_0 d7_5_1 l7_0 l7_1 l7_2 l7_3 l7_4 l7_5 hm7_0 hm7_1 hm7_2 hm7_3 hm7_4 hm7_5 hm7_6 hm7_7 hm7_8 hm7_9 hm7_10 hm7_11 hm7_12 hm7_13 hm7_14 hm7_15 hm7_16 hm7_17 r7_2_0 r7_2_1 r7_3_0 r7_3_1 r7_4_0 r7_4_1 r7_5_0 r7_5_1
    rw [H3.out]
    go_wp2_with fail
    refine (trans_any s _).mono ?_
    rintro e w9 ⟨rfl, hb9⟩
    obtain ⟨hc9, hf9⟩ := bcell hb9
    have hz9 := hb9.size
    try simp at hz9
    have hw9 : Below w.heap.size w w9 := Below.trans (by repeat (first | exact hw8 | refine Below.drew ?_ | refine bdrewS ?_ _ | refine Below.setCell ?_ (by first | omega | (simp <;> omega)) _ | refine Below.alloc ?_ (by first | omega | (simp <;> omega)) _)) (hb9.mono (by first | omega | (simp <;> omega)))
    have hy9 := hw9.size
    have d9_0_0 : w9.cell? ⟨w.heap.size, 0, none⟩ = some (.int .i64 s.bl) := (hc9 _ _ (by first | omega | (simp <;> omega))).trans (by first | (simp [go_sem, *]; done) | rfl)
    have d9_0_1 : w9.cell? ⟨w.heap.size, 1, none⟩ = some (.int .i64 s.bh) := (hc9 _ _ (by first | omega | (simp <;> omega))).trans (by first | (simp [go_sem, *]; done) | rfl)
    have d9_0_2 : w9.cell? ⟨w.heap.size, 2, none⟩ = some (.int .i64 s.al) := (hc9 _ _ (by first | omega | (simp <;> omega))).trans (by first | (simp [go_sem, *]; done) | rfl)
    have d9_0_3 : w9.cell? ⟨w.heap.size, 3, none⟩ = some (.int .i64 s.ah) := (hc9 _ _ (by first | omega | (simp <;> omega))).trans (by first | (simp [go_sem, *]; done) | rfl)
    have d9_0_4 : w9.cell? ⟨w.heap.size, 4, none⟩ = some (.int .i64 s.fl) := (hc9 _ _ (by first | omega | (simp <;> omega))).trans (by first | (simp [go_sem, *]; done) | rfl)
    have d9_0_5 : w9.cell? ⟨w.heap.size, 5, none⟩ = some (.int .i64 s.fh) := (hc9 _ _ (by first | omega | (simp <;> omega))).trans (by first | (simp [go_sem, *]; done) | rfl)
    have d9_0_6 : w9.cell? ⟨w.heap.size, 6, none⟩ = some (.int .i64 s.tl) := (hc9 _ _ (by first | omega | (simp <;> omega))).trans (by first | (simp [go_sem, *]; done) | rfl)
    have d9_0_7 : w9.cell? ⟨w.heap.size, 7, none⟩ = some (.int .i64 s.th) := (hc9 _ _ (by first | omega | (simp <;> omega))).trans (by first | (simp [go_sem, *]; done) | rfl)
    have d9_1_0 : w9.cell? ⟨w1.heap.size, 0, none⟩ = some (.int .i64 s.bl) := (hc9 _ _ (by first | omega | (simp <;> omega))).trans (by first | (simp [go_sem, *]; done) | rfl)
    have d9_1_1 : w9.cell? ⟨w1.heap.size, 1, none⟩ = some (.int .i64 s.bh) := (hc9 _ _ (by first | omega | (simp <;> omega))).trans (by first | (simp [go_sem, *]; done) | rfl)
    have d9_1_2 : w9.cell? ⟨w1.heap.size, 2, none⟩ = some (.int .i64 s.al) := (hc9 _ _ (by first | omega | (simp <;> omega))).trans (by first | (simp [go_sem, *]; done) | rfl)
    have d9_1_3 : w9.cell? ⟨w1.heap.size, 3, none⟩ = some (.int .i64 s.ah) := (hc9 _ _ (by first | omega | (simp <;> omega))).trans (by first | (simp [go_sem, *]; done) | rfl)
    have d9_1_4 : w9.cell? ⟨w1.heap.size, 4, none⟩ = some (.int .i64 s.fl) := (hc9 _ _ (by first | omega | (simp <;> omega))).trans (by first | (simp [go_sem, *]; done) | rfl)
    have d9_1_5 : w9.cell? ⟨w1.heap.size, 5, none⟩ = some (.int .i64 s.fh) := (hc9 _ _ (by first | omega | (simp <;> omega))).trans (by first | (simp [go_sem, *]; done) | rfl)
    have d9_1_6 : w9.cell? ⟨w1.heap.size, 6, none⟩ = some (.int .i64 s.tl) := (hc9 _ _ (by first | omega | (simp <;> omega))).trans (by first | (simp [go_sem, *]; done) | rfl)
    have d9_1_7 : w9.cell? ⟨w1.heap.size, 7, none⟩ = some (.int .i64 s.th) := (hc9 _ _ (by first | omega | (simp <;> omega))).trans (by first | (simp [go_sem, *]; done) | rfl)
    have d9_2_0 : w9.cell? ⟨w2.heap.size, 0, none⟩ = some (.int .i64 p3) := (hc9 _ _ (by first | omega | (simp <;> omega))).trans (by first | (simp [go_sem, *]; done) | rfl)
    have d9_2_1 : w9.cell? ⟨w2.heap.size, 1, none⟩ = some (.int .i64 q3) := (hc9 _ _ (by first | omega | (simp <;> omega))).trans (by first | (simp [go_sem, *]; done) | rfl)
    have d9_3_0 : w9.cell? ⟨w3.heap.size, 0, none⟩ = some (.int .i64 p3) := (hc9 _ _ (by first | omega | (simp <;> omega))).trans (by first | (simp [go_sem, *]; done) | rfl)
    have d9_3_1 : w9.cell? ⟨w3.heap.size, 1, none⟩ = some (.int .i64 q3) := (hc9 _ _ (by first | omega | (simp <;> omega))).trans (by first | (simp [go_sem, *]; done) | rfl)
    have d9_4_0 : w9.cell? ⟨w4.heap.size, 0, none⟩ = some (.int .i64 p2) := (hc9 _ _ (by first | omega | (simp <;> omega))).trans (by first | (simp [go_sem, *]; done) | rfl)
    have d9_4_1 : w9.cell? ⟨w4.heap.size, 1, none⟩ = some (.int .i64 q2) := (hc9 _ _ (by first | omega | (simp <;> omega))).trans (by first | (simp [go_sem, *]; done) | rfl)
    have d9_5_0 : w9.cell? ⟨w5.heap.size, 0, none⟩ = some (.int .i64 p2) := (hc9 _ _ (by first | omega | (simp <;> omega))).trans (by first | (simp [go_sem, *]; done) | rfl)
    have d9_5_1 : w9.cell? ⟨w5.heap.size, 1, none⟩ = some (.int .i64 q2) := (hc9 _ _ (by first | omega | (simp <;> omega))).trans (by first | (simp [go_sem, *]; done) | rfl)
    have l9_0 : w.heap.size < w9.heap.size := by omega
    have l9_1 : w1.heap.size < w9.heap.size := by omega
    have l9_2 : w2.heap.size < w9.heap.size := by omega
    have l9_3 : w3.heap.size < w9.heap.size := by omega
    have l9_4 : w4.heap.size < w9.heap.size := by omega
    have l9_5 : w5.heap.size < w9.heap.size := by omega
    have hm9_0 : w.heap.size < w9.heap.size := by omega
    have hm9_1 : w.heap.size < w9.heap.size + 1 := by omega
    have hm9_2 : w.heap.size < w9.heap.size + 1 + 1 := by omega
    have hm9_3 : w1.heap.size < w9.heap.size := by omega
    have hm9_4 : w1.heap.size < w9.heap.size + 1 := by omega
    have hm9_5 : w1.heap.size < w9.heap.size + 1 + 1 := by omega
    have hm9_6 : w2.heap.size < w9.heap.size := by omega
    have hm9_7 : w2.heap.size < w9.heap.size + 1 := by omega
    have hm9_8 : w2.heap.size < w9.heap.size + 1 + 1 := by omega
    have hm9_9 : w3.heap.size < w9.heap.size := by omega
    have hm9_10 : w3.heap.size < w9.heap.size + 1 := by omega
    have hm9_11 : w3.heap.size < w9.heap.size + 1 + 1 := by omega
    have hm9_12 : w4.heap.size < w9.heap.size := by omega
    have hm9_13 : w4.heap.size < w9.heap.size + 1 := by omega
    have hm9_14 : w4.heap.size < w9.heap.size + 1 + 1 := by omega
    have hm9_15 : w5.heap.size < w9.heap.size := by omega
    have hm9_16 : w5.heap.size < w9.heap.size + 1 := by omega
    have hm9_17 : w5.heap.size < w9.heap.size + 1 + 1 := by omega
    have r9_4_0 : w9.frozen? ⟨w4.heap.size, 0, none⟩ = false := (hf9 _ _ (by first | omega | (simp <;> omega))).trans (by first | (simp [go_sem, *]; done) | rfl)
    have r9_4_1 : w9.frozen? ⟨w4.heap.size, 1, none⟩ = false := (hf9 _ _ (by first | omega | (simp <;> omega))).trans (by first | (simp [go_sem, *]; done) | rfl)
    have r9_5_0 : w9.frozen? ⟨w5.heap.size, 0, none⟩ = false := (hf9 _ _ (by first | omega | (simp <;> omega))).trans (by first | (simp [go_sem, *]; done) | rfl)
    have r9_5_1 : w9.frozen? ⟨w5.heap.size, 1, none⟩ = false := (hf9 _ _ (by first | omega | (simp <;> omega))).trans (by first | (simp [go_sem, *]; done) | rfl)
    clear hb9 hc9 hf9 hz9 d8_0_0 d8_0_1 d8_0_2 d8_0_3 d8_0_4 d8_0_5 d8_0_6 d8_0_7 d8_1_0 d8_1_1 d8_1_2 d8_1_3 d8_1_4 d8_1_5 d8_1_6 d8_1_7 d8_2_0 d8_2_1 d8_3_0 d8_3_1 d8_4_0 d8_4_1 d8_5_0 d8_5_1 l8_0 l8_1 l8_2 l8_3 l8_4 l8_5 hm8_0 hm8_1 hm8_2 hm8_3 hm8_4 hm8_5 hm8_6 hm8_7 hm8_8 hm8_9 hm8_10 hm8_11 hm8_12 hm8_13 hm8_14 hm8_15 hm8_16 hm8_17 r8_3_0 r8_3_1 r8_4_0 r8_4_1 r8_5_0 r8_5_1
    rw [H4.out]
    go_wp2_with fail
    refine (rtrans_any s _).mono ?_
    rintro e w10 ⟨rfl, hb10⟩
    obtain ⟨hc10, hf10⟩ := bcell hb10
    have hz10 := hb10.size
    try simp at hz10
    have hw10 : Below w.heap.size w w10 := Below.trans (by repeat (first | exact hw9 | refine Below.drew ?_ | refine bdrewS ?_ _ | refine Below.setCell ?_ (by first | omega | (simp <;> omega)) _ | refine Below.alloc ?_ (by first | omega | (simp <;> omega)) _)) (hb10.mono (by first | omega | (simp <;> omega)))
    have hy10 := hw10.size
    have d10_0_0 : w10.cell? ⟨w.heap.size, 0, none⟩ = some (.int .i64 s.bl) := (hc10 _ _ (by first | omega | (simp <;> omega))).trans (by first | (simp [go_sem, *]; done) | rfl)
    have d10_0_1 : w10.cell? ⟨w.heap.size, 1, none⟩ = some (.int .i64 s.bh) := (hc10 _ _ (by first | omega | (simp <;> omega))).trans (by first | (simp [go_sem, *]; done) | rfl)
    have d10_0_2 : w10.cell? ⟨w.heap.size, 2, none⟩ = some (.int .i64 s.al) := (hc10 _ _ (by first | omega | (simp <;> omega))).trans (by first | (simp [go_sem, *]; done) | rfl)
    have d10_0_3 : w10.cell? ⟨w.heap.size, 3, none⟩ = some (.int .i64 s.ah) := (hc10 _ _ (by first | omega | (simp <;> omega))).trans (by first | (simp [go_sem, *]; done) | rfl)
    have d10_0_4 : w10.cell? ⟨w.heap.size, 4, none⟩ = some (.int .i64 s.fl) := (hc10 _ _ (by first | omega | (simp <;> omega))).trans (by first | (simp [go_sem, *]; done) | rfl)
    have d10_0_5 : w10.cell? ⟨w.heap.size, 5, none⟩ = some (.int .i64 s.fh) := (hc10 _ _ (by first | omega | (simp <;> omega))).trans (by first | (simp [go_sem, *]; done) | rfl)
    have d10_0_6 : w10.cell? ⟨w.heap.size, 6, none⟩ = some (.int .i64 s.tl) := (hc10 _ _ (by first | omega | (simp <;> omega))).trans (by first | (simp [go_sem, *]; done) | rfl)
    have d10_0_7 : w10.cell? ⟨w.heap.size, 7, none⟩ = some (.int .i64 s.th) := (hc10 _ _ (by first | omega | (simp <;> omega))).trans (by first | (simp [go_sem, *]; done) | rfl)
    have d10_1_0 : w10.cell? ⟨w1.heap.size, 0, none⟩ = some (.int .i64 s.bl) := (hc10 _ _ (by first | omega | (simp <;> omega))).trans (by first | (simp [go_sem, *]; done) | rfl)
    have d10_1_1 : w10.cell? ⟨w1.heap.size, 1, none⟩ = some (.int .i64 s.bh) := (hc10 _ _ (by first | omega | (simp <;> omega))).trans (by first | (simp [go_sem, *]; done) | rfl)
    have d10_1_2 : w10.cell? ⟨w1.heap.size, 2, none⟩ = some (.int .i64 s.al) := (hc10 _ _ (by first | omega | (simp <;> omega))).trans (by first | (simp [go_sem, *]; done) | rfl)
    have d10_1_3 : w10.cell? ⟨w1.heap.size, 3, none⟩ = some (.int .i64 s.ah) := (hc10 _ _ (by first | omega | (simp <;> omega))).trans (by first | (simp [go_sem, *]; done) | rfl)
    have d10_1_4 : w10.cell? ⟨w1.heap.size, 4, none⟩ = some (.int .i64 s.fl) := (hc10 _ _ (by first | omega | (simp <;> omega))).trans (by first | (simp [go_sem, *]; done) | rfl)
    have d10_1_5 : w10.cell? ⟨w1.heap.size, 5, none⟩ = some (.int .i64 s.fh) := (hc10 _ _ (by first | omega | (simp <;> omega))).trans (by first | (simp [go_sem, *]; done) | rfl)
    have d10_1_6 : w10.cell? ⟨w1.heap.size, 6, none⟩ = some (.int .i64 s.tl) := (hc10 _ _ (by first | omega | (simp <;> omega))).trans (by first | (simp [go_sem, *]; done) | rfl)
    have d10_1_7 : w10.cell? ⟨w1.heap.size, 7, none⟩ = some (.int .i64 s.th) := (hc10 _ _ (by first | omega | (simp <;> omega))).trans (by first | (simp [go_sem, *]; done) | rfl)
    have d10_2_0 : w10.cell? ⟨w2.heap.size, 0, none⟩ = some (.int .i64 p3) := (hc10 _ _ (by first | omega | (simp <;> omega))).trans (by first | (simp [go_sem, *]; done) | rfl)
    have d10_2_1 : w10.cell? ⟨w2.heap.size, 1, none⟩ = some (.int .i64 q3) := (hc10 _ _ (by first | omega | (simp <;> omega))).trans (by first | (simp [go_sem, *]; done) | rfl)
    have d10_3_0 : w10.cell? ⟨w3.heap.size, 0, none⟩ = some (.int .i64 p3) := (hc10 _ _ (by first | omega | (simp <;> omega))).trans (by first | (simp [go_sem, *]; done) | rfl)
    have d10_3_1 : w10.cell? ⟨w3.heap.size, 1, none⟩ = some (.int .i64 q3) := (hc10 _ _ (by first | omega | (simp <;> omega))).trans (by first | (simp [go_sem, *]; done) | rfl)
    have d10_4_0 : w10.cell? ⟨w4.heap.size, 0, none⟩ = some (.int .i64 p4) := (hc10 _ _ (by first | omega | (simp <;> omega))).trans (by first | (simp [go_sem, *]; done) | rfl)
    have d10_4_1 : w10.cell? ⟨w4.heap.size, 1, none⟩ = some (.int .i64 q4) := (hc10 _ _ (by first | omega | (simp <;> omega))).trans (by first | (simp [go_sem, *]; done) | rfl)
    have d10_5_0 : w10.cell? ⟨w5.heap.size, 0, none⟩ = some (.int .i64 p2) := (hc10 _ _ (by first | omega | (simp <;> omega))).trans (by first | (simp [go_sem, *]; done) | rfl)
    have d10_5_1 : w10.cell? ⟨w5.heap.size, 1, none⟩ = some (.int .i64 q2) := (hc10 _ _ (by first | omega | (simp <;> omega))).trans (by first | (simp [go_sem, *]; done) | rfl)
    have l10_0 : w.heap.size < w10.heap.size := by omega
    have l10_1 : w1.heap.size < w10.heap.size := by omega
    have l10_2 : w2.heap.size < w10.heap.size := by omega
    have l10_3 : w3.heap.size < w10.heap.size := by omega
    have l10_4 : w4.heap.size < w10.heap.size := by omega
    have l10_5 : w5.heap.size < w10.heap.size := by omega
    have hm10_0 : w.heap.size < w10.heap.size := by omega
    have hm10_1 : w.heap.size < w10.heap.size + 1 := by omega
    have hm10_2 : w.heap.size < w10.heap.size + 1 + 1 := by omega
    have hm10_3 : w1.heap.size < w10.heap.size := by omega
    have hm10_4 : w1.heap.size < w10.heap.size + 1 := by omega
    have hm10_5 : w1.heap.size < w10.heap.size + 1 + 1 := by omega
    have hm10_6 : w2.heap.size < w10.heap.size := by omega
    have hm10_7 : w2.heap.size < w10.heap.size + 1 := by omega
    have hm10_8 : w2.heap.size < w10.heap.size + 1 + 1 := by omega
    have hm10_9 : w3.heap.size < w10.heap.size := by omega
    have hm10_10 : w3.heap.size < w10.heap.size + 1 := by omega
    have hm10_11 : w3.heap.size < w10.heap.size + 1 + 1 := by omega
    have hm10_12 : w4.heap.size < w10.heap.size := by omega
    have hm10_13 : w4.heap.size < w10.heap.size + 1 := by omega
    have hm10_14 : w4.heap.size < w10.heap.size + 1 + 1 := by omega
    have hm10_15 : w5.heap.size < w10.heap.size := by omega
    have hm10_16 : w5.heap.size < w10.heap.size + 1 := by omega
    have hm10_17 : w5.heap.size < w10.heap.size + 1 + 1 := by omega
    have r10_5_0 : w10.frozen? ⟨w5.heap.size, 0, none⟩ = false := (hf10 _ _ (by first | omega | (simp <;> omega))).trans (by first | (simp [go_sem, *]; done) | rfl)
    have r10_5_1 : w10.frozen? ⟨w5.heap.size, 1, none⟩ = false := (hf10 _ _ (by first | omega | (simp <;> omega))).trans (by first | (simp [go_sem, *]; done) | rfl)
    clear hb10 hc10 hf10 hz10 d9_0_0 d9_0_1 d9_0_2 d9_0_3 d9_0_4 d9_0_5 d9_0_6 d9_0_7 d9_1_0 d9_1_1 d9_1_2 d9_1_3 d9_1_4 d9_1_5 d9_1_6 d9_1_7 d9_2_0 d9_2_1 d9_3_0 d9_3_1 d9_4_0 d9_4_1 d9_5_0 d9_5_1 l9_0 l9_1 l9_2 l9_3 l9_4 l9_5 hm9_0 hm9_1 hm9_2 hm9_3 hm9_4 hm9_5 hm9_6 hm9_7 hm9_8 hm9_9 hm9_10 hm9_11 hm9_12 hm9_13 hm9_14 hm9_15 hm9_16 hm9_17 r9_4_0 r9_4_1 r9_5_0 r9_5_1
    rw [H4.out]
    go_wp2
    go_ret
    exact ⟨rfl, by repeat (first | exact hw10 | refine Below.drew ?_ | refine bdrewS ?_ _ | refine Below.setCell ?_ (by first | omega | (simp <;> omega)) _ | refine Below.alloc ?_ (by first | omega | (simp <;> omega)) _)⟩
end Go.Proofs.Ytognaejbpioihaa.Iv
