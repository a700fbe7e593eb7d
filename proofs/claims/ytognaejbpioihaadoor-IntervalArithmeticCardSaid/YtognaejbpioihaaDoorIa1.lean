/- IntervalArithmetic: sums, differences, products, quotients and opposites are what the reference says. -/
import Derived.Test.YtognaejbpioihaaDoorSq2
import Derived.Test.YtognaejbpioihaaDoorRf4
import Derived.Test.YtognaejbpioihaaDoorIv2
import Derived.Tactics2
namespace Go.Proofs.YtognaejbpioihaaDoor.Iv
open Go.RowKit

set_option maxRecDepth 100000 in
set_option maxHeartbeats 8000000 in
theorem arith_any (a b c d : Int) (w : World) :
    Calls Tryd.prog 3 #[iv a b, iv c d] w fun e w' => e = .returned (.bool true) ∧ Below w.heap.size w w' := by
  obtain ⟨⟨p0, q0, e0⟩, h0⟩ : ∃ r : R, addR a b c d = r := ⟨_, rfl⟩
  have H0 := Lib.hid (show retR (addR a b c d) = .returned (.tuple #[iv p0 q0, .int .i64 e0]) from by rw [h0])
  clear h0
  obtain ⟨⟨p1, q1, e1⟩, h1⟩ : ∃ r : R, subR a b c d = r := ⟨_, rfl⟩
  have H1 := Lib.hid (show retR (subR a b c d) = .returned (.tuple #[iv p1 q1, .int .i64 e1]) from by rw [h1])
  clear h1
  obtain ⟨⟨p2, q2, e2⟩, h2⟩ : ∃ r : R, mulR a b c d = r := ⟨_, rfl⟩
  have H2 := Lib.hid (show retR (mulR a b c d) = .returned (.tuple #[iv p2 q2, .int .i64 e2]) from by rw [h2])
  clear h2
  obtain ⟨⟨p3, q3, e3⟩, h3⟩ : ∃ r : R, divR a b c d = r := ⟨_, rfl⟩
  have H3 := Lib.hid (show retR (divR a b c d) = .returned (.tuple #[iv p3 q3, .int .i64 e3]) from by rw [h3])
  clear h3
  obtain ⟨⟨p4, q4, e4⟩, h4⟩ : ∃ r : R, negR a b = r := ⟨_, rfl⟩
  have H4 := Lib.hid (show retR (negR a b) = .returned (.tuple #[iv p4 q4, .int .i64 e4]) from by rw [h4])
  clear h4
  go_enter Tryd.func3, Tryd.ntmps3
  go_wp2_with fail
  refine (awake_any _).mono ?_
  rintro e w1 ⟨rfl, hb1⟩
  obtain ⟨hc1, hf1⟩ := bcell hb1
  have hz1 := hb1.size
  try simp at hz1
  have d1_0_0 : w1.cell? ⟨w.heap.size, 0, none⟩ = some (.int .i64 a) := (hc1 _ _ (by first | omega | (simp <;> omega))).trans (by first | (simp [go_sem, *]; done) | rfl)
  have d1_0_1 : w1.cell? ⟨w.heap.size, 1, none⟩ = some (.int .i64 b) := (hc1 _ _ (by first | omega | (simp <;> omega))).trans (by first | (simp [go_sem, *]; done) | rfl)
  have f1_0_0 : w1.frozen? ⟨w.heap.size, 0, none⟩ = false := (hf1 _ _ (by first | omega | (simp <;> omega))).trans (by first | (simp [go_sem, *]; done) | rfl)
  have f1_0_1 : w1.frozen? ⟨w.heap.size, 1, none⟩ = false := (hf1 _ _ (by first | omega | (simp <;> omega))).trans (by first | (simp [go_sem, *]; done) | rfl)
  have d1_1_0 : w1.cell? ⟨w.heap.size + 1, 0, none⟩ = some (.int .i64 c) := (hc1 _ _ (by first | omega | (simp <;> omega))).trans (by first | (simp [go_sem, *]; done) | rfl)
  have d1_1_1 : w1.cell? ⟨w.heap.size + 1, 1, none⟩ = some (.int .i64 d) := (hc1 _ _ (by first | omega | (simp <;> omega))).trans (by first | (simp [go_sem, *]; done) | rfl)
  have f1_1_0 : w1.frozen? ⟨w.heap.size + 1, 0, none⟩ = false := (hf1 _ _ (by first | omega | (simp <;> omega))).trans (by first | (simp [go_sem, *]; done) | rfl)
  have f1_1_1 : w1.frozen? ⟨w.heap.size + 1, 1, none⟩ = false := (hf1 _ _ (by first | omega | (simp <;> omega))).trans (by first | (simp [go_sem, *]; done) | rfl)
  have hm1_0 : w.heap.size < w1.heap.size := by omega
  have hm1_1 : w.heap.size < w1.heap.size + 1 := by omega
  have hm1_2 : w.heap.size < w1.heap.size + 1 + 1 := by omega
  have hm1_3 : w.heap.size + 1 < w1.heap.size := by omega
  have hm1_4 : w.heap.size + 1 < w1.heap.size + 1 := by omega
  have hm1_5 : w.heap.size < w1.heap.size := by omega
  have hm1_6 : w.heap.size + 1 < w1.heap.size + 1 + 1 := by omega
  have hm1_7 : w.heap.size < w1.heap.size + 1 := by omega
  have hw1 : Below w.heap.size w w1 := Below.trans (by repeat (first | exact Below.refl _ _ | refine Below.drew ?_ | refine below_drewN ?_ _ | refine Below.setCell ?_ (by first | omega | (simp <;> omega)) _ | refine Below.alloc ?_ (by first | omega | (simp <;> omega)) _)) (hb1.mono (by first | omega | (simp <;> omega)))
  clear hb1 hc1 hf1 hz1 
  go_wp2_with fail
  refine (add_any a b c d _).mono ?_
  rintro e w2 ⟨rfl, hb2⟩
  obtain ⟨hc2, hf2⟩ := bcell hb2
  have hz2 := hb2.size
  try simp at hz2
  have d2_0_0 : w2.cell? ⟨w.heap.size, 0, none⟩ = some (.int .i64 a) := (hc2 _ _ (by first | omega | (simp <;> omega))).trans (by first | (simp [go_sem, *]; done) | rfl)
  have d2_0_1 : w2.cell? ⟨w.heap.size, 1, none⟩ = some (.int .i64 b) := (hc2 _ _ (by first | omega | (simp <;> omega))).trans (by first | (simp [go_sem, *]; done) | rfl)
  have f2_0_0 : w2.frozen? ⟨w.heap.size, 0, none⟩ = false := (hf2 _ _ (by first | omega | (simp <;> omega))).trans (by first | (simp [go_sem, *]; done) | rfl)
  have f2_0_1 : w2.frozen? ⟨w.heap.size, 1, none⟩ = false := (hf2 _ _ (by first | omega | (simp <;> omega))).trans (by first | (simp [go_sem, *]; done) | rfl)
  have d2_1_0 : w2.cell? ⟨w.heap.size + 1, 0, none⟩ = some (.int .i64 c) := (hc2 _ _ (by first | omega | (simp <;> omega))).trans (by first | (simp [go_sem, *]; done) | rfl)
  have d2_1_1 : w2.cell? ⟨w.heap.size + 1, 1, none⟩ = some (.int .i64 d) := (hc2 _ _ (by first | omega | (simp <;> omega))).trans (by first | (simp [go_sem, *]; done) | rfl)
  have f2_1_0 : w2.frozen? ⟨w.heap.size + 1, 0, none⟩ = false := (hf2 _ _ (by first | omega | (simp <;> omega))).trans (by first | (simp [go_sem, *]; done) | rfl)
  have f2_1_1 : w2.frozen? ⟨w.heap.size + 1, 1, none⟩ = false := (hf2 _ _ (by first | omega | (simp <;> omega))).trans (by first | (simp [go_sem, *]; done) | rfl)
  have hm2_0 : w.heap.size < w2.heap.size := by omega
  have hm2_1 : w.heap.size < w2.heap.size + 1 := by omega
  have hm2_2 : w.heap.size < w2.heap.size + 1 + 1 := by omega
  have hm2_3 : w.heap.size + 1 < w2.heap.size := by omega
  have hm2_4 : w.heap.size + 1 < w2.heap.size + 1 := by omega
  have hm2_5 : w.heap.size < w2.heap.size := by omega
  have hm2_6 : w.heap.size + 1 < w2.heap.size + 1 + 1 := by omega
  have hm2_7 : w.heap.size < w2.heap.size + 1 := by omega
  have hw2 : Below w.heap.size w w2 := Below.trans (by repeat (first | exact hw1 | refine Below.drew ?_ | refine below_drewN ?_ _ | refine Below.setCell ?_ (by first | omega | (simp <;> omega)) _ | refine Below.alloc ?_ (by first | omega | (simp <;> omega)) _)) (hb2.mono (by first | omega | (simp <;> omega)))
  clear hb2 hc2 hf2 hz2 d1_0_0 d1_0_1 f1_0_0 f1_0_1 d1_1_0 d1_1_1 f1_1_0 f1_1_1 hm1_0 hm1_1 hm1_2 hm1_3 hm1_4 hm1_5 hm1_6 hm1_7
  rw [H0.out]
  go_wp2_with fail
  refine (radd_any a b c d _).mono ?_
  rintro e w3 ⟨rfl, hb3⟩
  obtain ⟨hc3, hf3⟩ := bcell hb3
  have hz3 := hb3.size
  try simp at hz3
  have d3_0_0 : w3.cell? ⟨w.heap.size, 0, none⟩ = some (.int .i64 a) := (hc3 _ _ (by first | omega | (simp <;> omega))).trans (by first | (simp [go_sem, *]; done) | rfl)
  have d3_0_1 : w3.cell? ⟨w.heap.size, 1, none⟩ = some (.int .i64 b) := (hc3 _ _ (by first | omega | (simp <;> omega))).trans (by first | (simp [go_sem, *]; done) | rfl)
  have f3_0_0 : w3.frozen? ⟨w.heap.size, 0, none⟩ = false := (hf3 _ _ (by first | omega | (simp <;> omega))).trans (by first | (simp [go_sem, *]; done) | rfl)
  have f3_0_1 : w3.frozen? ⟨w.heap.size, 1, none⟩ = false := (hf3 _ _ (by first | omega | (simp <;> omega))).trans (by first | (simp [go_sem, *]; done) | rfl)
  have d3_1_0 : w3.cell? ⟨w.heap.size + 1, 0, none⟩ = some (.int .i64 c) := (hc3 _ _ (by first | omega | (simp <;> omega))).trans (by first | (simp [go_sem, *]; done) | rfl)
  have d3_1_1 : w3.cell? ⟨w.heap.size + 1, 1, none⟩ = some (.int .i64 d) := (hc3 _ _ (by first | omega | (simp <;> omega))).trans (by first | (simp [go_sem, *]; done) | rfl)
  have f3_1_0 : w3.frozen? ⟨w.heap.size + 1, 0, none⟩ = false := (hf3 _ _ (by first | omega | (simp <;> omega))).trans (by first | (simp [go_sem, *]; done) | rfl)
  have f3_1_1 : w3.frozen? ⟨w.heap.size + 1, 1, none⟩ = false := (hf3 _ _ (by first | omega | (simp <;> omega))).trans (by first | (simp [go_sem, *]; done) | rfl)
  have d3_2_0 : w3.cell? ⟨w2.heap.size, 0, none⟩ = some (.int .i64 p0) := (hc3 _ _ (by first | omega | (simp <;> omega))).trans (by first | (simp [go_sem, *]; done) | rfl)
  have d3_2_1 : w3.cell? ⟨w2.heap.size, 1, none⟩ = some (.int .i64 q0) := (hc3 _ _ (by first | omega | (simp <;> omega))).trans (by first | (simp [go_sem, *]; done) | rfl)
  have f3_2_0 : w3.frozen? ⟨w2.heap.size, 0, none⟩ = false := (hf3 _ _ (by first | omega | (simp <;> omega))).trans (by first | (simp [go_sem, *]; done) | rfl)
  have f3_2_1 : w3.frozen? ⟨w2.heap.size, 1, none⟩ = false := (hf3 _ _ (by first | omega | (simp <;> omega))).trans (by first | (simp [go_sem, *]; done) | rfl)
  have lt3_0 : w.heap.size < w2.heap.size := by omega
  have ne3_0 : ¬ (w.heap.size = w2.heap.size) := by omega
  have en3_0 : ¬ (w2.heap.size = w.heap.size) := by omega
  have lt3_1 : w.heap.size + 1 < w2.heap.size := by omega
  have ne3_1 : ¬ (w.heap.size + 1 = w2.heap.size) := by omega
  have en3_1 : ¬ (w2.heap.size = w.heap.size + 1) := by omega
  have hm3_0 : w.heap.size < w3.heap.size := by omega
  have hm3_1 : w.heap.size < w3.heap.size + 1 := by omega
  have hm3_2 : w.heap.size < w3.heap.size + 1 + 1 := by omega
  have hm3_3 : w.heap.size + 1 < w3.heap.size := by omega
  have hm3_4 : w.heap.size + 1 < w3.heap.size + 1 := by omega
  have hm3_5 : w.heap.size < w3.heap.size := by omega
  have hm3_6 : w.heap.size + 1 < w3.heap.size + 1 + 1 := by omega
  have hm3_7 : w.heap.size < w3.heap.size + 1 := by omega
  have hm3_8 : w2.heap.size < w3.heap.size := by omega
  have hm3_9 : w2.heap.size < w3.heap.size + 1 := by omega
  have hm3_10 : w2.heap.size < w3.heap.size + 1 + 1 := by omega
  have hw3 : Below w.heap.size w w3 := Below.trans (by repeat (first | exact hw2 | refine Below.drew ?_ | refine below_drewN ?_ _ | refine Below.setCell ?_ (by first | omega | (simp <;> omega)) _ | refine Below.alloc ?_ (by first | omega | (simp <;> omega)) _)) (hb3.mono (by first | omega | (simp <;> omega)))
  clear hb3 hc3 hf3 hz3 d2_0_0 d2_0_1 f2_0_0 f2_0_1 d2_1_0 d2_1_1 f2_1_0 f2_1_1 hm2_0 hm2_1 hm2_2 hm2_3 hm2_4 hm2_5 hm2_6 hm2_7
  rw [H0.out]
  go_wp2_with fail
  refine (sub_any a b c d _).mono ?_
  rintro e w4 ⟨rfl, hb4⟩
  obtain ⟨hc4, hf4⟩ := bcell hb4
  have hz4 := hb4.size
  try simp at hz4
  have d4_0_0 : w4.cell? ⟨w.heap.size, 0, none⟩ = some (.int .i64 a) := (hc4 _ _ (by first | omega | (simp <;> omega))).trans (by first | (simp [go_sem, *]; done) | rfl)
  have d4_0_1 : w4.cell? ⟨w.heap.size, 1, none⟩ = some (.int .i64 b) := (hc4 _ _ (by first | omega | (simp <;> omega))).trans (by first | (simp [go_sem, *]; done) | rfl)
  have f4_0_0 : w4.frozen? ⟨w.heap.size, 0, none⟩ = false := (hf4 _ _ (by first | omega | (simp <;> omega))).trans (by first | (simp [go_sem, *]; done) | rfl)
  have f4_0_1 : w4.frozen? ⟨w.heap.size, 1, none⟩ = false := (hf4 _ _ (by first | omega | (simp <;> omega))).trans (by first | (simp [go_sem, *]; done) | rfl)
  have d4_1_0 : w4.cell? ⟨w.heap.size + 1, 0, none⟩ = some (.int .i64 c) := (hc4 _ _ (by first | omega | (simp <;> omega))).trans (by first | (simp [go_sem, *]; done) | rfl)
  have d4_1_1 : w4.cell? ⟨w.heap.size + 1, 1, none⟩ = some (.int .i64 d) := (hc4 _ _ (by first | omega | (simp <;> omega))).trans (by first | (simp [go_sem, *]; done) | rfl)
  have f4_1_0 : w4.frozen? ⟨w.heap.size + 1, 0, none⟩ = false := (hf4 _ _ (by first | omega | (simp <;> omega))).trans (by first | (simp [go_sem, *]; done) | rfl)
  have f4_1_1 : w4.frozen? ⟨w.heap.size + 1, 1, none⟩ = false := (hf4 _ _ (by first | omega | (simp <;> omega))).trans (by first | (simp [go_sem, *]; done) | rfl)
  have d4_2_0 : w4.cell? ⟨w2.heap.size, 0, none⟩ = some (.int .i64 p0) := (hc4 _ _ (by first | omega | (simp <;> omega))).trans (by first | (simp [go_sem, *]; done) | rfl)
  have d4_2_1 : w4.cell? ⟨w2.heap.size, 1, none⟩ = some (.int .i64 q0) := (hc4 _ _ (by first | omega | (simp <;> omega))).trans (by first | (simp [go_sem, *]; done) | rfl)
  have f4_2_0 : w4.frozen? ⟨w2.heap.size, 0, none⟩ = false := (hf4 _ _ (by first | omega | (simp <;> omega))).trans (by first | (simp [go_sem, *]; done) | rfl)
  have f4_2_1 : w4.frozen? ⟨w2.heap.size, 1, none⟩ = false := (hf4 _ _ (by first | omega | (simp <;> omega))).trans (by first | (simp [go_sem, *]; done) | rfl)
  have d4_3_0 : w4.cell? ⟨w3.heap.size, 0, none⟩ = some (.int .i64 p0) := (hc4 _ _ (by first | omega | (simp <;> omega))).trans (by first | (simp [go_sem, *]; done) | rfl)
  have d4_3_1 : w4.cell? ⟨w3.heap.size, 1, none⟩ = some (.int .i64 q0) := (hc4 _ _ (by first | omega | (simp <;> omega))).trans (by first | (simp [go_sem, *]; done) | rfl)
  have f4_3_0 : w4.frozen? ⟨w3.heap.size, 0, none⟩ = false := (hf4 _ _ (by first | omega | (simp <;> omega))).trans (by first | (simp [go_sem, *]; done) | rfl)
  have f4_3_1 : w4.frozen? ⟨w3.heap.size, 1, none⟩ = false := (hf4 _ _ (by first | omega | (simp <;> omega))).trans (by first | (simp [go_sem, *]; done) | rfl)
  have lt4_0 : w.heap.size < w3.heap.size := by omega
  have ne4_0 : ¬ (w.heap.size = w3.heap.size) := by omega
  have en4_0 : ¬ (w3.heap.size = w.heap.size) := by omega
  have lt4_1 : w.heap.size + 1 < w3.heap.size := by omega
  have ne4_1 : ¬ (w.heap.size + 1 = w3.heap.size) := by omega
  have en4_1 : ¬ (w3.heap.size = w.heap.size + 1) := by omega
  have lt4_2 : w2.heap.size < w3.heap.size := by omega
  have ne4_2 : ¬ (w2.heap.size = w3.heap.size) := by omega
  have en4_2 : ¬ (w3.heap.size = w2.heap.size) := by omega
  have hm4_0 : w.heap.size < w4.heap.size := by omega
  have hm4_1 : w.heap.size < w4.heap.size + 1 := by omega
  have hm4_2 : w.heap.size < w4.heap.size + 1 + 1 := by omega
  have hm4_3 : w.heap.size + 1 < w4.heap.size := by omega
  have hm4_4 : w.heap.size + 1 < w4.heap.size + 1 := by omega
  have hm4_5 : w.heap.size < w4.heap.size := by omega
  have hm4_6 : w.heap.size + 1 < w4.heap.size + 1 + 1 := by omega
  have hm4_7 : w.heap.size < w4.heap.size + 1 := by omega
  have hm4_8 : w2.heap.size < w4.heap.size := by omega
  have hm4_9 : w2.heap.size < w4.heap.size + 1 := by omega
  have hm4_10 : w2.heap.size < w4.heap.size + 1 + 1 := by omega
  have hm4_11 : w3.heap.size < w4.heap.size := by omega
  have hm4_12 : w3.heap.size < w4.heap.size + 1 := by omega
  have hm4_13 : w3.heap.size < w4.heap.size + 1 + 1 := by omega
  have hw4 : Below w.heap.size w w4 := Below.trans (by repeat (first | exact hw3 | refine Below.drew ?_ | refine below_drewN ?_ _ | refine Below.setCell ?_ (by first | omega | (simp <;> omega)) _ | refine Below.alloc ?_ (by first | omega | (simp <;> omega)) _)) (hb4.mono (by first | omega | (simp <;> omega)))
  clear hb4 hc4 hf4 hz4 d3_0_0 d3_0_1 f3_0_0 f3_0_1 d3_1_0 d3_1_1 f3_1_0 f3_1_1 d3_2_0 d3_2_1 f3_2_0 f3_2_1 hm3_0 hm3_1 hm3_2 hm3_3 hm3_4 hm3_5 hm3_6 hm3_7 hm3_8 hm3_9 hm3_10
  rw [H1.out]
  go_wp2_with fail
  refine (rsub_any a b c d _).mono ?_
  rintro e w5 ⟨rfl, hb5⟩
  obtain ⟨hc5, hf5⟩ := bcell hb5
  have hz5 := hb5.size
  try simp at hz5
  have d5_0_0 : w5.cell? ⟨w.heap.size, 0, none⟩ = some (.int .i64 a) := (hc5 _ _ (by first | omega | (simp <;> omega))).trans (by first | (simp [go_sem, *]; done) | rfl)
  have d5_0_1 : w5.cell? ⟨w.heap.size, 1, none⟩ = some (.int .i64 b) := (hc5 _ _ (by first | omega | (simp <;> omega))).trans (by first | (simp [go_sem, *]; done) | rfl)
  have f5_0_0 : w5.frozen? ⟨w.heap.size, 0, none⟩ = false := (hf5 _ _ (by first | omega | (simp <;> omega))).trans (by first | (simp [go_sem, *]; done) | rfl)
  have f5_0_1 : w5.frozen? ⟨w.heap.size, 1, none⟩ = false := (hf5 _ _ (by first | omega | (simp <;> omega))).trans (by first | (simp [go_sem, *]; done) | rfl)
  have d5_1_0 : w5.cell? ⟨w.heap.size + 1, 0, none⟩ = some (.int .i64 c) := (hc5 _ _ (by first | omega | (simp <;> omega))).trans (by first | (simp [go_sem, *]; done) | rfl)
  have d5_1_1 : w5.cell? ⟨w.heap.size + 1, 1, none⟩ = some (.int .i64 d) := (hc5 _ _ (by first | omega | (simp <;> omega))).trans (by first | (simp [go_sem, *]; done) | rfl)
  have f5_1_0 : w5.frozen? ⟨w.heap.size + 1, 0, none⟩ = false := (hf5 _ _ (by first | omega | (simp <;> omega))).trans (by first | (simp [go_sem, *]; done) | rfl)
  have f5_1_1 : w5.frozen? ⟨w.heap.size + 1, 1, none⟩ = false := (hf5 _ _ (by first | omega | (simp <;> omega))).trans (by first | (simp [go_sem, *]; done) | rfl)
  have d5_2_0 : w5.cell? ⟨w2.heap.size, 0, none⟩ = some (.int .i64 p0) := (hc5 _ _ (by first | omega | (simp <;> omega))).trans (by first | (simp [go_sem, *]; done) | rfl)
  have d5_2_1 : w5.cell? ⟨w2.heap.size, 1, none⟩ = some (.int .i64 q0) := (hc5 _ _ (by first | omega | (simp <;> omega))).trans (by first | (simp [go_sem, *]; done) | rfl)
  have f5_2_0 : w5.frozen? ⟨w2.heap.size, 0, none⟩ = false := (hf5 _ _ (by first | omega | (simp <;> omega))).trans (by first | (simp [go_sem, *]; done) | rfl)
  have f5_2_1 : w5.frozen? ⟨w2.heap.size, 1, none⟩ = false := (hf5 _ _ (by first | omega | (simp <;> omega))).trans (by first | (simp [go_sem, *]; done) | rfl)
  have d5_3_0 : w5.cell? ⟨w3.heap.size, 0, none⟩ = some (.int .i64 p0) := (hc5 _ _ (by first | omega | (simp <;> omega))).trans (by first | (simp [go_sem, *]; done) | rfl)
  have d5_3_1 : w5.cell? ⟨w3.heap.size, 1, none⟩ = some (.int .i64 q0) := (hc5 _ _ (by first | omega | (simp <;> omega))).trans (by first | (simp [go_sem, *]; done) | rfl)
  have f5_3_0 : w5.frozen? ⟨w3.heap.size, 0, none⟩ = false := (hf5 _ _ (by first | omega | (simp <;> omega))).trans (by first | (simp [go_sem, *]; done) | rfl)
  have f5_3_1 : w5.frozen? ⟨w3.heap.size, 1, none⟩ = false := (hf5 _ _ (by first | omega | (simp <;> omega))).trans (by first | (simp [go_sem, *]; done) | rfl)
  have d5_4_0 : w5.cell? ⟨w4.heap.size, 0, none⟩ = some (.int .i64 p1) := (hc5 _ _ (by first | omega | (simp <;> omega))).trans (by first | (simp [go_sem, *]; done) | rfl)
  have d5_4_1 : w5.cell? ⟨w4.heap.size, 1, none⟩ = some (.int .i64 q1) := (hc5 _ _ (by first | omega | (simp <;> omega))).trans (by first | (simp [go_sem, *]; done) | rfl)
  have f5_4_0 : w5.frozen? ⟨w4.heap.size, 0, none⟩ = false := (hf5 _ _ (by first | omega | (simp <;> omega))).trans (by first | (simp [go_sem, *]; done) | rfl)
  have f5_4_1 : w5.frozen? ⟨w4.heap.size, 1, none⟩ = false := (hf5 _ _ (by first | omega | (simp <;> omega))).trans (by first | (simp [go_sem, *]; done) | rfl)
  have lt5_0 : w.heap.size < w4.heap.size := by omega
  have ne5_0 : ¬ (w.heap.size = w4.heap.size) := by omega
  have en5_0 : ¬ (w4.heap.size = w.heap.size) := by omega
  have lt5_1 : w.heap.size + 1 < w4.heap.size := by omega
  have ne5_1 : ¬ (w.heap.size + 1 = w4.heap.size) := by omega
  have en5_1 : ¬ (w4.heap.size = w.heap.size + 1) := by omega
  have lt5_2 : w2.heap.size < w4.heap.size := by omega
  have ne5_2 : ¬ (w2.heap.size = w4.heap.size) := by omega
  have en5_2 : ¬ (w4.heap.size = w2.heap.size) := by omega
  have lt5_3 : w3.heap.size < w4.heap.size := by omega
  have ne5_3 : ¬ (w3.heap.size = w4.heap.size) := by omega
  have en5_3 : ¬ (w4.heap.size = w3.heap.size) := by omega
  have hm5_0 : w.heap.size < w5.heap.size := by omega
  have hm5_1 : w.heap.size < w5.heap.size + 1 := by omega
  have hm5_2 : w.heap.size < w5.heap.size + 1 + 1 := by omega
  have hm5_3 : w.heap.size + 1 < w5.heap.size := by omega
  have hm5_4 : w.heap.size + 1 < w5.heap.size + 1 := by omega
  have hm5_5 : w.heap.size < w5.heap.size := by omega
  have hm5_6 : w.heap.size + 1 < w5.heap.size + 1 + 1 := by omega
  have hm5_7 : w.heap.size < w5.heap.size + 1 := by omega
  have hm5_8 : w2.heap.size < w5.heap.size := by omega
  have hm5_9 : w2.heap.size < w5.heap.size + 1 := by omega
  have hm5_10 : w2.heap.size < w5.heap.size + 1 + 1 := by omega
  have hm5_11 : w3.heap.size < w5.heap.size := by omega
  have hm5_12 : w3.heap.size < w5.heap.size + 1 := by omega
  have hm5_13 : w3.heap.size < w5.heap.size + 1 + 1 := by omega
  have hm5_14 : w4.heap.size < w5.heap.size := by omega
  have hm5_15 : w4.heap.size < w5.heap.size + 1 := by omega
  have hm5_16 : w4.heap.size < w5.heap.size + 1 + 1 := by omega
  have hw5 : Below w.heap.size w w5 := Below.trans (by repeat (first | exact hw4 | refine Below.drew ?_ | refine below_drewN ?_ _ | refine Below.setCell ?_ (by first | omega | (simp <;> omega)) _ | refine Below.alloc ?_ (by first | omega | (simp <;> omega)) _)) (hb5.mono (by first | omega | (simp <;> omega)))
  clear hb5 hc5 hf5 hz5 d4_0_0 d4_0_1 f4_0_0 f4_0_1 d4_1_0 d4_1_1 f4_1_0 f4_1_1 d4_2_0 d4_2_1 f4_2_0 f4_2_1 d4_3_0 d4_3_1 f4_3_0 f4_3_1 hm4_0 hm4_1 hm4_2 hm4_3 hm4_4 hm4_5 hm4_6 hm4_7 hm4_8 hm4_9 hm4_10 hm4_11 hm4_12 hm4_13
  rw [H1.out]
  go_wp2_with fail
  refine (mul_any a b c d _).mono ?_
  rintro e w6 ⟨rfl, hb6⟩
  obtain ⟨hc6, hf6⟩ := bcell hb6
  have hz6 := hb6.size
  try simp at hz6
  have d6_0_0 : w6.cell? ⟨w.heap.size, 0, none⟩ = some (.int .i64 a) := (hc6 _ _ (by first | omega | (simp <;> omega))).trans (by first | (simp [go_sem, *]; done) | rfl)
  have d6_0_1 : w6.cell? ⟨w.heap.size, 1, none⟩ = some (.int .i64 b) := (hc6 _ _ (by first | omega | (simp <;> omega))).trans (by first | (simp [go_sem, *]; done) | rfl)
  have f6_0_0 : w6.frozen? ⟨w.heap.size, 0, none⟩ = false := (hf6 _ _ (by first | omega | (simp <;> omega))).trans (by first | (simp [go_sem, *]; done) | rfl)
  have f6_0_1 : w6.frozen? ⟨w.heap.size, 1, none⟩ = false := (hf6 _ _ (by first | omega | (simp <;> omega))).trans (by first | (simp [go_sem, *]; done) | rfl)
  have d6_1_0 : w6.cell? ⟨w.heap.size + 1, 0, none⟩ = some (.int .i64 c) := (hc6 _ _ (by first | omega | (simp <;> omega))).trans (by first | (simp [go_sem, *]; done) | rfl)
  have d6_1_1 : w6.cell? ⟨w.heap.size + 1, 1, none⟩ = some (.int .i64 d) := (hc6 _ _ (by first | omega | (simp <;> omega))).trans (by first | (simp [go_sem, *]; done) | rfl)
  have f6_1_0 : w6.frozen? ⟨w.heap.size + 1, 0, none⟩ = false := (hf6 _ _ (by first | omega | (simp <;> omega))).trans (by first | (simp [go_sem, *]; done) | rfl)
  have f6_1_1 : w6.frozen? ⟨w.heap.size + 1, 1, none⟩ = false := (hf6 _ _ (by first | omega | (simp <;> omega))).trans (by first | (simp [go_sem, *]; done) | rfl)
  have d6_2_0 : w6.cell? ⟨w2.heap.size, 0, none⟩ = some (.int .i64 p0) := (hc6 _ _ (by first | omega | (simp <;> omega))).trans (by first | (simp [go_sem, *]; done) | rfl)
  have d6_2_1 : w6.cell? ⟨w2.heap.size, 1, none⟩ = some (.int .i64 q0) := (hc6 _ _ (by first | omega | (simp <;> omega))).trans (by first | (simp [go_sem, *]; done) | rfl)
  have f6_2_0 : w6.frozen? ⟨w2.heap.size, 0, none⟩ = false := (hf6 _ _ (by first | omega | (simp <;> omega))).trans (by first | (simp [go_sem, *]; done) | rfl)
  have f6_2_1 : w6.frozen? ⟨w2.heap.size, 1, none⟩ = false := (hf6 _ _ (by first | omega | (simp <;> omega))).trans (by first | (simp [go_sem, *]; done) | rfl)
  have d6_3_0 : w6.cell? ⟨w3.heap.size, 0, none⟩ = some (.int .i64 p0) := (hc6 _ _ (by first | omega | (simp <;> omega))).trans (by first | (simp [go_sem, *]; done) | rfl)
  have d6_3_1 : w6.cell? ⟨w3.heap.size, 1, none⟩ = some (.int .i64 q0) := (hc6 _ _ (by first | omega | (simp <;> omega))).trans (by first | (simp [go_sem, *]; done) | rfl)
  have f6_3_0 : w6.frozen? ⟨w3.heap.size, 0, none⟩ = false := (hf6 _ _ (by first | omega | (simp <;> omega))).trans (by first | (simp [go_sem, *]; done) | rfl)
  have f6_3_1 : w6.frozen? ⟨w3.heap.size, 1, none⟩ = false := (hf6 _ _ (by first | omega | (simp <;> omega))).trans (by first | (simp [go_sem, *]; done) | rfl)
  have d6_4_0 : w6.cell? ⟨w4.heap.size, 0, none⟩ = some (.int .i64 p1) := (hc6 _ _ (by first | omega | (simp <;> omega))).trans (by first | (simp [go_sem, *]; done) | rfl)
  have d6_4_1 : w6.cell? ⟨w4.heap.size, 1, none⟩ = some (.int .i64 q1) := (hc6 _ _ (by first | omega | (simp <;> omega))).trans (by first | (simp [go_sem, *]; done) | rfl)
  have f6_4_0 : w6.frozen? ⟨w4.heap.size, 0, none⟩ = false := (hf6 _ _ (by first | omega | (simp <;> omega))).trans (by first | (simp [go_sem, *]; done) | rfl)
  have f6_4_1 : w6.frozen? ⟨w4.heap.size, 1, none⟩ = false := (hf6 _ _ (by first | omega | (simp <;> omega))).trans (by first | (simp [go_sem, *]; done) | rfl)
  have d6_5_0 : w6.cell? ⟨w5.heap.size, 0, none⟩ = some (.int .i64 p1) := (hc6 _ _ (by first | omega | (simp <;> omega))).trans (by first | (simp [go_sem, *]; done) | rfl)
  have d6_5_1 : w6.cell? ⟨w5.heap.size, 1, none⟩ = some (.int .i64 q1) := (hc6 _ _ (by first | omega | (simp <;> omega))).trans (by first | (simp [go_sem, *]; done) | rfl)
  have f6_5_0 : w6.frozen? ⟨w5.heap.size, 0, none⟩ = false := (hf6 _ _ (by first | omega | (simp <;> omega))).trans (by first | (simp [go_sem, *]; done) | rfl)
  have f6_5_1 : w6.frozen? ⟨w5.heap.size, 1, none⟩ = false := (hf6 _ _ (by first | omega | (simp <;> omega))).trans (by first | (simp [go_sem, *]; done) | rfl)
  have lt6_0 : w.heap.size < w5.heap.size := by omega
  have ne6_0 : ¬ (w.heap.size = w5.heap.size) := by omega
  have en6_0 : ¬ (w5.heap.size = w.heap.size) := by omega
  have lt6_1 : w.heap.size + 1 < w5.heap.size := by omega
  have ne6_1 : ¬ (w.heap.size + 1 = w5.heap.size) := by omega
  have en6_1 : ¬ (w5.heap.size = w.heap.size + 1) := by omega
  have lt6_2 : w2.heap.size < w5.heap.size := by omega
  have ne6_2 : ¬ (w2.heap.size = w5.heap.size) := by omega
  have en6_2 : ¬ (w5.heap.size = w2.heap.size) := by omega
  have lt6_3 : w3.heap.size < w5.heap.size := by omega
  have ne6_3 : ¬ (w3.heap.size = w5.heap.size) := by omega
  have en6_3 : ¬ (w5.heap.size = w3.heap.size) := by omega
  have lt6_4 : w4.heap.size < w5.heap.size := by omega
  have ne6_4 : ¬ (w4.heap.size = w5.heap.size) := by omega
  have en6_4 : ¬ (w5.heap.size = w4.heap.size) := by omega
  have hm6_0 : w.heap.size < w6.heap.size := by omega
  have hm6_1 : w.heap.size < w6.heap.size + 1 := by omega
  have hm6_2 : w.heap.size < w6.heap.size + 1 + 1 := by omega
  have hm6_3 : w.heap.size + 1 < w6.heap.size := by omega
  have hm6_4 : w.heap.size + 1 < w6.heap.size + 1 := by omega
  have hm6_5 : w.heap.size < w6.heap.size := by omega
  have hm6_6 : w.heap.size + 1 < w6.heap.size + 1 + 1 := by omega
  have hm6_7 : w.heap.size < w6.heap.size + 1 := by omega
  have hm6_8 : w2.heap.size < w6.heap.size := by omega
  have hm6_9 : w2.heap.size < w6.heap.size + 1 := by omega
  have hm6_10 : w2.heap.size < w6.heap.size + 1 + 1 := by omega
  have hm6_11 : w3.heap.size < w6.heap.size := by omega
  have hm6_12 : w3.heap.size < w6.heap.size + 1 := by omega
  have hm6_13 : w3.heap.size < w6.heap.size + 1 + 1 := by omega
  have hm6_14 : w4.heap.size < w6.heap.size := by omega
  have hm6_15 : w4.heap.size < w6.heap.size + 1 := by omega
  have hm6_16 : w4.heap.size < w6.heap.size + 1 + 1 := by omega
  have hm6_17 : w5.heap.size < w6.heap.size := by omega
  have hm6_18 : w5.heap.size < w6.heap.size + 1 := by omega
  have hm6_19 : w5.heap.size < w6.heap.size + 1 + 1 := by omega
  have hw6 : Below w.heap.size w w6 := Below.trans (by repeat (first | exact hw5 | refine Below.drew ?_ | refine below_drewN ?_ _ | refine Below.setCell ?_ (by first | omega | (simp <;> omega)) _ | refine Below.alloc ?_ (by first | omega | (simp <;> omega)) _)) (hb6.mono (by first | omega | (simp <;> omega)))
  clear hb6 hc6 hf6 hz6 d5_0_0 d5_0_1 f5_0_0 f5_0_1 d5_1_0 d5_1_1 f5_1_0 f5_1_1 d5_2_0 d5_2_1 f5_2_0 f5_2_1 d5_3_0 d5_3_1 f5_3_0 f5_3_1 d5_4_0 d5_4_1 f5_4_0 f5_4_1 hm5_0 hm5_1 hm5_2 hm5_3 hm5_4 hm5_5 hm5_6 hm5_7 hm5_8 hm5_9 hm5_10 hm5_11 hm5_12 hm5_13 hm5_14 hm5_15 hm5_16
  rw [H2.out]
  go_wp2_with fail
  refine (rmul_any a b c d _).mono ?_
  rintro e w7 ⟨rfl, hb7⟩
  obtain ⟨hc7, hf7⟩ := bcell hb7
  have hz7 := hb7.size
  try simp at hz7
  have d7_0_0 : w7.cell? ⟨w.heap.size, 0, none⟩ = some (.int .i64 a) := (hc7 _ _ (by first | omega | (simp <;> omega))).trans (by first | (simp [go_sem, *]; done) | rfl)
  have d7_0_1 : w7.cell? ⟨w.heap.size, 1, none⟩ = some (.int .i64 b) := (hc7 _ _ (by first | omega | (simp <;> omega))).trans (by first | (simp [go_sem, *]; done) | rfl)
  have f7_0_0 : w7.frozen? ⟨w.heap.size, 0, none⟩ = false := (hf7 _ _ (by first | omega | (simp <;> omega))).trans (by first | (simp [go_sem, *]; done) | rfl)
  have f7_0_1 : w7.frozen? ⟨w.heap.size, 1, none⟩ = false := (hf7 _ _ (by first | omega | (simp <;> omega))).trans (by first | (simp [go_sem, *]; done) | rfl)
  have d7_1_0 : w7.cell? ⟨w.heap.size + 1, 0, none⟩ = some (.int .i64 c) := (hc7 _ _ (by first | omega | (simp <;> omega))).trans (by first | (simp [go_sem, *]; done) | rfl)
  have d7_1_1 : w7.cell? ⟨w.heap.size + 1, 1, none⟩ = some (.int .i64 d) := (hc7 _ _ (by first | omega | (simp <;> omega))).trans (by first | (simp [go_sem, *]; done) | rfl)
  have f7_1_0 : w7.frozen? ⟨w.heap.size + 1, 0, none⟩ = false := (hf7 _ _ (by first | omega | (simp <;> omega))).trans (by first | (simp [go_sem, *]; done) | rfl)
  have f7_1_1 : w7.frozen? ⟨w.heap.size + 1, 1, none⟩ = false := (hf7 _ _ (by first | omega | (simp <;> omega))).trans (by first | (simp [go_sem, *]; done) | rfl)
  have d7_2_0 : w7.cell? ⟨w2.heap.size, 0, none⟩ = some (.int .i64 p2) := (hc7 _ _ (by first | omega | (simp <;> omega))).trans (by first | (simp [go_sem, *]; done) | rfl)
  have d7_2_1 : w7.cell? ⟨w2.heap.size, 1, none⟩ = some (.int .i64 q2) := (hc7 _ _ (by first | omega | (simp <;> omega))).trans (by first | (simp [go_sem, *]; done) | rfl)
  have f7_2_0 : w7.frozen? ⟨w2.heap.size, 0, none⟩ = false := (hf7 _ _ (by first | omega | (simp <;> omega))).trans (by first | (simp [go_sem, *]; done) | rfl)
  have f7_2_1 : w7.frozen? ⟨w2.heap.size, 1, none⟩ = false := (hf7 _ _ (by first | omega | (simp <;> omega))).trans (by first | (simp [go_sem, *]; done) | rfl)
  have d7_3_0 : w7.cell? ⟨w3.heap.size, 0, none⟩ = some (.int .i64 p0) := (hc7 _ _ (by first | omega | (simp <;> omega))).trans (by first | (simp [go_sem, *]; done) | rfl)
  have d7_3_1 : w7.cell? ⟨w3.heap.size, 1, none⟩ = some (.int .i64 q0) := (hc7 _ _ (by first | omega | (simp <;> omega))).trans (by first | (simp [go_sem, *]; done) | rfl)
  have f7_3_0 : w7.frozen? ⟨w3.heap.size, 0, none⟩ = false := (hf7 _ _ (by first | omega | (simp <;> omega))).trans (by first | (simp [go_sem, *]; done) | rfl)
  have f7_3_1 : w7.frozen? ⟨w3.heap.size, 1, none⟩ = false := (hf7 _ _ (by first | omega | (simp <;> omega))).trans (by first | (simp [go_sem, *]; done) | rfl)
  have d7_4_0 : w7.cell? ⟨w4.heap.size, 0, none⟩ = some (.int .i64 p1) := (hc7 _ _ (by first | omega | (simp <;> omega))).trans (by first | (simp [go_sem, *]; done) | rfl)
  have d7_4_1 : w7.cell? ⟨w4.heap.size, 1, none⟩ = some (.int .i64 q1) := (hc7 _ _ (by first | omega | (simp <;> omega))).trans (by first | (simp [go_sem, *]; done) | rfl)
  have f7_4_0 : w7.frozen? ⟨w4.heap.size, 0, none⟩ = false := (hf7 _ _ (by first | omega | (simp <;> omega))).trans (by first | (simp [go_sem, *]; done) | rfl)
  have f7_4_1 : w7.frozen? ⟨w4.heap.size, 1, none⟩ = false := (hf7 _ _ (by first | omega | (simp <;> omega))).trans (by first | (simp [go_sem, *]; done) | rfl)
  have d7_5_0 : w7.cell? ⟨w5.heap.size, 0, none⟩ = some (.int .i64 p1) := (hc7 _ _ (by first | omega | (simp <;> omega))).trans (by first | (simp [go_sem, *]; done) | rfl)
  have d7_5_1 : w7.cell? ⟨w5.heap.size, 1, none⟩ = some (.int .i64 q1) := (hc7 _ _ (by first | omega | (simp <;> omega))).trans (by first | (simp [go_sem, *]; done) | rfl)
  have f7_5_0 : w7.frozen? ⟨w5.heap.size, 0, none⟩ = false := (hf7 _ _ (by first | omega | (simp <;> omega))).trans (by first | (simp [go_sem, *]; done) | rfl)
  have f7_5_1 : w7.frozen? ⟨w5.heap.size, 1, none⟩ = false := (hf7 _ _ (by first | omega | (simp <;> omega))).trans (by first | (simp [go_sem, *]; done) | rfl)
  have hm7_0 : w.heap.size < w7.heap.size := by omega
  have hm7_1 : w.heap.size < w7.heap.size + 1 := by omega
  have hm7_2 : w.heap.size < w7.heap.size + 1 + 1 := by omega
  have hm7_3 : w.heap.size + 1 < w7.heap.size := by omega
  have hm7_4 : w.heap.size + 1 < w7.heap.size + 1 := by omega
  have hm7_5 : w.heap.size < w7.heap.size := by omega
  have hm7_6 : w.heap.size + 1 < w7.heap.size + 1 + 1 := by omega
  have hm7_7 : w.heap.size < w7.heap.size + 1 := by omega
  have hm7_8 : w2.heap.size < w7.heap.size := by omega
  have hm7_9 : w2.heap.size < w7.heap.size + 1 := by omega
  have hm7_10 : w2.heap.size < w7.heap.size + 1 + 1 := by omega
  have hm7_11 : w3.heap.size < w7.heap.size := by omega
  have hm7_12 : w3.heap.size < w7.heap.size + 1 := by omega
  have hm7_13 : w3.heap.size < w7.heap.size + 1 + 1 := by omega
  have hm7_14 : w4.heap.size < w7.heap.size := by omega
  have hm7_15 : w4.heap.size < w7.heap.size + 1 := by omega
  have hm7_16 : w4.heap.size < w7.heap.size + 1 + 1 := by omega
  have hm7_17 : w5.heap.size < w7.heap.size := by omega
  have hm7_18 : w5.heap.size < w7.heap.size + 1 := by omega
  have hm7_19 : w5.heap.size < w7.heap.size + 1 + 1 := by omega
  have hw7 : Below w.heap.size w w7 := Below.trans (by repeat (first | exact hw6 | refine Below.drew ?_ | refine below_drewN ?_ _ | refine Below.setCell ?_ (by first | omega | (simp <;> omega)) _ | refine Below.alloc ?_ (by first | omega | (simp <;> omega)) _)) (hb7.mono (by first | omega | (simp <;> omega)))
  clear hb7 hc7 hf7 hz7 d6_0_0 d6_0_1 f6_0_0 f6_0_1 d6_1_0 d6_1_1 f6_1_0 f6_1_1 d6_2_0 d6_2_1 f6_2_0 f6_2_1 d6_3_0 d6_3_1 f6_3_0 f6_3_1 d6_4_0 d6_4_1 f6_4_0 f6_4_1 d6_5_0 d6_5_1 f6_5_0 f6_5_1 hm6_0 hm6_1 hm6_2 hm6_3 hm6_4 hm6_5 hm6_6 hm6_7 hm6_8 hm6_9 hm6_10 hm6_11 hm6_12 hm6_13 hm6_14 hm6_15 hm6_16 hm6_17 hm6_18 hm6_19
  rw [H2.out]
  go_wp2_with fail
  refine (div_any a b c d _).mono ?_
  rintro e w8 ⟨rfl, hb8⟩
  obtain ⟨hc8, hf8⟩ := bcell hb8
  have hz8 := hb8.size
  try simp at hz8
  have d8_0_0 : w8.cell? ⟨w.heap.size, 0, none⟩ = some (.int .i64 a) := (hc8 _ _ (by first | omega | (simp <;> omega))).trans (by first | (simp [go_sem, *]; done) | rfl)
  have d8_0_1 : w8.cell? ⟨w.heap.size, 1, none⟩ = some (.int .i64 b) := (hc8 _ _ (by first | omega | (simp <;> omega))).trans (by first | (simp [go_sem, *]; done) | rfl)
  have f8_0_0 : w8.frozen? ⟨w.heap.size, 0, none⟩ = false := (hf8 _ _ (by first | omega | (simp <;> omega))).trans (by first | (simp [go_sem, *]; done) | rfl)
  have f8_0_1 : w8.frozen? ⟨w.heap.size, 1, none⟩ = false := (hf8 _ _ (by first | omega | (simp <;> omega))).trans (by first | (simp [go_sem, *]; done) | rfl)
  have d8_1_0 : w8.cell? ⟨w.heap.size + 1, 0, none⟩ = some (.int .i64 c) := (hc8 _ _ (by first | omega | (simp <;> omega))).trans (by first | (simp [go_sem, *]; done) | rfl)
  have d8_1_1 : w8.cell? ⟨w.heap.size + 1, 1, none⟩ = some (.int .i64 d) := (hc8 _ _ (by first | omega | (simp <;> omega))).trans (by first | (simp [go_sem, *]; done) | rfl)
  have f8_1_0 : w8.frozen? ⟨w.heap.size + 1, 0, none⟩ = false := (hf8 _ _ (by first | omega | (simp <;> omega))).trans (by first | (simp [go_sem, *]; done) | rfl)
  have f8_1_1 : w8.frozen? ⟨w.heap.size + 1, 1, none⟩ = false := (hf8 _ _ (by first | omega | (simp <;> omega))).trans (by first | (simp [go_sem, *]; done) | rfl)
  have d8_2_0 : w8.cell? ⟨w2.heap.size, 0, none⟩ = some (.int .i64 p2) := (hc8 _ _ (by first | omega | (simp <;> omega))).trans (by first | (simp [go_sem, *]; done) | rfl)
  have d8_2_1 : w8.cell? ⟨w2.heap.size, 1, none⟩ = some (.int .i64 q2) := (hc8 _ _ (by first | omega | (simp <;> omega))).trans (by first | (simp [go_sem, *]; done) | rfl)
  have f8_2_0 : w8.frozen? ⟨w2.heap.size, 0, none⟩ = false := (hf8 _ _ (by first | omega | (simp <;> omega))).trans (by first | (simp [go_sem, *]; done) | rfl)
  have f8_2_1 : w8.frozen? ⟨w2.heap.size, 1, none⟩ = false := (hf8 _ _ (by first | omega | (simp <;> omega))).trans (by first | (simp [go_sem, *]; done) | rfl)
  have d8_3_0 : w8.cell? ⟨w3.heap.size, 0, none⟩ = some (.int .i64 p2) := (hc8 _ _ (by first | omega | (simp <;> omega))).trans (by first | (simp [go_sem, *]; done) | rfl)
  have d8_3_1 : w8.cell? ⟨w3.heap.size, 1, none⟩ = some (.int .i64 q2) := (hc8 _ _ (by first | omega | (simp <;> omega))).trans (by first | (simp [go_sem, *]; done) | rfl)
  have f8_3_0 : w8.frozen? ⟨w3.heap.size, 0, none⟩ = false := (hf8 _ _ (by first | omega | (simp <;> omega))).trans (by first | (simp [go_sem, *]; done) | rfl)
  have f8_3_1 : w8.frozen? ⟨w3.heap.size, 1, none⟩ = false := (hf8 _ _ (by first | omega | (simp <;> omega))).trans (by first | (simp [go_sem, *]; done) | rfl)
  have d8_4_0 : w8.cell? ⟨w4.heap.size, 0, none⟩ = some (.int .i64 p1) := (hc8 _ _ (by first | omega | (simp <;> omega))).trans (by first | (simp [go_sem, *]; done) | rfl)
  have d8_4_1 : w8.cell? ⟨w4.heap.size, 1, none⟩ = some (.int .i64 q1) := (hc8 _ _ (by first | omega | (simp <;> omega))).trans (by first | (simp [go_sem, *]; done) | rfl)
  have f8_4_0 : w8.frozen? ⟨w4.heap.size, 0, none⟩ = false := (hf8 _ _ (by first | omega | (simp <;> omega))).trans (by first | (simp [go_sem, *]; done) | rfl)
  have f8_4_1 : w8.frozen? ⟨w4.heap.size, 1, none⟩ = false := (hf8 _ _ (by first | omega | (simp <;> omega))).trans (by first | (simp [go_sem, *]; done) | rfl)
  have d8_5_0 : w8.cell? ⟨w5.heap.size, 0, none⟩ = some (.int .i64 p1) := (hc8 _ _ (by first | omega | (simp <;> omega))).trans (by first | (simp [go_sem, *]; done) | rfl)
  have d8_5_1 : w8.cell? ⟨w5.heap.size, 1, none⟩ = some (.int .i64 q1) := (hc8 _ _ (by first | omega | (simp <;> omega))).trans (by first | (simp [go_sem, *]; done) | rfl)
  have f8_5_0 : w8.frozen? ⟨w5.heap.size, 0, none⟩ = false := (hf8 _ _ (by first | omega | (simp <;> omega))).trans (by first | (simp [go_sem, *]; done) | rfl)
  have f8_5_1 : w8.frozen? ⟨w5.heap.size, 1, none⟩ = false := (hf8 _ _ (by first | omega | (simp <;> omega))).trans (by first | (simp [go_sem, *]; done) | rfl)
  have hm8_0 : w.heap.size < w8.heap.size := by omega
  have hm8_1 : w.heap.size < w8.heap.size + 1 := by omega
  have hm8_2 : w.heap.size < w8.heap.size + 1 + 1 := by omega
  have hm8_3 : w.heap.size + 1 < w8.heap.size := by omega
  have hm8_4 : w.heap.size + 1 < w8.heap.size + 1 := by omega
  have hm8_5 : w.heap.size < w8.heap.size := by omega
  have hm8_6 : w.heap.size + 1 < w8.heap.size + 1 + 1 := by omega
  have hm8_7 : w.heap.size < w8.heap.size + 1 := by omega
  have hm8_8 : w2.heap.size < w8.heap.size := by omega
  have hm8_9 : w2.heap.size < w8.heap.size + 1 := by omega
  have hm8_10 : w2.heap.size < w8.heap.size + 1 + 1 := by omega
  have hm8_11 : w3.heap.size < w8.heap.size := by omega
  have hm8_12 : w3.heap.size < w8.heap.size + 1 := by omega
  have hm8_13 : w3.heap.size < w8.heap.size + 1 + 1 := by omega
  have hm8_14 : w4.heap.size < w8.heap.size := by omega
  have hm8_15 : w4.heap.size < w8.heap.size + 1 := by omega
  have hm8_16 : w4.heap.size < w8.heap.size + 1 + 1 := by omega
  have hm8_17 : w5.heap.size < w8.heap.size := by omega
  have hm8_18 : w5.heap.size < w8.heap.size + 1 := by omega
  have hm8_19 : w5.heap.size < w8.heap.size + 1 + 1 := by omega
  have hw8 : Below w.heap.size w w8 := Below.trans (by repeat (first | exact hw7 | refine Below.drew ?_ | refine below_drewN ?_ _ | refine Below.setCell ?_ (by first | omega | (simp <;> omega)) _ | refine Below.alloc ?_ (by first | omega | (simp <;> omega)) _)) (hb8.mono (by first | omega | (simp <;> omega)))
  clear hb8 hc8 hf8 hz8 d7_0_0 d7_0_1 f7_0_0 f7_0_1 d7_1_0 d7_1_1 f7_1_0 f7_1_1 d7_2_0 d7_2_1 f7_2_0 f7_2_1 d7_3_0 d7_3_1 f7_3_0 f7_3_1 d7_4_0 d7_4_1 f7_4_0 f7_4_1 d7_5_0 d7_5_1 f7_5_0 f7_5_1 hm7_0 hm7_1 hm7_2 hm7_3 hm7_4 hm7_5 hm7_6 hm7_7 hm7_8 hm7_9 hm7_10 hm7_11 hm7_12 hm7_13 hm7_14 hm7_15 hm7_16 hm7_17 hm7_18 hm7_19
  rw [H3.out]
  go_wp2_with fail
  refine (rdiv_any a b c d _).mono ?_
  rintro e w9 ⟨rfl, hb9⟩
  obtain ⟨hc9, hf9⟩ := bcell hb9
  have hz9 := hb9.size
  try simp at hz9
  have d9_0_0 : w9.cell? ⟨w.heap.size, 0, none⟩ = some (.int .i64 a) := (hc9 _ _ (by first | omega | (simp <;> omega))).trans (by first | (simp [go_sem, *]; done) | rfl)
  have d9_0_1 : w9.cell? ⟨w.heap.size, 1, none⟩ = some (.int .i64 b) := (hc9 _ _ (by first | omega | (simp <;> omega))).trans (by first | (simp [go_sem, *]; done) | rfl)
  have f9_0_0 : w9.frozen? ⟨w.heap.size, 0, none⟩ = false := (hf9 _ _ (by first | omega | (simp <;> omega))).trans (by first | (simp [go_sem, *]; done) | rfl)
  have f9_0_1 : w9.frozen? ⟨w.heap.size, 1, none⟩ = false := (hf9 _ _ (by first | omega | (simp <;> omega))).trans (by first | (simp [go_sem, *]; done) | rfl)
  have d9_1_0 : w9.cell? ⟨w.heap.size + 1, 0, none⟩ = some (.int .i64 c) := (hc9 _ _ (by first | omega | (simp <;> omega))).trans (by first | (simp [go_sem, *]; done) | rfl)
  have d9_1_1 : w9.cell? ⟨w.heap.size + 1, 1, none⟩ = some (.int .i64 d) := (hc9 _ _ (by first | omega | (simp <;> omega))).trans (by first | (simp [go_sem, *]; done) | rfl)
  have f9_1_0 : w9.frozen? ⟨w.heap.size + 1, 0, none⟩ = false := (hf9 _ _ (by first | omega | (simp <;> omega))).trans (by first | (simp [go_sem, *]; done) | rfl)
  have f9_1_1 : w9.frozen? ⟨w.heap.size + 1, 1, none⟩ = false := (hf9 _ _ (by first | omega | (simp <;> omega))).trans (by first | (simp [go_sem, *]; done) | rfl)
  have d9_2_0 : w9.cell? ⟨w2.heap.size, 0, none⟩ = some (.int .i64 p2) := (hc9 _ _ (by first | omega | (simp <;> omega))).trans (by first | (simp [go_sem, *]; done) | rfl)
  have d9_2_1 : w9.cell? ⟨w2.heap.size, 1, none⟩ = some (.int .i64 q2) := (hc9 _ _ (by first | omega | (simp <;> omega))).trans (by first | (simp [go_sem, *]; done) | rfl)
  have f9_2_0 : w9.frozen? ⟨w2.heap.size, 0, none⟩ = false := (hf9 _ _ (by first | omega | (simp <;> omega))).trans (by first | (simp [go_sem, *]; done) | rfl)
  have f9_2_1 : w9.frozen? ⟨w2.heap.size, 1, none⟩ = false := (hf9 _ _ (by first | omega | (simp <;> omega))).trans (by first | (simp [go_sem, *]; done) | rfl)
  have d9_3_0 : w9.cell? ⟨w3.heap.size, 0, none⟩ = some (.int .i64 p2) := (hc9 _ _ (by first | omega | (simp <;> omega))).trans (by first | (simp [go_sem, *]; done) | rfl)
  have d9_3_1 : w9.cell? ⟨w3.heap.size, 1, none⟩ = some (.int .i64 q2) := (hc9 _ _ (by first | omega | (simp <;> omega))).trans (by first | (simp [go_sem, *]; done) | rfl)
  have f9_3_0 : w9.frozen? ⟨w3.heap.size, 0, none⟩ = false := (hf9 _ _ (by first | omega | (simp <;> omega))).trans (by first | (simp [go_sem, *]; done) | rfl)
  have f9_3_1 : w9.frozen? ⟨w3.heap.size, 1, none⟩ = false := (hf9 _ _ (by first | omega | (simp <;> omega))).trans (by first | (simp [go_sem, *]; done) | rfl)
  have d9_4_0 : w9.cell? ⟨w4.heap.size, 0, none⟩ = some (.int .i64 p3) := (hc9 _ _ (by first | omega | (simp <;> omega))).trans (by first | (simp [go_sem, *]; done) | rfl)
  have d9_4_1 : w9.cell? ⟨w4.heap.size, 1, none⟩ = some (.int .i64 q3) := (hc9 _ _ (by first | omega | (simp <;> omega))).trans (by first | (simp [go_sem, *]; done) | rfl)
  have f9_4_0 : w9.frozen? ⟨w4.heap.size, 0, none⟩ = false := (hf9 _ _ (by first | omega | (simp <;> omega))).trans (by first | (simp [go_sem, *]; done) | rfl)
  have f9_4_1 : w9.frozen? ⟨w4.heap.size, 1, none⟩ = false := (hf9 _ _ (by first | omega | (simp <;> omega))).trans (by first | (simp [go_sem, *]; done) | rfl)
  have d9_5_0 : w9.cell? ⟨w5.heap.size, 0, none⟩ = some (.int .i64 p1) := (hc9 _ _ (by first | omega | (simp <;> omega))).trans (by first | (simp [go_sem, *]; done) | rfl)
  have d9_5_1 : w9.cell? ⟨w5.heap.size, 1, none⟩ = some (.int .i64 q1) := (hc9 _ _ (by first | omega | (simp <;> omega))).trans (by first | (simp [go_sem, *]; done) | rfl)
  have f9_5_0 : w9.frozen? ⟨w5.heap.size, 0, none⟩ = false := (hf9 _ _ (by first | omega | (simp <;> omega))).trans (by first | (simp [go_sem, *]; done) | rfl)
  have f9_5_1 : w9.frozen? ⟨w5.heap.size, 1, none⟩ = false := (hf9 _ _ (by first | omega | (simp <;> omega))).trans (by first | (simp [go_sem, *]; done) | rfl)
  have hm9_0 : w.heap.size < w9.heap.size := by omega
  have hm9_1 : w.heap.size < w9.heap.size + 1 := by omega
  have hm9_2 : w.heap.size < w9.heap.size + 1 + 1 := by omega
  have hm9_3 : w.heap.size + 1 < w9.heap.size := by omega
  have hm9_4 : w.heap.size + 1 < w9.heap.size + 1 := by omega
  have hm9_5 : w.heap.size < w9.heap.size := by omega
  have hm9_6 : w.heap.size + 1 < w9.heap.size + 1 + 1 := by omega
  have hm9_7 : w.heap.size < w9.heap.size + 1 := by omega
  have hm9_8 : w2.heap.size < w9.heap.size := by omega
  have hm9_9 : w2.heap.size < w9.heap.size + 1 := by omega
  have hm9_10 : w2.heap.size < w9.heap.size + 1 + 1 := by omega
  have hm9_11 : w3.heap.size < w9.heap.size := by omega
  have hm9_12 : w3.heap.size < w9.heap.size + 1 := by omega
  have hm9_13 : w3.heap.size < w9.heap.size + 1 + 1 := by omega
  have hm9_14 : w4.heap.size < w9.heap.size := by omega
  have hm9_15 : w4.heap.size < w9.heap.size + 1 := by omega
  have hm9_16 : w4.heap.size < w9.heap.size + 1 + 1 := by omega
  have hm9_17 : w5.heap.size < w9.heap.size := by omega
  have hm9_18 : w5.heap.size < w9.heap.size + 1 := by omega
  have hm9_19 : w5.heap.size < w9.heap.size + 1 + 1 := by omega
  have hw9 : Below w.heap.size w w9 := Below.trans (by repeat (first | exact hw8 | refine Below.drew ?_ | refine below_drewN ?_ _ | refine Below.setCell ?_ (by first | omega | (simp <;> omega)) _ | refine Below.alloc ?_ (by first | omega | (simp <;> omega)) _)) (hb9.mono (by first | omega | (simp <;> omega)))
  clear hb9 hc9 hf9 hz9 d8_0_0 d8_0_1 f8_0_0 f8_0_1 d8_1_0 d8_1_1 f8_1_0 f8_1_1 d8_2_0 d8_2_1 f8_2_0 f8_2_1 d8_3_0 d8_3_1 f8_3_0 f8_3_1 d8_4_0 d8_4_1 f8_4_0 f8_4_1 d8_5_0 d8_5_1 f8_5_0 f8_5_1 hm8_0 hm8_1 hm8_2 hm8_3 hm8_4 hm8_5 hm8_6 hm8_7 hm8_8 hm8_9 hm8_10 hm8_11 hm8_12 hm8_13 hm8_14 hm8_15 hm8_16 hm8_17 hm8_18 hm8_19
  rw [H3.out]
  go_wp2_with fail
  refine (neg_any a b _).mono ?_
  rintro e w10 ⟨rfl, hb10⟩
  obtain ⟨hc10, hf10⟩ := bcell hb10
  have hz10 := hb10.size
  try simp at hz10
  have d10_0_0 : w10.cell? ⟨w.heap.size, 0, none⟩ = some (.int .i64 a) := (hc10 _ _ (by first | omega | (simp <;> omega))).trans (by first | (simp [go_sem, *]; done) | rfl)
  have d10_0_1 : w10.cell? ⟨w.heap.size, 1, none⟩ = some (.int .i64 b) := (hc10 _ _ (by first | omega | (simp <;> omega))).trans (by first | (simp [go_sem, *]; done) | rfl)
  have f10_0_0 : w10.frozen? ⟨w.heap.size, 0, none⟩ = false := (hf10 _ _ (by first | omega | (simp <;> omega))).trans (by first | (simp [go_sem, *]; done) | rfl)
  have f10_0_1 : w10.frozen? ⟨w.heap.size, 1, none⟩ = false := (hf10 _ _ (by first | omega | (simp <;> omega))).trans (by first | (simp [go_sem, *]; done) | rfl)
  have d10_1_0 : w10.cell? ⟨w.heap.size + 1, 0, none⟩ = some (.int .i64 c) := (hc10 _ _ (by first | omega | (simp <;> omega))).trans (by first | (simp [go_sem, *]; done) | rfl)
  have d10_1_1 : w10.cell? ⟨w.heap.size + 1, 1, none⟩ = some (.int .i64 d) := (hc10 _ _ (by first | omega | (simp <;> omega))).trans (by first | (simp [go_sem, *]; done) | rfl)
  have f10_1_0 : w10.frozen? ⟨w.heap.size + 1, 0, none⟩ = false := (hf10 _ _ (by first | omega | (simp <;> omega))).trans (by first | (simp [go_sem, *]; done) | rfl)
  have f10_1_1 : w10.frozen? ⟨w.heap.size + 1, 1, none⟩ = false := (hf10 _ _ (by first | omega | (simp <;> omega))).trans (by first | (simp [go_sem, *]; done) | rfl)
  have d10_2_0 : w10.cell? ⟨w2.heap.size, 0, none⟩ = some (.int .i64 p2) := (hc10 _ _ (by first | omega | (simp <;> omega))).trans (by first | (simp [go_sem, *]; done) | rfl)
  have d10_2_1 : w10.cell? ⟨w2.heap.size, 1, none⟩ = some (.int .i64 q2) := (hc10 _ _ (by first | omega | (simp <;> omega))).trans (by first | (simp [go_sem, *]; done) | rfl)
  have f10_2_0 : w10.frozen? ⟨w2.heap.size, 0, none⟩ = false := (hf10 _ _ (by first | omega | (simp <;> omega))).trans (by first | (simp [go_sem, *]; done) | rfl)
  have f10_2_1 : w10.frozen? ⟨w2.heap.size, 1, none⟩ = false := (hf10 _ _ (by first | omega | (simp <;> omega))).trans (by first | (simp [go_sem, *]; done) | rfl)
  have d10_3_0 : w10.cell? ⟨w3.heap.size, 0, none⟩ = some (.int .i64 p2) := (hc10 _ _ (by first | omega | (simp <;> omega))).trans (by first | (simp [go_sem, *]; done) | rfl)
  have d10_3_1 : w10.cell? ⟨w3.heap.size, 1, none⟩ = some (.int .i64 q2) := (hc10 _ _ (by first | omega | (simp <;> omega))).trans (by first | (simp [go_sem, *]; done) | rfl)
  have f10_3_0 : w10.frozen? ⟨w3.heap.size, 0, none⟩ = false := (hf10 _ _ (by first | omega | (simp <;> omega))).trans (by first | (simp [go_sem, *]; done) | rfl)
  have f10_3_1 : w10.frozen? ⟨w3.heap.size, 1, none⟩ = false := (hf10 _ _ (by first | omega | (simp <;> omega))).trans (by first | (simp [go_sem, *]; done) | rfl)
  have d10_4_0 : w10.cell? ⟨w4.heap.size, 0, none⟩ = some (.int .i64 p3) := (hc10 _ _ (by first | omega | (simp <;> omega))).trans (by first | (simp [go_sem, *]; done) | rfl)
  have d10_4_1 : w10.cell? ⟨w4.heap.size, 1, none⟩ = some (.int .i64 q3) := (hc10 _ _ (by first | omega | (simp <;> omega))).trans (by first | (simp [go_sem, *]; done) | rfl)
  have f10_4_0 : w10.frozen? ⟨w4.heap.size, 0, none⟩ = false := (hf10 _ _ (by first | omega | (simp <;> omega))).trans (by first | (simp [go_sem, *]; done) | rfl)
  have f10_4_1 : w10.frozen? ⟨w4.heap.size, 1, none⟩ = false := (hf10 _ _ (by first | omega | (simp <;> omega))).trans (by first | (simp [go_sem, *]; done) | rfl)
  have d10_5_0 : w10.cell? ⟨w5.heap.size, 0, none⟩ = some (.int .i64 p3) := (hc10 _ _ (by first | omega | (simp <;> omega))).trans (by first | (simp [go_sem, *]; done) | rfl)
  have d10_5_1 : w10.cell? ⟨w5.heap.size, 1, none⟩ = some (.int .i64 q3) := (hc10 _ _ (by first | omega | (simp <;> omega))).trans (by first | (simp [go_sem, *]; done) | rfl)
  have f10_5_0 : w10.frozen? ⟨w5.heap.size, 0, none⟩ = false := (hf10 _ _ (by first | omega | (simp <;> omega))).trans (by first | (simp [go_sem, *]; done) | rfl)
  have f10_5_1 : w10.frozen? ⟨w5.heap.size, 1, none⟩ = false := (hf10 _ _ (by first | omega | (simp <;> omega))).trans (by first | (simp [go_sem, *]; done) | rfl)
  have hm10_0 : w.heap.size < w10.heap.size := by omega
  have hm10_1 : w.heap.size < w10.heap.size + 1 := by omega
  have hm10_2 : w.heap.size < w10.heap.size + 1 + 1 := by omega
  have hm10_3 : w.heap.size + 1 < w10.heap.size := by omega
  have hm10_4 : w.heap.size + 1 < w10.heap.size + 1 := by omega
  have hm10_5 : w.heap.size < w10.heap.size := by omega
  have hm10_6 : w.heap.size + 1 < w10.heap.size + 1 + 1 := by omega
  have hm10_7 : w.heap.size < w10.heap.size + 1 := by omega
  have hm10_8 : w2.heap.size < w10.heap.size := by omega
  have hm10_9 : w2.heap.size < w10.heap.size + 1 := by omega
  have hm10_10 : w2.heap.size < w10.heap.size + 1 + 1 := by omega
  have hm10_11 : w3.heap.size < w10.heap.size := by omega
  have hm10_12 : w3.heap.size < w10.heap.size + 1 := by omega
  have hm10_13 : w3.heap.size < w10.heap.size + 1 + 1 := by omega
  have hm10_14 : w4.heap.size < w10.heap.size := by omega
  have hm10_15 : w4.heap.size < w10.heap.size + 1 := by omega
  have hm10_16 : w4.heap.size < w10.heap.size + 1 + 1 := by omega
  have hm10_17 : w5.heap.size < w10.heap.size := by omega
  have hm10_18 : w5.heap.size < w10.heap.size + 1 := by omega
  have hm10_19 : w5.heap.size < w10.heap.size + 1 + 1 := by omega
  have hw10 : Below w.heap.size w w10 := Below.trans (by repeat (first | exact hw9 | refine Below.drew ?_ | refine below_drewN ?_ _ | refine Below.setCell ?_ (by first | omega | (simp <;> omega)) _ | refine Below.alloc ?_ (by first | omega | (simp <;> omega)) _)) (hb10.mono (by first | omega | (simp <;> omega)))
  clear hb10 hc10 hf10 hz10 d9_0_0 d9_0_1 f9_0_0 f9_0_1 d9_1_0 d9_1_1 f9_1_0 f9_1_1 d9_2_0 d9_2_1 f9_2_0 f9_2_1 d9_3_0 d9_3_1 f9_3_0 f9_3_1 d9_4_0 d9_4_1 f9_4_0 f9_4_1 d9_5_0 d9_5_1 f9_5_0 f9_5_1 hm9_0 hm9_1 hm9_2 hm9_3 hm9_4 hm9_5 hm9_6 hm9_7 hm9_8 hm9_9 hm9_10 hm9_11 hm9_12 hm9_13 hm9_14 hm9_15 hm9_16 hm9_17 hm9_18 hm9_19
  rw [H4.out]
  go_wp2_with fail
  refine (rneg_any a b _).mono ?_
  rintro e w11 ⟨rfl, hb11⟩
  obtain ⟨hc11, hf11⟩ := bcell hb11
  have hz11 := hb11.size
  try simp at hz11
  have d11_0_0 : w11.cell? ⟨w.heap.size, 0, none⟩ = some (.int .i64 a) := (hc11 _ _ (by first | omega | (simp <;> omega))).trans (by first | (simp [go_sem, *]; done) | rfl)
  have d11_0_1 : w11.cell? ⟨w.heap.size, 1, none⟩ = some (.int .i64 b) := (hc11 _ _ (by first | omega | (simp <;> omega))).trans (by first | (simp [go_sem, *]; done) | rfl)
  have f11_0_0 : w11.frozen? ⟨w.heap.size, 0, none⟩ = false := (hf11 _ _ (by first | omega | (simp <;> omega))).trans (by first | (simp [go_sem, *]; done) | rfl)
  have f11_0_1 : w11.frozen? ⟨w.heap.size, 1, none⟩ = false := (hf11 _ _ (by first | omega | (simp <;> omega))).trans (by first | (simp [go_sem, *]; done) | rfl)
  have d11_1_0 : w11.cell? ⟨w.heap.size + 1, 0, none⟩ = some (.int .i64 c) := (hc11 _ _ (by first | omega | (simp <;> omega))).trans (by first | (simp [go_sem, *]; done) | rfl)
  have d11_1_1 : w11.cell? ⟨w.heap.size + 1, 1, none⟩ = some (.int .i64 d) := (hc11 _ _ (by first | omega | (simp <;> omega))).trans (by first | (simp [go_sem, *]; done) | rfl)
  have f11_1_0 : w11.frozen? ⟨w.heap.size + 1, 0, none⟩ = false := (hf11 _ _ (by first | omega | (simp <;> omega))).trans (by first | (simp [go_sem, *]; done) | rfl)
  have f11_1_1 : w11.frozen? ⟨w.heap.size + 1, 1, none⟩ = false := (hf11 _ _ (by first | omega | (simp <;> omega))).trans (by first | (simp [go_sem, *]; done) | rfl)
  have d11_2_0 : w11.cell? ⟨w2.heap.size, 0, none⟩ = some (.int .i64 p2) := (hc11 _ _ (by first | omega | (simp <;> omega))).trans (by first | (simp [go_sem, *]; done) | rfl)
  have d11_2_1 : w11.cell? ⟨w2.heap.size, 1, none⟩ = some (.int .i64 q2) := (hc11 _ _ (by first | omega | (simp <;> omega))).trans (by first | (simp [go_sem, *]; done) | rfl)
  have f11_2_0 : w11.frozen? ⟨w2.heap.size, 0, none⟩ = false := (hf11 _ _ (by first | omega | (simp <;> omega))).trans (by first | (simp [go_sem, *]; done) | rfl)
  have f11_2_1 : w11.frozen? ⟨w2.heap.size, 1, none⟩ = false := (hf11 _ _ (by first | omega | (simp <;> omega))).trans (by first | (simp [go_sem, *]; done) | rfl)
  have d11_3_0 : w11.cell? ⟨w3.heap.size, 0, none⟩ = some (.int .i64 p2) := (hc11 _ _ (by first | omega | (simp <;> omega))).trans (by first | (simp [go_sem, *]; done) | rfl)
  have d11_3_1 : w11.cell? ⟨w3.heap.size, 1, none⟩ = some (.int .i64 q2) := (hc11 _ _ (by first | omega | (simp <;> omega))).trans (by first | (simp [go_sem, *]; done) | rfl)
  have f11_3_0 : w11.frozen? ⟨w3.heap.size, 0, none⟩ = false := (hf11 _ _ (by first | omega | (simp <;> omega))).trans (by first | (simp [go_sem, *]; done) | rfl)
  have f11_3_1 : w11.frozen? ⟨w3.heap.size, 1, none⟩ = false := (hf11 _ _ (by first | omega | (simp <;> omega))).trans (by first | (simp [go_sem, *]; done) | rfl)
  have d11_4_0 : w11.cell? ⟨w4.heap.size, 0, none⟩ = some (.int .i64 p3) := (hc11 _ _ (by first | omega | (simp <;> omega))).trans (by first | (simp [go_sem, *]; done) | rfl)
  have d11_4_1 : w11.cell? ⟨w4.heap.size, 1, none⟩ = some (.int .i64 q3) := (hc11 _ _ (by first | omega | (simp <;> omega))).trans (by first | (simp [go_sem, *]; done) | rfl)
  have f11_4_0 : w11.frozen? ⟨w4.heap.size, 0, none⟩ = false := (hf11 _ _ (by first | omega | (simp <;> omega))).trans (by first | (simp [go_sem, *]; done) | rfl)
  have f11_4_1 : w11.frozen? ⟨w4.heap.size, 1, none⟩ = false := (hf11 _ _ (by first | omega | (simp <;> omega))).trans (by first | (simp [go_sem, *]; done) | rfl)
  have d11_5_0 : w11.cell? ⟨w5.heap.size, 0, none⟩ = some (.int .i64 p3) := (hc11 _ _ (by first | omega | (simp <;> omega))).trans (by first | (simp [go_sem, *]; done) | rfl)
  have d11_5_1 : w11.cell? ⟨w5.heap.size, 1, none⟩ = some (.int .i64 q3) := (hc11 _ _ (by first | omega | (simp <;> omega))).trans (by first | (simp [go_sem, *]; done) | rfl)
  have f11_5_0 : w11.frozen? ⟨w5.heap.size, 0, none⟩ = false := (hf11 _ _ (by first | omega | (simp <;> omega))).trans (by first | (simp [go_sem, *]; done) | rfl)
  have f11_5_1 : w11.frozen? ⟨w5.heap.size, 1, none⟩ = false := (hf11 _ _ (by first | omega | (simp <;> omega))).trans (by first | (simp [go_sem, *]; done) | rfl)
  have d11_6_0 : w11.cell? ⟨w10.heap.size, 0, none⟩ = some (.int .i64 p4) := (hc11 _ _ (by first | omega | (simp <;> omega))).trans (by first | (simp [go_sem, *]; done) | rfl)
  have d11_6_1 : w11.cell? ⟨w10.heap.size, 1, none⟩ = some (.int .i64 q4) := (hc11 _ _ (by first | omega | (simp <;> omega))).trans (by first | (simp [go_sem, *]; done) | rfl)
  have f11_6_0 : w11.frozen? ⟨w10.heap.size, 0, none⟩ = false := (hf11 _ _ (by first | omega | (simp <;> omega))).trans (by first | (simp [go_sem, *]; done) | rfl)
  have f11_6_1 : w11.frozen? ⟨w10.heap.size, 1, none⟩ = false := (hf11 _ _ (by first | omega | (simp <;> omega))).trans (by first | (simp [go_sem, *]; done) | rfl)
  have lt11_0 : w.heap.size < w10.heap.size := by omega
  have ne11_0 : ¬ (w.heap.size = w10.heap.size) := by omega
  have en11_0 : ¬ (w10.heap.size = w.heap.size) := by omega
  have lt11_1 : w.heap.size + 1 < w10.heap.size := by omega
  have ne11_1 : ¬ (w.heap.size + 1 = w10.heap.size) := by omega
  have en11_1 : ¬ (w10.heap.size = w.heap.size + 1) := by omega
  have lt11_2 : w2.heap.size < w10.heap.size := by omega
  have ne11_2 : ¬ (w2.heap.size = w10.heap.size) := by omega
  have en11_2 : ¬ (w10.heap.size = w2.heap.size) := by omega
  have lt11_3 : w3.heap.size < w10.heap.size := by omega
  have ne11_3 : ¬ (w3.heap.size = w10.heap.size) := by omega
  have en11_3 : ¬ (w10.heap.size = w3.heap.size) := by omega
  have lt11_4 : w4.heap.size < w10.heap.size := by omega
  have ne11_4 : ¬ (w4.heap.size = w10.heap.size) := by omega
  have en11_4 : ¬ (w10.heap.size = w4.heap.size) := by omega
  have lt11_5 : w5.heap.size < w10.heap.size := by omega
  have ne11_5 : ¬ (w5.heap.size = w10.heap.size) := by omega
  have en11_5 : ¬ (w10.heap.size = w5.heap.size) := by omega
  have hm11_0 : w.heap.size < w11.heap.size := by omega
  have hm11_1 : w.heap.size < w11.heap.size + 1 := by omega
  have hm11_2 : w.heap.size < w11.heap.size + 1 + 1 := by omega
  have hm11_3 : w.heap.size + 1 < w11.heap.size := by omega
  have hm11_4 : w.heap.size + 1 < w11.heap.size + 1 := by omega
  have hm11_5 : w.heap.size < w11.heap.size := by omega
  have hm11_6 : w.heap.size + 1 < w11.heap.size + 1 + 1 := by omega
  have hm11_7 : w.heap.size < w11.heap.size + 1 := by omega
  have hm11_8 : w2.heap.size < w11.heap.size := by omega
  have hm11_9 : w2.heap.size < w11.heap.size + 1 := by omega
  have hm11_10 : w2.heap.size < w11.heap.size + 1 + 1 := by omega
  have hm11_11 : w3.heap.size < w11.heap.size := by omega
  have hm11_12 : w3.heap.size < w11.heap.size + 1 := by omega
  have hm11_13 : w3.heap.size < w11.heap.size + 1 + 1 := by omega
  have hm11_14 : w4.heap.size < w11.heap.size := by omega
  have hm11_15 : w4.heap.size < w11.heap.size + 1 := by omega
  have hm11_16 : w4.heap.size < w11.heap.size + 1 + 1 := by omega
  have hm11_17 : w5.heap.size < w11.heap.size := by omega
  have hm11_18 : w5.heap.size < w11.heap.size + 1 := by omega
  have hm11_19 : w5.heap.size < w11.heap.size + 1 + 1 := by omega
  have hm11_20 : w10.heap.size < w11.heap.size := by omega
  have hm11_21 : w10.heap.size < w11.heap.size + 1 := by omega
  have hm11_22 : w10.heap.size < w11.heap.size + 1 + 1 := by omega
  have hw11 : Below w.heap.size w w11 := Below.trans (by repeat (first | exact hw10 | refine Below.drew ?_ | refine below_drewN ?_ _ | refine Below.setCell ?_ (by first | omega | (simp <;> omega)) _ | refine Below.alloc ?_ (by first | omega | (simp <;> omega)) _)) (hb11.mono (by first | omega | (simp <;> omega)))
  clear hb11 hc11 hf11 hz11 d10_0_0 d10_0_1 f10_0_0 f10_0_1 d10_1_0 d10_1_1 f10_1_0 f10_1_1 d10_2_0 d10_2_1 f10_2_0 f10_2_1 d10_3_0 d10_3_1 f10_3_0 f10_3_1 d10_4_0 d10_4_1 f10_4_0 f10_4_1 d10_5_0 d10_5_1 f10_5_0 f10_5_1 hm10_0 hm10_1 hm10_2 hm10_3 hm10_4 hm10_5 hm10_6 hm10_7 hm10_8 hm10_9 hm10_10 hm10_11 hm10_12 hm10_13 hm10_14 hm10_15 hm10_16 hm10_17 hm10_18 hm10_19
  rw [H4.out]
  go_wp2
  go_ret
  exact ⟨rfl, by repeat (first | exact hw11 | refine Below.drew ?_ | refine below_drewN ?_ _ | refine Below.setCell ?_ (by first | omega | (simp <;> omega)) _ | refine Below.alloc ?_ (by first | omega | (simp <;> omega)) _)⟩
end Go.Proofs.YtognaejbpioihaaDoor.Iv
