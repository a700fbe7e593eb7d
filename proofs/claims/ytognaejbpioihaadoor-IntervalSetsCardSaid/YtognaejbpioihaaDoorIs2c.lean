/- IntervalSets: both halves, the hull and the intersection. -/
import Derived.Test.YtognaejbpioihaaDoorIs1
import Derived.Tactics2
import Derived.BigGuard
import Derived.BigCall
import Derived.Deep.DeepCutAuto
namespace Go.Proofs.YtognaejbpioihaaDoor.Iv
open Go.RowKit

set_option maxRecDepth 100000 in
set_option maxHeartbeats 8000000 in
theorem sets_10 (a b c d p q u v : Int) (w : World) (ha : vB a b = true) (hc : vB c d = true) (hp : p = min a c) (hq : q = max b d) (hu : u = max a c) (hv : v = min b d) (hs : b - a < 2) (hm : u ≤ v) :
    Calls Tryd.prog 8 #[iv a b, iv c d] w fun e w' => e = .returned (.bool true) ∧ Below w.heap.size w w' := by
  obtain ⟨a1, a2, a3⟩ := vB_iff.1 ha
  obtain ⟨c1, c2, c3⟩ := vB_iff.1 hc
  have H1 := Lib.hid (show retR2 (splitR a b) = .returned (.tuple #[iv 0 0, iv 0 0, .int .i64 7]) from by rw [show splitR a b = ⟨0, 0, 0, 0, 7⟩ from (if_pos ha).trans (if_pos hs)])
  have n1 : IntKind.i64.wrap (b - a) = b - a := IntWalk.i64_in _ (by omega)
  have hs2 : b - a ≤ 1 := by omega
  have hs3 : decide (1 < b - a) = false := by rw [decide_eq_false_iff_not]; omega
  clear hs
  have H2 := Lib.hid (show retR (hullR a b c d) = .returned (.tuple #[iv p q, .int .i64 0]) from by rw [show hullR a b c d = ⟨p, q, 0⟩ from (if_pos ⟨ha, hc⟩).trans (by rw [hp, hq])])
  have I3 := Lib.hid (show insB a b p q = true from by simp [insB, vB]; omega)
  have I4 := Lib.hid (show insB c d p q = true from by simp [insB, vB]; omega)
  have P := Lib.hid (show a = p ∨ (p ≠ a ∧ c = p) from by omega)
  have Q := Lib.hid (show b = q ∨ (q ≠ b ∧ d = q) from by omega)
  have U := Lib.hid (show (a = u ∧ (p = a → a = c)) ∨ (u ≠ a ∧ c = u ∧ p = a) from by omega)
  have V := Lib.hid (show (b = v ∧ (q = b → b = d)) ∨ (v ≠ b ∧ d = v ∧ q = b) from by omega)
  have H3 := Lib.hid (show retR (meetR a b c d) = .returned (.tuple #[iv u v, .int .i64 0]) from by rw [show meetR a b c d = ⟨u, v, 0⟩ from ((if_pos ⟨ha, hc⟩).trans (if_neg (by omega))).trans (by rw [hu, hv])])
  have I5 := Lib.hid (show insB u v a b = true from by simp [insB, vB]; omega)
  have I6 := Lib.hid (show insB u v c d = true from by simp [insB, vB]; omega)
  have HA := Lib.hid ha
  have HC := Lib.hid hc
  clear ha hc hp hq hu hv hm
  go_enter Tryd.func8, Tryd.ntmps8
  go_wp2_with fail
  refine (awake_any _).mono ?_
  rintro e w1 ⟨rfl, hb1⟩
  obtain ⟨hc1, hf1⟩ := bcell hb1
  have hz1 := hb1.size
  try simp at hz1
  have d1_0_0 : w1.cell? ⟨w.heap.size, 0, none⟩ = some (.int .i64 a) := (hc1 _ _ (by first | omega | (simp <;> omega))).trans (by first | (simp [go_sem, *]; done) | rfl)
  have d1_0_1 : w1.cell? ⟨w.heap.size, 1, none⟩ = some (.int .i64 b) := (hc1 _ _ (by first | omega | (simp <;> omega))).trans (by first | (simp [go_sem, *]; done) | rfl)
  have d1_1_0 : w1.cell? ⟨w.heap.size + 1, 0, none⟩ = some (.int .i64 c) := (hc1 _ _ (by first | omega | (simp <;> omega))).trans (by first | (simp [go_sem, *]; done) | rfl)
  have d1_1_1 : w1.cell? ⟨w.heap.size + 1, 1, none⟩ = some (.int .i64 d) := (hc1 _ _ (by first | omega | (simp <;> omega))).trans (by first | (simp [go_sem, *]; done) | rfl)
  have hm1_0 : w.heap.size < w1.heap.size := by omega
  have hm1_1 : w.heap.size < w1.heap.size + 1 := by omega
  have hm1_2 : w.heap.size < w1.heap.size + 1 + 1 := by omega
  have hm1_3 : w.heap.size + 1 < w1.heap.size := by omega
  have hm1_4 : w.heap.size + 1 < w1.heap.size + 1 := by omega
  have hm1_5 : w.heap.size < w1.heap.size := by omega
  have hm1_6 : w.heap.size + 1 < w1.heap.size + 1 + 1 := by omega
  have hm1_7 : w.heap.size < w1.heap.size + 1 := by omega
  have hw1 : Below w.heap.size w w1 := Below.trans (by repeat (first | exact Below.refl _ _ | refine Below.drew ?_ | refine below_drewN ?_ _ | refine Below.setCell ?_ (by first | omega | (simp <;> omega)) _ | refine Below.alloc ?_ (by first | omega | (simp <;> omega)) _)) (hb1.mono (by first | omega | (simp <;> omega)))
  clear hb1 hc1 hf1 hz1 
  go_wp2_with fail
  refine (refvalid_any _ _ _).mono ?_
  rintro e w1a ⟨rfl, rfl⟩
  rw [HA.out]
  go_wp2_with fail
  refine (refvalid_any _ _ _).mono ?_
  rintro e w1b ⟨rfl, rfl⟩
  rw [HC.out]
  go_wp2_with fail
  refine (split_any _ _ _).mono ?_
  rintro e w2 ⟨rfl, hb2⟩
  obtain ⟨hc2, hf2⟩ := bcell hb2
  have hz2 := hb2.size
  try simp at hz2
  have d2_0_0 : w2.cell? ⟨w.heap.size, 0, none⟩ = some (.int .i64 a) := (hc2 _ _ (by first | omega | (simp <;> omega))).trans (by first | (simp [go_sem, *]; done) | rfl)
  have d2_0_1 : w2.cell? ⟨w.heap.size, 1, none⟩ = some (.int .i64 b) := (hc2 _ _ (by first | omega | (simp <;> omega))).trans (by first | (simp [go_sem, *]; done) | rfl)
  have d2_1_0 : w2.cell? ⟨w.heap.size + 1, 0, none⟩ = some (.int .i64 c) := (hc2 _ _ (by first | omega | (simp <;> omega))).trans (by first | (simp [go_sem, *]; done) | rfl)
  have d2_1_1 : w2.cell? ⟨w.heap.size + 1, 1, none⟩ = some (.int .i64 d) := (hc2 _ _ (by first | omega | (simp <;> omega))).trans (by first | (simp [go_sem, *]; done) | rfl)
  have hm2_0 : w.heap.size < w2.heap.size := by omega
  have hm2_1 : w.heap.size < w2.heap.size + 1 := by omega
  have hm2_2 : w.heap.size < w2.heap.size + 1 + 1 := by omega
  have hm2_3 : w.heap.size + 1 < w2.heap.size := by omega
  have hm2_4 : w.heap.size + 1 < w2.heap.size + 1 := by omega
  have hm2_5 : w.heap.size < w2.heap.size := by omega
  have hm2_6 : w.heap.size + 1 < w2.heap.size + 1 + 1 := by omega
  have hm2_7 : w.heap.size < w2.heap.size + 1 := by omega
  have hw2 : Below w.heap.size w w2 := Below.trans (by repeat (first | exact hw1 | refine Below.drew ?_ | refine below_drewN ?_ _ | refine Below.setCell ?_ (by first | omega | (simp <;> omega)) _ | refine Below.alloc ?_ (by first | omega | (simp <;> omega)) _)) (hb2.mono (by first | omega | (simp <;> omega)))
  clear hb2 hc2 hf2 hz2 d1_0_0 d1_0_1 d1_1_0 d1_1_1 hm1_0 hm1_1 hm1_2 hm1_3 hm1_4 hm1_5 hm1_6 hm1_7
  rw [H1.out]
  go_upto_region 6 with fail
  simp only [List.append_eq, List.cons_append, List.nil_append]
  go_wp2_with fail
  refine (hull_any _ _ _ _ _).mono ?_
  rintro e w3 ⟨rfl, hb3⟩
  obtain ⟨hc3, hf3⟩ := bcell hb3
  have hz3 := hb3.size
  try simp at hz3
  have d3_0_0 : w3.cell? ⟨w.heap.size, 0, none⟩ = some (.int .i64 a) := (hc3 _ _ (by first | omega | (simp <;> omega))).trans (by first | (simp [go_sem, *]; done) | rfl)
  have d3_0_1 : w3.cell? ⟨w.heap.size, 1, none⟩ = some (.int .i64 b) := (hc3 _ _ (by first | omega | (simp <;> omega))).trans (by first | (simp [go_sem, *]; done) | rfl)
  have d3_1_0 : w3.cell? ⟨w.heap.size + 1, 0, none⟩ = some (.int .i64 c) := (hc3 _ _ (by first | omega | (simp <;> omega))).trans (by first | (simp [go_sem, *]; done) | rfl)
  have d3_1_1 : w3.cell? ⟨w.heap.size + 1, 1, none⟩ = some (.int .i64 d) := (hc3 _ _ (by first | omega | (simp <;> omega))).trans (by first | (simp [go_sem, *]; done) | rfl)
  have hm3_0 : w.heap.size < w3.heap.size := by omega
  have hm3_1 : w.heap.size < w3.heap.size + 1 := by omega
  have hm3_2 : w.heap.size < w3.heap.size + 1 + 1 := by omega
  have hm3_3 : w.heap.size + 1 < w3.heap.size := by omega
  have hm3_4 : w.heap.size + 1 < w3.heap.size + 1 := by omega
  have hm3_5 : w.heap.size < w3.heap.size := by omega
  have hm3_6 : w.heap.size + 1 < w3.heap.size + 1 + 1 := by omega
  have hm3_7 : w.heap.size < w3.heap.size + 1 := by omega
  have hw3 : Below w.heap.size w w3 := Below.trans (by repeat (first | exact hw2 | refine Below.drew ?_ | refine below_drewN ?_ _ | refine Below.setCell ?_ (by first | omega | (simp <;> omega)) _ | refine Below.alloc ?_ (by first | omega | (simp <;> omega)) _)) (hb3.mono (by first | omega | (simp <;> omega)))
  clear hb3 hc3 hf3 hz3 d2_0_0 d2_0_1 d2_1_0 d2_1_1 hm2_0 hm2_1 hm2_2 hm2_3 hm2_4 hm2_5 hm2_6 hm2_7
  rw [H2.out]
  go_wp2_with fail
  refine (meet_any _ _ _ _ _).mono ?_
  rintro e w4 ⟨rfl, hb4⟩
  obtain ⟨hc4, hf4⟩ := bcell hb4
  have hz4 := hb4.size
  try simp at hz4
  have d4_0_0 : w4.cell? ⟨w.heap.size, 0, none⟩ = some (.int .i64 a) := (hc4 _ _ (by first | omega | (simp <;> omega))).trans (by first | (simp [go_sem, *]; done) | rfl)
  have d4_0_1 : w4.cell? ⟨w.heap.size, 1, none⟩ = some (.int .i64 b) := (hc4 _ _ (by first | omega | (simp <;> omega))).trans (by first | (simp [go_sem, *]; done) | rfl)
  have d4_1_0 : w4.cell? ⟨w.heap.size + 1, 0, none⟩ = some (.int .i64 c) := (hc4 _ _ (by first | omega | (simp <;> omega))).trans (by first | (simp [go_sem, *]; done) | rfl)
  have d4_1_1 : w4.cell? ⟨w.heap.size + 1, 1, none⟩ = some (.int .i64 d) := (hc4 _ _ (by first | omega | (simp <;> omega))).trans (by first | (simp [go_sem, *]; done) | rfl)
  have d4_2_0 : w4.cell? ⟨w3.heap.size, 0, none⟩ = some (.int .i64 p) := (hc4 _ _ (by first | omega | (simp <;> omega))).trans (by first | (simp [go_sem, *]; done) | rfl)
  have d4_2_1 : w4.cell? ⟨w3.heap.size, 1, none⟩ = some (.int .i64 q) := (hc4 _ _ (by first | omega | (simp <;> omega))).trans (by first | (simp [go_sem, *]; done) | rfl)
  have hm4_0 : w.heap.size < w4.heap.size := by omega
  have hm4_1 : w.heap.size < w4.heap.size + 1 := by omega
  have hm4_2 : w.heap.size < w4.heap.size + 1 + 1 := by omega
  have hm4_3 : w.heap.size + 1 < w4.heap.size := by omega
  have hm4_4 : w.heap.size + 1 < w4.heap.size + 1 := by omega
  have hm4_5 : w.heap.size < w4.heap.size := by omega
  have hm4_6 : w.heap.size + 1 < w4.heap.size + 1 + 1 := by omega
  have hm4_7 : w.heap.size < w4.heap.size + 1 := by omega
  have hm4_8 : w3.heap.size < w4.heap.size := by omega
  have hm4_9 : w3.heap.size < w4.heap.size + 1 := by omega
  have hm4_10 : w3.heap.size < w4.heap.size + 1 + 1 := by omega
  have hw4 : Below w.heap.size w w4 := Below.trans (by repeat (first | exact hw3 | refine Below.drew ?_ | refine below_drewN ?_ _ | refine Below.setCell ?_ (by first | omega | (simp <;> omega)) _ | refine Below.alloc ?_ (by first | omega | (simp <;> omega)) _)) (hb4.mono (by first | omega | (simp <;> omega)))
  clear hb4 hc4 hf4 hz4 d3_0_0 d3_0_1 d3_1_0 d3_1_1 hm3_0 hm3_1 hm3_2 hm3_3 hm3_4 hm3_5 hm3_6 hm3_7
  rw [H3.out]
  go_wp2_with fail
  refine (inside_any _ _ _ _ _).mono ?_
  rintro e w5 ⟨rfl, hb5⟩
  obtain ⟨hc5, hf5⟩ := bcell hb5
  have hz5 := hb5.size
  try simp at hz5
  have d5_0_0 : w5.cell? ⟨w.heap.size, 0, none⟩ = some (.int .i64 a) := (hc5 _ _ (by first | omega | (simp <;> omega))).trans (by first | (simp [go_sem, *]; done) | rfl)
  have d5_0_1 : w5.cell? ⟨w.heap.size, 1, none⟩ = some (.int .i64 b) := (hc5 _ _ (by first | omega | (simp <;> omega))).trans (by first | (simp [go_sem, *]; done) | rfl)
  have d5_1_0 : w5.cell? ⟨w.heap.size + 1, 0, none⟩ = some (.int .i64 c) := (hc5 _ _ (by first | omega | (simp <;> omega))).trans (by first | (simp [go_sem, *]; done) | rfl)
  have d5_1_1 : w5.cell? ⟨w.heap.size + 1, 1, none⟩ = some (.int .i64 d) := (hc5 _ _ (by first | omega | (simp <;> omega))).trans (by first | (simp [go_sem, *]; done) | rfl)
  have d5_2_0 : w5.cell? ⟨w3.heap.size, 0, none⟩ = some (.int .i64 p) := (hc5 _ _ (by first | omega | (simp <;> omega))).trans (by first | (simp [go_sem, *]; done) | rfl)
  have d5_2_1 : w5.cell? ⟨w3.heap.size, 1, none⟩ = some (.int .i64 q) := (hc5 _ _ (by first | omega | (simp <;> omega))).trans (by first | (simp [go_sem, *]; done) | rfl)
  have d5_3_0 : w5.cell? ⟨w4.heap.size, 0, none⟩ = some (.int .i64 u) := (hc5 _ _ (by first | omega | (simp <;> omega))).trans (by first | (simp [go_sem, *]; done) | rfl)
  have d5_3_1 : w5.cell? ⟨w4.heap.size, 1, none⟩ = some (.int .i64 v) := (hc5 _ _ (by first | omega | (simp <;> omega))).trans (by first | (simp [go_sem, *]; done) | rfl)
  have hm5_0 : w.heap.size < w5.heap.size := by omega
  have hm5_1 : w.heap.size < w5.heap.size + 1 := by omega
  have hm5_2 : w.heap.size < w5.heap.size + 1 + 1 := by omega
  have hm5_3 : w.heap.size + 1 < w5.heap.size := by omega
  have hm5_4 : w.heap.size + 1 < w5.heap.size + 1 := by omega
  have hm5_5 : w.heap.size < w5.heap.size := by omega
  have hm5_6 : w.heap.size + 1 < w5.heap.size + 1 + 1 := by omega
  have hm5_7 : w.heap.size < w5.heap.size + 1 := by omega
  have hm5_8 : w3.heap.size < w5.heap.size := by omega
  have hm5_9 : w3.heap.size < w5.heap.size + 1 := by omega
  have hm5_10 : w3.heap.size < w5.heap.size + 1 + 1 := by omega
  have hm5_11 : w4.heap.size < w5.heap.size := by omega
  have hm5_12 : w4.heap.size < w5.heap.size + 1 := by omega
  have hm5_13 : w4.heap.size < w5.heap.size + 1 + 1 := by omega
  have hw5 : Below w.heap.size w w5 := Below.trans (by repeat (first | exact hw4 | refine Below.drew ?_ | refine below_drewN ?_ _ | refine Below.setCell ?_ (by first | omega | (simp <;> omega)) _ | refine Below.alloc ?_ (by first | omega | (simp <;> omega)) _)) (hb5.mono (by first | omega | (simp <;> omega)))
  clear hb5 hc5 hf5 hz5 d4_0_0 d4_0_1 d4_1_0 d4_1_1 d4_2_0 d4_2_1 hm4_0 hm4_1 hm4_2 hm4_3 hm4_4 hm4_5 hm4_6 hm4_7 hm4_8 hm4_9 hm4_10
  rw [I3.out]
  go_wp2_with fail
  refine (inside_any _ _ _ _ _).mono ?_
  rintro e w6 ⟨rfl, hb6⟩
  obtain ⟨hc6, hf6⟩ := bcell hb6
  have hz6 := hb6.size
  try simp at hz6
  have d6_0_0 : w6.cell? ⟨w.heap.size, 0, none⟩ = some (.int .i64 a) := (hc6 _ _ (by first | omega | (simp <;> omega))).trans (by first | (simp [go_sem, *]; done) | rfl)
  have d6_0_1 : w6.cell? ⟨w.heap.size, 1, none⟩ = some (.int .i64 b) := (hc6 _ _ (by first | omega | (simp <;> omega))).trans (by first | (simp [go_sem, *]; done) | rfl)
  have d6_1_0 : w6.cell? ⟨w.heap.size + 1, 0, none⟩ = some (.int .i64 c) := (hc6 _ _ (by first | omega | (simp <;> omega))).trans (by first | (simp [go_sem, *]; done) | rfl)
  have d6_1_1 : w6.cell? ⟨w.heap.size + 1, 1, none⟩ = some (.int .i64 d) := (hc6 _ _ (by first | omega | (simp <;> omega))).trans (by first | (simp [go_sem, *]; done) | rfl)
  have d6_2_0 : w6.cell? ⟨w3.heap.size, 0, none⟩ = some (.int .i64 p) := (hc6 _ _ (by first | omega | (simp <;> omega))).trans (by first | (simp [go_sem, *]; done) | rfl)
  have d6_2_1 : w6.cell? ⟨w3.heap.size, 1, none⟩ = some (.int .i64 q) := (hc6 _ _ (by first | omega | (simp <;> omega))).trans (by first | (simp [go_sem, *]; done) | rfl)
  have d6_3_0 : w6.cell? ⟨w4.heap.size, 0, none⟩ = some (.int .i64 u) := (hc6 _ _ (by first | omega | (simp <;> omega))).trans (by first | (simp [go_sem, *]; done) | rfl)
  have d6_3_1 : w6.cell? ⟨w4.heap.size, 1, none⟩ = some (.int .i64 v) := (hc6 _ _ (by first | omega | (simp <;> omega))).trans (by first | (simp [go_sem, *]; done) | rfl)
  have hm6_0 : w.heap.size < w6.heap.size := by omega
  have hm6_1 : w.heap.size < w6.heap.size + 1 := by omega
  have hm6_2 : w.heap.size < w6.heap.size + 1 + 1 := by omega
  have hm6_3 : w.heap.size + 1 < w6.heap.size := by omega
  have hm6_4 : w.heap.size + 1 < w6.heap.size + 1 := by omega
  have hm6_5 : w.heap.size < w6.heap.size := by omega
  have hm6_6 : w.heap.size + 1 < w6.heap.size + 1 + 1 := by omega
  have hm6_7 : w.heap.size < w6.heap.size + 1 := by omega
  have hm6_8 : w3.heap.size < w6.heap.size := by omega
  have hm6_9 : w3.heap.size < w6.heap.size + 1 := by omega
  have hm6_10 : w3.heap.size < w6.heap.size + 1 + 1 := by omega
  have hm6_11 : w4.heap.size < w6.heap.size := by omega
  have hm6_12 : w4.heap.size < w6.heap.size + 1 := by omega
  have hm6_13 : w4.heap.size < w6.heap.size + 1 + 1 := by omega
  have hw6 : Below w.heap.size w w6 := Below.trans (by repeat (first | exact hw5 | refine Below.drew ?_ | refine below_drewN ?_ _ | refine Below.setCell ?_ (by first | omega | (simp <;> omega)) _ | refine Below.alloc ?_ (by first | omega | (simp <;> omega)) _)) (hb6.mono (by first | omega | (simp <;> omega)))
  clear hb6 hc6 hf6 hz6 d5_0_0 d5_0_1 d5_1_0 d5_1_1 d5_2_0 d5_2_1 d5_3_0 d5_3_1 hm5_0 hm5_1 hm5_2 hm5_3 hm5_4 hm5_5 hm5_6 hm5_7 hm5_8 hm5_9 hm5_10 hm5_11 hm5_12 hm5_13
  rw [I4.out]
  rcases P.out with rfl | ⟨hp1, rfl⟩ <;> rcases Q.out with rfl | ⟨hq1, rfl⟩
  · go_wp2_with fail
    refine (inside_any _ _ _ _ _).mono ?_
    rintro e w7 ⟨rfl, hb7⟩
    obtain ⟨hc7, hf7⟩ := bcell hb7
    have hz7 := hb7.size
    try simp at hz7
    have d7_0_0 : w7.cell? ⟨w.heap.size, 0, none⟩ = some (.int .i64 a) := (hc7 _ _ (by first | omega | (simp <;> omega))).trans (by first | (simp [go_sem, *]; done) | rfl)
    have d7_0_1 : w7.cell? ⟨w.heap.size, 1, none⟩ = some (.int .i64 b) := (hc7 _ _ (by first | omega | (simp <;> omega))).trans (by first | (simp [go_sem, *]; done) | rfl)
    have d7_1_0 : w7.cell? ⟨w.heap.size + 1, 0, none⟩ = some (.int .i64 c) := (hc7 _ _ (by first | omega | (simp <;> omega))).trans (by first | (simp [go_sem, *]; done) | rfl)
    have d7_1_1 : w7.cell? ⟨w.heap.size + 1, 1, none⟩ = some (.int .i64 d) := (hc7 _ _ (by first | omega | (simp <;> omega))).trans (by first | (simp [go_sem, *]; done) | rfl)
    have d7_2_0 : w7.cell? ⟨w3.heap.size, 0, none⟩ = some (.int .i64 a) := (hc7 _ _ (by first | omega | (simp <;> omega))).trans (by first | (simp [go_sem, *]; done) | rfl)
    have d7_2_1 : w7.cell? ⟨w3.heap.size, 1, none⟩ = some (.int .i64 b) := (hc7 _ _ (by first | omega | (simp <;> omega))).trans (by first | (simp [go_sem, *]; done) | rfl)
    have d7_3_0 : w7.cell? ⟨w4.heap.size, 0, none⟩ = some (.int .i64 u) := (hc7 _ _ (by first | omega | (simp <;> omega))).trans (by first | (simp [go_sem, *]; done) | rfl)
    have d7_3_1 : w7.cell? ⟨w4.heap.size, 1, none⟩ = some (.int .i64 v) := (hc7 _ _ (by first | omega | (simp <;> omega))).trans (by first | (simp [go_sem, *]; done) | rfl)
    have hm7_0 : w.heap.size < w7.heap.size := by omega
    have hm7_1 : w.heap.size < w7.heap.size + 1 := by omega
    have hm7_2 : w.heap.size < w7.heap.size + 1 + 1 := by omega
    have hm7_3 : w.heap.size + 1 < w7.heap.size := by omega
    have hm7_4 : w.heap.size + 1 < w7.heap.size + 1 := by omega
    have hm7_5 : w.heap.size < w7.heap.size := by omega
    have hm7_6 : w.heap.size + 1 < w7.heap.size + 1 + 1 := by omega
    have hm7_7 : w.heap.size < w7.heap.size + 1 := by omega
    have hm7_8 : w3.heap.size < w7.heap.size := by omega
    have hm7_9 : w3.heap.size < w7.heap.size + 1 := by omega
    have hm7_10 : w3.heap.size < w7.heap.size + 1 + 1 := by omega
    have hm7_11 : w4.heap.size < w7.heap.size := by omega
    have hm7_12 : w4.heap.size < w7.heap.size + 1 := by omega
    have hm7_13 : w4.heap.size < w7.heap.size + 1 + 1 := by omega
    have hw7 : Below w.heap.size w w7 := Below.trans (by repeat (first | exact hw6 | refine Below.drew ?_ | refine below_drewN ?_ _ | refine Below.setCell ?_ (by first | omega | (simp <;> omega)) _ | refine Below.alloc ?_ (by first | omega | (simp <;> omega)) _)) (hb7.mono (by first | omega | (simp <;> omega)))
    clear hb7 hc7 hf7 hz7 d6_0_0 d6_0_1 d6_1_0 d6_1_1 d6_2_0 d6_2_1 d6_3_0 d6_3_1 hm6_0 hm6_1 hm6_2 hm6_3 hm6_4 hm6_5 hm6_6 hm6_7 hm6_8 hm6_9 hm6_10 hm6_11 hm6_12 hm6_13
    rw [I5.out]
    go_wp2_with fail
    refine (inside_any _ _ _ _ _).mono ?_
    rintro e w8 ⟨rfl, hb8⟩
    obtain ⟨hc8, hf8⟩ := bcell hb8
    have hz8 := hb8.size
    try simp at hz8
    have d8_0_0 : w8.cell? ⟨w.heap.size, 0, none⟩ = some (.int .i64 a) := (hc8 _ _ (by first | omega | (simp <;> omega))).trans (by first | (simp [go_sem, *]; done) | rfl)
    have d8_0_1 : w8.cell? ⟨w.heap.size, 1, none⟩ = some (.int .i64 b) := (hc8 _ _ (by first | omega | (simp <;> omega))).trans (by first | (simp [go_sem, *]; done) | rfl)
    have d8_1_0 : w8.cell? ⟨w.heap.size + 1, 0, none⟩ = some (.int .i64 c) := (hc8 _ _ (by first | omega | (simp <;> omega))).trans (by first | (simp [go_sem, *]; done) | rfl)
    have d8_1_1 : w8.cell? ⟨w.heap.size + 1, 1, none⟩ = some (.int .i64 d) := (hc8 _ _ (by first | omega | (simp <;> omega))).trans (by first | (simp [go_sem, *]; done) | rfl)
    have d8_2_0 : w8.cell? ⟨w3.heap.size, 0, none⟩ = some (.int .i64 a) := (hc8 _ _ (by first | omega | (simp <;> omega))).trans (by first | (simp [go_sem, *]; done) | rfl)
    have d8_2_1 : w8.cell? ⟨w3.heap.size, 1, none⟩ = some (.int .i64 b) := (hc8 _ _ (by first | omega | (simp <;> omega))).trans (by first | (simp [go_sem, *]; done) | rfl)
    have d8_3_0 : w8.cell? ⟨w4.heap.size, 0, none⟩ = some (.int .i64 u) := (hc8 _ _ (by first | omega | (simp <;> omega))).trans (by first | (simp [go_sem, *]; done) | rfl)
    have d8_3_1 : w8.cell? ⟨w4.heap.size, 1, none⟩ = some (.int .i64 v) := (hc8 _ _ (by first | omega | (simp <;> omega))).trans (by first | (simp [go_sem, *]; done) | rfl)
    have hm8_0 : w.heap.size < w8.heap.size := by omega
    have hm8_1 : w.heap.size < w8.heap.size + 1 := by omega
    have hm8_2 : w.heap.size < w8.heap.size + 1 + 1 := by omega
    have hm8_3 : w.heap.size + 1 < w8.heap.size := by omega
    have hm8_4 : w.heap.size + 1 < w8.heap.size + 1 := by omega
    have hm8_5 : w.heap.size < w8.heap.size := by omega
    have hm8_6 : w.heap.size + 1 < w8.heap.size + 1 + 1 := by omega
    have hm8_7 : w.heap.size < w8.heap.size + 1 := by omega
    have hm8_8 : w3.heap.size < w8.heap.size := by omega
    have hm8_9 : w3.heap.size < w8.heap.size + 1 := by omega
    have hm8_10 : w3.heap.size < w8.heap.size + 1 + 1 := by omega
    have hm8_11 : w4.heap.size < w8.heap.size := by omega
    have hm8_12 : w4.heap.size < w8.heap.size + 1 := by omega
    have hm8_13 : w4.heap.size < w8.heap.size + 1 + 1 := by omega
    have hw8 : Below w.heap.size w w8 := Below.trans (by repeat (first | exact hw7 | refine Below.drew ?_ | refine below_drewN ?_ _ | refine Below.setCell ?_ (by first | omega | (simp <;> omega)) _ | refine Below.alloc ?_ (by first | omega | (simp <;> omega)) _)) (hb8.mono (by first | omega | (simp <;> omega)))
    clear hb8 hc8 hf8 hz8 d7_0_0 d7_0_1 d7_1_0 d7_1_1 d7_2_0 d7_2_1 d7_3_0 d7_3_1 hm7_0 hm7_1 hm7_2 hm7_3 hm7_4 hm7_5 hm7_6 hm7_7 hm7_8 hm7_9 hm7_10 hm7_11 hm7_12 hm7_13
    rw [I6.out]
    rcases U.out with ⟨rfl, hu1⟩ | ⟨hu1, rfl, hu2⟩ <;> rcases V.out with ⟨rfl, hv1⟩ | ⟨hv1, rfl, hv2⟩
    all_goals first
      | (exfalso; omega)
      | (
        clear U V
        go_wp2
        go_ret
        exact ⟨rfl, by repeat (first | exact hw8 | refine Below.drew ?_ | refine below_drewN ?_ _ | refine Below.setCell ?_ (by first | omega | (simp <;> omega)) _ | refine Below.alloc ?_ (by first | omega | (simp <;> omega)) _)⟩)
  · go_wp2_with fail
    refine (inside_any _ _ _ _ _).mono ?_
    rintro e w7 ⟨rfl, hb7⟩
    obtain ⟨hc7, hf7⟩ := bcell hb7
    have hz7 := hb7.size
    try simp at hz7
    have d7_0_0 : w7.cell? ⟨w.heap.size, 0, none⟩ = some (.int .i64 a) := (hc7 _ _ (by first | omega | (simp <;> omega))).trans (by first | (simp [go_sem, *]; done) | rfl)
    have d7_0_1 : w7.cell? ⟨w.heap.size, 1, none⟩ = some (.int .i64 b) := (hc7 _ _ (by first | omega | (simp <;> omega))).trans (by first | (simp [go_sem, *]; done) | rfl)
    have d7_1_0 : w7.cell? ⟨w.heap.size + 1, 0, none⟩ = some (.int .i64 c) := (hc7 _ _ (by first | omega | (simp <;> omega))).trans (by first | (simp [go_sem, *]; done) | rfl)
    have d7_1_1 : w7.cell? ⟨w.heap.size + 1, 1, none⟩ = some (.int .i64 d) := (hc7 _ _ (by first | omega | (simp <;> omega))).trans (by first | (simp [go_sem, *]; done) | rfl)
    have d7_2_0 : w7.cell? ⟨w3.heap.size, 0, none⟩ = some (.int .i64 a) := (hc7 _ _ (by first | omega | (simp <;> omega))).trans (by first | (simp [go_sem, *]; done) | rfl)
    have d7_2_1 : w7.cell? ⟨w3.heap.size, 1, none⟩ = some (.int .i64 d) := (hc7 _ _ (by first | omega | (simp <;> omega))).trans (by first | (simp [go_sem, *]; done) | rfl)
    have d7_3_0 : w7.cell? ⟨w4.heap.size, 0, none⟩ = some (.int .i64 u) := (hc7 _ _ (by first | omega | (simp <;> omega))).trans (by first | (simp [go_sem, *]; done) | rfl)
    have d7_3_1 : w7.cell? ⟨w4.heap.size, 1, none⟩ = some (.int .i64 v) := (hc7 _ _ (by first | omega | (simp <;> omega))).trans (by first | (simp [go_sem, *]; done) | rfl)
    have hm7_0 : w.heap.size < w7.heap.size := by omega
    have hm7_1 : w.heap.size < w7.heap.size + 1 := by omega
    have hm7_2 : w.heap.size < w7.heap.size + 1 + 1 := by omega
    have hm7_3 : w.heap.size + 1 < w7.heap.size := by omega
    have hm7_4 : w.heap.size + 1 < w7.heap.size + 1 := by omega
    have hm7_5 : w.heap.size < w7.heap.size := by omega
    have hm7_6 : w.heap.size + 1 < w7.heap.size + 1 + 1 := by omega
    have hm7_7 : w.heap.size < w7.heap.size + 1 := by omega
    have hm7_8 : w3.heap.size < w7.heap.size := by omega
    have hm7_9 : w3.heap.size < w7.heap.size + 1 := by omega
    have hm7_10 : w3.heap.size < w7.heap.size + 1 + 1 := by omega
    have hm7_11 : w4.heap.size < w7.heap.size := by omega
    have hm7_12 : w4.heap.size < w7.heap.size + 1 := by omega
    have hm7_13 : w4.heap.size < w7.heap.size + 1 + 1 := by omega
    have hw7 : Below w.heap.size w w7 := Below.trans (by repeat (first | exact hw6 | refine Below.drew ?_ | refine below_drewN ?_ _ | refine Below.setCell ?_ (by first | omega | (simp <;> omega)) _ | refine Below.alloc ?_ (by first | omega | (simp <;> omega)) _)) (hb7.mono (by first | omega | (simp <;> omega)))
    clear hb7 hc7 hf7 hz7 d6_0_0 d6_0_1 d6_1_0 d6_1_1 d6_2_0 d6_2_1 d6_3_0 d6_3_1 hm6_0 hm6_1 hm6_2 hm6_3 hm6_4 hm6_5 hm6_6 hm6_7 hm6_8 hm6_9 hm6_10 hm6_11 hm6_12 hm6_13
    rw [I5.out]
    go_wp2_with fail
    refine (inside_any _ _ _ _ _).mono ?_
    rintro e w8 ⟨rfl, hb8⟩
    obtain ⟨hc8, hf8⟩ := bcell hb8
    have hz8 := hb8.size
    try simp at hz8
    have d8_0_0 : w8.cell? ⟨w.heap.size, 0, none⟩ = some (.int .i64 a) := (hc8 _ _ (by first | omega | (simp <;> omega))).trans (by first | (simp [go_sem, *]; done) | rfl)
    have d8_0_1 : w8.cell? ⟨w.heap.size, 1, none⟩ = some (.int .i64 b) := (hc8 _ _ (by first | omega | (simp <;> omega))).trans (by first | (simp [go_sem, *]; done) | rfl)
    have d8_1_0 : w8.cell? ⟨w.heap.size + 1, 0, none⟩ = some (.int .i64 c) := (hc8 _ _ (by first | omega | (simp <;> omega))).trans (by first | (simp [go_sem, *]; done) | rfl)
    have d8_1_1 : w8.cell? ⟨w.heap.size + 1, 1, none⟩ = some (.int .i64 d) := (hc8 _ _ (by first | omega | (simp <;> omega))).trans (by first | (simp [go_sem, *]; done) | rfl)
    have d8_2_0 : w8.cell? ⟨w3.heap.size, 0, none⟩ = some (.int .i64 a) := (hc8 _ _ (by first | omega | (simp <;> omega))).trans (by first | (simp [go_sem, *]; done) | rfl)
    have d8_2_1 : w8.cell? ⟨w3.heap.size, 1, none⟩ = some (.int .i64 d) := (hc8 _ _ (by first | omega | (simp <;> omega))).trans (by first | (simp [go_sem, *]; done) | rfl)
    have d8_3_0 : w8.cell? ⟨w4.heap.size, 0, none⟩ = some (.int .i64 u) := (hc8 _ _ (by first | omega | (simp <;> omega))).trans (by first | (simp [go_sem, *]; done) | rfl)
    have d8_3_1 : w8.cell? ⟨w4.heap.size, 1, none⟩ = some (.int .i64 v) := (hc8 _ _ (by first | omega | (simp <;> omega))).trans (by first | (simp [go_sem, *]; done) | rfl)
    have hm8_0 : w.heap.size < w8.heap.size := by omega
    have hm8_1 : w.heap.size < w8.heap.size + 1 := by omega
    have hm8_2 : w.heap.size < w8.heap.size + 1 + 1 := by omega
    have hm8_3 : w.heap.size + 1 < w8.heap.size := by omega
    have hm8_4 : w.heap.size + 1 < w8.heap.size + 1 := by omega
    have hm8_5 : w.heap.size < w8.heap.size := by omega
    have hm8_6 : w.heap.size + 1 < w8.heap.size + 1 + 1 := by omega
    have hm8_7 : w.heap.size < w8.heap.size + 1 := by omega
    have hm8_8 : w3.heap.size < w8.heap.size := by omega
    have hm8_9 : w3.heap.size < w8.heap.size + 1 := by omega
    have hm8_10 : w3.heap.size < w8.heap.size + 1 + 1 := by omega
    have hm8_11 : w4.heap.size < w8.heap.size := by omega
    have hm8_12 : w4.heap.size < w8.heap.size + 1 := by omega
    have hm8_13 : w4.heap.size < w8.heap.size + 1 + 1 := by omega
    have hw8 : Below w.heap.size w w8 := Below.trans (by repeat (first | exact hw7 | refine Below.drew ?_ | refine below_drewN ?_ _ | refine Below.setCell ?_ (by first | omega | (simp <;> omega)) _ | refine Below.alloc ?_ (by first | omega | (simp <;> omega)) _)) (hb8.mono (by first | omega | (simp <;> omega)))
    clear hb8 hc8 hf8 hz8 d7_0_0 d7_0_1 d7_1_0 d7_1_1 d7_2_0 d7_2_1 d7_3_0 d7_3_1 hm7_0 hm7_1 hm7_2 hm7_3 hm7_4 hm7_5 hm7_6 hm7_7 hm7_8 hm7_9 hm7_10 hm7_11 hm7_12 hm7_13
    rw [I6.out]
    rcases U.out with ⟨rfl, hu1⟩ | ⟨hu1, rfl, hu2⟩ <;> rcases V.out with ⟨rfl, hv1⟩ | ⟨hv1, rfl, hv2⟩
    all_goals first
      | (exfalso; omega)
      | (
        clear U V
        go_wp2
        go_ret
        exact ⟨rfl, by repeat (first | exact hw8 | refine Below.drew ?_ | refine below_drewN ?_ _ | refine Below.setCell ?_ (by first | omega | (simp <;> omega)) _ | refine Below.alloc ?_ (by first | omega | (simp <;> omega)) _)⟩)
  · go_wp2_with fail
    refine (inside_any _ _ _ _ _).mono ?_
    rintro e w7 ⟨rfl, hb7⟩
    obtain ⟨hc7, hf7⟩ := bcell hb7
    have hz7 := hb7.size
    try simp at hz7
    have d7_0_0 : w7.cell? ⟨w.heap.size, 0, none⟩ = some (.int .i64 a) := (hc7 _ _ (by first | omega | (simp <;> omega))).trans (by first | (simp [go_sem, *]; done) | rfl)
    have d7_0_1 : w7.cell? ⟨w.heap.size, 1, none⟩ = some (.int .i64 b) := (hc7 _ _ (by first | omega | (simp <;> omega))).trans (by first | (simp [go_sem, *]; done) | rfl)
    have d7_1_0 : w7.cell? ⟨w.heap.size + 1, 0, none⟩ = some (.int .i64 c) := (hc7 _ _ (by first | omega | (simp <;> omega))).trans (by first | (simp [go_sem, *]; done) | rfl)
    have d7_1_1 : w7.cell? ⟨w.heap.size + 1, 1, none⟩ = some (.int .i64 d) := (hc7 _ _ (by first | omega | (simp <;> omega))).trans (by first | (simp [go_sem, *]; done) | rfl)
    have d7_2_0 : w7.cell? ⟨w3.heap.size, 0, none⟩ = some (.int .i64 c) := (hc7 _ _ (by first | omega | (simp <;> omega))).trans (by first | (simp [go_sem, *]; done) | rfl)
    have d7_2_1 : w7.cell? ⟨w3.heap.size, 1, none⟩ = some (.int .i64 b) := (hc7 _ _ (by first | omega | (simp <;> omega))).trans (by first | (simp [go_sem, *]; done) | rfl)
    have d7_3_0 : w7.cell? ⟨w4.heap.size, 0, none⟩ = some (.int .i64 u) := (hc7 _ _ (by first | omega | (simp <;> omega))).trans (by first | (simp [go_sem, *]; done) | rfl)
    have d7_3_1 : w7.cell? ⟨w4.heap.size, 1, none⟩ = some (.int .i64 v) := (hc7 _ _ (by first | omega | (simp <;> omega))).trans (by first | (simp [go_sem, *]; done) | rfl)
    have hm7_0 : w.heap.size < w7.heap.size := by omega
    have hm7_1 : w.heap.size < w7.heap.size + 1 := by omega
    have hm7_2 : w.heap.size < w7.heap.size + 1 + 1 := by omega
    have hm7_3 : w.heap.size + 1 < w7.heap.size := by omega
    have hm7_4 : w.heap.size + 1 < w7.heap.size + 1 := by omega
    have hm7_5 : w.heap.size < w7.heap.size := by omega
    have hm7_6 : w.heap.size + 1 < w7.heap.size + 1 + 1 := by omega
    have hm7_7 : w.heap.size < w7.heap.size + 1 := by omega
    have hm7_8 : w3.heap.size < w7.heap.size := by omega
    have hm7_9 : w3.heap.size < w7.heap.size + 1 := by omega
    have hm7_10 : w3.heap.size < w7.heap.size + 1 + 1 := by omega
    have hm7_11 : w4.heap.size < w7.heap.size := by omega
    have hm7_12 : w4.heap.size < w7.heap.size + 1 := by omega
    have hm7_13 : w4.heap.size < w7.heap.size + 1 + 1 := by omega
    have hw7 : Below w.heap.size w w7 := Below.trans (by repeat (first | exact hw6 | refine Below.drew ?_ | refine below_drewN ?_ _ | refine Below.setCell ?_ (by first | omega | (simp <;> omega)) _ | refine Below.alloc ?_ (by first | omega | (simp <;> omega)) _)) (hb7.mono (by first | omega | (simp <;> omega)))
    clear hb7 hc7 hf7 hz7 d6_0_0 d6_0_1 d6_1_0 d6_1_1 d6_2_0 d6_2_1 d6_3_0 d6_3_1 hm6_0 hm6_1 hm6_2 hm6_3 hm6_4 hm6_5 hm6_6 hm6_7 hm6_8 hm6_9 hm6_10 hm6_11 hm6_12 hm6_13
    rw [I5.out]
    go_wp2_with fail
    refine (inside_any _ _ _ _ _).mono ?_
    rintro e w8 ⟨rfl, hb8⟩
    obtain ⟨hc8, hf8⟩ := bcell hb8
    have hz8 := hb8.size
    try simp at hz8
    have d8_0_0 : w8.cell? ⟨w.heap.size, 0, none⟩ = some (.int .i64 a) := (hc8 _ _ (by first | omega | (simp <;> omega))).trans (by first | (simp [go_sem, *]; done) | rfl)
    have d8_0_1 : w8.cell? ⟨w.heap.size, 1, none⟩ = some (.int .i64 b) := (hc8 _ _ (by first | omega | (simp <;> omega))).trans (by first | (simp [go_sem, *]; done) | rfl)
    have d8_1_0 : w8.cell? ⟨w.heap.size + 1, 0, none⟩ = some (.int .i64 c) := (hc8 _ _ (by first | omega | (simp <;> omega))).trans (by first | (simp [go_sem, *]; done) | rfl)
    have d8_1_1 : w8.cell? ⟨w.heap.size + 1, 1, none⟩ = some (.int .i64 d) := (hc8 _ _ (by first | omega | (simp <;> omega))).trans (by first | (simp [go_sem, *]; done) | rfl)
    have d8_2_0 : w8.cell? ⟨w3.heap.size, 0, none⟩ = some (.int .i64 c) := (hc8 _ _ (by first | omega | (simp <;> omega))).trans (by first | (simp [go_sem, *]; done) | rfl)
    have d8_2_1 : w8.cell? ⟨w3.heap.size, 1, none⟩ = some (.int .i64 b) := (hc8 _ _ (by first | omega | (simp <;> omega))).trans (by first | (simp [go_sem, *]; done) | rfl)
    have d8_3_0 : w8.cell? ⟨w4.heap.size, 0, none⟩ = some (.int .i64 u) := (hc8 _ _ (by first | omega | (simp <;> omega))).trans (by first | (simp [go_sem, *]; done) | rfl)
    have d8_3_1 : w8.cell? ⟨w4.heap.size, 1, none⟩ = some (.int .i64 v) := (hc8 _ _ (by first | omega | (simp <;> omega))).trans (by first | (simp [go_sem, *]; done) | rfl)
    have hm8_0 : w.heap.size < w8.heap.size := by omega
    have hm8_1 : w.heap.size < w8.heap.size + 1 := by omega
    have hm8_2 : w.heap.size < w8.heap.size + 1 + 1 := by omega
    have hm8_3 : w.heap.size + 1 < w8.heap.size := by omega
    have hm8_4 : w.heap.size + 1 < w8.heap.size + 1 := by omega
    have hm8_5 : w.heap.size < w8.heap.size := by omega
    have hm8_6 : w.heap.size + 1 < w8.heap.size + 1 + 1 := by omega
    have hm8_7 : w.heap.size < w8.heap.size + 1 := by omega
    have hm8_8 : w3.heap.size < w8.heap.size := by omega
    have hm8_9 : w3.heap.size < w8.heap.size + 1 := by omega
    have hm8_10 : w3.heap.size < w8.heap.size + 1 + 1 := by omega
    have hm8_11 : w4.heap.size < w8.heap.size := by omega
    have hm8_12 : w4.heap.size < w8.heap.size + 1 := by omega
    have hm8_13 : w4.heap.size < w8.heap.size + 1 + 1 := by omega
    have hw8 : Below w.heap.size w w8 := Below.trans (by repeat (first | exact hw7 | refine Below.drew ?_ | refine below_drewN ?_ _ | refine Below.setCell ?_ (by first | omega | (simp <;> omega)) _ | refine Below.alloc ?_ (by first | omega | (simp <;> omega)) _)) (hb8.mono (by first | omega | (simp <;> omega)))
    clear hb8 hc8 hf8 hz8 d7_0_0 d7_0_1 d7_1_0 d7_1_1 d7_2_0 d7_2_1 d7_3_0 d7_3_1 hm7_0 hm7_1 hm7_2 hm7_3 hm7_4 hm7_5 hm7_6 hm7_7 hm7_8 hm7_9 hm7_10 hm7_11 hm7_12 hm7_13
    rw [I6.out]
    rcases U.out with ⟨rfl, hu1⟩ | ⟨hu1, rfl, hu2⟩ <;> rcases V.out with ⟨rfl, hv1⟩ | ⟨hv1, rfl, hv2⟩
    all_goals first
      | (exfalso; omega)
      | (
        clear U V
        go_wp2
        go_ret
        exact ⟨rfl, by repeat (first | exact hw8 | refine Below.drew ?_ | refine below_drewN ?_ _ | refine Below.setCell ?_ (by first | omega | (simp <;> omega)) _ | refine Below.alloc ?_ (by first | omega | (simp <;> omega)) _)⟩)
  · go_wp2_with fail
    refine (inside_any _ _ _ _ _).mono ?_
    rintro e w7 ⟨rfl, hb7⟩
    obtain ⟨hc7, hf7⟩ := bcell hb7
    have hz7 := hb7.size
    try simp at hz7
    have d7_0_0 : w7.cell? ⟨w.heap.size, 0, none⟩ = some (.int .i64 a) := (hc7 _ _ (by first | omega | (simp <;> omega))).trans (by first | (simp [go_sem, *]; done) | rfl)
    have d7_0_1 : w7.cell? ⟨w.heap.size, 1, none⟩ = some (.int .i64 b) := (hc7 _ _ (by first | omega | (simp <;> omega))).trans (by first | (simp [go_sem, *]; done) | rfl)
    have d7_1_0 : w7.cell? ⟨w.heap.size + 1, 0, none⟩ = some (.int .i64 c) := (hc7 _ _ (by first | omega | (simp <;> omega))).trans (by first | (simp [go_sem, *]; done) | rfl)
    have d7_1_1 : w7.cell? ⟨w.heap.size + 1, 1, none⟩ = some (.int .i64 d) := (hc7 _ _ (by first | omega | (simp <;> omega))).trans (by first | (simp [go_sem, *]; done) | rfl)
    have d7_2_0 : w7.cell? ⟨w3.heap.size, 0, none⟩ = some (.int .i64 c) := (hc7 _ _ (by first | omega | (simp <;> omega))).trans (by first | (simp [go_sem, *]; done) | rfl)
    have d7_2_1 : w7.cell? ⟨w3.heap.size, 1, none⟩ = some (.int .i64 d) := (hc7 _ _ (by first | omega | (simp <;> omega))).trans (by first | (simp [go_sem, *]; done) | rfl)
    have d7_3_0 : w7.cell? ⟨w4.heap.size, 0, none⟩ = some (.int .i64 u) := (hc7 _ _ (by first | omega | (simp <;> omega))).trans (by first | (simp [go_sem, *]; done) | rfl)
    have d7_3_1 : w7.cell? ⟨w4.heap.size, 1, none⟩ = some (.int .i64 v) := (hc7 _ _ (by first | omega | (simp <;> omega))).trans (by first | (simp [go_sem, *]; done) | rfl)
    have hm7_0 : w.heap.size < w7.heap.size := by omega
    have hm7_1 : w.heap.size < w7.heap.size + 1 := by omega
    have hm7_2 : w.heap.size < w7.heap.size + 1 + 1 := by omega
    have hm7_3 : w.heap.size + 1 < w7.heap.size := by omega
    have hm7_4 : w.heap.size + 1 < w7.heap.size + 1 := by omega
    have hm7_5 : w.heap.size < w7.heap.size := by omega
    have hm7_6 : w.heap.size + 1 < w7.heap.size + 1 + 1 := by omega
    have hm7_7 : w.heap.size < w7.heap.size + 1 := by omega
    have hm7_8 : w3.heap.size < w7.heap.size := by omega
    have hm7_9 : w3.heap.size < w7.heap.size + 1 := by omega
    have hm7_10 : w3.heap.size < w7.heap.size + 1 + 1 := by omega
    have hm7_11 : w4.heap.size < w7.heap.size := by omega
    have hm7_12 : w4.heap.size < w7.heap.size + 1 := by omega
    have hm7_13 : w4.heap.size < w7.heap.size + 1 + 1 := by omega
    have hw7 : Below w.heap.size w w7 := Below.trans (by repeat (first | exact hw6 | refine Below.drew ?_ | refine below_drewN ?_ _ | refine Below.setCell ?_ (by first | omega | (simp <;> omega)) _ | refine Below.alloc ?_ (by first | omega | (simp <;> omega)) _)) (hb7.mono (by first | omega | (simp <;> omega)))
    clear hb7 hc7 hf7 hz7 d6_0_0 d6_0_1 d6_1_0 d6_1_1 d6_2_0 d6_2_1 d6_3_0 d6_3_1 hm6_0 hm6_1 hm6_2 hm6_3 hm6_4 hm6_5 hm6_6 hm6_7 hm6_8 hm6_9 hm6_10 hm6_11 hm6_12 hm6_13
    rw [I5.out]
    go_wp2_with fail
    refine (inside_any _ _ _ _ _).mono ?_
    rintro e w8 ⟨rfl, hb8⟩
    obtain ⟨hc8, hf8⟩ := bcell hb8
    have hz8 := hb8.size
    try simp at hz8
    have d8_0_0 : w8.cell? ⟨w.heap.size, 0, none⟩ = some (.int .i64 a) := (hc8 _ _ (by first | omega | (simp <;> omega))).trans (by first | (simp [go_sem, *]; done) | rfl)
    have d8_0_1 : w8.cell? ⟨w.heap.size, 1, none⟩ = some (.int .i64 b) := (hc8 _ _ (by first | omega | (simp <;> omega))).trans (by first | (simp [go_sem, *]; done) | rfl)
    have d8_1_0 : w8.cell? ⟨w.heap.size + 1, 0, none⟩ = some (.int .i64 c) := (hc8 _ _ (by first | omega | (simp <;> omega))).trans (by first | (simp [go_sem, *]; done) | rfl)
    have d8_1_1 : w8.cell? ⟨w.heap.size + 1, 1, none⟩ = some (.int .i64 d) := (hc8 _ _ (by first | omega | (simp <;> omega))).trans (by first | (simp [go_sem, *]; done) | rfl)
    have d8_2_0 : w8.cell? ⟨w3.heap.size, 0, none⟩ = some (.int .i64 c) := (hc8 _ _ (by first | omega | (simp <;> omega))).trans (by first | (simp [go_sem, *]; done) | rfl)
    have d8_2_1 : w8.cell? ⟨w3.heap.size, 1, none⟩ = some (.int .i64 d) := (hc8 _ _ (by first | omega | (simp <;> omega))).trans (by first | (simp [go_sem, *]; done) | rfl)
    have d8_3_0 : w8.cell? ⟨w4.heap.size, 0, none⟩ = some (.int .i64 u) := (hc8 _ _ (by first | omega | (simp <;> omega))).trans (by first | (simp [go_sem, *]; done) | rfl)
    have d8_3_1 : w8.cell? ⟨w4.heap.size, 1, none⟩ = some (.int .i64 v) := (hc8 _ _ (by first | omega | (simp <;> omega))).trans (by first | (simp [go_sem, *]; done) | rfl)
    have hm8_0 : w.heap.size < w8.heap.size := by omega
    have hm8_1 : w.heap.size < w8.heap.size + 1 := by omega
    have hm8_2 : w.heap.size < w8.heap.size + 1 + 1 := by omega
    have hm8_3 : w.heap.size + 1 < w8.heap.size := by omega
    have hm8_4 : w.heap.size + 1 < w8.heap.size + 1 := by omega
    have hm8_5 : w.heap.size < w8.heap.size := by omega
    have hm8_6 : w.heap.size + 1 < w8.heap.size + 1 + 1 := by omega
    have hm8_7 : w.heap.size < w8.heap.size + 1 := by omega
    have hm8_8 : w3.heap.size < w8.heap.size := by omega
    have hm8_9 : w3.heap.size < w8.heap.size + 1 := by omega
    have hm8_10 : w3.heap.size < w8.heap.size + 1 + 1 := by omega
    have hm8_11 : w4.heap.size < w8.heap.size := by omega
    have hm8_12 : w4.heap.size < w8.heap.size + 1 := by omega
    have hm8_13 : w4.heap.size < w8.heap.size + 1 + 1 := by omega
    have hw8 : Below w.heap.size w w8 := Below.trans (by repeat (first | exact hw7 | refine Below.drew ?_ | refine below_drewN ?_ _ | refine Below.setCell ?_ (by first | omega | (simp <;> omega)) _ | refine Below.alloc ?_ (by first | omega | (simp <;> omega)) _)) (hb8.mono (by first | omega | (simp <;> omega)))
    clear hb8 hc8 hf8 hz8 d7_0_0 d7_0_1 d7_1_0 d7_1_1 d7_2_0 d7_2_1 d7_3_0 d7_3_1 hm7_0 hm7_1 hm7_2 hm7_3 hm7_4 hm7_5 hm7_6 hm7_7 hm7_8 hm7_9 hm7_10 hm7_11 hm7_12 hm7_13
    rw [I6.out]
    rcases U.out with ⟨rfl, hu1⟩ | ⟨hu1, rfl, hu2⟩ <;> rcases V.out with ⟨rfl, hv1⟩ | ⟨hv1, rfl, hv2⟩
    all_goals first
      | (exfalso; omega)
      | (
        clear U V
        go_wp2
        go_ret
        exact ⟨rfl, by repeat (first | exact hw8 | refine Below.drew ?_ | refine below_drewN ?_ _ | refine Below.setCell ?_ (by first | omega | (simp <;> omega)) _ | refine Below.alloc ?_ (by first | omega | (simp <;> omega)) _)⟩)
end Go.Proofs.YtognaejbpioihaaDoor.Iv
