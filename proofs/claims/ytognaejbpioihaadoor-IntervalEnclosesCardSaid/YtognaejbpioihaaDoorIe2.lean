/- IntervalEncloses: the results enclose the sums, differences, products, quotients, squares and roots of numbers of the arguments. -/
import Derived.Test.YtognaejbpioihaaDoorIe1
import Derived.Test.YtognaejbpioihaaDoorIv2
import Derived.Deep.RegionHeld3
import Derived.Deep.CutRange
import Derived.Deep.DeepCutAuto
import Derived.Tactics2
namespace Go.Proofs.YtognaejbpioihaaDoor.Iv
open Go.RowKit

set_option maxRecDepth 100000 in
set_option maxHeartbeats 8000000 in
theorem encl_any (a b c d k0 k1 : Int) (w : World) (ha : vB a b = true) (hc : vB c d = true) (hk0 : 0 ≤ k0) (hk1 : k0 ≤ 4294967295) (hk2 : 0 ≤ k1) (hk3 : k1 ≤ 4294967295) :
    Calls Tryd.prog 5 #[iv a b, iv c d, .agg #[.int .u32 k0, .int .u32 k1]] w fun e w' => e = .returned (.bool true) ∧ Below w.heap.size w w' := by
  obtain ⟨a1, a2, a3⟩ := vB_iff.1 ha
  obtain ⟨c1, c2, c3⟩ := vB_iff.1 hc
  have HA := Lib.hid ha
  have HC := Lib.hid hc
  obtain ⟨A1, A2⟩ := in_ok k0 a2
  obtain ⟨B1, B2⟩ := in_ok k1 c2
  obtain ⟨A, hA⟩ : ∃ A, inR a b k0 = A := ⟨_, rfl⟩
  obtain ⟨B, hB⟩ : ∃ B, inR c d k1 = B := ⟨_, rfl⟩
  rw [hA] at A1 A2
  rw [hB] at B1 B2
  have HIA := Lib.hid hA
  have HIB := Lib.hid hB
  clear hA hB hc
  obtain ⟨⟨p1, q1, e1⟩, h1⟩ : ∃ r : R, addR a b c d = r := ⟨_, rfl⟩
  have H1 := Lib.hid (show retR (addR a b c d) = .returned (.tuple #[iv p1 q1, .int .i64 e1]) from by rw [h1])
  have N1 := Lib.hid (show e1 = 0 → p1 ≤ A + B ∧ A + B ≤ q1 ∧ -1073741824 ≤ p1 ∧ q1 ≤ 1073741824 from fun h => by subst h; obtain ⟨x, y, z⟩ := add_ok h1 A1 A2 B1 B2; exact ⟨x, y, z.lo, z.hi⟩)
  clear h1
  obtain ⟨⟨p2, q2, e2⟩, h2⟩ : ∃ r : R, subR a b c d = r := ⟨_, rfl⟩
  have H2 := Lib.hid (show retR (subR a b c d) = .returned (.tuple #[iv p2 q2, .int .i64 e2]) from by rw [h2])
  have N2 := Lib.hid (show e2 = 0 → p2 ≤ A - B ∧ A - B ≤ q2 ∧ -1073741824 ≤ p2 ∧ q2 ≤ 1073741824 from fun h => by subst h; obtain ⟨x, y, z⟩ := sub_ok h2 A1 A2 B1 B2; exact ⟨x, y, z.lo, z.hi⟩)
  clear h2
  obtain ⟨⟨p3, q3, e3⟩, h3⟩ : ∃ r : R, mulR a b c d = r := ⟨_, rfl⟩
  have H3 := Lib.hid (show retR (mulR a b c d) = .returned (.tuple #[iv p3 q3, .int .i64 e3]) from by rw [h3])
  have N3 := Lib.hid (show e3 = 0 → p3 * 16777216 ≤ A * B ∧ A * B ≤ q3 * 16777216 ∧ -1073741824 ≤ p3 ∧ q3 ≤ 1073741824 from fun h => by subst h; obtain ⟨x, y, z⟩ := mul_ok h3 A1 A2 B1 B2; exact ⟨x, y, z.lo, z.hi⟩)
  obtain ⟨m1, m2⟩ := mul_bd (a := A) (b := B) (by omega) (by omega) (by omega) (by omega)
  clear h3
  obtain ⟨⟨p4, q4, e4⟩, h4⟩ : ∃ r : R, divR a b c d = r := ⟨_, rfl⟩
  have H4 := Lib.hid (show retR (divR a b c d) = .returned (.tuple #[iv p4 q4, .int .i64 e4]) from by rw [h4])
  have N4 := Lib.hid (show e4 = 0 → (0 < B ∧ p4 * B ≤ A * 16777216 ∧ A * 16777216 ≤ q4 * B ∨ B < 0 ∧ A * 16777216 ≤ p4 * B ∧ q4 * B ≤ A * 16777216) ∧ -1152921504606846976 ≤ p4 * B ∧ p4 * B ≤ 1152921504606846976 ∧ -1152921504606846976 ≤ q4 * B ∧ q4 * B ≤ 1152921504606846976 from fun h => by subst h; obtain ⟨x, y⟩ := div_ok h4 A1 A2 B1 B2; have y1 := y.lo; have y2 := y.hi; have y3 := div_le h4; obtain ⟨z1, z2⟩ := mul_bd (a := p4) (b := B) (by omega) (by omega) (by omega) (by omega); obtain ⟨z3, z4⟩ := mul_bd (a := q4) (b := B) (by omega) (by omega) (by omega) (by omega); exact ⟨x, z1, z2, z3, z4⟩)
  clear h4
  obtain ⟨⟨p5, q5, e5⟩, h5⟩ : ∃ r : R, sqR a b = r := ⟨_, rfl⟩
  have H5 := Lib.hid (show retR (sqR a b) = .returned (.tuple #[iv p5 q5, .int .i64 e5]) from by rw [h5])
  have E5 := sq_e h5 ha
  have N5 := Lib.hid (show e5 = 0 → p5 * 16777216 ≤ A * A ∧ A * A ≤ q5 * 16777216 ∧ -1073741824 ≤ p5 ∧ q5 ≤ 1073741824 from fun h => by subst h; obtain ⟨x, y, z⟩ := sq_ok h5 A1 A2; exact ⟨x, y, z.lo, z.hi⟩)
  obtain ⟨m3, m4⟩ := mul_bd (a := A) (b := A) (by omega) (by omega) (by omega) (by omega)
  clear h5
  obtain ⟨⟨p6, q6, e6⟩, h6⟩ : ∃ r : R, sqrtR a b = r := ⟨_, rfl⟩
  have H6 := Lib.hid (show retR (sqrtR a b) = .returned (.tuple #[iv p6 q6, .int .i64 e6]) from by rw [h6])
  have N6 := Lib.hid (show (a < 0 ∧ e6 = 2) ∨ (0 ≤ a ∧ e6 = 0 ∧ p6 * p6 ≤ A * 16777216 ∧ A * 16777216 ≤ q6 * q6 ∧ 0 ≤ p6 * p6 ∧ q6 * q6 ≤ 18014398777917441) from sqrt_two h6 ha A1 A2)
  clear h6
  clear ha
  go_enter Tryd.func5, Tryd.ntmps5
  go_wp2_with fail
  refine (awake_any _).mono ?_
  rintro e w1 ⟨rfl, hb1⟩
  obtain ⟨hc1, hf1⟩ := bcell hb1
  have hz1 := hb1.size
  try simp at hz1
  have hw1 : Below w.heap.size w w1 := Below.trans (by repeat (first | exact Below.refl _ _ | refine Below.drew ?_ | refine below_drewN ?_ _ | refine Below.setCell ?_ (by first | omega | (simp <;> omega)) _ | refine Below.alloc ?_ (by first | omega | (simp <;> omega)) _)) (hb1.mono (by first | omega | (simp <;> omega)))
  have d1_0_0 : w1.cell? ⟨w.heap.size, 0, none⟩ = some (.int .i64 a) := (hc1 _ _ (by first | omega | (simp <;> omega))).trans (by first | (simp [go_sem, *]; done) | rfl)
  have d1_0_1 : w1.cell? ⟨w.heap.size, 1, none⟩ = some (.int .i64 b) := (hc1 _ _ (by first | omega | (simp <;> omega))).trans (by first | (simp [go_sem, *]; done) | rfl)
  have d1_1_0 : w1.cell? ⟨w.heap.size + 1, 0, none⟩ = some (.int .i64 c) := (hc1 _ _ (by first | omega | (simp <;> omega))).trans (by first | (simp [go_sem, *]; done) | rfl)
  have d1_1_1 : w1.cell? ⟨w.heap.size + 1, 1, none⟩ = some (.int .i64 d) := (hc1 _ _ (by first | omega | (simp <;> omega))).trans (by first | (simp [go_sem, *]; done) | rfl)
  have d1_2_0 : w1.cell? ⟨w.heap.size + 1 + 1, 0, none⟩ = some (.int .u32 k0) := (hc1 _ _ (by first | omega | (simp <;> omega))).trans (by first | (simp [go_sem, *]; done) | rfl)
  have d1_2_1 : w1.cell? ⟨w.heap.size + 1 + 1, 1, none⟩ = some (.int .u32 k1) := (hc1 _ _ (by first | omega | (simp <;> omega))).trans (by first | (simp [go_sem, *]; done) | rfl)
  have hm1_0 : w.heap.size < w1.heap.size := by omega
  have hm1_1 : w.heap.size < w1.heap.size + 1 := by omega
  have hm1_2 : w.heap.size < w1.heap.size + 1 + 1 := by omega
  have hm1_3 : w.heap.size + 1 < w1.heap.size := by omega
  have hm1_4 : w.heap.size + 1 < w1.heap.size + 1 := by omega
  have hm1_5 : w.heap.size < w1.heap.size := by omega
  have hm1_6 : w.heap.size + 1 < w1.heap.size + 1 + 1 := by omega
  have hm1_7 : w.heap.size < w1.heap.size + 1 := by omega
  have hm1_8 : w.heap.size + 1 + 1 < w1.heap.size := by omega
  have hm1_9 : w.heap.size + 1 + 1 < w1.heap.size + 1 := by omega
  have hm1_10 : w.heap.size + 1 < w1.heap.size := by omega
  have hm1_11 : w.heap.size + 1 + 1 < w1.heap.size + 1 + 1 := by omega
  have hm1_12 : w.heap.size + 1 < w1.heap.size + 1 := by omega
  clear hb1 hc1 hf1 hz1 
  go_wp2_with fail
  refine (refvalid_any _ _ _).mono ?_
  rintro e w1a ⟨rfl, rfl⟩
  rw [HA.out]
  go_wp2_with fail
  refine (refvalid_any _ _ _).mono ?_
  rintro e w1b ⟨rfl, rfl⟩
  rw [HC.out]
  go_upto_region 5 with fail
  go_cut [7, 8] from 34 to 41 (fun x y wx => x = .int .i64 A ∧ y = .int .i64 B ∧ Below w1.heap.size w1 wx)
  case first =>
    go_region_held3 (fun w' => w'.cell? ⟨w.heap.size, 0, none⟩ = some (.int .i64 a) ∧ w'.cell? ⟨w.heap.size, 1, none⟩ = some (.int .i64 b) ∧ w'.cell? ⟨w.heap.size + 1, 0, none⟩ = some (.int .i64 c) ∧ w'.cell? ⟨w.heap.size + 1, 1, none⟩ = some (.int .i64 d) ∧ w'.cell? ⟨w.heap.size + 1 + 1, 0, none⟩ = some (.int .u32 k0) ∧ w'.cell? ⟨w.heap.size + 1 + 1, 1, none⟩ = some (.int .u32 k1)) (first | (simp [go_sem, *]; done) | (simp [go_sem, hcx]; done))
      (first
        | (go_at_call 29; refine (inside_of _ _ _ _ (by first | exact HA.out | exact HC.out) (by first | exact hk0 | exact hk2) (by first | exact hk1 | exact hk3)).mono ?_; rintro e w' ⟨rfl, hb⟩; (first | rw [HIA.out] | rw [HIB.out]); obtain ⟨hcx, hfx⟩ := bcell hb; have hwx : Below w1.heap.size w1 w' := Below.trans (by repeat (first | exact hwx | exact Below.refl _ _ | refine Below.drew ?_ | refine bdrewN ?_ _ | refine Below.alloc ?_ (by first | omega | (simp <;> omega)) _)) (hb.mono (by first | omega | (simp <;> omega))); have hsx := hb.size; (try simp at hsx); have hs0 : w.heap.size < w'.heap.size := (by omega); have hs1 : w.heap.size + 1 < w'.heap.size := (by omega); have hs2 : w.heap.size + 1 + 1 < w'.heap.size := (by omega)))
    go_wp2
    go_meet
    exact ⟨rfl, rfl, hwx⟩
  case rest =>
    obtain ⟨rfl, rfl, hb2⟩ := hcut
    obtain ⟨w2, hwc⟩ : ∃ x, x = wc := ⟨_, rfl⟩
    rw [← hwc] at hb2
    rw [← hwc]
    clear hwc
    obtain ⟨hc2, hf2⟩ := bcell hb2
    have hz2 := hb2.size
    have hw2 : Below w.heap.size w w2 := Below.trans hw1 (hb2.mono (by first | omega | (simp <;> omega)))
    have d2_0_0 : w2.cell? ⟨w.heap.size, 0, none⟩ = some (.int .i64 a) := (hc2 _ _ (by first | omega | (simp <;> omega))).trans (by first | (simp [go_sem, *]; done) | rfl)
    have d2_0_1 : w2.cell? ⟨w.heap.size, 1, none⟩ = some (.int .i64 b) := (hc2 _ _ (by first | omega | (simp <;> omega))).trans (by first | (simp [go_sem, *]; done) | rfl)
    have d2_1_0 : w2.cell? ⟨w.heap.size + 1, 0, none⟩ = some (.int .i64 c) := (hc2 _ _ (by first | omega | (simp <;> omega))).trans (by first | (simp [go_sem, *]; done) | rfl)
    have d2_1_1 : w2.cell? ⟨w.heap.size + 1, 1, none⟩ = some (.int .i64 d) := (hc2 _ _ (by first | omega | (simp <;> omega))).trans (by first | (simp [go_sem, *]; done) | rfl)
    have d2_2_0 : w2.cell? ⟨w.heap.size + 1 + 1, 0, none⟩ = some (.int .u32 k0) := (hc2 _ _ (by first | omega | (simp <;> omega))).trans (by first | (simp [go_sem, *]; done) | rfl)
    have d2_2_1 : w2.cell? ⟨w.heap.size + 1 + 1, 1, none⟩ = some (.int .u32 k1) := (hc2 _ _ (by first | omega | (simp <;> omega))).trans (by first | (simp [go_sem, *]; done) | rfl)
    have hm2_0 : w.heap.size < w2.heap.size := by omega
    have hm2_1 : w.heap.size < w2.heap.size + 1 := by omega
    have hm2_2 : w.heap.size < w2.heap.size + 1 + 1 := by omega
    have hm2_3 : w.heap.size + 1 < w2.heap.size := by omega
    have hm2_4 : w.heap.size + 1 < w2.heap.size + 1 := by omega
    have hm2_5 : w.heap.size < w2.heap.size := by omega
    have hm2_6 : w.heap.size + 1 < w2.heap.size + 1 + 1 := by omega
    have hm2_7 : w.heap.size < w2.heap.size + 1 := by omega
    have hm2_8 : w.heap.size + 1 + 1 < w2.heap.size := by omega
    have hm2_9 : w.heap.size + 1 + 1 < w2.heap.size + 1 := by omega
    have hm2_10 : w.heap.size + 1 < w2.heap.size := by omega
    have hm2_11 : w.heap.size + 1 + 1 < w2.heap.size + 1 + 1 := by omega
    have hm2_12 : w.heap.size + 1 < w2.heap.size + 1 := by omega
    clear hb2 hc2 hf2 hz2 d1_0_0 d1_0_1 d1_1_0 d1_1_1 d1_2_0 d1_2_1 hm1_0 hm1_1 hm1_2 hm1_3 hm1_4 hm1_5 hm1_6 hm1_7 hm1_8 hm1_9 hm1_10 hm1_11 hm1_12
    go_wp2_with fail
    refine (add_any a b c d _).mono ?_
    rintro e w3 ⟨rfl, hb3⟩
    obtain ⟨hc3, hf3⟩ := bcell hb3
    have hz3 := hb3.size
    try simp at hz3
    have hw3 : Below w.heap.size w w3 := Below.trans (by repeat (first | exact hw2 | refine Below.drew ?_ | refine below_drewN ?_ _ | refine Below.setCell ?_ (by first | omega | (simp <;> omega)) _ | refine Below.alloc ?_ (by first | omega | (simp <;> omega)) _)) (hb3.mono (by first | omega | (simp <;> omega)))
    have d3_0_0 : w3.cell? ⟨w.heap.size, 0, none⟩ = some (.int .i64 a) := (hc3 _ _ (by first | omega | (simp <;> omega))).trans (by first | (simp [go_sem, *]; done) | rfl)
    have d3_0_1 : w3.cell? ⟨w.heap.size, 1, none⟩ = some (.int .i64 b) := (hc3 _ _ (by first | omega | (simp <;> omega))).trans (by first | (simp [go_sem, *]; done) | rfl)
    have d3_1_0 : w3.cell? ⟨w.heap.size + 1, 0, none⟩ = some (.int .i64 c) := (hc3 _ _ (by first | omega | (simp <;> omega))).trans (by first | (simp [go_sem, *]; done) | rfl)
    have d3_1_1 : w3.cell? ⟨w.heap.size + 1, 1, none⟩ = some (.int .i64 d) := (hc3 _ _ (by first | omega | (simp <;> omega))).trans (by first | (simp [go_sem, *]; done) | rfl)
    have d3_2_0 : w3.cell? ⟨w.heap.size + 1 + 1, 0, none⟩ = some (.int .u32 k0) := (hc3 _ _ (by first | omega | (simp <;> omega))).trans (by first | (simp [go_sem, *]; done) | rfl)
    have d3_2_1 : w3.cell? ⟨w.heap.size + 1 + 1, 1, none⟩ = some (.int .u32 k1) := (hc3 _ _ (by first | omega | (simp <;> omega))).trans (by first | (simp [go_sem, *]; done) | rfl)
    have hm3_0 : w.heap.size < w3.heap.size := by omega
    have hm3_1 : w.heap.size < w3.heap.size + 1 := by omega
    have hm3_2 : w.heap.size < w3.heap.size + 1 + 1 := by omega
    have hm3_3 : w.heap.size + 1 < w3.heap.size := by omega
    have hm3_4 : w.heap.size + 1 < w3.heap.size + 1 := by omega
    have hm3_5 : w.heap.size < w3.heap.size := by omega
    have hm3_6 : w.heap.size + 1 < w3.heap.size + 1 + 1 := by omega
    have hm3_7 : w.heap.size < w3.heap.size + 1 := by omega
    have hm3_8 : w.heap.size + 1 + 1 < w3.heap.size := by omega
    have hm3_9 : w.heap.size + 1 + 1 < w3.heap.size + 1 := by omega
    have hm3_10 : w.heap.size + 1 < w3.heap.size := by omega
    have hm3_11 : w.heap.size + 1 + 1 < w3.heap.size + 1 + 1 := by omega
    have hm3_12 : w.heap.size + 1 < w3.heap.size + 1 := by omega
    clear hb3 hc3 hf3 hz3 d2_0_0 d2_0_1 d2_1_0 d2_1_1 d2_2_0 d2_2_1 hm2_0 hm2_1 hm2_2 hm2_3 hm2_4 hm2_5 hm2_6 hm2_7 hm2_8 hm2_9 hm2_10 hm2_11 hm2_12
    rw [H1.out]
    have hn3 : w3.heap.size < w3.heap.size + 1 := by omega
    go_upto_region 7 with fail
    go_cut [65] from 48 to 64 (fun c wx => c = .bool false ∧ Below w3.heap.size w3 wx)
    case first =>
      by_cases he : e1 = 0
      · subst he
        obtain ⟨n1, n2, n3, n4⟩ := N1.out rfl
        have i1 : IntKind.i64.wrap (A + B) = A + B := IntWalk.i64_in _ (by omega)
        have g1 : decide (A + B < p1) = false := by rw [decide_eq_false_iff_not]; omega
        have g2 : decide (q1 < A + B) = false := by rw [decide_eq_false_iff_not]; omega
        go_wp2
        go_meet
        exact ⟨rfl, by repeat (first | exact Below.refl _ _ | refine Below.drew ?_ | refine bdrewN ?_ _ | refine Below.setCell ?_ (by first | omega | (simp <;> omega)) _ | refine Below.alloc ?_ (by first | omega | (simp <;> omega)) _)⟩
      · have he' : (e1 == 0) = false := by simpa using he
        go_wp2
        go_meet
        exact ⟨rfl, by repeat (first | exact Below.refl _ _ | refine Below.drew ?_ | refine bdrewN ?_ _ | refine Below.setCell ?_ (by first | omega | (simp <;> omega)) _ | refine Below.alloc ?_ (by first | omega | (simp <;> omega)) _)⟩
    case rest =>
      obtain ⟨rfl, hb4⟩ := hcut
      obtain ⟨w4, hwc⟩ : ∃ x, x = wc := ⟨_, rfl⟩
      rw [← hwc] at hb4
      rw [← hwc]
      clear hwc
      obtain ⟨hc4, hf4⟩ := bcell hb4
      have hz4 := hb4.size
      try simp at hz4
      have hw4 : Below w.heap.size w w4 := Below.trans hw3 (hb4.mono (by first | omega | (simp <;> omega)))
      have d4_0_0 : w4.cell? ⟨w.heap.size, 0, none⟩ = some (.int .i64 a) := (hc4 _ _ (by first | omega | (simp <;> omega))).trans (by first | (simp [go_sem, *]; done) | rfl)
      have d4_0_1 : w4.cell? ⟨w.heap.size, 1, none⟩ = some (.int .i64 b) := (hc4 _ _ (by first | omega | (simp <;> omega))).trans (by first | (simp [go_sem, *]; done) | rfl)
      have d4_1_0 : w4.cell? ⟨w.heap.size + 1, 0, none⟩ = some (.int .i64 c) := (hc4 _ _ (by first | omega | (simp <;> omega))).trans (by first | (simp [go_sem, *]; done) | rfl)
      have d4_1_1 : w4.cell? ⟨w.heap.size + 1, 1, none⟩ = some (.int .i64 d) := (hc4 _ _ (by first | omega | (simp <;> omega))).trans (by first | (simp [go_sem, *]; done) | rfl)
      have d4_2_0 : w4.cell? ⟨w.heap.size + 1 + 1, 0, none⟩ = some (.int .u32 k0) := (hc4 _ _ (by first | omega | (simp <;> omega))).trans (by first | (simp [go_sem, *]; done) | rfl)
      have d4_2_1 : w4.cell? ⟨w.heap.size + 1 + 1, 1, none⟩ = some (.int .u32 k1) := (hc4 _ _ (by first | omega | (simp <;> omega))).trans (by first | (simp [go_sem, *]; done) | rfl)
      have hm4_0 : w.heap.size < w4.heap.size := by omega
      have hm4_1 : w.heap.size < w4.heap.size + 1 := by omega
      have hm4_2 : w.heap.size < w4.heap.size + 1 + 1 := by omega
      have hm4_3 : w.heap.size + 1 < w4.heap.size := by omega
      have hm4_4 : w.heap.size + 1 < w4.heap.size + 1 := by omega
      have hm4_5 : w.heap.size < w4.heap.size := by omega
      have hm4_6 : w.heap.size + 1 < w4.heap.size + 1 + 1 := by omega
      have hm4_7 : w.heap.size < w4.heap.size + 1 := by omega
      have hm4_8 : w.heap.size + 1 + 1 < w4.heap.size := by omega
      have hm4_9 : w.heap.size + 1 + 1 < w4.heap.size + 1 := by omega
      have hm4_10 : w.heap.size + 1 < w4.heap.size := by omega
      have hm4_11 : w.heap.size + 1 + 1 < w4.heap.size + 1 + 1 := by omega
      have hm4_12 : w.heap.size + 1 < w4.heap.size + 1 := by omega
      clear hb4 hc4 hf4 hz4 d3_0_0 d3_0_1 d3_1_0 d3_1_1 d3_2_0 d3_2_1 hm3_0 hm3_1 hm3_2 hm3_3 hm3_4 hm3_5 hm3_6 hm3_7 hm3_8 hm3_9 hm3_10 hm3_11 hm3_12
      go_wp2_with fail
      refine (sub_any a b c d _).mono ?_
      rintro e w5 ⟨rfl, hb5⟩
      obtain ⟨hc5, hf5⟩ := bcell hb5
      have hz5 := hb5.size
      try simp at hz5
      have hw5 : Below w.heap.size w w5 := Below.trans (by repeat (first | exact hw4 | refine Below.drew ?_ | refine below_drewN ?_ _ | refine Below.setCell ?_ (by first | omega | (simp <;> omega)) _ | refine Below.alloc ?_ (by first | omega | (simp <;> omega)) _)) (hb5.mono (by first | omega | (simp <;> omega)))
      have d5_0_0 : w5.cell? ⟨w.heap.size, 0, none⟩ = some (.int .i64 a) := (hc5 _ _ (by first | omega | (simp <;> omega))).trans (by first | (simp [go_sem, *]; done) | rfl)
      have d5_0_1 : w5.cell? ⟨w.heap.size, 1, none⟩ = some (.int .i64 b) := (hc5 _ _ (by first | omega | (simp <;> omega))).trans (by first | (simp [go_sem, *]; done) | rfl)
      have d5_1_0 : w5.cell? ⟨w.heap.size + 1, 0, none⟩ = some (.int .i64 c) := (hc5 _ _ (by first | omega | (simp <;> omega))).trans (by first | (simp [go_sem, *]; done) | rfl)
      have d5_1_1 : w5.cell? ⟨w.heap.size + 1, 1, none⟩ = some (.int .i64 d) := (hc5 _ _ (by first | omega | (simp <;> omega))).trans (by first | (simp [go_sem, *]; done) | rfl)
      have d5_2_0 : w5.cell? ⟨w.heap.size + 1 + 1, 0, none⟩ = some (.int .u32 k0) := (hc5 _ _ (by first | omega | (simp <;> omega))).trans (by first | (simp [go_sem, *]; done) | rfl)
      have d5_2_1 : w5.cell? ⟨w.heap.size + 1 + 1, 1, none⟩ = some (.int .u32 k1) := (hc5 _ _ (by first | omega | (simp <;> omega))).trans (by first | (simp [go_sem, *]; done) | rfl)
      have hm5_0 : w.heap.size < w5.heap.size := by omega
      have hm5_1 : w.heap.size < w5.heap.size + 1 := by omega
      have hm5_2 : w.heap.size < w5.heap.size + 1 + 1 := by omega
      have hm5_3 : w.heap.size + 1 < w5.heap.size := by omega
      have hm5_4 : w.heap.size + 1 < w5.heap.size + 1 := by omega
      have hm5_5 : w.heap.size < w5.heap.size := by omega
      have hm5_6 : w.heap.size + 1 < w5.heap.size + 1 + 1 := by omega
      have hm5_7 : w.heap.size < w5.heap.size + 1 := by omega
      have hm5_8 : w.heap.size + 1 + 1 < w5.heap.size := by omega
      have hm5_9 : w.heap.size + 1 + 1 < w5.heap.size + 1 := by omega
      have hm5_10 : w.heap.size + 1 < w5.heap.size := by omega
      have hm5_11 : w.heap.size + 1 + 1 < w5.heap.size + 1 + 1 := by omega
      have hm5_12 : w.heap.size + 1 < w5.heap.size + 1 := by omega
      clear hb5 hc5 hf5 hz5 d4_0_0 d4_0_1 d4_1_0 d4_1_1 d4_2_0 d4_2_1 hm4_0 hm4_1 hm4_2 hm4_3 hm4_4 hm4_5 hm4_6 hm4_7 hm4_8 hm4_9 hm4_10 hm4_11 hm4_12
      rw [H2.out]
      have hn5 : w5.heap.size < w5.heap.size + 1 := by omega
      go_upto_region 10 with fail
      go_cut [89] from 72 to 88 (fun c wx => c = .bool false ∧ Below w5.heap.size w5 wx)
      case first =>
        by_cases he : e2 = 0
        · subst he
          obtain ⟨n1, n2, n3, n4⟩ := N2.out rfl
          have i1 : IntKind.i64.wrap (A - B) = A - B := IntWalk.i64_in _ (by omega)
          have g1 : decide (A - B < p2) = false := by rw [decide_eq_false_iff_not]; omega
          have g2 : decide (q2 < A - B) = false := by rw [decide_eq_false_iff_not]; omega
          go_wp2
          go_meet
          exact ⟨rfl, by repeat (first | exact Below.refl _ _ | refine Below.drew ?_ | refine bdrewN ?_ _ | refine Below.setCell ?_ (by first | omega | (simp <;> omega)) _ | refine Below.alloc ?_ (by first | omega | (simp <;> omega)) _)⟩
        · have he' : (e2 == 0) = false := by simpa using he
          go_wp2
          go_meet
          exact ⟨rfl, by repeat (first | exact Below.refl _ _ | refine Below.drew ?_ | refine bdrewN ?_ _ | refine Below.setCell ?_ (by first | omega | (simp <;> omega)) _ | refine Below.alloc ?_ (by first | omega | (simp <;> omega)) _)⟩
      case rest =>
        obtain ⟨rfl, hb6⟩ := hcut
        obtain ⟨w6, hwc⟩ : ∃ x, x = wc := ⟨_, rfl⟩
        rw [← hwc] at hb6
        rw [← hwc]
        clear hwc
        obtain ⟨hc6, hf6⟩ := bcell hb6
        have hz6 := hb6.size
        try simp at hz6
        have hw6 : Below w.heap.size w w6 := Below.trans hw5 (hb6.mono (by first | omega | (simp <;> omega)))
        have d6_0_0 : w6.cell? ⟨w.heap.size, 0, none⟩ = some (.int .i64 a) := (hc6 _ _ (by first | omega | (simp <;> omega))).trans (by first | (simp [go_sem, *]; done) | rfl)
        have d6_0_1 : w6.cell? ⟨w.heap.size, 1, none⟩ = some (.int .i64 b) := (hc6 _ _ (by first | omega | (simp <;> omega))).trans (by first | (simp [go_sem, *]; done) | rfl)
        have d6_1_0 : w6.cell? ⟨w.heap.size + 1, 0, none⟩ = some (.int .i64 c) := (hc6 _ _ (by first | omega | (simp <;> omega))).trans (by first | (simp [go_sem, *]; done) | rfl)
        have d6_1_1 : w6.cell? ⟨w.heap.size + 1, 1, none⟩ = some (.int .i64 d) := (hc6 _ _ (by first | omega | (simp <;> omega))).trans (by first | (simp [go_sem, *]; done) | rfl)
        have d6_2_0 : w6.cell? ⟨w.heap.size + 1 + 1, 0, none⟩ = some (.int .u32 k0) := (hc6 _ _ (by first | omega | (simp <;> omega))).trans (by first | (simp [go_sem, *]; done) | rfl)
        have d6_2_1 : w6.cell? ⟨w.heap.size + 1 + 1, 1, none⟩ = some (.int .u32 k1) := (hc6 _ _ (by first | omega | (simp <;> omega))).trans (by first | (simp [go_sem, *]; done) | rfl)
        have hm6_0 : w.heap.size < w6.heap.size := by omega
        have hm6_1 : w.heap.size < w6.heap.size + 1 := by omega
        have hm6_2 : w.heap.size < w6.heap.size + 1 + 1 := by omega
        have hm6_3 : w.heap.size + 1 < w6.heap.size := by omega
        have hm6_4 : w.heap.size + 1 < w6.heap.size + 1 := by omega
        have hm6_5 : w.heap.size < w6.heap.size := by omega
        have hm6_6 : w.heap.size + 1 < w6.heap.size + 1 + 1 := by omega
        have hm6_7 : w.heap.size < w6.heap.size + 1 := by omega
        have hm6_8 : w.heap.size + 1 + 1 < w6.heap.size := by omega
        have hm6_9 : w.heap.size + 1 + 1 < w6.heap.size + 1 := by omega
        have hm6_10 : w.heap.size + 1 < w6.heap.size := by omega
        have hm6_11 : w.heap.size + 1 + 1 < w6.heap.size + 1 + 1 := by omega
        have hm6_12 : w.heap.size + 1 < w6.heap.size + 1 := by omega
        clear hb6 hc6 hf6 hz6 d5_0_0 d5_0_1 d5_1_0 d5_1_1 d5_2_0 d5_2_1 hm5_0 hm5_1 hm5_2 hm5_3 hm5_4 hm5_5 hm5_6 hm5_7 hm5_8 hm5_9 hm5_10 hm5_11 hm5_12
        go_wp2_with fail
        refine (mul_any a b c d _).mono ?_
        rintro e w7 ⟨rfl, hb7⟩
        obtain ⟨hc7, hf7⟩ := bcell hb7
        have hz7 := hb7.size
        try simp at hz7
        have hw7 : Below w.heap.size w w7 := Below.trans (by repeat (first | exact hw6 | refine Below.drew ?_ | refine below_drewN ?_ _ | refine Below.setCell ?_ (by first | omega | (simp <;> omega)) _ | refine Below.alloc ?_ (by first | omega | (simp <;> omega)) _)) (hb7.mono (by first | omega | (simp <;> omega)))
        have d7_0_0 : w7.cell? ⟨w.heap.size, 0, none⟩ = some (.int .i64 a) := (hc7 _ _ (by first | omega | (simp <;> omega))).trans (by first | (simp [go_sem, *]; done) | rfl)
        have d7_0_1 : w7.cell? ⟨w.heap.size, 1, none⟩ = some (.int .i64 b) := (hc7 _ _ (by first | omega | (simp <;> omega))).trans (by first | (simp [go_sem, *]; done) | rfl)
        have d7_1_0 : w7.cell? ⟨w.heap.size + 1, 0, none⟩ = some (.int .i64 c) := (hc7 _ _ (by first | omega | (simp <;> omega))).trans (by first | (simp [go_sem, *]; done) | rfl)
        have d7_1_1 : w7.cell? ⟨w.heap.size + 1, 1, none⟩ = some (.int .i64 d) := (hc7 _ _ (by first | omega | (simp <;> omega))).trans (by first | (simp [go_sem, *]; done) | rfl)
        have d7_2_0 : w7.cell? ⟨w.heap.size + 1 + 1, 0, none⟩ = some (.int .u32 k0) := (hc7 _ _ (by first | omega | (simp <;> omega))).trans (by first | (simp [go_sem, *]; done) | rfl)
        have d7_2_1 : w7.cell? ⟨w.heap.size + 1 + 1, 1, none⟩ = some (.int .u32 k1) := (hc7 _ _ (by first | omega | (simp <;> omega))).trans (by first | (simp [go_sem, *]; done) | rfl)
        have hm7_0 : w.heap.size < w7.heap.size := by omega
        have hm7_1 : w.heap.size < w7.heap.size + 1 := by omega
        have hm7_2 : w.heap.size < w7.heap.size + 1 + 1 := by omega
        have hm7_3 : w.heap.size + 1 < w7.heap.size := by omega
        have hm7_4 : w.heap.size + 1 < w7.heap.size + 1 := by omega
        have hm7_5 : w.heap.size < w7.heap.size := by omega
        have hm7_6 : w.heap.size + 1 < w7.heap.size + 1 + 1 := by omega
        have hm7_7 : w.heap.size < w7.heap.size + 1 := by omega
        have hm7_8 : w.heap.size + 1 + 1 < w7.heap.size := by omega
        have hm7_9 : w.heap.size + 1 + 1 < w7.heap.size + 1 := by omega
        have hm7_10 : w.heap.size + 1 < w7.heap.size := by omega
        have hm7_11 : w.heap.size + 1 + 1 < w7.heap.size + 1 + 1 := by omega
        have hm7_12 : w.heap.size + 1 < w7.heap.size + 1 := by omega
        clear hb7 hc7 hf7 hz7 d6_0_0 d6_0_1 d6_1_0 d6_1_1 d6_2_0 d6_2_1 hm6_0 hm6_1 hm6_2 hm6_3 hm6_4 hm6_5 hm6_6 hm6_7 hm6_8 hm6_9 hm6_10 hm6_11 hm6_12
        rw [H3.out]
        have hn7 : w7.heap.size < w7.heap.size + 1 := by omega
        go_upto_region 13 with fail
        go_cut [115] from 96 to 114 (fun c wx => c = .bool false ∧ Below w7.heap.size w7 wx)
        case first =>
          by_cases he : e3 = 0
          · subst he
            obtain ⟨n1, n2, n3, n4⟩ := N3.out rfl
            have i1 : IntKind.i64.wrap (A * B) = A * B := IntWalk.i64_in _ (by omega)
            have i2 : IntKind.i64.wrap (p3 * 16777216) = p3 * 16777216 := IntWalk.i64_in _ (by omega)
            have i3 : IntKind.i64.wrap (q3 * 16777216) = q3 * 16777216 := IntWalk.i64_in _ (by omega)
            have g1 : decide (A * B < p3 * 16777216) = false := by rw [decide_eq_false_iff_not]; omega
            have g2 : decide (q3 * 16777216 < A * B) = false := by rw [decide_eq_false_iff_not]; omega
            go_wp2
            go_meet
            exact ⟨rfl, by repeat (first | exact Below.refl _ _ | refine Below.drew ?_ | refine bdrewN ?_ _ | refine Below.setCell ?_ (by first | omega | (simp <;> omega)) _ | refine Below.alloc ?_ (by first | omega | (simp <;> omega)) _)⟩
          · have he' : (e3 == 0) = false := by simpa using he
            go_wp2
            go_meet
            exact ⟨rfl, by repeat (first | exact Below.refl _ _ | refine Below.drew ?_ | refine bdrewN ?_ _ | refine Below.setCell ?_ (by first | omega | (simp <;> omega)) _ | refine Below.alloc ?_ (by first | omega | (simp <;> omega)) _)⟩
        case rest =>
          obtain ⟨rfl, hb8⟩ := hcut
          obtain ⟨w8, hwc⟩ : ∃ x, x = wc := ⟨_, rfl⟩
          rw [← hwc] at hb8
          rw [← hwc]
          clear hwc
          obtain ⟨hc8, hf8⟩ := bcell hb8
          have hz8 := hb8.size
          try simp at hz8
          have hw8 : Below w.heap.size w w8 := Below.trans hw7 (hb8.mono (by first | omega | (simp <;> omega)))
          have d8_0_0 : w8.cell? ⟨w.heap.size, 0, none⟩ = some (.int .i64 a) := (hc8 _ _ (by first | omega | (simp <;> omega))).trans (by first | (simp [go_sem, *]; done) | rfl)
          have d8_0_1 : w8.cell? ⟨w.heap.size, 1, none⟩ = some (.int .i64 b) := (hc8 _ _ (by first | omega | (simp <;> omega))).trans (by first | (simp [go_sem, *]; done) | rfl)
          have d8_1_0 : w8.cell? ⟨w.heap.size + 1, 0, none⟩ = some (.int .i64 c) := (hc8 _ _ (by first | omega | (simp <;> omega))).trans (by first | (simp [go_sem, *]; done) | rfl)
          have d8_1_1 : w8.cell? ⟨w.heap.size + 1, 1, none⟩ = some (.int .i64 d) := (hc8 _ _ (by first | omega | (simp <;> omega))).trans (by first | (simp [go_sem, *]; done) | rfl)
          have d8_2_0 : w8.cell? ⟨w.heap.size + 1 + 1, 0, none⟩ = some (.int .u32 k0) := (hc8 _ _ (by first | omega | (simp <;> omega))).trans (by first | (simp [go_sem, *]; done) | rfl)
          have d8_2_1 : w8.cell? ⟨w.heap.size + 1 + 1, 1, none⟩ = some (.int .u32 k1) := (hc8 _ _ (by first | omega | (simp <;> omega))).trans (by first | (simp [go_sem, *]; done) | rfl)
          have hm8_0 : w.heap.size < w8.heap.size := by omega
          have hm8_1 : w.heap.size < w8.heap.size + 1 := by omega
          have hm8_2 : w.heap.size < w8.heap.size + 1 + 1 := by omega
          have hm8_3 : w.heap.size + 1 < w8.heap.size := by omega
          have hm8_4 : w.heap.size + 1 < w8.heap.size + 1 := by omega
          have hm8_5 : w.heap.size < w8.heap.size := by omega
          have hm8_6 : w.heap.size + 1 < w8.heap.size + 1 + 1 := by omega
          have hm8_7 : w.heap.size < w8.heap.size + 1 := by omega
          have hm8_8 : w.heap.size + 1 + 1 < w8.heap.size := by omega
          have hm8_9 : w.heap.size + 1 + 1 < w8.heap.size + 1 := by omega
          have hm8_10 : w.heap.size + 1 < w8.heap.size := by omega
          have hm8_11 : w.heap.size + 1 + 1 < w8.heap.size + 1 + 1 := by omega
          have hm8_12 : w.heap.size + 1 < w8.heap.size + 1 := by omega
          clear hb8 hc8 hf8 hz8 d7_0_0 d7_0_1 d7_1_0 d7_1_1 d7_2_0 d7_2_1 hm7_0 hm7_1 hm7_2 hm7_3 hm7_4 hm7_5 hm7_6 hm7_7 hm7_8 hm7_9 hm7_10 hm7_11 hm7_12
          go_wp2_with fail
          refine (div_any a b c d _).mono ?_
          rintro e w9 ⟨rfl, hb9⟩
          obtain ⟨hc9, hf9⟩ := bcell hb9
          have hz9 := hb9.size
          try simp at hz9
          have hw9 : Below w.heap.size w w9 := Below.trans (by repeat (first | exact hw8 | refine Below.drew ?_ | refine below_drewN ?_ _ | refine Below.setCell ?_ (by first | omega | (simp <;> omega)) _ | refine Below.alloc ?_ (by first | omega | (simp <;> omega)) _)) (hb9.mono (by first | omega | (simp <;> omega)))
          have d9_0_0 : w9.cell? ⟨w.heap.size, 0, none⟩ = some (.int .i64 a) := (hc9 _ _ (by first | omega | (simp <;> omega))).trans (by first | (simp [go_sem, *]; done) | rfl)
          have d9_0_1 : w9.cell? ⟨w.heap.size, 1, none⟩ = some (.int .i64 b) := (hc9 _ _ (by first | omega | (simp <;> omega))).trans (by first | (simp [go_sem, *]; done) | rfl)
          have d9_1_0 : w9.cell? ⟨w.heap.size + 1, 0, none⟩ = some (.int .i64 c) := (hc9 _ _ (by first | omega | (simp <;> omega))).trans (by first | (simp [go_sem, *]; done) | rfl)
          have d9_1_1 : w9.cell? ⟨w.heap.size + 1, 1, none⟩ = some (.int .i64 d) := (hc9 _ _ (by first | omega | (simp <;> omega))).trans (by first | (simp [go_sem, *]; done) | rfl)
          have d9_2_0 : w9.cell? ⟨w.heap.size + 1 + 1, 0, none⟩ = some (.int .u32 k0) := (hc9 _ _ (by first | omega | (simp <;> omega))).trans (by first | (simp [go_sem, *]; done) | rfl)
          have d9_2_1 : w9.cell? ⟨w.heap.size + 1 + 1, 1, none⟩ = some (.int .u32 k1) := (hc9 _ _ (by first | omega | (simp <;> omega))).trans (by first | (simp [go_sem, *]; done) | rfl)
          have hm9_0 : w.heap.size < w9.heap.size := by omega
          have hm9_1 : w.heap.size < w9.heap.size + 1 := by omega
          have hm9_2 : w.heap.size < w9.heap.size + 1 + 1 := by omega
          have hm9_3 : w.heap.size + 1 < w9.heap.size := by omega
          have hm9_4 : w.heap.size + 1 < w9.heap.size + 1 := by omega
          have hm9_5 : w.heap.size < w9.heap.size := by omega
          have hm9_6 : w.heap.size + 1 < w9.heap.size + 1 + 1 := by omega
          have hm9_7 : w.heap.size < w9.heap.size + 1 := by omega
          have hm9_8 : w.heap.size + 1 + 1 < w9.heap.size := by omega
          have hm9_9 : w.heap.size + 1 + 1 < w9.heap.size + 1 := by omega
          have hm9_10 : w.heap.size + 1 < w9.heap.size := by omega
          have hm9_11 : w.heap.size + 1 + 1 < w9.heap.size + 1 + 1 := by omega
          have hm9_12 : w.heap.size + 1 < w9.heap.size + 1 := by omega
          clear hb9 hc9 hf9 hz9 d8_0_0 d8_0_1 d8_1_0 d8_1_1 d8_2_0 d8_2_1 hm8_0 hm8_1 hm8_2 hm8_3 hm8_4 hm8_5 hm8_6 hm8_7 hm8_8 hm8_9 hm8_10 hm8_11 hm8_12
          rw [H4.out]
          have hn9 : w9.heap.size < w9.heap.size + 1 := by omega
          go_upto_if 123 with fail
          go_cut [17, 18, 19] from 124 to 163 (fun _ _ _ wx => Below w9.heap.size w9 wx)
          case first =>
            by_cases he : e4 = 0
            · subst he
              obtain ⟨n1, n2, n3, n4, n5⟩ := N4.out rfl
              have i1 : IntKind.i64.wrap (p4 * B) = p4 * B := IntWalk.i64_in _ (by omega)
              have i2 : IntKind.i64.wrap (q4 * B) = q4 * B := IntWalk.i64_in _ (by omega)
              have i3 : IntKind.i64.wrap (A * 16777216) = A * 16777216 := IntWalk.i64_in _ (by omega)
              go_wp2_with fail
              go_quiet (fail)
              rcases n1 with ⟨b1, b2, b3⟩ | ⟨b1, b2, b3⟩
              · have g0 : decide (0 < B) = true := by rw [decide_eq_true_iff]; omega
                have g1 : decide (A * 16777216 < p4 * B) = false := by rw [decide_eq_false_iff_not]; omega
                have g2 : decide (q4 * B < A * 16777216) = false := by rw [decide_eq_false_iff_not]; omega
                have g3 : decide (B < 0) = false := by rw [decide_eq_false_iff_not]; omega
                have g4 : (B == 0) = false := by simp; omega
                go_wp2
                go_meet
                exact (by repeat (first | exact Below.refl _ _ | refine Below.drew ?_ | refine bdrewN ?_ _ | refine Below.setCell ?_ (by first | omega | (simp <;> omega)) _ | refine Below.alloc ?_ (by first | omega | (simp <;> omega)) _))
              · have g0 : decide (0 < B) = false := by rw [decide_eq_false_iff_not]; omega
                have g1 : decide (p4 * B < A * 16777216) = false := by rw [decide_eq_false_iff_not]; omega
                have g2 : decide (A * 16777216 < q4 * B) = false := by rw [decide_eq_false_iff_not]; omega
                have g3 : decide (B < 0) = true := by rw [decide_eq_true_iff]; omega
                have g4 : (B == 0) = false := by simp; omega
                go_wp2
                go_meet
                exact (by repeat (first | exact Below.refl _ _ | refine Below.drew ?_ | refine bdrewN ?_ _ | refine Below.setCell ?_ (by first | omega | (simp <;> omega)) _ | refine Below.alloc ?_ (by first | omega | (simp <;> omega)) _))
            · have he' : (e4 == 0) = false := by simpa using he
              go_wp2
              go_meet
              exact (by repeat (first | exact Below.refl _ _ | refine Below.drew ?_ | refine bdrewN ?_ _ | refine Below.setCell ?_ (by first | omega | (simp <;> omega)) _ | refine Below.alloc ?_ (by first | omega | (simp <;> omega)) _))
          case rest =>
            obtain ⟨w10, hwc⟩ : ∃ x, x = wc := ⟨_, rfl⟩
            have hb10 := hcut
            clear hcut
            rw [← hwc] at hb10
            rw [← hwc]
            clear hwc
            obtain ⟨hc10, hf10⟩ := bcell hb10
            have hz10 := hb10.size
            try simp at hz10
            have hw10 : Below w.heap.size w w10 := Below.trans hw9 (hb10.mono (by first | omega | (simp <;> omega)))
            have d10_0_0 : w10.cell? ⟨w.heap.size, 0, none⟩ = some (.int .i64 a) := (hc10 _ _ (by first | omega | (simp <;> omega))).trans (by first | (simp [go_sem, *]; done) | rfl)
            have d10_0_1 : w10.cell? ⟨w.heap.size, 1, none⟩ = some (.int .i64 b) := (hc10 _ _ (by first | omega | (simp <;> omega))).trans (by first | (simp [go_sem, *]; done) | rfl)
            have d10_1_0 : w10.cell? ⟨w.heap.size + 1, 0, none⟩ = some (.int .i64 c) := (hc10 _ _ (by first | omega | (simp <;> omega))).trans (by first | (simp [go_sem, *]; done) | rfl)
            have d10_1_1 : w10.cell? ⟨w.heap.size + 1, 1, none⟩ = some (.int .i64 d) := (hc10 _ _ (by first | omega | (simp <;> omega))).trans (by first | (simp [go_sem, *]; done) | rfl)
            have d10_2_0 : w10.cell? ⟨w.heap.size + 1 + 1, 0, none⟩ = some (.int .u32 k0) := (hc10 _ _ (by first | omega | (simp <;> omega))).trans (by first | (simp [go_sem, *]; done) | rfl)
            have d10_2_1 : w10.cell? ⟨w.heap.size + 1 + 1, 1, none⟩ = some (.int .u32 k1) := (hc10 _ _ (by first | omega | (simp <;> omega))).trans (by first | (simp [go_sem, *]; done) | rfl)
            have hm10_0 : w.heap.size < w10.heap.size := by omega
            have hm10_1 : w.heap.size < w10.heap.size + 1 := by omega
            have hm10_2 : w.heap.size < w10.heap.size + 1 + 1 := by omega
            have hm10_3 : w.heap.size + 1 < w10.heap.size := by omega
            have hm10_4 : w.heap.size + 1 < w10.heap.size + 1 := by omega
            have hm10_5 : w.heap.size < w10.heap.size := by omega
            have hm10_6 : w.heap.size + 1 < w10.heap.size + 1 + 1 := by omega
            have hm10_7 : w.heap.size < w10.heap.size + 1 := by omega
            have hm10_8 : w.heap.size + 1 + 1 < w10.heap.size := by omega
            have hm10_9 : w.heap.size + 1 + 1 < w10.heap.size + 1 := by omega
            have hm10_10 : w.heap.size + 1 < w10.heap.size := by omega
            have hm10_11 : w.heap.size + 1 + 1 < w10.heap.size + 1 + 1 := by omega
            have hm10_12 : w.heap.size + 1 < w10.heap.size + 1 := by omega
            clear hb10 hc10 hf10 hz10 d9_0_0 d9_0_1 d9_1_0 d9_1_1 d9_2_0 d9_2_1 hm9_0 hm9_1 hm9_2 hm9_3 hm9_4 hm9_5 hm9_6 hm9_7 hm9_8 hm9_9 hm9_10 hm9_11 hm9_12
            go_wp2_with fail
            refine (square_any a b _).mono ?_
            rintro e w11 ⟨rfl, hb11⟩
            obtain ⟨hc11, hf11⟩ := bcell hb11
            have hz11 := hb11.size
            try simp at hz11
            have hw11 : Below w.heap.size w w11 := Below.trans (by repeat (first | exact hw10 | refine Below.drew ?_ | refine below_drewN ?_ _ | refine Below.setCell ?_ (by first | omega | (simp <;> omega)) _ | refine Below.alloc ?_ (by first | omega | (simp <;> omega)) _)) (hb11.mono (by first | omega | (simp <;> omega)))
            have d11_0_0 : w11.cell? ⟨w.heap.size, 0, none⟩ = some (.int .i64 a) := (hc11 _ _ (by first | omega | (simp <;> omega))).trans (by first | (simp [go_sem, *]; done) | rfl)
            have d11_0_1 : w11.cell? ⟨w.heap.size, 1, none⟩ = some (.int .i64 b) := (hc11 _ _ (by first | omega | (simp <;> omega))).trans (by first | (simp [go_sem, *]; done) | rfl)
            have d11_1_0 : w11.cell? ⟨w.heap.size + 1, 0, none⟩ = some (.int .i64 c) := (hc11 _ _ (by first | omega | (simp <;> omega))).trans (by first | (simp [go_sem, *]; done) | rfl)
            have d11_1_1 : w11.cell? ⟨w.heap.size + 1, 1, none⟩ = some (.int .i64 d) := (hc11 _ _ (by first | omega | (simp <;> omega))).trans (by first | (simp [go_sem, *]; done) | rfl)
            have d11_2_0 : w11.cell? ⟨w.heap.size + 1 + 1, 0, none⟩ = some (.int .u32 k0) := (hc11 _ _ (by first | omega | (simp <;> omega))).trans (by first | (simp [go_sem, *]; done) | rfl)
            have d11_2_1 : w11.cell? ⟨w.heap.size + 1 + 1, 1, none⟩ = some (.int .u32 k1) := (hc11 _ _ (by first | omega | (simp <;> omega))).trans (by first | (simp [go_sem, *]; done) | rfl)
            have hm11_0 : w.heap.size < w11.heap.size := by omega
            have hm11_1 : w.heap.size < w11.heap.size + 1 := by omega
            have hm11_2 : w.heap.size < w11.heap.size + 1 + 1 := by omega
            have hm11_3 : w.heap.size + 1 < w11.heap.size := by omega
            have hm11_4 : w.heap.size + 1 < w11.heap.size + 1 := by omega
            have hm11_5 : w.heap.size < w11.heap.size := by omega
            have hm11_6 : w.heap.size + 1 < w11.heap.size + 1 + 1 := by omega
            have hm11_7 : w.heap.size < w11.heap.size + 1 := by omega
            have hm11_8 : w.heap.size + 1 + 1 < w11.heap.size := by omega
            have hm11_9 : w.heap.size + 1 + 1 < w11.heap.size + 1 := by omega
            have hm11_10 : w.heap.size + 1 < w11.heap.size := by omega
            have hm11_11 : w.heap.size + 1 + 1 < w11.heap.size + 1 + 1 := by omega
            have hm11_12 : w.heap.size + 1 < w11.heap.size + 1 := by omega
            clear hb11 hc11 hf11 hz11 d10_0_0 d10_0_1 d10_1_0 d10_1_1 d10_2_0 d10_2_1 hm10_0 hm10_1 hm10_2 hm10_3 hm10_4 hm10_5 hm10_6 hm10_7 hm10_8 hm10_9 hm10_10 hm10_11 hm10_12
            rw [H5.out]
            have hn11 : w11.heap.size < w11.heap.size + 1 := by omega
            go_upto_region 21 with fail
            go_cut [192] from 169 to 191 (fun c wx => c = .bool false ∧ Below w11.heap.size w11 wx)
            case first =>
              rcases E5 with he | he
              · subst he
                obtain ⟨n1, n2, n3, n4⟩ := N5.out rfl
                have i1 : IntKind.i64.wrap (A * A) = A * A := IntWalk.i64_in _ (by omega)
                have i2 : IntKind.i64.wrap (p5 * 16777216) = p5 * 16777216 := IntWalk.i64_in _ (by omega)
                have i3 : IntKind.i64.wrap (q5 * 16777216) = q5 * 16777216 := IntWalk.i64_in _ (by omega)
                have g1 : decide (A * A < p5 * 16777216) = false := by rw [decide_eq_false_iff_not]; omega
                have g2 : decide (q5 * 16777216 < A * A) = false := by rw [decide_eq_false_iff_not]; omega
                go_wp2
                go_meet
                exact ⟨rfl, by repeat (first | exact Below.refl _ _ | refine Below.drew ?_ | refine bdrewN ?_ _ | refine Below.setCell ?_ (by first | omega | (simp <;> omega)) _ | refine Below.alloc ?_ (by first | omega | (simp <;> omega)) _)⟩
              · subst he
                go_wp2
                go_meet
                exact ⟨rfl, by repeat (first | exact Below.refl _ _ | refine Below.drew ?_ | refine bdrewN ?_ _ | refine Below.setCell ?_ (by first | omega | (simp <;> omega)) _ | refine Below.alloc ?_ (by first | omega | (simp <;> omega)) _)⟩
            case rest =>
              obtain ⟨rfl, hb12⟩ := hcut
              obtain ⟨w12, hwc⟩ : ∃ x, x = wc := ⟨_, rfl⟩
              rw [← hwc] at hb12
              rw [← hwc]
              clear hwc
              obtain ⟨hc12, hf12⟩ := bcell hb12
              have hz12 := hb12.size
              try simp at hz12
              have hw12 : Below w.heap.size w w12 := Below.trans hw11 (hb12.mono (by first | omega | (simp <;> omega)))
              have d12_0_0 : w12.cell? ⟨w.heap.size, 0, none⟩ = some (.int .i64 a) := (hc12 _ _ (by first | omega | (simp <;> omega))).trans (by first | (simp [go_sem, *]; done) | rfl)
              have d12_0_1 : w12.cell? ⟨w.heap.size, 1, none⟩ = some (.int .i64 b) := (hc12 _ _ (by first | omega | (simp <;> omega))).trans (by first | (simp [go_sem, *]; done) | rfl)
              have d12_1_0 : w12.cell? ⟨w.heap.size + 1, 0, none⟩ = some (.int .i64 c) := (hc12 _ _ (by first | omega | (simp <;> omega))).trans (by first | (simp [go_sem, *]; done) | rfl)
              have d12_1_1 : w12.cell? ⟨w.heap.size + 1, 1, none⟩ = some (.int .i64 d) := (hc12 _ _ (by first | omega | (simp <;> omega))).trans (by first | (simp [go_sem, *]; done) | rfl)
              have d12_2_0 : w12.cell? ⟨w.heap.size + 1 + 1, 0, none⟩ = some (.int .u32 k0) := (hc12 _ _ (by first | omega | (simp <;> omega))).trans (by first | (simp [go_sem, *]; done) | rfl)
              have d12_2_1 : w12.cell? ⟨w.heap.size + 1 + 1, 1, none⟩ = some (.int .u32 k1) := (hc12 _ _ (by first | omega | (simp <;> omega))).trans (by first | (simp [go_sem, *]; done) | rfl)
              have hm12_0 : w.heap.size < w12.heap.size := by omega
              have hm12_1 : w.heap.size < w12.heap.size + 1 := by omega
              have hm12_2 : w.heap.size < w12.heap.size + 1 + 1 := by omega
              have hm12_3 : w.heap.size + 1 < w12.heap.size := by omega
              have hm12_4 : w.heap.size + 1 < w12.heap.size + 1 := by omega
              have hm12_5 : w.heap.size < w12.heap.size := by omega
              have hm12_6 : w.heap.size + 1 < w12.heap.size + 1 + 1 := by omega
              have hm12_7 : w.heap.size < w12.heap.size + 1 := by omega
              have hm12_8 : w.heap.size + 1 + 1 < w12.heap.size := by omega
              have hm12_9 : w.heap.size + 1 + 1 < w12.heap.size + 1 := by omega
              have hm12_10 : w.heap.size + 1 < w12.heap.size := by omega
              have hm12_11 : w.heap.size + 1 + 1 < w12.heap.size + 1 + 1 := by omega
              have hm12_12 : w.heap.size + 1 < w12.heap.size + 1 := by omega
              clear hb12 hc12 hf12 hz12 d11_0_0 d11_0_1 d11_1_0 d11_1_1 d11_2_0 d11_2_1 hm11_0 hm11_1 hm11_2 hm11_3 hm11_4 hm11_5 hm11_6 hm11_7 hm11_8 hm11_9 hm11_10 hm11_11 hm11_12
              go_wp2_with fail
              refine (sqrt_any a b _).mono ?_
              rintro e w13 ⟨rfl, hb13⟩
              obtain ⟨hc13, hf13⟩ := bcell hb13
              have hz13 := hb13.size
              try simp at hz13
              have hw13 : Below w.heap.size w w13 := Below.trans (by repeat (first | exact hw12 | refine Below.drew ?_ | refine below_drewN ?_ _ | refine Below.setCell ?_ (by first | omega | (simp <;> omega)) _ | refine Below.alloc ?_ (by first | omega | (simp <;> omega)) _)) (hb13.mono (by first | omega | (simp <;> omega)))
              have d13_0_0 : w13.cell? ⟨w.heap.size, 0, none⟩ = some (.int .i64 a) := (hc13 _ _ (by first | omega | (simp <;> omega))).trans (by first | (simp [go_sem, *]; done) | rfl)
              have d13_0_1 : w13.cell? ⟨w.heap.size, 1, none⟩ = some (.int .i64 b) := (hc13 _ _ (by first | omega | (simp <;> omega))).trans (by first | (simp [go_sem, *]; done) | rfl)
              have d13_1_0 : w13.cell? ⟨w.heap.size + 1, 0, none⟩ = some (.int .i64 c) := (hc13 _ _ (by first | omega | (simp <;> omega))).trans (by first | (simp [go_sem, *]; done) | rfl)
              have d13_1_1 : w13.cell? ⟨w.heap.size + 1, 1, none⟩ = some (.int .i64 d) := (hc13 _ _ (by first | omega | (simp <;> omega))).trans (by first | (simp [go_sem, *]; done) | rfl)
              have d13_2_0 : w13.cell? ⟨w.heap.size + 1 + 1, 0, none⟩ = some (.int .u32 k0) := (hc13 _ _ (by first | omega | (simp <;> omega))).trans (by first | (simp [go_sem, *]; done) | rfl)
              have d13_2_1 : w13.cell? ⟨w.heap.size + 1 + 1, 1, none⟩ = some (.int .u32 k1) := (hc13 _ _ (by first | omega | (simp <;> omega))).trans (by first | (simp [go_sem, *]; done) | rfl)
              have hm13_0 : w.heap.size < w13.heap.size := by omega
              have hm13_1 : w.heap.size < w13.heap.size + 1 := by omega
              have hm13_2 : w.heap.size < w13.heap.size + 1 + 1 := by omega
              have hm13_3 : w.heap.size + 1 < w13.heap.size := by omega
              have hm13_4 : w.heap.size + 1 < w13.heap.size + 1 := by omega
              have hm13_5 : w.heap.size < w13.heap.size := by omega
              have hm13_6 : w.heap.size + 1 < w13.heap.size + 1 + 1 := by omega
              have hm13_7 : w.heap.size < w13.heap.size + 1 := by omega
              have hm13_8 : w.heap.size + 1 + 1 < w13.heap.size := by omega
              have hm13_9 : w.heap.size + 1 + 1 < w13.heap.size + 1 := by omega
              have hm13_10 : w.heap.size + 1 < w13.heap.size := by omega
              have hm13_11 : w.heap.size + 1 + 1 < w13.heap.size + 1 + 1 := by omega
              have hm13_12 : w.heap.size + 1 < w13.heap.size + 1 := by omega
              clear hb13 hc13 hf13 hz13 d12_0_0 d12_0_1 d12_1_0 d12_1_1 d12_2_0 d12_2_1 hm12_0 hm12_1 hm12_2 hm12_3 hm12_4 hm12_5 hm12_6 hm12_7 hm12_8 hm12_9 hm12_10 hm12_11 hm12_12
              rw [H6.out]
              have hn13 : w13.heap.size < w13.heap.size + 1 := by omega
              rcases N6.out with ⟨n0, he⟩ | ⟨n0, he, n1, n2, n3, n4⟩
              · subst he
                go_wp2
                go_ret
                exact ⟨rfl, by repeat (first | exact hw13 | refine Below.drew ?_ | refine bdrewN ?_ _ | refine Below.setCell ?_ (by first | omega | (simp <;> omega)) _ | refine Below.alloc ?_ (by first | omega | (simp <;> omega)) _)⟩
              · subst he
                have i1 : IntKind.i64.wrap (p6 * p6) = p6 * p6 := IntWalk.i64_in _ (by omega)
                have i2 : IntKind.i64.wrap (q6 * q6) = q6 * q6 := IntWalk.i64_in _ (by omega)
                have i3 : IntKind.i64.wrap (A * 16777216) = A * 16777216 := IntWalk.i64_in _ (by omega)
                have g1 : decide (p6 * p6 ≤ A * 16777216) = true := by rw [decide_eq_true_iff]; omega
                have g2 : decide (A * 16777216 ≤ q6 * q6) = true := by rw [decide_eq_true_iff]; omega
                go_wp2
                go_ret
                exact ⟨rfl, by repeat (first | exact hw13 | refine Below.drew ?_ | refine bdrewN ?_ _ | refine Below.setCell ?_ (by first | omega | (simp <;> omega)) _ | refine Below.alloc ?_ (by first | omega | (simp <;> omega)) _)⟩
end Go.Proofs.YtognaejbpioihaaDoor.Iv
