/- IntervalLeast: each end of a result is less than one unit away from a result of ends. -/
import Derived.Test.YtognaejbpioihaaDoorIlM
import Derived.Test.YtognaejbpioihaaDoorIv2
import Derived.Deep.CutRange
import Derived.Deep.DeepCutAuto
import Derived.Tactics2
namespace Go.Proofs.YtognaejbpioihaaDoor.Iv
open Go.RowKit

set_option maxRecDepth 100000 in
set_option maxHeartbeats 8000000 in
theorem least_any (a b c d : Int) (w : World) (ha : vB a b = true) (hc : vB c d = true) :
    Calls Tryd.prog 6 #[iv a b, iv c d] w fun e w' => e = .returned (.bool true) ∧ Below w.heap.size w w' := by
  obtain ⟨a1, a2, a3⟩ := vB_iff.1 ha
  obtain ⟨c1, c2, c3⟩ := vB_iff.1 hc
  have HA := Lib.hid ha
  have HC := Lib.hid hc
  obtain ⟨m1, m2⟩ := mul_bd (a := a) (b := c) (by omega) (by omega) (by omega) (by omega)
  obtain ⟨m3, m4⟩ := mul_bd (a := a) (b := d) (by omega) (by omega) (by omega) (by omega)
  obtain ⟨m5, m6⟩ := mul_bd (a := b) (b := c) (by omega) (by omega) (by omega) (by omega)
  obtain ⟨m7, m8⟩ := mul_bd (a := b) (b := d) (by omega) (by omega) (by omega) (by omega)
  obtain ⟨s1, s2⟩ := mul_bd (a := a) (b := a) (by omega) (by omega) (by omega) (by omega)
  obtain ⟨s3, s4⟩ := mul_bd (a := b) (b := b) (by omega) (by omega) (by omega) (by omega)
  have SM4 := Lib.hid (small4 ⟨m1, m2⟩ ⟨m3, m4⟩ ⟨m5, m6⟩ ⟨m7, m8⟩)
  have SM3 := Lib.hid (small3 ⟨s1, s2⟩ ⟨s3, s4⟩ (show -1152921504606846976 ≤ (0 : Int) ∧ (0 : Int) ≤ 1152921504606846976 by decide))
  have SM2 := Lib.hid (small2 ⟨s1, s2⟩ ⟨s3, s4⟩)
  obtain ⟨⟨p1, q1, e1⟩, h1⟩ : ∃ r : R, addR a b c d = r := ⟨_, rfl⟩
  have H1 := Lib.hid (show retR (addR a b c d) = .returned (.tuple #[iv p1 q1, .int .i64 e1]) from by rw [h1])
  have N1 := Lib.hid (show e1 = 0 → p1 = a + c ∧ q1 = b + d from fun h => by subst h; rw [show addR a b c d = withinR (a + c) (b + d) from if_pos ⟨ha, hc⟩] at h1; obtain ⟨x, y, _⟩ := within_ok h1; exact ⟨x, y⟩)
  clear h1
  obtain ⟨⟨p2, q2, e2⟩, h2⟩ : ∃ r : R, mulR a b c d = r := ⟨_, rfl⟩
  have H2 := Lib.hid (show retR (mulR a b c d) = .returned (.tuple #[iv p2 q2, .int .i64 e2]) from by rw [h2])
  have N2 := Lib.hid (fun h : e2 = 0 => mul_hit (p := p2) (q := q2) (by rw [h2, h] : mulR a b c d = ⟨p2, q2, 0⟩))
  clear h2
  obtain ⟨⟨p3, q3, e3⟩, h3⟩ : ∃ r : R, sqR a b = r := ⟨_, rfl⟩
  have H3 := Lib.hid (show retR (sqR a b) = .returned (.tuple #[iv p3 q3, .int .i64 e3]) from by rw [h3])
  have N3 := Lib.hid (fun h : e3 = 0 => sq_hit (p := p3) (q := q3) (by rw [h3, h] : sqR a b = ⟨p3, q3, 0⟩) ha)
  clear h3
  obtain ⟨⟨p4, q4, e4⟩, h4⟩ : ∃ r : R, sqrtR a b = r := ⟨_, rfl⟩
  have H4 := Lib.hid (show retR (sqrtR a b) = .returned (.tuple #[iv p4 q4, .int .i64 e4]) from by rw [h4])
  have N4 := Lib.hid (sqrt_near h4 ha)
  clear h4
  clear ha hc
  go_enter Tryd.func6, Tryd.ntmps6
  go_wp2_with fail
  refine (awake_any _).mono ?_
  rintro e w1 ⟨rfl, hb1⟩
  obtain ⟨hc1, hf1⟩ := bcell hb1
  have hz1 := hb1.size
  try simp at hz1
  have hw1 : Below w.heap.size w w1 := Below.trans (by repeat (first | exact Below.refl _ _ | refine Below.drew ?_ | refine below_drewN ?_ _ | refine Below.setCell ?_ (by first | omega | (simp <;> omega)) _ | refine Below.alloc ?_ (by first | omega | (simp <;> omega)) _)) (hb1.mono (by first | omega | (simp <;> omega)))
  have d1_0_0 : w1.cell? ⟨w.heap.size, 0, none⟩ = some (.int .i64 a) := (hc1 _ _ (by first | omega | (simp <;> omega))).trans (by first | (simp [go_sem, *]; done) | rfl)
  have d1_0_1 : w1.cell? ⟨w.heap.size, 1, none⟩ = some (.int .i64 b) := (hc1 _ _ (by first | omega | (simp <;> omega))).trans (by first | (simp [go_sem, *]; done) | rfl)
  have d1_1_0 : w1.cell? ⟨w.heap.size + 1, 0, none⟩ = some (.int .i64 c) := (hc1 _ _ (by first | omega | (simp <;> omega))).trans (by first | (simp [go_sem, *]; done) | rfl)
  have d1_1_1 : w1.cell? ⟨w.heap.size + 1, 1, none⟩ = some (.int .i64 d) := (hc1 _ _ (by first | omega | (simp <;> omega))).trans (by first | (simp [go_sem, *]; done) | rfl)
  have hm1_0 : w.heap.size < w1.heap.size := by omega
  have hm1_1 : w.heap.size < w1.heap.size + 1 := by omega
  have hm1_2 : w.heap.size < w1.heap.size + 1 + 1 := by omega
  have hm1_3 : w.heap.size + 1 < w1.heap.size := by omega
  have hm1_4 : w.heap.size + 1 < w1.heap.size + 1 := by omega
  have hm1_5 : w.heap.size < w1.heap.size := by omega
  have hm1_6 : w.heap.size + 1 < w1.heap.size + 1 + 1 := by omega
  have hm1_7 : w.heap.size < w1.heap.size + 1 := by omega
  clear hb1 hc1 hf1 hz1 
  go_wp2_with fail
  refine (refvalid_any _ _ _).mono ?_
  rintro e w1a ⟨rfl, rfl⟩
  rw [HA.out]
  go_wp2_with fail
  refine (refvalid_any _ _ _).mono ?_
  rintro e w1b ⟨rfl, rfl⟩
  rw [HC.out]
  go_wp2_with fail
  refine (add_any a b c d _).mono ?_
  rintro e w2 ⟨rfl, hb2⟩
  obtain ⟨hc2, hf2⟩ := bcell hb2
  have hz2 := hb2.size
  try simp at hz2
  have hw2 : Below w.heap.size w w2 := Below.trans (by repeat (first | exact hw1 | refine Below.drew ?_ | refine below_drewN ?_ _ | refine Below.setCell ?_ (by first | omega | (simp <;> omega)) _ | refine Below.alloc ?_ (by first | omega | (simp <;> omega)) _)) (hb2.mono (by first | omega | (simp <;> omega)))
  have d2_0_0 : w2.cell? ⟨w.heap.size, 0, none⟩ = some (.int .i64 a) := (hc2 _ _ (by first | omega | (simp <;> omega))).trans (by first | (simp [go_sem, *]; done) | rfl)
  have d2_0_1 : w2.cell? ⟨w.heap.size, 1, none⟩ = some (.int .i64 b) := (hc2 _ _ (by first | omega | (simp <;> omega))).trans (by first | (simp [go_sem, *]; done) | rfl)
  have d2_1_0 : w2.cell? ⟨w.heap.size + 1, 0, none⟩ = some (.int .i64 c) := (hc2 _ _ (by first | omega | (simp <;> omega))).trans (by first | (simp [go_sem, *]; done) | rfl)
  have d2_1_1 : w2.cell? ⟨w.heap.size + 1, 1, none⟩ = some (.int .i64 d) := (hc2 _ _ (by first | omega | (simp <;> omega))).trans (by first | (simp [go_sem, *]; done) | rfl)
  have hm2_0 : w.heap.size < w2.heap.size := by omega
  have hm2_1 : w.heap.size < w2.heap.size + 1 := by omega
  have hm2_2 : w.heap.size < w2.heap.size + 1 + 1 := by omega
  have hm2_3 : w.heap.size + 1 < w2.heap.size := by omega
  have hm2_4 : w.heap.size + 1 < w2.heap.size + 1 := by omega
  have hm2_5 : w.heap.size < w2.heap.size := by omega
  have hm2_6 : w.heap.size + 1 < w2.heap.size + 1 + 1 := by omega
  have hm2_7 : w.heap.size < w2.heap.size + 1 := by omega
  clear hb2 hc2 hf2 hz2 d1_0_0 d1_0_1 d1_1_0 d1_1_1 hm1_0 hm1_1 hm1_2 hm1_3 hm1_4 hm1_5 hm1_6 hm1_7
  rw [H1.out]
  have hn2 : w2.heap.size < w2.heap.size + 1 := by omega
  go_upto_region 6 with fail
  go_cut [46] from 30 to 45 (fun c wx => c = .bool false ∧ Below w2.heap.size w2 wx)
  case first =>
    by_cases he : e1 = 0
    · subst he
      obtain ⟨n1, n2⟩ := N1.out rfl
      have i1 : IntKind.i64.wrap (a + c) = a + c := IntWalk.i64_in _ (by omega)
      have i2 : IntKind.i64.wrap (b + d) = b + d := IntWalk.i64_in _ (by omega)
      subst n1 n2
      go_wp2
      go_meet
      exact ⟨rfl, by repeat (first | exact Below.refl _ _ | refine Below.drew ?_ | refine bdrewN ?_ _ | refine Below.setCell ?_ (by first | omega | (simp <;> omega)) _ | refine Below.alloc ?_ (by first | omega | (simp <;> omega)) _)⟩
    · have he' : (e1 == 0) = false := by simpa using he
      go_wp2
      go_meet
      exact ⟨rfl, by repeat (first | exact Below.refl _ _ | refine Below.drew ?_ | refine bdrewN ?_ _ | refine Below.setCell ?_ (by first | omega | (simp <;> omega)) _ | refine Below.alloc ?_ (by first | omega | (simp <;> omega)) _)⟩
  case rest =>
    obtain ⟨rfl, hb3⟩ := hcut
    obtain ⟨w3, hwc⟩ : ∃ x, x = wc := ⟨_, rfl⟩
    rw [← hwc] at hb3
    rw [← hwc]
    clear hwc
    obtain ⟨hc3, hf3⟩ := bcell hb3
    have hz3 := hb3.size
    try simp at hz3
    have hw3 : Below w.heap.size w w3 := Below.trans hw2 (hb3.mono (by first | omega | (simp <;> omega)))
    have d3_0_0 : w3.cell? ⟨w.heap.size, 0, none⟩ = some (.int .i64 a) := (hc3 _ _ (by first | omega | (simp <;> omega))).trans (by first | (simp [go_sem, *]; done) | rfl)
    have d3_0_1 : w3.cell? ⟨w.heap.size, 1, none⟩ = some (.int .i64 b) := (hc3 _ _ (by first | omega | (simp <;> omega))).trans (by first | (simp [go_sem, *]; done) | rfl)
    have d3_1_0 : w3.cell? ⟨w.heap.size + 1, 0, none⟩ = some (.int .i64 c) := (hc3 _ _ (by first | omega | (simp <;> omega))).trans (by first | (simp [go_sem, *]; done) | rfl)
    have d3_1_1 : w3.cell? ⟨w.heap.size + 1, 1, none⟩ = some (.int .i64 d) := (hc3 _ _ (by first | omega | (simp <;> omega))).trans (by first | (simp [go_sem, *]; done) | rfl)
    have hm3_0 : w.heap.size < w3.heap.size := by omega
    have hm3_1 : w.heap.size < w3.heap.size + 1 := by omega
    have hm3_2 : w.heap.size < w3.heap.size + 1 + 1 := by omega
    have hm3_3 : w.heap.size + 1 < w3.heap.size := by omega
    have hm3_4 : w.heap.size + 1 < w3.heap.size + 1 := by omega
    have hm3_5 : w.heap.size < w3.heap.size := by omega
    have hm3_6 : w.heap.size + 1 < w3.heap.size + 1 + 1 := by omega
    have hm3_7 : w.heap.size < w3.heap.size + 1 := by omega
    clear hb3 hc3 hf3 hz3 d2_0_0 d2_0_1 d2_1_0 d2_1_1 hm2_0 hm2_1 hm2_2 hm2_3 hm2_4 hm2_5 hm2_6 hm2_7
    go_wp2_with fail
    refine (mul_any a b c d _).mono ?_
    rintro e w4 ⟨rfl, hb4⟩
    obtain ⟨hc4, hf4⟩ := bcell hb4
    have hz4 := hb4.size
    try simp at hz4
    have hw4 : Below w.heap.size w w4 := Below.trans (by repeat (first | exact hw3 | refine Below.drew ?_ | refine below_drewN ?_ _ | refine Below.setCell ?_ (by first | omega | (simp <;> omega)) _ | refine Below.alloc ?_ (by first | omega | (simp <;> omega)) _)) (hb4.mono (by first | omega | (simp <;> omega)))
    have d4_0_0 : w4.cell? ⟨w.heap.size, 0, none⟩ = some (.int .i64 a) := (hc4 _ _ (by first | omega | (simp <;> omega))).trans (by first | (simp [go_sem, *]; done) | rfl)
    have d4_0_1 : w4.cell? ⟨w.heap.size, 1, none⟩ = some (.int .i64 b) := (hc4 _ _ (by first | omega | (simp <;> omega))).trans (by first | (simp [go_sem, *]; done) | rfl)
    have d4_1_0 : w4.cell? ⟨w.heap.size + 1, 0, none⟩ = some (.int .i64 c) := (hc4 _ _ (by first | omega | (simp <;> omega))).trans (by first | (simp [go_sem, *]; done) | rfl)
    have d4_1_1 : w4.cell? ⟨w.heap.size + 1, 1, none⟩ = some (.int .i64 d) := (hc4 _ _ (by first | omega | (simp <;> omega))).trans (by first | (simp [go_sem, *]; done) | rfl)
    have hm4_0 : w.heap.size < w4.heap.size := by omega
    have hm4_1 : w.heap.size < w4.heap.size + 1 := by omega
    have hm4_2 : w.heap.size < w4.heap.size + 1 + 1 := by omega
    have hm4_3 : w.heap.size + 1 < w4.heap.size := by omega
    have hm4_4 : w.heap.size + 1 < w4.heap.size + 1 := by omega
    have hm4_5 : w.heap.size < w4.heap.size := by omega
    have hm4_6 : w.heap.size + 1 < w4.heap.size + 1 + 1 := by omega
    have hm4_7 : w.heap.size < w4.heap.size + 1 := by omega
    clear hb4 hc4 hf4 hz4 d3_0_0 d3_0_1 d3_1_0 d3_1_1 hm3_0 hm3_1 hm3_2 hm3_3 hm3_4 hm3_5 hm3_6 hm3_7
    rw [H2.out]
    have hn4 : w4.heap.size < w4.heap.size + 1 := by omega
    go_upto_if 54 with fail
    go_cut [9] from 55 to 87 (fun _  wx => Below w4.heap.size w4 wx)
    case first =>
      by_cases he : e2 = 0
      · subst he
        obtain ⟨n1, n2, n3, n4, n5, n6⟩ := N2.out rfl
        have NA := Lib.hid n1
        have NB := Lib.hid n2
        clear n1 n2
        go_wp2_with fail
        refine (near_any _ _ _ 4 4 [a * c, a * d, b * c, b * d] _ rfl (by decide) (ints4 _ _ _ _ (by simp)) n3 n4 SM4.out NA.out).mono ?_
        rintro e wn ⟨rfl, rfl⟩
        go_wp2_with fail
        refine (near_any _ _ _ 4 4 [a * c, a * d, b * c, b * d] _ rfl (by decide) (ints4 _ _ _ _ (by simp)) n5 n6 SM4.out NB.out).mono ?_
        rintro e wn ⟨rfl, rfl⟩
        go_wp2
        go_meet
        exact (by repeat (first | exact Below.refl _ _ | refine Below.drew ?_ | refine bdrewN ?_ _ | refine Below.setCell ?_ (by first | omega | (simp <;> omega)) _ | refine Below.alloc ?_ (by first | omega | (simp <;> omega)) _))
      · have he' : (e2 == 0) = false := by simpa using he
        go_wp2
        go_meet
        exact (by repeat (first | exact Below.refl _ _ | refine Below.drew ?_ | refine bdrewN ?_ _ | refine Below.setCell ?_ (by first | omega | (simp <;> omega)) _ | refine Below.alloc ?_ (by first | omega | (simp <;> omega)) _))
    case rest =>
      obtain ⟨w5, hwc⟩ : ∃ x, x = wc := ⟨_, rfl⟩
      have hb5 := hcut
      clear hcut
      rw [← hwc] at hb5
      rw [← hwc]
      clear hwc
      obtain ⟨hc5, hf5⟩ := bcell hb5
      have hz5 := hb5.size
      try simp at hz5
      have hw5 : Below w.heap.size w w5 := Below.trans hw4 (hb5.mono (by first | omega | (simp <;> omega)))
      have d5_0_0 : w5.cell? ⟨w.heap.size, 0, none⟩ = some (.int .i64 a) := (hc5 _ _ (by first | omega | (simp <;> omega))).trans (by first | (simp [go_sem, *]; done) | rfl)
      have d5_0_1 : w5.cell? ⟨w.heap.size, 1, none⟩ = some (.int .i64 b) := (hc5 _ _ (by first | omega | (simp <;> omega))).trans (by first | (simp [go_sem, *]; done) | rfl)
      have d5_1_0 : w5.cell? ⟨w.heap.size + 1, 0, none⟩ = some (.int .i64 c) := (hc5 _ _ (by first | omega | (simp <;> omega))).trans (by first | (simp [go_sem, *]; done) | rfl)
      have d5_1_1 : w5.cell? ⟨w.heap.size + 1, 1, none⟩ = some (.int .i64 d) := (hc5 _ _ (by first | omega | (simp <;> omega))).trans (by first | (simp [go_sem, *]; done) | rfl)
      have hm5_0 : w.heap.size < w5.heap.size := by omega
      have hm5_1 : w.heap.size < w5.heap.size + 1 := by omega
      have hm5_2 : w.heap.size < w5.heap.size + 1 + 1 := by omega
      have hm5_3 : w.heap.size + 1 < w5.heap.size := by omega
      have hm5_4 : w.heap.size + 1 < w5.heap.size + 1 := by omega
      have hm5_5 : w.heap.size < w5.heap.size := by omega
      have hm5_6 : w.heap.size + 1 < w5.heap.size + 1 + 1 := by omega
      have hm5_7 : w.heap.size < w5.heap.size + 1 := by omega
      clear hb5 hc5 hf5 hz5 d4_0_0 d4_0_1 d4_1_0 d4_1_1 hm4_0 hm4_1 hm4_2 hm4_3 hm4_4 hm4_5 hm4_6 hm4_7
      go_wp2_with fail
      refine (square_any a b _).mono ?_
      rintro e w6 ⟨rfl, hb6⟩
      obtain ⟨hc6, hf6⟩ := bcell hb6
      have hz6 := hb6.size
      try simp at hz6
      have hw6 : Below w.heap.size w w6 := Below.trans (by repeat (first | exact hw5 | refine Below.drew ?_ | refine below_drewN ?_ _ | refine Below.setCell ?_ (by first | omega | (simp <;> omega)) _ | refine Below.alloc ?_ (by first | omega | (simp <;> omega)) _)) (hb6.mono (by first | omega | (simp <;> omega)))
      have d6_0_0 : w6.cell? ⟨w.heap.size, 0, none⟩ = some (.int .i64 a) := (hc6 _ _ (by first | omega | (simp <;> omega))).trans (by first | (simp [go_sem, *]; done) | rfl)
      have d6_0_1 : w6.cell? ⟨w.heap.size, 1, none⟩ = some (.int .i64 b) := (hc6 _ _ (by first | omega | (simp <;> omega))).trans (by first | (simp [go_sem, *]; done) | rfl)
      have d6_1_0 : w6.cell? ⟨w.heap.size + 1, 0, none⟩ = some (.int .i64 c) := (hc6 _ _ (by first | omega | (simp <;> omega))).trans (by first | (simp [go_sem, *]; done) | rfl)
      have d6_1_1 : w6.cell? ⟨w.heap.size + 1, 1, none⟩ = some (.int .i64 d) := (hc6 _ _ (by first | omega | (simp <;> omega))).trans (by first | (simp [go_sem, *]; done) | rfl)
      have hm6_0 : w.heap.size < w6.heap.size := by omega
      have hm6_1 : w.heap.size < w6.heap.size + 1 := by omega
      have hm6_2 : w.heap.size < w6.heap.size + 1 + 1 := by omega
      have hm6_3 : w.heap.size + 1 < w6.heap.size := by omega
      have hm6_4 : w.heap.size + 1 < w6.heap.size + 1 := by omega
      have hm6_5 : w.heap.size < w6.heap.size := by omega
      have hm6_6 : w.heap.size + 1 < w6.heap.size + 1 + 1 := by omega
      have hm6_7 : w.heap.size < w6.heap.size + 1 := by omega
      clear hb6 hc6 hf6 hz6 d5_0_0 d5_0_1 d5_1_0 d5_1_1 hm5_0 hm5_1 hm5_2 hm5_3 hm5_4 hm5_5 hm5_6 hm5_7
      rw [H3.out]
      have hn6 : w6.heap.size < w6.heap.size + 1 := by omega
      go_upto_if 94 with fail
      go_cut [126] from 95 to 125 (fun _  wx => Below w6.heap.size w6 wx)
      case first =>
        by_cases he : e3 = 0
        · subst he
          obtain ⟨n1, n2, n3, n4, n5, n6⟩ := N3.out rfl
          have NA := Lib.hid n1
          have NB := Lib.hid n2
          clear n1 n2
          go_wp2_with fail
          refine (near_any _ _ _ 3 3 [a * a, b * b, 0] _ rfl (by decide) (ints3' _ _ _ (by simp)) n3 n4 SM3.out NA.out).mono ?_
          rintro e wn ⟨rfl, rfl⟩
          go_wp2_with fail
          refine (near_any _ _ _ 2 2 [a * a, b * b] _ rfl (by decide) (ints2 _ _ (by simp)) n5 n6 SM2.out NB.out).mono ?_
          rintro e wn ⟨rfl, rfl⟩
          go_wp2
          go_meet
          exact (by repeat (first | exact Below.refl _ _ | refine Below.drew ?_ | refine bdrewN ?_ _ | refine Below.setCell ?_ (by first | omega | (simp <;> omega)) _ | refine Below.alloc ?_ (by first | omega | (simp <;> omega)) _))
        · have he' : (e3 == 0) = false := by simpa using he
          go_wp2
          go_meet
          exact (by repeat (first | exact Below.refl _ _ | refine Below.drew ?_ | refine bdrewN ?_ _ | refine Below.setCell ?_ (by first | omega | (simp <;> omega)) _ | refine Below.alloc ?_ (by first | omega | (simp <;> omega)) _))
      case rest =>
        obtain ⟨w7, hwc⟩ : ∃ x, x = wc := ⟨_, rfl⟩
        have hb7 := hcut
        clear hcut
        rw [← hwc] at hb7
        rw [← hwc]
        clear hwc
        obtain ⟨hc7, hf7⟩ := bcell hb7
        have hz7 := hb7.size
        try simp at hz7
        have hw7 : Below w.heap.size w w7 := Below.trans hw6 (hb7.mono (by first | omega | (simp <;> omega)))
        have d7_0_0 : w7.cell? ⟨w.heap.size, 0, none⟩ = some (.int .i64 a) := (hc7 _ _ (by first | omega | (simp <;> omega))).trans (by first | (simp [go_sem, *]; done) | rfl)
        have d7_0_1 : w7.cell? ⟨w.heap.size, 1, none⟩ = some (.int .i64 b) := (hc7 _ _ (by first | omega | (simp <;> omega))).trans (by first | (simp [go_sem, *]; done) | rfl)
        have d7_1_0 : w7.cell? ⟨w.heap.size + 1, 0, none⟩ = some (.int .i64 c) := (hc7 _ _ (by first | omega | (simp <;> omega))).trans (by first | (simp [go_sem, *]; done) | rfl)
        have d7_1_1 : w7.cell? ⟨w.heap.size + 1, 1, none⟩ = some (.int .i64 d) := (hc7 _ _ (by first | omega | (simp <;> omega))).trans (by first | (simp [go_sem, *]; done) | rfl)
        have hm7_0 : w.heap.size < w7.heap.size := by omega
        have hm7_1 : w.heap.size < w7.heap.size + 1 := by omega
        have hm7_2 : w.heap.size < w7.heap.size + 1 + 1 := by omega
        have hm7_3 : w.heap.size + 1 < w7.heap.size := by omega
        have hm7_4 : w.heap.size + 1 < w7.heap.size + 1 := by omega
        have hm7_5 : w.heap.size < w7.heap.size := by omega
        have hm7_6 : w.heap.size + 1 < w7.heap.size + 1 + 1 := by omega
        have hm7_7 : w.heap.size < w7.heap.size + 1 := by omega
        clear hb7 hc7 hf7 hz7 d6_0_0 d6_0_1 d6_1_0 d6_1_1 hm6_0 hm6_1 hm6_2 hm6_3 hm6_4 hm6_5 hm6_6 hm6_7
        go_wp2_with fail
        refine (sqrt_any a b _).mono ?_
        rintro e w8 ⟨rfl, hb8⟩
        obtain ⟨hc8, hf8⟩ := bcell hb8
        have hz8 := hb8.size
        try simp at hz8
        have hw8 : Below w.heap.size w w8 := Below.trans (by repeat (first | exact hw7 | refine Below.drew ?_ | refine below_drewN ?_ _ | refine Below.setCell ?_ (by first | omega | (simp <;> omega)) _ | refine Below.alloc ?_ (by first | omega | (simp <;> omega)) _)) (hb8.mono (by first | omega | (simp <;> omega)))
        have d8_0_0 : w8.cell? ⟨w.heap.size, 0, none⟩ = some (.int .i64 a) := (hc8 _ _ (by first | omega | (simp <;> omega))).trans (by first | (simp [go_sem, *]; done) | rfl)
        have d8_0_1 : w8.cell? ⟨w.heap.size, 1, none⟩ = some (.int .i64 b) := (hc8 _ _ (by first | omega | (simp <;> omega))).trans (by first | (simp [go_sem, *]; done) | rfl)
        have d8_1_0 : w8.cell? ⟨w.heap.size + 1, 0, none⟩ = some (.int .i64 c) := (hc8 _ _ (by first | omega | (simp <;> omega))).trans (by first | (simp [go_sem, *]; done) | rfl)
        have d8_1_1 : w8.cell? ⟨w.heap.size + 1, 1, none⟩ = some (.int .i64 d) := (hc8 _ _ (by first | omega | (simp <;> omega))).trans (by first | (simp [go_sem, *]; done) | rfl)
        have hm8_0 : w.heap.size < w8.heap.size := by omega
        have hm8_1 : w.heap.size < w8.heap.size + 1 := by omega
        have hm8_2 : w.heap.size < w8.heap.size + 1 + 1 := by omega
        have hm8_3 : w.heap.size + 1 < w8.heap.size := by omega
        have hm8_4 : w.heap.size + 1 < w8.heap.size + 1 := by omega
        have hm8_5 : w.heap.size < w8.heap.size := by omega
        have hm8_6 : w.heap.size + 1 < w8.heap.size + 1 + 1 := by omega
        have hm8_7 : w.heap.size < w8.heap.size + 1 := by omega
        clear hb8 hc8 hf8 hz8 d7_0_0 d7_0_1 d7_1_0 d7_1_1 hm7_0 hm7_1 hm7_2 hm7_3 hm7_4 hm7_5 hm7_6 hm7_7
        rw [H4.out]
        have hn8 : w8.heap.size < w8.heap.size + 1 := by omega
        rcases N4.out with ⟨n0, he⟩ | ⟨n0, he, n1, n2, n3, n4, n5, n6, n7⟩
        · subst he
          go_wp2
          go_ret
          exact ⟨rfl, by repeat (first | exact hw8 | refine Below.drew ?_ | refine bdrewN ?_ _ | refine Below.setCell ?_ (by first | omega | (simp <;> omega)) _ | refine Below.alloc ?_ (by first | omega | (simp <;> omega)) _)⟩
        · subst he
          have i1 : IntKind.i64.wrap (p4 + 1) = p4 + 1 := IntWalk.i64_in _ (by omega)
          have i2 : IntKind.i64.wrap (q4 - 1) = q4 - 1 := IntWalk.i64_in _ (by omega)
          have i3 : IntKind.i64.wrap (a * 16777216) = a * 16777216 := IntWalk.i64_in _ (by omega)
          have i4 : IntKind.i64.wrap ((p4 + 1) * (p4 + 1)) = (p4 + 1) * (p4 + 1) := IntWalk.i64_in _ (by omega)
          have g1 : decide (a * 16777216 < (p4 + 1) * (p4 + 1)) = true := by rw [decide_eq_true_iff]; omega
          rcases n7 with rfl | ⟨n7, n8, n9⟩
          · go_wp2
            go_ret
            exact ⟨rfl, by repeat (first | exact hw8 | refine Below.drew ?_ | refine bdrewN ?_ _ | refine Below.setCell ?_ (by first | omega | (simp <;> omega)) _ | refine Below.alloc ?_ (by first | omega | (simp <;> omega)) _)⟩
          · have g0 : (q4 == 0) = false := by simp; omega
            have i5 : IntKind.i64.wrap ((q4 - 1) * (q4 - 1)) = (q4 - 1) * (q4 - 1) := IntWalk.i64_in _ (by omega)
            have i6 : IntKind.i64.wrap (b * 16777216) = b * 16777216 := IntWalk.i64_in _ (by omega)
            have g2 : decide ((q4 - 1) * (q4 - 1) < b * 16777216) = true := by rw [decide_eq_true_iff]; omega
            go_wp2
            go_ret
            exact ⟨rfl, by repeat (first | exact hw8 | refine Below.drew ?_ | refine bdrewN ?_ _ | refine Below.setCell ?_ (by first | omega | (simp <;> omega)) _ | refine Below.alloc ?_ (by first | omega | (simp <;> omega)) _)⟩
end Go.Proofs.YtognaejbpioihaaDoor.Iv
