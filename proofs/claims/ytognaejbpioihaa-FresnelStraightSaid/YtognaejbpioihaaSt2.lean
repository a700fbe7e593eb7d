/- FresnelStraight: the reflectance at a right angle is what the reference says, and that of both polarizations for the cosines 1. -/
import Derived.Test.YtognaejbpioihaaSt1
import Derived.Test.YtognaejbpioihaaSqMath
import Derived.Deep.RegionHeld3
import Derived.Deep.CutRange
import Derived.Tactics2
namespace Go.Proofs.Ytognaejbpioihaa.Iv
open Go.RowKit

theorem bdrewN {B : Nat} {a w : World} (h : Below B a w) (n : Nat) : Below B a (w.drewN n) := h.trans ⟨rfl, rfl, rfl, Nat.le_refl _, fun _ _ => rfl⟩
theorem mul_one' {a b : Int} (h : vB a b = true) : mulR a b 16777216 16777216 = ⟨a, b, 0⟩ := by
  obtain ⟨h1, h2, h3⟩ := vB_iff.1 h
  rw [mulR, if_pos ⟨h, by decide⟩]
  have e1 : min4 (a * 16777216) (a * 16777216) (b * 16777216) (b * 16777216) = a * 16777216 := by unfold min4; omega
  have e2 : max4 (a * 16777216) (a * 16777216) (b * 16777216) (b * 16777216) = b * 16777216 := by unfold max4; omega
  rw [e1, e2, show fl (a * 16777216) = a from by unfold fl; omega, show ce (b * 16777216) = b from by unfold ce; omega]
  exact within_yes h1 h3
theorem win_v0 {a b l h : Int} (hw : winB a b l h = true) : vB a b = true := by simp [winB] at hw; exact hw.1
theorem pol_one (a b c d : Int) : polR ⟨16777216, 16777216, 16777216, 16777216, a, b, c, d⟩ 16777216 16777216 16777216 16777216 = straightR a b c d := by
  have w1 : winB 16777216 16777216 0 1 = true := by decide
  by_cases h1 : winB a b 1 4 = true
  · by_cases h2 : winB c d 1 4 = true
    · rw [polR_ok (by simp [sfB, w1, h1, h2]), straightR, if_pos ⟨h1, h2⟩]
      show bind (mulR a b 16777216 16777216) (fun p q => bind (mulR c d 16777216 16777216) fun u v => contrastR p q u v) = _
      rw [mul_one' (win_v0 h1), mul_one' (win_v0 h2)]
      rfl
    · rw [polR_no (by simp [sfB, w1, h1, h2]), straightR, if_neg (fun h => h2 h.2)]
  · rw [polR_no (by simp [sfB, w1, h1]), straightR, if_neg (fun h => h1 h.1)]
theorem same_zero {a : Int} (h : winB a a 1 4 = true) : contrastR a a a a = ⟨0, 0, 0⟩ := by
  have v := win_v0 h
  simp only [winB, decide_eq_true_eq] at h
  obtain ⟨_, l, u⟩ := h
  have e1 : subR a a a a = ⟨0, 0, 0⟩ := by rw [subR, if_pos ⟨v, v⟩, Int.sub_self]; rfl
  have e2 : addR a a a a = ⟨a + a, a + a, 0⟩ := by rw [addR, if_pos ⟨v, v⟩]; exact within_yes (by omega) (by omega)
  have q1 : qfl 0 (a + a) = 0 := by unfold qfl; rw [Int.zero_mul, Int.zero_fdiv]
  have q2 : qce 0 (a + a) = 0 := by unfold qce; rw [Int.zero_mul, Int.neg_zero, Int.zero_fdiv]; rfl
  have e3 : divR 0 0 (a + a) (a + a) = ⟨0, 0, 0⟩ := by
    rw [divR, if_pos ⟨by decide, vB_iff.2 ⟨by omega, by omega, by omega⟩⟩, if_neg (by omega), q1, q2]; rfl
  unfold contrastR
  rw [e1, e2]
  simp only [bind, if_true]
  rw [e3]
  have e4 : sqR 0 0 = ⟨0, 0, 0⟩ := by rw [sqR, if_pos (by decide)]; rfl
  simp only [e4, if_true]
  rfl
theorem straight_cases (a b c d : Int) {p q e : Int} (h : straightR a b c d = ⟨p, q, e⟩) : e ≠ 0 ∨ (e = 0 ∧ (a ≠ c ∨ (a = c ∧ b ≠ d) ∨ (a = c ∧ b = d ∧ a ≠ b) ∨ (a = c ∧ b = d ∧ a = b ∧ p = 0 ∧ q = 0))) := by
  by_cases he : e = 0
  · right
    refine ⟨he, ?_⟩
    by_cases h1 : a = c
    · by_cases h2 : b = d
      · by_cases h3 : a = b
        · right; right; right
          subst h1 h2 h3
          unfold straightR at h
          split at h
          · rename_i k
            rw [same_zero k.1] at h
            injection h with x y _
            exact ⟨rfl, rfl, rfl, x.symm, y.symm⟩
          · injection h with _ _ z; omega
        · exact .inr (.inr (.inl ⟨h1, h2, h3⟩))
      · exact .inr (.inl ⟨h1, h2⟩)
    · exact .inl h1
  · exact .inl he

set_option maxRecDepth 100000 in
set_option maxHeartbeats 8000000 in
theorem fstraight_any (a b c d : Int) (w : World) :
    Calls Try.prog 4 #[iv a b, iv c d] w fun e w' => e = .returned (.bool true) ∧ Below w.heap.size w w' := by
  obtain ⟨⟨p1, q1, e1⟩, h1⟩ : ∃ r : R, straightR a b c d = r := ⟨_, rfl⟩
  have H1 := Lib.hid (show retR (straightR a b c d) = .returned (.tuple #[iv p1 q1, .int .i64 e1]) from by rw [h1])
  have H2 := Lib.hid (show retR (perpR ⟨16777216, 16777216, 16777216, 16777216, a, b, c, d⟩) = .returned (.tuple #[iv p1 q1, .int .i64 e1]) from by rw [perpR, pol_one, h1])
  have H3 := Lib.hid (show retR (parR ⟨16777216, 16777216, 16777216, 16777216, a, b, c, d⟩) = .returned (.tuple #[iv p1 q1, .int .i64 e1]) from by rw [parR, pol_one, h1])
  have HH := Lib.hid (straight_cases a b c d h1)
  clear h1
  go_enter Try.func4, Try.ntmps4
  go_wp2_with fail
  refine (awake_any _).mono ?_
  rintro e w1 ⟨rfl, hb1⟩
  obtain ⟨hc1, hf1⟩ := bcell hb1
  have hz1 := hb1.size
  try simp at hz1
  have hw1 : Below w.heap.size w w1 := Below.trans (by repeat (first | exact Below.refl _ _ | refine Below.drew ?_ | refine bdrewN ?_ _ | refine Below.setCell ?_ (by first | omega | (simp <;> omega)) _ | refine Below.alloc ?_ (by first | omega | (simp <;> omega)) _)) (hb1.mono (by first | omega | (simp <;> omega)))
  have hy1 := hw1.size
  have d1_0_0 : w1.cell? ⟨w.heap.size, 0, none⟩ = some (.int .i64 a) := (hc1 _ _ (by first | omega | (simp <;> omega))).trans (by first | (simp [go_sem, *]; done) | rfl)
  have d1_0_1 : w1.cell? ⟨w.heap.size, 1, none⟩ = some (.int .i64 b) := (hc1 _ _ (by first | omega | (simp <;> omega))).trans (by first | (simp [go_sem, *]; done) | rfl)
  have d1_1_0 : w1.cell? ⟨w.heap.size + 1, 0, none⟩ = some (.int .i64 c) := (hc1 _ _ (by first | omega | (simp <;> omega))).trans (by first | (simp [go_sem, *]; done) | rfl)
  have d1_1_1 : w1.cell? ⟨w.heap.size + 1, 1, none⟩ = some (.int .i64 d) := (hc1 _ _ (by first | omega | (simp <;> omega))).trans (by first | (simp [go_sem, *]; done) | rfl)
  have l1_0 : w.heap.size < w1.heap.size := by omega
  have l1_1 : w.heap.size + 1 < w1.heap.size := by omega
  have hm1_0 : w.heap.size < w1.heap.size := by omega
  have hm1_1 : w.heap.size < w1.heap.size + 1 := by omega
  have hm1_2 : w.heap.size < w1.heap.size + 1 + 1 := by omega
  have hm1_3 : w.heap.size + 1 < w1.heap.size := by omega
  have hm1_4 : w.heap.size + 1 < w1.heap.size + 1 := by omega
  have hm1_5 : w.heap.size < w1.heap.size := by omega
  have hm1_6 : w.heap.size + 1 < w1.heap.size + 1 + 1 := by omega
  have hm1_7 : w.heap.size < w1.heap.size + 1 := by omega
  clear hb1 hc1 hf1 hz1 
  go_wp2_with fail
  refine (straight_any a b c d _).mono ?_
  rintro e w2 ⟨rfl, hb2⟩
  obtain ⟨hc2, hf2⟩ := bcell hb2
  have hz2 := hb2.size
  try simp at hz2
  have hw2 : Below w.heap.size w w2 := Below.trans (by repeat (first | exact hw1 | refine Below.drew ?_ | refine bdrewN ?_ _ | refine Below.setCell ?_ (by first | omega | (simp <;> omega)) _ | refine Below.alloc ?_ (by first | omega | (simp <;> omega)) _)) (hb2.mono (by first | omega | (simp <;> omega)))
  have hy2 := hw2.size
  have d2_0_0 : w2.cell? ⟨w.heap.size, 0, none⟩ = some (.int .i64 a) := (hc2 _ _ (by first | omega | (simp <;> omega))).trans (by first | (simp [go_sem, *]; done) | rfl)
  have d2_0_1 : w2.cell? ⟨w.heap.size, 1, none⟩ = some (.int .i64 b) := (hc2 _ _ (by first | omega | (simp <;> omega))).trans (by first | (simp [go_sem, *]; done) | rfl)
  have d2_1_0 : w2.cell? ⟨w.heap.size + 1, 0, none⟩ = some (.int .i64 c) := (hc2 _ _ (by first | omega | (simp <;> omega))).trans (by first | (simp [go_sem, *]; done) | rfl)
  have d2_1_1 : w2.cell? ⟨w.heap.size + 1, 1, none⟩ = some (.int .i64 d) := (hc2 _ _ (by first | omega | (simp <;> omega))).trans (by first | (simp [go_sem, *]; done) | rfl)
  have l2_0 : w.heap.size < w2.heap.size := by omega
  have l2_1 : w.heap.size + 1 < w2.heap.size := by omega
  have hm2_0 : w.heap.size < w2.heap.size := by omega
  have hm2_1 : w.heap.size < w2.heap.size + 1 := by omega
  have hm2_2 : w.heap.size < w2.heap.size + 1 + 1 := by omega
  have hm2_3 : w.heap.size + 1 < w2.heap.size := by omega
  have hm2_4 : w.heap.size + 1 < w2.heap.size + 1 := by omega
  have hm2_5 : w.heap.size < w2.heap.size := by omega
  have hm2_6 : w.heap.size + 1 < w2.heap.size + 1 + 1 := by omega
  have hm2_7 : w.heap.size < w2.heap.size + 1 := by omega
  clear hb2 hc2 hf2 hz2 d1_0_0 d1_0_1 d1_1_0 d1_1_1 l1_0 l1_1 hm1_0 hm1_1 hm1_2 hm1_3 hm1_4 hm1_5 hm1_6 hm1_7
  rw [H1.out]
  go_wp2_with fail
  refine (rstraight_any a b c d _).mono ?_
  rintro e w3 ⟨rfl, hb3⟩
  obtain ⟨hc3, hf3⟩ := bcell hb3
  have hz3 := hb3.size
  try simp at hz3
  have hw3 : Below w.heap.size w w3 := Below.trans (by repeat (first | exact hw2 | refine Below.drew ?_ | refine bdrewN ?_ _ | refine Below.setCell ?_ (by first | omega | (simp <;> omega)) _ | refine Below.alloc ?_ (by first | omega | (simp <;> omega)) _)) (hb3.mono (by first | omega | (simp <;> omega)))
  have hy3 := hw3.size
  have d3_0_0 : w3.cell? ⟨w.heap.size, 0, none⟩ = some (.int .i64 a) := (hc3 _ _ (by first | omega | (simp <;> omega))).trans (by first | (simp [go_sem, *]; done) | rfl)
  have d3_0_1 : w3.cell? ⟨w.heap.size, 1, none⟩ = some (.int .i64 b) := (hc3 _ _ (by first | omega | (simp <;> omega))).trans (by first | (simp [go_sem, *]; done) | rfl)
  have d3_1_0 : w3.cell? ⟨w.heap.size + 1, 0, none⟩ = some (.int .i64 c) := (hc3 _ _ (by first | omega | (simp <;> omega))).trans (by first | (simp [go_sem, *]; done) | rfl)
  have d3_1_1 : w3.cell? ⟨w.heap.size + 1, 1, none⟩ = some (.int .i64 d) := (hc3 _ _ (by first | omega | (simp <;> omega))).trans (by first | (simp [go_sem, *]; done) | rfl)
  have d3_2_0 : w3.cell? ⟨w2.heap.size, 0, none⟩ = some (.int .i64 p1) := (hc3 _ _ (by first | omega | (simp <;> omega))).trans (by first | (simp [go_sem, *]; done) | rfl)
  have d3_2_1 : w3.cell? ⟨w2.heap.size, 1, none⟩ = some (.int .i64 q1) := (hc3 _ _ (by first | omega | (simp <;> omega))).trans (by first | (simp [go_sem, *]; done) | rfl)
  have l3_0 : w.heap.size < w3.heap.size := by omega
  have l3_1 : w.heap.size + 1 < w3.heap.size := by omega
  have l3_2 : w2.heap.size < w3.heap.size := by omega
  have hm3_0 : w.heap.size < w3.heap.size := by omega
  have hm3_1 : w.heap.size < w3.heap.size + 1 := by omega
  have hm3_2 : w.heap.size < w3.heap.size + 1 + 1 := by omega
  have hm3_3 : w.heap.size + 1 < w3.heap.size := by omega
  have hm3_4 : w.heap.size + 1 < w3.heap.size + 1 := by omega
  have hm3_5 : w.heap.size < w3.heap.size := by omega
  have hm3_6 : w.heap.size + 1 < w3.heap.size + 1 + 1 := by omega
  have hm3_7 : w.heap.size < w3.heap.size + 1 := by omega
  have hm3_8 : w2.heap.size < w3.heap.size := by omega
  have hm3_9 : w2.heap.size < w3.heap.size + 1 := by omega
  have hm3_10 : w2.heap.size < w3.heap.size + 1 + 1 := by omega
  clear hb3 hc3 hf3 hz3 d2_0_0 d2_0_1 d2_1_0 d2_1_1 l2_0 l2_1 hm2_0 hm2_1 hm2_2 hm2_3 hm2_4 hm2_5 hm2_6 hm2_7
  rw [H1.out]
  go_upto_region 7 with fail
  go_cut [9] from 36 to 40 (fun x wx => ∃ b5 : Nat, x = .pointer (some ⟨b5, 0, none⟩) ∧ b5 < wx.heap.size ∧ wx.cell? ⟨b5, 0, none⟩ = some (.int .i64 16777216) ∧ wx.cell? ⟨b5, 1, none⟩ = some (.int .i64 16777216) ∧ wx.cell? ⟨b5, 2, none⟩ = some (.int .i64 16777216) ∧ wx.cell? ⟨b5, 3, none⟩ = some (.int .i64 16777216) ∧ wx.cell? ⟨b5, 4, none⟩ = some (.int .i64 a) ∧ wx.cell? ⟨b5, 5, none⟩ = some (.int .i64 b) ∧ wx.cell? ⟨b5, 6, none⟩ = some (.int .i64 c) ∧ wx.cell? ⟨b5, 7, none⟩ = some (.int .i64 d) ∧ Below w3.heap.size w3 wx)
  case first =>
    go_region_held3 (fun w' => w'.cell? ⟨w.heap.size, 0, none⟩ = some (.int .i64 a) ∧ w'.cell? ⟨w.heap.size, 1, none⟩ = some (.int .i64 b) ∧ w'.cell? ⟨w.heap.size + 1, 0, none⟩ = some (.int .i64 c) ∧ w'.cell? ⟨w.heap.size + 1, 1, none⟩ = some (.int .i64 d) ∧ w'.cell? ⟨w2.heap.size, 0, none⟩ = some (.int .i64 p1) ∧ w'.cell? ⟨w2.heap.size, 1, none⟩ = some (.int .i64 q1)) (first | (simp [go_sem, *]; done))
      (first | (go_at_call 22; refine (one_any _).mono ?_; rintro e w' ⟨rfl, rfl⟩))
    all_goals (go_wp2_with fail; go_meet)
    all_goals (refine ⟨_, rfl, ?_, ?_, ?_, ?_, ?_, ?_, ?_, ?_, ?_, ?_⟩)
    all_goals first
      | (simp; done)
      | (simp; omega)
      | (simp [go_sem, *]; done)
      | ((repeat (first | exact Below.refl _ _ | refine Below.drew ?_ | refine bdrewN ?_ _ | refine Below.setCell ?_ (by first | omega | (simp <;> omega)) _ | refine Below.alloc ?_ (by first | omega | (simp <;> omega)) _)); done)
  case rest =>
    obtain ⟨b5, rfl, l5, y0, y1, y2, y3, y4, y5, y6, y7, hb4⟩ := hcut
    obtain ⟨w4, hwc⟩ : ∃ x, x = wc := ⟨_, rfl⟩
    rw [← hwc] at l5 y0 y1 y2 y3 y4 y5 y6 y7 hb4
    rw [← hwc]
    clear hwc
    obtain ⟨hc4, hf4⟩ := bcell hb4
    have hz4 := hb4.size
    have hw4 : Below w.heap.size w w4 := Below.trans hw3 (hb4.mono (by first | omega | (simp <;> omega)))
    have hy4 := hw4.size
    have d4_0_0 : w4.cell? ⟨w.heap.size, 0, none⟩ = some (.int .i64 a) := (hc4 _ _ (by first | omega | (simp <;> omega))).trans (by first | (simp [go_sem, *]; done) | rfl)
    have d4_0_1 : w4.cell? ⟨w.heap.size, 1, none⟩ = some (.int .i64 b) := (hc4 _ _ (by first | omega | (simp <;> omega))).trans (by first | (simp [go_sem, *]; done) | rfl)
    have d4_1_0 : w4.cell? ⟨w.heap.size + 1, 0, none⟩ = some (.int .i64 c) := (hc4 _ _ (by first | omega | (simp <;> omega))).trans (by first | (simp [go_sem, *]; done) | rfl)
    have d4_1_1 : w4.cell? ⟨w.heap.size + 1, 1, none⟩ = some (.int .i64 d) := (hc4 _ _ (by first | omega | (simp <;> omega))).trans (by first | (simp [go_sem, *]; done) | rfl)
    have d4_2_0 : w4.cell? ⟨w2.heap.size, 0, none⟩ = some (.int .i64 p1) := (hc4 _ _ (by first | omega | (simp <;> omega))).trans (by first | (simp [go_sem, *]; done) | rfl)
    have d4_2_1 : w4.cell? ⟨w2.heap.size, 1, none⟩ = some (.int .i64 q1) := (hc4 _ _ (by first | omega | (simp <;> omega))).trans (by first | (simp [go_sem, *]; done) | rfl)
    have l4_0 : w.heap.size < w4.heap.size := by omega
    have l4_1 : w.heap.size + 1 < w4.heap.size := by omega
    have l4_2 : w2.heap.size < w4.heap.size := by omega
    have hm4_0 : w.heap.size < w4.heap.size := by omega
    have hm4_1 : w.heap.size < w4.heap.size + 1 := by omega
    have hm4_2 : w.heap.size < w4.heap.size + 1 + 1 := by omega
    have hm4_3 : w.heap.size + 1 < w4.heap.size := by omega
    have hm4_4 : w.heap.size + 1 < w4.heap.size + 1 := by omega
    have hm4_5 : w.heap.size < w4.heap.size := by omega
    have hm4_6 : w.heap.size + 1 < w4.heap.size + 1 + 1 := by omega
    have hm4_7 : w.heap.size < w4.heap.size + 1 := by omega
    have hm4_8 : w2.heap.size < w4.heap.size := by omega
    have hm4_9 : w2.heap.size < w4.heap.size + 1 := by omega
    have hm4_10 : w2.heap.size < w4.heap.size + 1 + 1 := by omega
    clear hb4 hc4 hf4 hz4 d3_0_0 d3_0_1 d3_1_0 d3_1_1 d3_2_0 d3_2_1 l3_0 l3_1 l3_2 hm3_0 hm3_1 hm3_2 hm3_3 hm3_4 hm3_5 hm3_6 hm3_7 hm3_8 hm3_9 hm3_10
    go_wp2_with fail
    refine (perp_any ⟨16777216, 16777216, 16777216, 16777216, a, b, c, d⟩ _).mono ?_
    rintro e w5 ⟨rfl, hb5⟩
    obtain ⟨hc5, hf5⟩ := bcell hb5
    have hz5 := hb5.size
    try simp at hz5
    have hw5 : Below w.heap.size w w5 := Below.trans (by repeat (first | exact hw4 | refine Below.drew ?_ | refine bdrewN ?_ _ | refine Below.setCell ?_ (by first | omega | (simp <;> omega)) _ | refine Below.alloc ?_ (by first | omega | (simp <;> omega)) _)) (hb5.mono (by first | omega | (simp <;> omega)))
    have hy5 := hw5.size
    have d5_0_0 : w5.cell? ⟨w.heap.size, 0, none⟩ = some (.int .i64 a) := (hc5 _ _ (by first | omega | (simp <;> omega))).trans (by first | (simp [go_sem, *]; done) | rfl)
    have d5_0_1 : w5.cell? ⟨w.heap.size, 1, none⟩ = some (.int .i64 b) := (hc5 _ _ (by first | omega | (simp <;> omega))).trans (by first | (simp [go_sem, *]; done) | rfl)
    have d5_1_0 : w5.cell? ⟨w.heap.size + 1, 0, none⟩ = some (.int .i64 c) := (hc5 _ _ (by first | omega | (simp <;> omega))).trans (by first | (simp [go_sem, *]; done) | rfl)
    have d5_1_1 : w5.cell? ⟨w.heap.size + 1, 1, none⟩ = some (.int .i64 d) := (hc5 _ _ (by first | omega | (simp <;> omega))).trans (by first | (simp [go_sem, *]; done) | rfl)
    have d5_2_0 : w5.cell? ⟨w2.heap.size, 0, none⟩ = some (.int .i64 p1) := (hc5 _ _ (by first | omega | (simp <;> omega))).trans (by first | (simp [go_sem, *]; done) | rfl)
    have d5_2_1 : w5.cell? ⟨w2.heap.size, 1, none⟩ = some (.int .i64 q1) := (hc5 _ _ (by first | omega | (simp <;> omega))).trans (by first | (simp [go_sem, *]; done) | rfl)
    have d5_3_0 : w5.cell? ⟨b5, 0, none⟩ = some (.int .i64 16777216) := (hc5 _ _ (by first | omega | (simp <;> omega))).trans (by first | (simp [go_sem, *]; done) | rfl)
    have d5_3_1 : w5.cell? ⟨b5, 1, none⟩ = some (.int .i64 16777216) := (hc5 _ _ (by first | omega | (simp <;> omega))).trans (by first | (simp [go_sem, *]; done) | rfl)
    have d5_3_2 : w5.cell? ⟨b5, 2, none⟩ = some (.int .i64 16777216) := (hc5 _ _ (by first | omega | (simp <;> omega))).trans (by first | (simp [go_sem, *]; done) | rfl)
    have d5_3_3 : w5.cell? ⟨b5, 3, none⟩ = some (.int .i64 16777216) := (hc5 _ _ (by first | omega | (simp <;> omega))).trans (by first | (simp [go_sem, *]; done) | rfl)
    have d5_3_4 : w5.cell? ⟨b5, 4, none⟩ = some (.int .i64 a) := (hc5 _ _ (by first | omega | (simp <;> omega))).trans (by first | (simp [go_sem, *]; done) | rfl)
    have d5_3_5 : w5.cell? ⟨b5, 5, none⟩ = some (.int .i64 b) := (hc5 _ _ (by first | omega | (simp <;> omega))).trans (by first | (simp [go_sem, *]; done) | rfl)
    have d5_3_6 : w5.cell? ⟨b5, 6, none⟩ = some (.int .i64 c) := (hc5 _ _ (by first | omega | (simp <;> omega))).trans (by first | (simp [go_sem, *]; done) | rfl)
    have d5_3_7 : w5.cell? ⟨b5, 7, none⟩ = some (.int .i64 d) := (hc5 _ _ (by first | omega | (simp <;> omega))).trans (by first | (simp [go_sem, *]; done) | rfl)
    have l5_0 : w.heap.size < w5.heap.size := by omega
    have l5_1 : w.heap.size + 1 < w5.heap.size := by omega
    have l5_2 : w2.heap.size < w5.heap.size := by omega
    have l5_3 : b5 < w5.heap.size := by omega
    have hm5_0 : w.heap.size < w5.heap.size := by omega
    have hm5_1 : w.heap.size < w5.heap.size + 1 := by omega
    have hm5_2 : w.heap.size < w5.heap.size + 1 + 1 := by omega
    have hm5_3 : w.heap.size + 1 < w5.heap.size := by omega
    have hm5_4 : w.heap.size + 1 < w5.heap.size + 1 := by omega
    have hm5_5 : w.heap.size < w5.heap.size := by omega
    have hm5_6 : w.heap.size + 1 < w5.heap.size + 1 + 1 := by omega
    have hm5_7 : w.heap.size < w5.heap.size + 1 := by omega
    have hm5_8 : w2.heap.size < w5.heap.size := by omega
    have hm5_9 : w2.heap.size < w5.heap.size + 1 := by omega
    have hm5_10 : w2.heap.size < w5.heap.size + 1 + 1 := by omega
    have hm5_11 : b5 < w5.heap.size := by omega
    have hm5_12 : b5 < w5.heap.size + 1 := by omega
    have hm5_13 : b5 < w5.heap.size + 1 + 1 := by omega
    clear hb5 hc5 hf5 hz5 d4_0_0 d4_0_1 d4_1_0 d4_1_1 d4_2_0 d4_2_1 l4_0 l4_1 l4_2 hm4_0 hm4_1 hm4_2 hm4_3 hm4_4 hm4_5 hm4_6 hm4_7 hm4_8 hm4_9 hm4_10 y0 y1 y2 y3 y4 y5 y6 y7
    rw [H2.out]
    go_wp2_with fail
    refine (par_any ⟨16777216, 16777216, 16777216, 16777216, a, b, c, d⟩ _).mono ?_
    rintro e w6 ⟨rfl, hb6⟩
    obtain ⟨hc6, hf6⟩ := bcell hb6
    have hz6 := hb6.size
    try simp at hz6
    have hw6 : Below w.heap.size w w6 := Below.trans (by repeat (first | exact hw5 | refine Below.drew ?_ | refine bdrewN ?_ _ | refine Below.setCell ?_ (by first | omega | (simp <;> omega)) _ | refine Below.alloc ?_ (by first | omega | (simp <;> omega)) _)) (hb6.mono (by first | omega | (simp <;> omega)))
    have hy6 := hw6.size
    have d6_0_0 : w6.cell? ⟨w.heap.size, 0, none⟩ = some (.int .i64 a) := (hc6 _ _ (by first | omega | (simp <;> omega))).trans (by first | (simp [go_sem, *]; done) | rfl)
    have d6_0_1 : w6.cell? ⟨w.heap.size, 1, none⟩ = some (.int .i64 b) := (hc6 _ _ (by first | omega | (simp <;> omega))).trans (by first | (simp [go_sem, *]; done) | rfl)
    have d6_1_0 : w6.cell? ⟨w.heap.size + 1, 0, none⟩ = some (.int .i64 c) := (hc6 _ _ (by first | omega | (simp <;> omega))).trans (by first | (simp [go_sem, *]; done) | rfl)
    have d6_1_1 : w6.cell? ⟨w.heap.size + 1, 1, none⟩ = some (.int .i64 d) := (hc6 _ _ (by first | omega | (simp <;> omega))).trans (by first | (simp [go_sem, *]; done) | rfl)
    have d6_2_0 : w6.cell? ⟨w2.heap.size, 0, none⟩ = some (.int .i64 p1) := (hc6 _ _ (by first | omega | (simp <;> omega))).trans (by first | (simp [go_sem, *]; done) | rfl)
    have d6_2_1 : w6.cell? ⟨w2.heap.size, 1, none⟩ = some (.int .i64 q1) := (hc6 _ _ (by first | omega | (simp <;> omega))).trans (by first | (simp [go_sem, *]; done) | rfl)
    have d6_3_0 : w6.cell? ⟨b5, 0, none⟩ = some (.int .i64 16777216) := (hc6 _ _ (by first | omega | (simp <;> omega))).trans (by first | (simp [go_sem, *]; done) | rfl)
    have d6_3_1 : w6.cell? ⟨b5, 1, none⟩ = some (.int .i64 16777216) := (hc6 _ _ (by first | omega | (simp <;> omega))).trans (by first | (simp [go_sem, *]; done) | rfl)
    have d6_3_2 : w6.cell? ⟨b5, 2, none⟩ = some (.int .i64 16777216) := (hc6 _ _ (by first | omega | (simp <;> omega))).trans (by first | (simp [go_sem, *]; done) | rfl)
    have d6_3_3 : w6.cell? ⟨b5, 3, none⟩ = some (.int .i64 16777216) := (hc6 _ _ (by first | omega | (simp <;> omega))).trans (by first | (simp [go_sem, *]; done) | rfl)
    have d6_3_4 : w6.cell? ⟨b5, 4, none⟩ = some (.int .i64 a) := (hc6 _ _ (by first | omega | (simp <;> omega))).trans (by first | (simp [go_sem, *]; done) | rfl)
    have d6_3_5 : w6.cell? ⟨b5, 5, none⟩ = some (.int .i64 b) := (hc6 _ _ (by first | omega | (simp <;> omega))).trans (by first | (simp [go_sem, *]; done) | rfl)
    have d6_3_6 : w6.cell? ⟨b5, 6, none⟩ = some (.int .i64 c) := (hc6 _ _ (by first | omega | (simp <;> omega))).trans (by first | (simp [go_sem, *]; done) | rfl)
    have d6_3_7 : w6.cell? ⟨b5, 7, none⟩ = some (.int .i64 d) := (hc6 _ _ (by first | omega | (simp <;> omega))).trans (by first | (simp [go_sem, *]; done) | rfl)
    have d6_4_0 : w6.cell? ⟨w5.heap.size, 0, none⟩ = some (.int .i64 p1) := (hc6 _ _ (by first | omega | (simp <;> omega))).trans (by first | (simp [go_sem, *]; done) | rfl)
    have d6_4_1 : w6.cell? ⟨w5.heap.size, 1, none⟩ = some (.int .i64 q1) := (hc6 _ _ (by first | omega | (simp <;> omega))).trans (by first | (simp [go_sem, *]; done) | rfl)
    have l6_0 : w.heap.size < w6.heap.size := by omega
    have l6_1 : w.heap.size + 1 < w6.heap.size := by omega
    have l6_2 : w2.heap.size < w6.heap.size := by omega
    have l6_3 : b5 < w6.heap.size := by omega
    have l6_4 : w5.heap.size < w6.heap.size := by omega
    have hm6_0 : w.heap.size < w6.heap.size := by omega
    have hm6_1 : w.heap.size < w6.heap.size + 1 := by omega
    have hm6_2 : w.heap.size < w6.heap.size + 1 + 1 := by omega
    have hm6_3 : w.heap.size + 1 < w6.heap.size := by omega
    have hm6_4 : w.heap.size + 1 < w6.heap.size + 1 := by omega
    have hm6_5 : w.heap.size < w6.heap.size := by omega
    have hm6_6 : w.heap.size + 1 < w6.heap.size + 1 + 1 := by omega
    have hm6_7 : w.heap.size < w6.heap.size + 1 := by omega
    have hm6_8 : w2.heap.size < w6.heap.size := by omega
    have hm6_9 : w2.heap.size < w6.heap.size + 1 := by omega
    have hm6_10 : w2.heap.size < w6.heap.size + 1 + 1 := by omega
    have hm6_11 : b5 < w6.heap.size := by omega
    have hm6_12 : b5 < w6.heap.size + 1 := by omega
    have hm6_13 : b5 < w6.heap.size + 1 + 1 := by omega
    have hm6_14 : w5.heap.size < w6.heap.size := by omega
    have hm6_15 : w5.heap.size < w6.heap.size + 1 := by omega
    have hm6_16 : w5.heap.size < w6.heap.size + 1 + 1 := by omega
    clear hb6 hc6 hf6 hz6 d5_0_0 d5_0_1 d5_1_0 d5_1_1 d5_2_0 d5_2_1 d5_3_0 d5_3_1 d5_3_2 d5_3_3 d5_3_4 d5_3_5 d5_3_6 d5_3_7 l5_0 l5_1 l5_2 l5_3 hm5_0 hm5_1 hm5_2 hm5_3 hm5_4 hm5_5 hm5_6 hm5_7 hm5_8 hm5_9 hm5_10 hm5_11 hm5_12 hm5_13
    rw [H3.out]
    rcases HH.out with he | ⟨he, hx⟩
    · have he' : (e1 == 0) = false := by simpa using he
      go_wp2
      go_ret
      exact ⟨rfl, by repeat (first | exact hw6 | refine Below.drew ?_ | refine bdrewN ?_ _ | refine Below.setCell ?_ (by first | omega | (simp <;> omega)) _ | refine Below.alloc ?_ (by first | omega | (simp <;> omega)) _)⟩
    · subst he
      rcases hx with hx | ⟨rfl, hx⟩ | ⟨rfl, rfl, hx⟩ | ⟨rfl, rfl, rfl, rfl, rfl⟩
      · have hx' : (a == c) = false := by simpa using hx
        go_wp2
        go_ret
        exact ⟨rfl, by repeat (first | exact hw6 | refine Below.drew ?_ | refine bdrewN ?_ _ | refine Below.setCell ?_ (by first | omega | (simp <;> omega)) _ | refine Below.alloc ?_ (by first | omega | (simp <;> omega)) _)⟩
      · have hx' : (b == d) = false := by simpa using hx
        go_wp2
        go_ret
        exact ⟨rfl, by repeat (first | exact hw6 | refine Below.drew ?_ | refine bdrewN ?_ _ | refine Below.setCell ?_ (by first | omega | (simp <;> omega)) _ | refine Below.alloc ?_ (by first | omega | (simp <;> omega)) _)⟩
      · have hx' : (a == b) = false := by simpa using hx
        go_wp2
        go_ret
        exact ⟨rfl, by repeat (first | exact hw6 | refine Below.drew ?_ | refine bdrewN ?_ _ | refine Below.setCell ?_ (by first | omega | (simp <;> omega)) _ | refine Below.alloc ?_ (by first | omega | (simp <;> omega)) _)⟩
      · skip
        go_wp2
        go_ret
        exact ⟨rfl, by repeat (first | exact hw6 | refine Below.drew ?_ | refine bdrewN ?_ _ | refine Below.setCell ?_ (by first | omega | (simp <;> omega)) _ | refine Below.alloc ?_ (by first | omega | (simp <;> omega)) _)⟩
end Go.Proofs.Ytognaejbpioihaa.Iv
