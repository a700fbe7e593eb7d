/- Contract of the reference's mean reflectance: Reflectance of package culetref30. -/
import Derived.Test.YtognaejbpioihaaRp2
namespace Go.Proofs.Ytognaejbpioihaa.Iv
open Go.RowKit

theorem mean_two (m : R) : (if keepE (keepE 0 m.e) (mulR m.lo m.hi 8388608 8388608).e = 0 then (⟨cutI (mulR m.lo m.hi 8388608 8388608).lo, cutI (mulR m.lo m.hi 8388608 8388608).hi, 0⟩ : R) else ⟨0, 0, keepE (keepE 0 m.e) (mulR m.lo m.hi 8388608 8388608).e⟩) = bind m fun p q => bind (mulR p q 8388608 8388608) fun u v => ⟨cutI u, cutI v, 0⟩ := by
  rw [show keepE 0 m.e = m.e from if_pos rfl]
  by_cases h1 : m.e = 0
  · rw [bind_ok h1, h1, show keepE 0 (mulR m.lo m.hi 8388608 8388608).e = (mulR m.lo m.hi 8388608 8388608).e from if_pos rfl]
    by_cases h2 : (mulR m.lo m.hi 8388608 8388608).e = 0
    · rw [bind_ok h2, if_pos h2]
    · rw [bind_err h2, if_neg h2]
  · rw [bind_err h1, show keepE m.e (mulR m.lo m.hi 8388608 8388608).e = m.e from if_neg h1, if_neg h1]

set_option maxRecDepth 100000 in
set_option maxHeartbeats 8000000 in
theorem rrefl_any (s : Sf) (w : World) :
    Calls Try.prog 17 #[sv s] w fun e w' => e = retR (reflR s) ∧ Below w.heap.size w w' := by
  obtain ⟨⟨p1, q1, e1⟩, h1⟩ : ∃ r : R, perpR s = r := ⟨_, rfl⟩
  obtain ⟨⟨p2, q2, e2⟩, h2⟩ : ∃ r : R, parR s = r := ⟨_, rfl⟩
  obtain ⟨⟨p3, q3, e3⟩, h3⟩ : ∃ r : R, addR p1 q1 p2 q2 = r := ⟨_, rfl⟩
  obtain ⟨⟨p4, q4, e4⟩, h4⟩ : ∃ r : R, mulR p3 q3 8388608 8388608 = r := ⟨_, rfl⟩
  obtain ⟨E1, g1⟩ : ∃ E, keepE 0 e3 = E := ⟨_, rfl⟩
  obtain ⟨E2, g2⟩ : ∃ E, keepE E1 e4 = E := ⟨_, rfl⟩
  have H1 := Lib.hid (show retR (perpR s) = .returned (.tuple #[iv p1 q1, .int .i64 e1]) from by rw [h1])
  have H2 := Lib.hid (show retR (parR s) = .returned (.tuple #[iv p2 q2, .int .i64 e2]) from by rw [h2])
  have G1 := Lib.hid (show Ending.returned (iv (addR p1 q1 p2 q2).lo (addR p1 q1 p2 q2).hi) = .returned (iv p3 q3) ∧ keepE 0 (addR p1 q1 p2 q2).e = E1 from by rw [h3]; exact ⟨rfl, g1⟩)
  have G2 := Lib.hid (show Ending.returned (iv (mulR p3 q3 8388608 8388608).lo (mulR p3 q3 8388608 8388608).hi) = .returned (iv p4 q4) ∧ keepE E1 (mulR p3 q3 8388608 8388608).e = E2 from by rw [h4]; exact ⟨rfl, g2⟩)
  have R0 := Lib.hid (show e1 ≠ 0 → reflR s = ⟨0, 0, e1⟩ from fun h => by rw [reflR, h1, bind_err h])
  have R1 := Lib.hid (show e1 = 0 → e2 ≠ 0 → reflR s = ⟨0, 0, e2⟩ from fun h k => by rw [reflR, h1, bind_ok h, h2, bind_err k])
  have R2 := Lib.hid (show e1 = 0 → e2 = 0 → reflR s = if E2 = 0 then ⟨cutI p4, cutI q4, 0⟩ else ⟨0, 0, E2⟩ from fun h k => by
    have m := mean_two ⟨p3, q3, e3⟩
    simp only [h4, g1, g2] at m
    rw [reflR, h1, bind_ok h, h2, bind_ok k, h3]
    exact m.symm)
  clear h1 h2 h3 h4 g1 g2
  go_enter Try.func17, Try.ntmps17
  go_wp2_with fail
  refine (rperp_any s _).mono ?_
  rintro e w1 ⟨rfl, hb1⟩
  obtain ⟨hc1, hf1⟩ := bcell hb1
  have hz1 := hb1.size
  try simp at hz1
  have hw1 : Below w.heap.size w w1 := Below.trans (by repeat (first | exact Below.refl _ _ | refine Below.drew ?_ | refine bdrewS ?_ _ | refine Below.setCell ?_ (by first | omega | (simp <;> omega)) _ | refine Below.alloc ?_ (by first | omega | (simp <;> omega)) _)) (hb1.mono (by first | omega | (simp <;> omega)))
  have hy1 := hw1.size
  have d1_0_0 : w1.cell? ⟨w.heap.size, 0, none⟩ = some (.int .i64 s.bl) := (hc1 _ _ (by first | omega | (simp <;> omega))).trans (by first | (simp [go_sem, *]; done) | rfl)
  have d1_0_1 : w1.cell? ⟨w.heap.size, 1, none⟩ = some (.int .i64 s.bh) := (hc1 _ _ (by first | omega | (simp <;> omega))).trans (by first | (simp [go_sem, *]; done) | rfl)
  have d1_0_2 : w1.cell? ⟨w.heap.size, 2, none⟩ = some (.int .i64 s.al) := (hc1 _ _ (by first | omega | (simp <;> omega))).trans (by first | (simp [go_sem, *]; done) | rfl)
  have d1_0_3 : w1.cell? ⟨w.heap.size, 3, none⟩ = some (.int .i64 s.ah) := (hc1 _ _ (by first | omega | (simp <;> omega))).trans (by first | (simp [go_sem, *]; done) | rfl)
  have d1_0_4 : w1.cell? ⟨w.heap.size, 4, none⟩ = some (.int .i64 s.fl) := (hc1 _ _ (by first | omega | (simp <;> omega))).trans (by first | (simp [go_sem, *]; done) | rfl)
  have d1_0_5 : w1.cell? ⟨w.heap.size, 5, none⟩ = some (.int .i64 s.fh) := (hc1 _ _ (by first | omega | (simp <;> omega))).trans (by first | (simp [go_sem, *]; done) | rfl)
  have d1_0_6 : w1.cell? ⟨w.heap.size, 6, none⟩ = some (.int .i64 s.tl) := (hc1 _ _ (by first | omega | (simp <;> omega))).trans (by first | (simp [go_sem, *]; done) | rfl)
  have d1_0_7 : w1.cell? ⟨w.heap.size, 7, none⟩ = some (.int .i64 s.th) := (hc1 _ _ (by first | omega | (simp <;> omega))).trans (by first | (simp [go_sem, *]; done) | rfl)
  have d1_1_0 : w1.cell? ⟨w.heap.size + 1, 0, none⟩ = some (.int .i64 0) := (hc1 _ _ (by first | omega | (simp <;> omega))).trans (by first | (simp [go_sem, *]; done) | rfl)
  have d1_1_1 : w1.cell? ⟨w.heap.size + 1, 1, none⟩ = some (.int .i64 0) := (hc1 _ _ (by first | omega | (simp <;> omega))).trans (by first | (simp [go_sem, *]; done) | rfl)
  have l1_0 : w.heap.size < w1.heap.size := by omega
  have l1_1 : w.heap.size + 1 < w1.heap.size := by omega
  have hm1_0 : w.heap.size < w1.heap.size := by omega
  have hm1_1 : w.heap.size < w1.heap.size + 1 := by omega
  have hm1_2 : w.heap.size < w1.heap.size + 1 + 1 := by omega
  have hm1_3 : w.heap.size + 1 < w1.heap.size := by omega
  have hm1_4 : w.heap.size + 1 < w1.heap.size + 1 := by omega
  have hm1_5 : w.heap.size < w1.heap.size := by omega
  have hm1_6 : w.heap.size + 1 < w1.heap.size + 1 + 1 := by omega
  have hm1_7 : w.heap.size < w1.heap.size + 1 := by omega
  have r1_0 : w1.frozen? ⟨w.heap.size + 1, 0, none⟩ = false := (hf1 _ _ (by first | omega | (simp <;> omega))).trans (by first | (simp [go_sem, *]; done) | rfl)
  have r1_1 : w1.frozen? ⟨w.heap.size + 1, 1, none⟩ = false := (hf1 _ _ (by first | omega | (simp <;> omega))).trans (by first | (simp [go_sem, *]; done) | rfl)
  clear hb1 hc1 hf1 hz1 
  rw [H1.out]
  have x1 : ¬ (w.heap.size + 1 = w1.heap.size) := by omega
  have x2 : ¬ (w1.heap.size = w.heap.size + 1) := by omega
  by_cases hE : e1 = 0
  · go_wp2_with fail
    refine (rpar_any s _).mono ?_
    rintro e w2 ⟨rfl, hb2⟩
    obtain ⟨hc2, hf2⟩ := bcell hb2
    have hz2 := hb2.size
    try simp at hz2
    have hw2 : Below w.heap.size w w2 := Below.trans (by repeat (first | exact hw1 | refine Below.drew ?_ | refine bdrewS ?_ _ | refine Below.setCell ?_ (by first | omega | (simp <;> omega)) _ | refine Below.alloc ?_ (by first | omega | (simp <;> omega)) _)) (hb2.mono (by first | omega | (simp <;> omega)))
    have hy2 := hw2.size
    have d2_0_0 : w2.cell? ⟨w.heap.size + 1, 0, none⟩ = some (.int .i64 0) := (hc2 _ _ (by first | omega | (simp <;> omega))).trans (by first | (simp [go_sem, *]; done) | rfl)
    have d2_0_1 : w2.cell? ⟨w.heap.size + 1, 1, none⟩ = some (.int .i64 0) := (hc2 _ _ (by first | omega | (simp <;> omega))).trans (by first | (simp [go_sem, *]; done) | rfl)
    have d2_1_0 : w2.cell? ⟨w1.heap.size, 0, none⟩ = some (.int .i64 p1) := (hc2 _ _ (by first | omega | (simp <;> omega))).trans (by first | (simp [go_sem, *]; done) | rfl)
    have d2_1_1 : w2.cell? ⟨w1.heap.size, 1, none⟩ = some (.int .i64 q1) := (hc2 _ _ (by first | omega | (simp <;> omega))).trans (by first | (simp [go_sem, *]; done) | rfl)
    have l2_0 : w.heap.size + 1 < w2.heap.size := by omega
    have l2_1 : w1.heap.size < w2.heap.size := by omega
    have hm2_0 : w.heap.size + 1 < w2.heap.size := by omega
    have hm2_1 : w.heap.size + 1 < w2.heap.size + 1 := by omega
    have hm2_2 : w.heap.size < w2.heap.size := by omega
    have hm2_3 : w.heap.size + 1 < w2.heap.size + 1 + 1 := by omega
    have hm2_4 : w.heap.size < w2.heap.size + 1 := by omega
    have hm2_5 : w1.heap.size < w2.heap.size := by omega
    have hm2_6 : w1.heap.size < w2.heap.size + 1 := by omega
    have hm2_7 : w1.heap.size < w2.heap.size + 1 + 1 := by omega
    have r2_0 : w2.frozen? ⟨w.heap.size + 1, 0, none⟩ = false := (hf2 _ _ (by first | omega | (simp <;> omega))).trans (by first | (simp [go_sem, *]; done) | rfl)
    have r2_1 : w2.frozen? ⟨w.heap.size + 1, 1, none⟩ = false := (hf2 _ _ (by first | omega | (simp <;> omega))).trans (by first | (simp [go_sem, *]; done) | rfl)
    clear hb2 hc2 hf2 hz2 d1_0_0 d1_0_1 d1_0_2 d1_0_3 d1_0_4 d1_0_5 d1_0_6 d1_0_7 d1_1_0 d1_1_1 l1_0 l1_1 hm1_0 hm1_1 hm1_2 hm1_3 hm1_4 hm1_5 hm1_6 hm1_7
    rw [H2.out]
    have x3 : ¬ (w.heap.size + 1 = w2.heap.size) := by omega
    have x4 : ¬ (w2.heap.size = w.heap.size + 1) := by omega
    have x5 : ¬ (w1.heap.size = w2.heap.size) := by omega
    have x6 : ¬ (w2.heap.size = w1.heap.size) := by omega
    have x7 : ¬ (w.heap.size + 1 = w2.heap.size + 1) := by omega
    have x8 : ¬ (w2.heap.size + 1 = w.heap.size + 1) := by omega
    have x9 : ¬ (w1.heap.size = w2.heap.size + 1) := by omega
    have x10 : ¬ (w2.heap.size + 1 = w1.heap.size) := by omega
    have x11 : w.heap.size + 1 < w2.heap.size + 1 := by omega
    have x12 : w.heap.size + 1 < w2.heap.size + 1 + 1 := by omega
    have x13 : w.heap.size + 1 < w2.heap.size + 1 + 1 + 1 := by omega
    have x14 : w.heap.size + 1 < w2.heap.size + 1 + 1 + 1 + 1 := by omega
    have x15 : w1.heap.size < w2.heap.size + 1 := by omega
    have x16 : w1.heap.size < w2.heap.size + 1 + 1 := by omega
    have x17 : w1.heap.size < w2.heap.size + 1 + 1 + 1 := by omega
    have x18 : w1.heap.size < w2.heap.size + 1 + 1 + 1 + 1 := by omega
    by_cases hF : e2 = 0
    · have R3 := Lib.hid (R2.out hE hF)
      subst hE hF
      clear R0 R1 R2
      go_upto_region 9 with fail
      go_cut [9] from 31 to 37 (fun x wx => ∃ b1 : Nat, x = .pointer (some ⟨b1, 0, none⟩) ∧ b1 < wx.heap.size ∧ wx.cell? ⟨b1, 0, none⟩ = some (.int .i64 p4) ∧ wx.cell? ⟨b1, 1, none⟩ = some (.int .i64 q4) ∧ wx.cell? ⟨w.heap.size + 1, 0, none⟩ = some (.int .i64 0) ∧ wx.cell? ⟨w.heap.size + 1, 1, none⟩ = some (.int .i64 0) ∧ wx.frozen? ⟨w.heap.size + 1, 0, none⟩ = false ∧ wx.frozen? ⟨w.heap.size + 1, 1, none⟩ = false ∧ wx.cell? ⟨w2.heap.size + 1, 0, none⟩ = some (.int .i64 E2) ∧ wx.frozen? ⟨w2.heap.size + 1, 0, none⟩ = false ∧ w.heap.size + 1 < wx.heap.size ∧ Below w2.heap.size w2 wx)
      case first =>
        clear R3
        go_region_held3 (fun w' => w'.cell? ⟨w1.heap.size, 0, none⟩ = some (.int .i64 p1) ∧ w'.cell? ⟨w1.heap.size, 1, none⟩ = some (.int .i64 q1) ∧ w'.cell? ⟨w2.heap.size, 0, none⟩ = some (.int .i64 p2) ∧ w'.cell? ⟨w2.heap.size, 1, none⟩ = some (.int .i64 q2) ∧ w'.cell? ⟨w2.heap.size + 1 + 1, 0, none⟩ = some (.int .i64 8388608) ∧ w'.cell? ⟨w2.heap.size + 1 + 1, 1, none⟩ = some (.int .i64 8388608)) (first | (simp [go_sem, *]; done))
          (first | (have hm := hmark; go_at_call 29; refine (calc_then (cmul_any w2.heap.size (w2.heap.size + 1) p3 q3 8388608 8388608 E1 _) ?_ ?_ ?_); (· (simp [go_sem, *]; done)); (· (simp [go_sem, *]; done)); intro wB stB; rw [G2.out.1]; rw [G2.out.2] at stB; have szB := stB.size; (try simp at szB); have ceB := stB.cell; have feB : wB.frozen? ⟨w2.heap.size + 1, 0, none⟩ = false := (stB.frozen _ _ (by first | omega | (simp <;> omega))).trans (by simp [go_sem, *]); have dB_0_0 : wB.cell? ⟨w1.heap.size, 0, none⟩ = some (.int .i64 p1) := (stB.other _ _ (by first | omega | (simp <;> omega)) (by omega)).trans (by simp [go_sem, *]); have dB_0_1 : wB.cell? ⟨w1.heap.size, 1, none⟩ = some (.int .i64 q1) := (stB.other _ _ (by first | omega | (simp <;> omega)) (by omega)).trans (by simp [go_sem, *]); have lB_0 : w1.heap.size < wB.heap.size := (by omega); have dB_1_0 : wB.cell? ⟨w2.heap.size, 0, none⟩ = some (.int .i64 p2) := (stB.other _ _ (by first | omega | (simp <;> omega)) (by omega)).trans (by simp [go_sem, *]); have dB_1_1 : wB.cell? ⟨w2.heap.size, 1, none⟩ = some (.int .i64 q2) := (stB.other _ _ (by first | omega | (simp <;> omega)) (by omega)).trans (by simp [go_sem, *]); have lB_1 : w2.heap.size < wB.heap.size := (by omega); have dB_2_0 : wB.cell? ⟨w2.heap.size + 1 + 1, 0, none⟩ = some (.int .i64 8388608) := (stB.other _ _ (by first | omega | (simp <;> omega)) (by omega)).trans (by simp [go_sem, *]); have dB_2_1 : wB.cell? ⟨w2.heap.size + 1 + 1, 1, none⟩ = some (.int .i64 8388608) := (stB.other _ _ (by first | omega | (simp <;> omega)) (by omega)).trans (by simp [go_sem, *]); have lB_2 : w2.heap.size + 1 + 1 < wB.heap.size := (by omega); have dB_3_0 : wB.cell? ⟨w.heap.size + 1, 0, none⟩ = some (.int .i64 0) := (stB.other _ _ (by first | omega | (simp <;> omega)) (by omega)).trans (by simp [go_sem, *]); have dB_3_1 : wB.cell? ⟨w.heap.size + 1, 1, none⟩ = some (.int .i64 0) := (stB.other _ _ (by first | omega | (simp <;> omega)) (by omega)).trans (by simp [go_sem, *]); have lB_3 : w.heap.size + 1 < wB.heap.size := (by omega); have rB_0 : wB.frozen? ⟨w.heap.size + 1, 0, none⟩ = false := (stB.frozen _ _ (by first | omega | (simp <;> omega))).trans (by simp [go_sem, *]); have rB_1 : wB.frozen? ⟨w.heap.size + 1, 1, none⟩ = false := (stB.frozen _ _ (by first | omega | (simp <;> omega))).trans (by simp [go_sem, *]); have lcB : w2.heap.size + 1 < wB.heap.size := (by omega); have ncB : ¬ (w2.heap.size + 1 = wB.heap.size) := (by omega); have mcB : ¬ (wB.heap.size = w2.heap.size + 1) := (by omega); have bwB : Below w2.heap.size w2 wB := Below.trans (by repeat (first | exact bwA | refine Below.drew ?_ | refine Below.alloc ?_ (by first | omega | (simp <;> omega)) _)) (stB.below (by omega) (by first | omega | (simp <;> omega))); (try (refine box_then stB (w2.heap.size + 1 + 1 + 1) ?_ ?_ ?_ ?_ ?_ ?_ ?_; (· (first | omega | (simp <;> omega))); (· omega); (· (simp [go_sem, *]; done)); (· (simp [go_sem, *]; done)); (· (simp [go_sem, *]; done)); (· (simp [go_sem, *]; done)); intro kBa0 kBb0 kBc0 kBd0 kBe0 kBf0 kBg0)); (try (refine box_then stB wA.heap.size ?_ ?_ ?_ ?_ ?_ ?_ ?_; (· (first | omega | (simp <;> omega))); (· omega); (· (simp [go_sem, *]; done)); (· (simp [go_sem, *]; done)); (· (simp [go_sem, *]; done)); (· (simp [go_sem, *]; done)); intro kBa1 kBb1 kBc1 kBd1 kBe1 kBf1 kBg1))) | (go_at_call 36; refine (calc_then (cadd_any w2.heap.size (w2.heap.size + 1) p1 q1 p2 q2 0 _) ?_ ?_ ?_); (· (simp [go_sem, *]; done)); (· (simp [go_sem, *]; done)); intro wA stA; rw [G1.out.1]; rw [G1.out.2] at stA; have szA := stA.size; (try simp at szA); have ceA := stA.cell; have feA : wA.frozen? ⟨w2.heap.size + 1, 0, none⟩ = false := (stA.frozen _ _ (by first | omega | (simp <;> omega))).trans (by simp [go_sem, *]); have dA_0_0 : wA.cell? ⟨w1.heap.size, 0, none⟩ = some (.int .i64 p1) := (stA.other _ _ (by first | omega | (simp <;> omega)) (by omega)).trans (by simp [go_sem, *]); have dA_0_1 : wA.cell? ⟨w1.heap.size, 1, none⟩ = some (.int .i64 q1) := (stA.other _ _ (by first | omega | (simp <;> omega)) (by omega)).trans (by simp [go_sem, *]); have lA_0 : w1.heap.size < wA.heap.size := (by omega); have dA_1_0 : wA.cell? ⟨w2.heap.size, 0, none⟩ = some (.int .i64 p2) := (stA.other _ _ (by first | omega | (simp <;> omega)) (by omega)).trans (by simp [go_sem, *]); have dA_1_1 : wA.cell? ⟨w2.heap.size, 1, none⟩ = some (.int .i64 q2) := (stA.other _ _ (by first | omega | (simp <;> omega)) (by omega)).trans (by simp [go_sem, *]); have lA_1 : w2.heap.size < wA.heap.size := (by omega); have dA_2_0 : wA.cell? ⟨w2.heap.size + 1 + 1, 0, none⟩ = some (.int .i64 8388608) := (stA.other _ _ (by first | omega | (simp <;> omega)) (by omega)).trans (by simp [go_sem, *]); have dA_2_1 : wA.cell? ⟨w2.heap.size + 1 + 1, 1, none⟩ = some (.int .i64 8388608) := (stA.other _ _ (by first | omega | (simp <;> omega)) (by omega)).trans (by simp [go_sem, *]); have lA_2 : w2.heap.size + 1 + 1 < wA.heap.size := (by omega); have dA_3_0 : wA.cell? ⟨w.heap.size + 1, 0, none⟩ = some (.int .i64 0) := (stA.other _ _ (by first | omega | (simp <;> omega)) (by omega)).trans (by simp [go_sem, *]); have dA_3_1 : wA.cell? ⟨w.heap.size + 1, 1, none⟩ = some (.int .i64 0) := (stA.other _ _ (by first | omega | (simp <;> omega)) (by omega)).trans (by simp [go_sem, *]); have lA_3 : w.heap.size + 1 < wA.heap.size := (by omega); have rA_0 : wA.frozen? ⟨w.heap.size + 1, 0, none⟩ = false := (stA.frozen _ _ (by first | omega | (simp <;> omega))).trans (by simp [go_sem, *]); have rA_1 : wA.frozen? ⟨w.heap.size + 1, 1, none⟩ = false := (stA.frozen _ _ (by first | omega | (simp <;> omega))).trans (by simp [go_sem, *]); have lcA : w2.heap.size + 1 < wA.heap.size := (by omega); have ncA : ¬ (w2.heap.size + 1 = wA.heap.size) := (by omega); have mcA : ¬ (wA.heap.size = w2.heap.size + 1) := (by omega); have bwA : Below w2.heap.size w2 wA := Below.trans (by repeat (first | exact Below.refl _ _ | refine Below.drew ?_ | refine Below.alloc ?_ (by first | omega | (simp <;> omega)) _)) (stA.below (by omega) (by first | omega | (simp <;> omega))); (try (refine box_then stA (w2.heap.size + 1 + 1 + 1) ?_ ?_ ?_ ?_ ?_ ?_ ?_; (· (first | omega | (simp <;> omega))); (· omega); (· (simp [go_sem, *]; done)); (· (simp [go_sem, *]; done)); (· (simp [go_sem, *]; done)); (· (simp [go_sem, *]; done)); intro kAa0 kAb0 kAc0 kAd0 kAe0 kAf0 kAg0)); have hmark : wA = wA := rfl))
        all_goals (go_wp2_with fail; go_meet)
        all_goals (refine ⟨_, rfl, ?_, ?_, ?_, ?_, ?_, ?_, ?_, ?_, ?_, ?_, ?_⟩)
        all_goals first
          | omega
          | (simp; done)
          | (simp; omega)
          | (simp [go_sem, *]; done)
          | ((repeat (first | exact bwB | refine Below.drew ?_ | refine Below.setCell ?_ (by first | omega | (simp <;> omega)) _ | refine Below.alloc ?_ (by first | omega | (simp <;> omega)) _)); done)
      case rest =>
        obtain ⟨b1, rfl, l1, y1, y2, y5, y6, y7, y8, y9, y10, l3, hb3⟩ := hcut
        have lc : w2.heap.size + 1 < wc.heap.size := World.block_lt_of_cell? wc _ y9
        obtain ⟨w3, hwc⟩ : ∃ z, z = wc := ⟨_, rfl⟩
        rw [← hwc] at l1 y1 y2 y5 y6 y7 y8 y9 y10 l3 hb3 lc
        rw [← hwc]
        clear hwc
        have hw3 : Below w.heap.size w w3 := hw2.trans (hb3.mono (by omega))
        have lw := hw3.size
        by_cases hG : E2 = 0
        · subst hG
          go_wp2_with fail
          refine (rcut_any p4 q4 _).mono ?_
          rintro e w5 ⟨rfl, hb5⟩
          have z5 := hb5.size
          have t5 := (hb5.cell (p := ⟨w.heap.size + 1, 0, none⟩) (by simp; omega)).trans y5
          have t6 := (hb5.cell (p := ⟨w.heap.size + 1, 1, none⟩) (by simp; omega)).trans y6
          have t7 := (hb5.frozen (p := ⟨w.heap.size + 1, 0, none⟩) (by simp; omega)).trans y7
          have t8 := (hb5.frozen (p := ⟨w.heap.size + 1, 1, none⟩) (by simp; omega)).trans y8
          have hw5 : Below w.heap.size w w5 := hw3.trans (hb5.mono (by omega))
          clear hb5 z5 y5 y6 y7 y8
          go_wp2_with fail
          exact bodyPost_ret (v := .tuple #[iv (cutI p4) (cutI q4), .int .i64 0]) (by simp [results, Try.results17, go_sem, *]) rfl ⟨by rw [R3.out]; first | rfl | (simp; done) | (simp; rfl), by repeat (first | exact hw5 | refine Below.drew ?_ | refine bdrewS ?_ _ | refine Below.setCell ?_ (by first | omega | (simp <;> omega)) _ | refine Below.alloc ?_ (by first | omega | (simp <;> omega)) _)⟩
        · have hG' : (E2 == 0) = false := by simpa using hG
          go_wp2_with fail
          go_region
          all_goals go_wp2
          all_goals exact bodyPost_ret (v := .tuple #[iv 0 0, .int .i64 E2]) (by simp [results, Try.results17, go_sem, *]) rfl ⟨by rw [R3.out]; first | rfl | (simp [hG]; done) | (simp [hG]; rfl), by repeat (first | exact hw3 | refine Below.drew ?_ | refine bdrewS ?_ _ | refine Below.setCell ?_ (by first | omega | (simp <;> omega)) _ | refine Below.alloc ?_ (by first | omega | (simp <;> omega)) _)⟩
    · have hF' : (e2 == 0) = false := by simpa using hF
      have R3 := Lib.hid (R1.out hE hF)
      subst hE
      clear R0 R1 R2
      go_wp2_with fail
      exact bodyPost_ret (v := .tuple #[iv 0 0, .int .i64 e2]) (by simp [results, Try.results17, go_sem, *]) rfl ⟨by rw [R3.out], by repeat (first | exact hw2 | refine Below.drew ?_ | refine bdrewS ?_ _ | refine Below.setCell ?_ (by first | omega | (simp <;> omega)) _ | refine Below.alloc ?_ (by first | omega | (simp <;> omega)) _)⟩
  · have hE' : (e1 == 0) = false := by simpa using hE
    have R3 := Lib.hid (R0.out hE)
    clear R0 R1 R2
    go_wp2_with fail
    exact bodyPost_ret (v := .tuple #[iv 0 0, .int .i64 e1]) (by simp [results, Try.results17, go_sem, *]) rfl ⟨by rw [R3.out], by repeat (first | exact hw1 | refine Below.drew ?_ | refine bdrewS ?_ _ | refine Below.setCell ?_ (by first | omega | (simp <;> omega)) _ | refine Below.alloc ?_ (by first | omega | (simp <;> omega)) _)⟩
end Go.Proofs.Ytognaejbpioihaa.Iv
