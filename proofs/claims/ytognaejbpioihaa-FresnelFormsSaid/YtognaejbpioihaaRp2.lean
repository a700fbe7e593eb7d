/- Contract of the reference's reflectance: Parallel of package culetref30. -/
import Derived.Test.YtognaejbpioihaaRp1
import Derived.Test.YtognaejbpioihaaFr4
import Derived.Deep.RegionHeld3
import Derived.Deep.CutRange
import Derived.Deep.DeepCutAuto
import Derived.Tactics2
namespace Go.Proofs.Ytognaejbpioihaa.Iv
open Go.RowKit


set_option maxRecDepth 100000 in
set_option maxHeartbeats 8000000 in
theorem rpar_any (s : Sf) (w : World) :
    Calls Try.prog 13 #[sv s] w fun e w' => e = retR (parR s) ∧ Below w.heap.size w w' := by
  obtain ⟨⟨p1, q1, e1⟩, h1⟩ : ∃ r : R, mulR s.fl s.fh s.al s.ah = r := ⟨_, rfl⟩
  obtain ⟨⟨p2, q2, e2⟩, h2⟩ : ∃ r : R, mulR s.tl s.th s.bl s.bh = r := ⟨_, rfl⟩
  obtain ⟨E1, g1⟩ : ∃ E, keepE 0 e1 = E := ⟨_, rfl⟩
  obtain ⟨E2, g2⟩ : ∃ E, keepE E1 e2 = E := ⟨_, rfl⟩
  have G1 := Lib.hid (show Ending.returned (iv (mulR s.fl s.fh s.al s.ah).lo (mulR s.fl s.fh s.al s.ah).hi) = .returned (iv p1 q1) ∧ keepE 0 (mulR s.fl s.fh s.al s.ah).e = E1 from by rw [h1]; exact ⟨rfl, g1⟩)
  have G2 := Lib.hid (show Ending.returned (iv (mulR s.tl s.th s.bl s.bh).lo (mulR s.tl s.th s.bl s.bh).hi) = .returned (iv p2 q2) ∧ keepE E1 (mulR s.tl s.th s.bl s.bh).e = E2 from by rw [h2]; exact ⟨rfl, g2⟩)
  by_cases hv : sfB s = true
  · have HR := Lib.hid (show parR s = shareR E2 p1 q1 p2 q2 from by
      rw [parR, polR_ok hv, h1, h2, ← share_two, ← g2, ← g1])
    have HV := Lib.hid hv
    clear h1 h2 g1 g2 hv
    go_enter Try.func13, Try.ntmps13
    go_wp2_with fail
    refine (rsf_any s _).mono ?_
    rintro e w1 ⟨rfl, hb1⟩
    obtain ⟨hc1, hf1⟩ := bcell hb1
    have hz1 := hb1.size
    try simp at hz1
    have hw1 : Below w.heap.size w w1 := Below.trans (by repeat (first | exact Below.refl _ _ | refine Below.drew ?_ | refine bdrewS ?_ _ | refine Below.setCell ?_ (by first | omega | (simp <;> omega)) _ | refine Below.alloc ?_ (by first | omega | (simp <;> omega)) _)) (hb1.mono (by first | omega | (simp <;> omega)))
    have hy1 := hw1.size
    have d1_0_0 : w1.cell? ⟨w.heap.size, 0, none⟩ = some (.int .i64 s.bl) := (hc1 _ _ (by first | omega | (simp <;> omega))).trans (by first | (simp [go_sem, *]; done) | rfl)
    have d1_0_1 : w1.cell? ⟨w.heap.size, 1, none⟩ = some (.int .i64 s.bh) := (hc1 _ _ (by first | omega | (simp <;> omega))).trans (by first | (simp [go_sem, *]; done) | rfl)
    have d1_0_2 : w1.cell? ⟨w.heap.size, 2, none⟩ = some (.int .i64 s.al) := (hc1 _ _ (by first | omega | (simp <;> omega))).trans (by first | (simp [go_sem, *]; done) | rfl)
    have d1_0_3 : w1.cell? ⟨w.heap.size, 3, none⟩ = some (.int .i64 s.ah) := (hc1 _ _ (by first | omega | (simp <;> omega))).trans (by first | (simp [go_sem, *]; done) | rfl)
    have d1_0_4 : w1.cell? ⟨w.heap.size, 4, none⟩ = some (.int .i64 s.fl) := (hc1 _ _ (by first | omega | (simp <;> omega))).trans (by first | (simp [go_sem, *]; done) | rfl)
    have d1_0_5 : w1.cell? ⟨w.heap.size, 5, none⟩ = some (.int .i64 s.fh) := (hc1 _ _ (by first | omega | (simp <;> omega))).trans (by first | (simp [go_sem, *]; done) | rfl)
    have d1_0_6 : w1.cell? ⟨w.heap.size, 6, none⟩ = some (.int .i64 s.tl) := (hc1 _ _ (by first | omega | (simp <;> omega))).trans (by first | (simp [go_sem, *]; done) | rfl)
    have d1_0_7 : w1.cell? ⟨w.heap.size, 7, none⟩ = some (.int .i64 s.th) := (hc1 _ _ (by first | omega | (simp <;> omega))).trans (by first | (simp [go_sem, *]; done) | rfl)
    have d1_1_0 : w1.cell? ⟨w.heap.size + 1, 0, none⟩ = some (.int .i64 0) := (hc1 _ _ (by first | omega | (simp <;> omega))).trans (by first | (simp [go_sem, *]; done) | rfl)
    have d1_1_1 : w1.cell? ⟨w.heap.size + 1, 1, none⟩ = some (.int .i64 0) := (hc1 _ _ (by first | omega | (simp <;> omega))).trans (by first | (simp [go_sem, *]; done) | rfl)
    have l1_0 : w.heap.size < w1.heap.size := by omega
    have l1_1 : w.heap.size + 1 < w1.heap.size := by omega
    have hm1_0 : w.heap.size < w1.heap.size := by omega
    have hm1_1 : w.heap.size < w1.heap.size + 1 := by omega
    have hm1_2 : w.heap.size < w1.heap.size + 1 + 1 := by omega
    have hm1_3 : w.heap.size + 1 < w1.heap.size := by omega
    have hm1_4 : w.heap.size + 1 < w1.heap.size + 1 := by omega
    have hm1_5 : w.heap.size < w1.heap.size := by omega
    have hm1_6 : w.heap.size + 1 < w1.heap.size + 1 + 1 := by omega
    have hm1_7 : w.heap.size < w1.heap.size + 1 := by omega
    have r1_0 : w1.frozen? ⟨w.heap.size + 1, 0, none⟩ = false := (hf1 _ _ (by first | omega | (simp <;> omega))).trans (by first | (simp [go_sem, *]; done) | rfl)
    have r1_1 : w1.frozen? ⟨w.heap.size + 1, 1, none⟩ = false := (hf1 _ _ (by first | omega | (simp <;> omega))).trans (by first | (simp [go_sem, *]; done) | rfl)
    clear hb1 hc1 hf1 hz1 
    rw [HV.out]
    have n0 : ¬ (w.heap.size = w1.heap.size) := by omega
    have n1 : ¬ (w.heap.size + 1 = w1.heap.size) := by omega
    have n2 : ¬ (w1.heap.size = w.heap.size) := by omega
    have n3 : ¬ (w1.heap.size = w.heap.size + 1) := by omega
    go_upto_region 4 with fail
    go_cut [5, 6] from 13 to 24 (fun x y wx => ∃ b1 b2 : Nat, x = .pointer (some ⟨b1, 0, none⟩) ∧ y = .pointer (some ⟨b2, 0, none⟩) ∧ b1 < wx.heap.size ∧ b2 < wx.heap.size ∧ wx.cell? ⟨b1, 0, none⟩ = some (.int .i64 p1) ∧ wx.cell? ⟨b1, 1, none⟩ = some (.int .i64 q1) ∧ wx.cell? ⟨b2, 0, none⟩ = some (.int .i64 p2) ∧ wx.cell? ⟨b2, 1, none⟩ = some (.int .i64 q2) ∧ wx.cell? ⟨w.heap.size + 1, 0, none⟩ = some (.int .i64 0) ∧ wx.cell? ⟨w.heap.size + 1, 1, none⟩ = some (.int .i64 0) ∧ wx.frozen? ⟨w.heap.size + 1, 0, none⟩ = false ∧ wx.frozen? ⟨w.heap.size + 1, 1, none⟩ = false ∧ wx.cell? ⟨w1.heap.size, 0, none⟩ = some (.int .i64 E2) ∧ wx.frozen? ⟨w1.heap.size, 0, none⟩ = false ∧ w.heap.size + 1 < wx.heap.size ∧ Below w1.heap.size w1 wx)
    case first =>
      clear HR
      go_region_held3 (fun w' => w'.cell? ⟨w.heap.size, 0, none⟩ = some (.int .i64 s.bl) ∧ w'.cell? ⟨w.heap.size, 1, none⟩ = some (.int .i64 s.bh) ∧ w'.cell? ⟨w.heap.size, 2, none⟩ = some (.int .i64 s.al) ∧ w'.cell? ⟨w.heap.size, 3, none⟩ = some (.int .i64 s.ah) ∧ w'.cell? ⟨w.heap.size, 4, none⟩ = some (.int .i64 s.fl) ∧ w'.cell? ⟨w.heap.size, 5, none⟩ = some (.int .i64 s.fh) ∧ w'.cell? ⟨w.heap.size, 6, none⟩ = some (.int .i64 s.tl) ∧ w'.cell? ⟨w.heap.size, 7, none⟩ = some (.int .i64 s.th)) (first | (simp [go_sem, *]; done))
        (first | (have hm := hmark; go_at_call 29; refine (calc_then (cmul_any w1.heap.size w1.heap.size s.tl s.th s.bl s.bh E1 _) ?_ ?_ ?_); (· (simp [go_sem, *]; done)); (· (simp [go_sem, *]; done)); intro wB stB; rw [G2.out.1]; rw [G2.out.2] at stB; have szB := stB.size; (try simp at szB); have ceB := stB.cell; have feB : wB.frozen? ⟨w1.heap.size, 0, none⟩ = false := (stB.frozen _ _ (by first | omega | (simp <;> omega))).trans (by simp [go_sem, *]); have dB_0_0 : wB.cell? ⟨w.heap.size, 0, none⟩ = some (.int .i64 s.bl) := (stB.other _ _ (by first | omega | (simp <;> omega)) (by omega)).trans (by simp [go_sem, *]); have dB_0_1 : wB.cell? ⟨w.heap.size, 1, none⟩ = some (.int .i64 s.bh) := (stB.other _ _ (by first | omega | (simp <;> omega)) (by omega)).trans (by simp [go_sem, *]); have dB_0_2 : wB.cell? ⟨w.heap.size, 2, none⟩ = some (.int .i64 s.al) := (stB.other _ _ (by first | omega | (simp <;> omega)) (by omega)).trans (by simp [go_sem, *]); have dB_0_3 : wB.cell? ⟨w.heap.size, 3, none⟩ = some (.int .i64 s.ah) := (stB.other _ _ (by first | omega | (simp <;> omega)) (by omega)).trans (by simp [go_sem, *]); have dB_0_4 : wB.cell? ⟨w.heap.size, 4, none⟩ = some (.int .i64 s.fl) := (stB.other _ _ (by first | omega | (simp <;> omega)) (by omega)).trans (by simp [go_sem, *]); have dB_0_5 : wB.cell? ⟨w.heap.size, 5, none⟩ = some (.int .i64 s.fh) := (stB.other _ _ (by first | omega | (simp <;> omega)) (by omega)).trans (by simp [go_sem, *]); have dB_0_6 : wB.cell? ⟨w.heap.size, 6, none⟩ = some (.int .i64 s.tl) := (stB.other _ _ (by first | omega | (simp <;> omega)) (by omega)).trans (by simp [go_sem, *]); have dB_0_7 : wB.cell? ⟨w.heap.size, 7, none⟩ = some (.int .i64 s.th) := (stB.other _ _ (by first | omega | (simp <;> omega)) (by omega)).trans (by simp [go_sem, *]); have lB_0 : w.heap.size < wB.heap.size := (by omega); have dB_1_0 : wB.cell? ⟨w.heap.size + 1, 0, none⟩ = some (.int .i64 0) := (stB.other _ _ (by first | omega | (simp <;> omega)) (by omega)).trans (by simp [go_sem, *]); have dB_1_1 : wB.cell? ⟨w.heap.size + 1, 1, none⟩ = some (.int .i64 0) := (stB.other _ _ (by first | omega | (simp <;> omega)) (by omega)).trans (by simp [go_sem, *]); have lB_1 : w.heap.size + 1 < wB.heap.size := (by omega); have rB_0 : wB.frozen? ⟨w.heap.size + 1, 0, none⟩ = false := (stB.frozen _ _ (by first | omega | (simp <;> omega))).trans (by simp [go_sem, *]); have rB_1 : wB.frozen? ⟨w.heap.size + 1, 1, none⟩ = false := (stB.frozen _ _ (by first | omega | (simp <;> omega))).trans (by simp [go_sem, *]); have lcB : w1.heap.size < wB.heap.size := (by omega); have ncB0 : ¬ (w1.heap.size = wB.heap.size ) := (by omega); have mcB0 : ¬ (wB.heap.size  = w1.heap.size) := (by omega); have ncB3 : ¬ (w1.heap.size = wB.heap.size + 1) := (by omega); have mcB3 : ¬ (wB.heap.size + 1 = w1.heap.size) := (by omega); have bwB : Below w1.heap.size w1 wB := Below.trans (by repeat (first | exact bwA | refine Below.drew ?_ | refine Below.alloc ?_ (by first | omega | (simp <;> omega)) _)) (stB.below (Nat.le_refl _) (by first | omega | (simp <;> omega))); (try (refine box_then stB (w1.heap.size + 1) ?_ ?_ ?_ ?_ ?_ ?_ ?_; (· (first | omega | (simp <;> omega))); (· omega); (· (simp [go_sem, *]; done)); (· (simp [go_sem, *]; done)); (· (simp [go_sem, *]; done)); (· (simp [go_sem, *]; done)); intro kBa0 kBb0 kBc0 kBd0 kBe0 kBf0 kBg0)); (try (refine box_then stB (w1.heap.size + 1 + 1) ?_ ?_ ?_ ?_ ?_ ?_ ?_; (· (first | omega | (simp <;> omega))); (· omega); (· (simp [go_sem, *]; done)); (· (simp [go_sem, *]; done)); (· (simp [go_sem, *]; done)); (· (simp [go_sem, *]; done)); intro kBa1 kBb1 kBc1 kBd1 kBe1 kBf1 kBg1)); (try (refine box_then stB wA.heap.size ?_ ?_ ?_ ?_ ?_ ?_ ?_; (· (first | omega | (simp <;> omega))); (· omega); (· (simp [go_sem, *]; done)); (· (simp [go_sem, *]; done)); (· (simp [go_sem, *]; done)); (· (simp [go_sem, *]; done)); intro kBa2 kBb2 kBc2 kBd2 kBe2 kBf2 kBg2)); (try (refine box_then stB (wA.heap.size + 1) ?_ ?_ ?_ ?_ ?_ ?_ ?_; (· (first | omega | (simp <;> omega))); (· omega); (· (simp [go_sem, *]; done)); (· (simp [go_sem, *]; done)); (· (simp [go_sem, *]; done)); (· (simp [go_sem, *]; done)); intro kBa3 kBb3 kBc3 kBd3 kBe3 kBf3 kBg3))) | (go_at_call 29; refine (calc_then (cmul_any w1.heap.size w1.heap.size s.fl s.fh s.al s.ah 0 _) ?_ ?_ ?_); (· (simp [go_sem, *]; done)); (· (simp [go_sem, *]; done)); intro wA stA; rw [G1.out.1]; rw [G1.out.2] at stA; have szA := stA.size; (try simp at szA); have ceA := stA.cell; have feA : wA.frozen? ⟨w1.heap.size, 0, none⟩ = false := (stA.frozen _ _ (by first | omega | (simp <;> omega))).trans (by simp [go_sem, *]); have dA_0_0 : wA.cell? ⟨w.heap.size, 0, none⟩ = some (.int .i64 s.bl) := (stA.other _ _ (by first | omega | (simp <;> omega)) (by omega)).trans (by simp [go_sem, *]); have dA_0_1 : wA.cell? ⟨w.heap.size, 1, none⟩ = some (.int .i64 s.bh) := (stA.other _ _ (by first | omega | (simp <;> omega)) (by omega)).trans (by simp [go_sem, *]); have dA_0_2 : wA.cell? ⟨w.heap.size, 2, none⟩ = some (.int .i64 s.al) := (stA.other _ _ (by first | omega | (simp <;> omega)) (by omega)).trans (by simp [go_sem, *]); have dA_0_3 : wA.cell? ⟨w.heap.size, 3, none⟩ = some (.int .i64 s.ah) := (stA.other _ _ (by first | omega | (simp <;> omega)) (by omega)).trans (by simp [go_sem, *]); have dA_0_4 : wA.cell? ⟨w.heap.size, 4, none⟩ = some (.int .i64 s.fl) := (stA.other _ _ (by first | omega | (simp <;> omega)) (by omega)).trans (by simp [go_sem, *]); have dA_0_5 : wA.cell? ⟨w.heap.size, 5, none⟩ = some (.int .i64 s.fh) := (stA.other _ _ (by first | omega | (simp <;> omega)) (by omega)).trans (by simp [go_sem, *]); have dA_0_6 : wA.cell? ⟨w.heap.size, 6, none⟩ = some (.int .i64 s.tl) := (stA.other _ _ (by first | omega | (simp <;> omega)) (by omega)).trans (by simp [go_sem, *]); have dA_0_7 : wA.cell? ⟨w.heap.size, 7, none⟩ = some (.int .i64 s.th) := (stA.other _ _ (by first | omega | (simp <;> omega)) (by omega)).trans (by simp [go_sem, *]); have lA_0 : w.heap.size < wA.heap.size := (by omega); have dA_1_0 : wA.cell? ⟨w.heap.size + 1, 0, none⟩ = some (.int .i64 0) := (stA.other _ _ (by first | omega | (simp <;> omega)) (by omega)).trans (by simp [go_sem, *]); have dA_1_1 : wA.cell? ⟨w.heap.size + 1, 1, none⟩ = some (.int .i64 0) := (stA.other _ _ (by first | omega | (simp <;> omega)) (by omega)).trans (by simp [go_sem, *]); have lA_1 : w.heap.size + 1 < wA.heap.size := (by omega); have rA_0 : wA.frozen? ⟨w.heap.size + 1, 0, none⟩ = false := (stA.frozen _ _ (by first | omega | (simp <;> omega))).trans (by simp [go_sem, *]); have rA_1 : wA.frozen? ⟨w.heap.size + 1, 1, none⟩ = false := (stA.frozen _ _ (by first | omega | (simp <;> omega))).trans (by simp [go_sem, *]); have lcA : w1.heap.size < wA.heap.size := (by omega); have ncA0 : ¬ (w1.heap.size = wA.heap.size ) := (by omega); have mcA0 : ¬ (wA.heap.size  = w1.heap.size) := (by omega); have ncA3 : ¬ (w1.heap.size = wA.heap.size + 1) := (by omega); have mcA3 : ¬ (wA.heap.size + 1 = w1.heap.size) := (by omega); have bwA : Below w1.heap.size w1 wA := Below.trans (by repeat (first | exact Below.refl _ _ | refine Below.drew ?_ | refine Below.alloc ?_ (by first | omega | (simp <;> omega)) _)) (stA.below (Nat.le_refl _) (by first | omega | (simp <;> omega))); (try (refine box_then stA (w1.heap.size + 1) ?_ ?_ ?_ ?_ ?_ ?_ ?_; (· (first | omega | (simp <;> omega))); (· omega); (· (simp [go_sem, *]; done)); (· (simp [go_sem, *]; done)); (· (simp [go_sem, *]; done)); (· (simp [go_sem, *]; done)); intro kAa0 kAb0 kAc0 kAd0 kAe0 kAf0 kAg0)); (try (refine box_then stA (w1.heap.size + 1 + 1) ?_ ?_ ?_ ?_ ?_ ?_ ?_; (· (first | omega | (simp <;> omega))); (· omega); (· (simp [go_sem, *]; done)); (· (simp [go_sem, *]; done)); (· (simp [go_sem, *]; done)); (· (simp [go_sem, *]; done)); intro kAa1 kAb1 kAc1 kAd1 kAe1 kAf1 kAg1)); have hmark : wA = wA := rfl))
      all_goals (go_wp2_with fail; go_meet)
      all_goals (refine ⟨_, _, rfl, rfl, ?_, ?_, ?_, ?_, ?_, ?_, ?_, ?_, ?_, ?_, ?_, ?_, ?_, ?_⟩)
      all_goals first
        | omega
        | (simp; done)
        | (simp; omega)
        | (simp [go_sem, *]; done)
        | ((repeat (first | exact bwB | refine Below.drew ?_ | refine Below.setCell ?_ (by first | omega | (simp <;> omega)) _ | refine Below.alloc ?_ (by first | omega | (simp <;> omega)) _)); done)
    case rest =>
      obtain ⟨b1, b2, rfl, rfl, l1, l2, y1, y2, y3, y4, y5, y6, y7, y8, y9, y10, l3, hb2⟩ := hcut
      have lc : w1.heap.size < wc.heap.size := World.block_lt_of_cell? wc _ y9
      obtain ⟨w2, hwc⟩ : ∃ z, z = wc := ⟨_, rfl⟩
      rw [← hwc] at l1 l2 y1 y2 y3 y4 y5 y6 y7 y8 y9 y10 l3 hb2 lc
      rw [← hwc]
      clear hwc
      have hw2 : Below w.heap.size w w2 := hw1.trans (hb2.mono (by omega))
      have lw := hw2.size
      go_wp2_with fail
      refine (share_any w1.heap.size w1.heap.size E2 p1 q1 p2 q2 _ y9 y10 (Nat.le_refl _)).mono ?_
      rintro e w3 ⟨rfl, hb3⟩
      have z3 := hb3.size
      have t5 := (hb3.cell (p := ⟨w.heap.size + 1, 0, none⟩) (by simp; omega)).trans y5
      have t6 := (hb3.cell (p := ⟨w.heap.size + 1, 1, none⟩) (by simp; omega)).trans y6
      have t7 := (hb3.frozen (p := ⟨w.heap.size + 1, 0, none⟩) (by simp; omega)).trans y7
      have t8 := (hb3.frozen (p := ⟨w.heap.size + 1, 1, none⟩) (by simp; omega)).trans y8
      have hw3 : Below w.heap.size w w3 := hw2.trans (hb3.mono (by omega))
      clear hb3 z3 y1 y2 y3 y4 y5 y6 y7 y8 y9 y10
      go_wp2_with fail
      exact bodyPost_ret (v := .tuple #[.agg #[.int .i64 (shareR E2 p1 q1 p2 q2).lo, .int .i64 (shareR E2 p1 q1 p2 q2).hi], .int .i64 (shareR E2 p1 q1 p2 q2).e]) (by simp [results, Try.results13, go_sem, *]) rfl ⟨by rw [HR.out], by repeat (first | exact hw3 | refine Below.drew ?_ | refine bdrewS ?_ _ | refine Below.setCell ?_ (by first | omega | (simp <;> omega)) _ | refine Below.alloc ?_ (by first | omega | (simp <;> omega)) _)⟩
  · have hv' : sfB s = false := by simpa using hv
    have HR := Lib.hid (show parR s = ⟨0, 0, 1⟩ from by rw [parR, polR_no hv'])
    have HV := Lib.hid hv'
    clear h1 h2 g1 g2 hv hv'
    go_enter Try.func13, Try.ntmps13
    go_wp2_with fail
    refine (rsf_any s _).mono ?_
    rintro e w1 ⟨rfl, hb1⟩
    obtain ⟨hc1, hf1⟩ := bcell hb1
    have hz1 := hb1.size
    try simp at hz1
    have hw1 : Below w.heap.size w w1 := Below.trans (by repeat (first | exact Below.refl _ _ | refine Below.drew ?_ | refine bdrewS ?_ _ | refine Below.setCell ?_ (by first | omega | (simp <;> omega)) _ | refine Below.alloc ?_ (by first | omega | (simp <;> omega)) _)) (hb1.mono (by first | omega | (simp <;> omega)))
    have hy1 := hw1.size
    have d1_0_0 : w1.cell? ⟨w.heap.size + 1, 0, none⟩ = some (.int .i64 0) := (hc1 _ _ (by first | omega | (simp <;> omega))).trans (by first | (simp [go_sem, *]; done) | rfl)
    have d1_0_1 : w1.cell? ⟨w.heap.size + 1, 1, none⟩ = some (.int .i64 0) := (hc1 _ _ (by first | omega | (simp <;> omega))).trans (by first | (simp [go_sem, *]; done) | rfl)
    have l1_0 : w.heap.size + 1 < w1.heap.size := by omega
    have hm1_0 : w.heap.size + 1 < w1.heap.size := by omega
    have hm1_1 : w.heap.size + 1 < w1.heap.size + 1 := by omega
    have hm1_2 : w.heap.size < w1.heap.size := by omega
    have hm1_3 : w.heap.size + 1 < w1.heap.size + 1 + 1 := by omega
    have hm1_4 : w.heap.size < w1.heap.size + 1 := by omega
    have r1_0 : w1.frozen? ⟨w.heap.size + 1, 0, none⟩ = false := (hf1 _ _ (by first | omega | (simp <;> omega))).trans (by first | (simp [go_sem, *]; done) | rfl)
    have r1_1 : w1.frozen? ⟨w.heap.size + 1, 1, none⟩ = false := (hf1 _ _ (by first | omega | (simp <;> omega))).trans (by first | (simp [go_sem, *]; done) | rfl)
    clear hb1 hc1 hf1 hz1 
    rw [HV.out]
    go_wp2_with fail
    exact bodyPost_ret (v := .tuple #[iv 0 0, .int .i64 1]) (by simp [results, Try.results13, go_sem, *]) rfl ⟨by rw [HR.out], by repeat (first | exact hw1 | refine Below.drew ?_ | refine bdrewS ?_ _ | refine Below.setCell ?_ (by first | omega | (simp <;> omega)) _ | refine Below.alloc ?_ (by first | omega | (simp <;> omega)) _)⟩
end Go.Proofs.Ytognaejbpioihaa.Iv
