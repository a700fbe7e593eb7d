/- Contracts of the reference's share of intervals: Cut, share and Straight of package culetref30. -/
import Derived.Test.YtognaejbpioihaaCa1
import Derived.Test.YtognaejbpioihaaFi1
import Derived.Test.YtognaejbpioihaaFr5
import Derived.Deep.RegionHeld3
import Derived.Deep.CutRange
import Derived.Deep.DeepCutAuto
import Derived.Tactics2
namespace Go.Proofs.Ytognaejbpioihaa.Iv
open Go.RowKit

theorem cutI_eq (a : Int) : max 0 (min a 16777216) = cutI a := by unfold cutI; omega
section
attribute [local go_sem] run_min2' run_max2'
set_option maxRecDepth 100000 in
theorem rcut_any (a b : Int) (w : World) :
    Calls Try.prog 37 #[iv a b] w fun e w' => e = .returned (iv (cutI a) (cutI b)) ∧ Below w.heap.size w w' := by
  obtain ⟨A, hA⟩ : ∃ A, cutI a = A := ⟨_, rfl⟩
  obtain ⟨B, hB⟩ : ∃ B, cutI b = B := ⟨_, rfl⟩
  have e1 : max 0 (min a 16777216) = A := (cutI_eq a).trans hA
  have e2 : max 0 (min b 16777216) = B := (cutI_eq b).trans hB
  rw [hA, hB]
  clear hA hB
  go_enter Try.func37, Try.ntmps37
  go_wp2_with fail
  all_goals exact bodyPost_ret (v := iv A B) (by simp [results, Try.results37, go_sem, *] <;> omega) rfl ⟨rfl, by repeat (first | exact Below.refl _ _ | refine Below.drew ?_ | refine Below.setCell ?_ (by first | omega | (simp <;> omega)) _ | refine Below.alloc ?_ (by first | omega | (simp <;> omega)) _)⟩
end

theorem bdrewS {B : Nat} {a w : World} (h : Below B a w) (n : Nat) : Below B a (w.drewN n) := h.trans ⟨rfl, rfl, rfl, Nat.le_refl _, fun _ _ => rfl⟩
/-- a new box of two zeros is kept by a step of the calculator -/
theorem box_then {G : Prop} {B c : Nat} {E : Int} {W w' : World} (st : Step B W c E w') (b : Nat) (hb : b < W.heap.size) (hn : ¬ (b = c))
    (h0 : W.cell? ⟨b, 0, none⟩ = some (.int .i64 0)) (h1 : W.cell? ⟨b, 1, none⟩ = some (.int .i64 0)) (f0 : W.frozen? ⟨b, 0, none⟩ = false) (f1 : W.frozen? ⟨b, 1, none⟩ = false)
    (k : w'.cell? ⟨b, 0, none⟩ = some (.int .i64 0) → w'.cell? ⟨b, 1, none⟩ = some (.int .i64 0) → w'.frozen? ⟨b, 0, none⟩ = false → w'.frozen? ⟨b, 1, none⟩ = false → b < w'.heap.size → ¬ (b = w'.heap.size) → ¬ (w'.heap.size = b) → G) : G := by
  have l := st.size
  exact k ((st.other _ _ hb hn).trans h0) ((st.other _ _ hb hn).trans h1) ((st.frozen _ _ hb).trans f0) ((st.frozen _ _ hb).trans f1) (by omega) (by omega) (by omega)

def shareR (e a b x y : Int) : R :=
  let q := divR (subR a b x y).lo (subR a b x y).hi (addR a b x y).lo (addR a b x y).hi
  let s := sqR q.lo q.hi
  let E := keepE (keepE (keepE (keepE e (subR a b x y).e) (addR a b x y).e) q.e) s.e
  if E = 0 then ⟨cutI s.lo, cutI s.hi, 0⟩ else ⟨0, 0, E⟩
theorem share_contrast (a b x y : Int) : shareR 0 a b x y = contrastR a b x y := by
  unfold shareR contrastR bind keepE
  simp only
  by_cases h1 : (subR a b x y).e = 0
  · by_cases h2 : (addR a b x y).e = 0
    · by_cases h3 : (divR (subR a b x y).lo (subR a b x y).hi (addR a b x y).lo (addR a b x y).hi).e = 0
      · by_cases h4 : (sqR (divR (subR a b x y).lo (subR a b x y).hi (addR a b x y).lo (addR a b x y).hi).lo (divR (subR a b x y).lo (subR a b x y).hi (addR a b x y).lo (addR a b x y).hi).hi).e = 0 <;> simp [h1, h2, h3, h4]
      · simp [h1, h2, h3]
    · simp [h1, h2]
  · simp [h1]
theorem calc_then {P : Program} {f : FuncId} {args : Array Value} {w : World} {H1 H2 : Prop} {p q : Int} {B c : Nat} {E : Int} {post : Ending → World → Prop} (h : H1 → H2 → Calls P f args w fun r w' => r = .returned (iv p q) ∧ Step B w c E w') (h1 : H1) (h2 : H2) (k : ∀ w', Step B w c E w' → post (.returned (iv p q)) w') : Calls P f args w post :=
  (h h1 h2).mono fun r w' hh => by obtain ⟨rfl, st⟩ := hh; exact k w' st

set_option maxRecDepth 100000 in
set_option maxHeartbeats 8000000 in
theorem share_any (B c : Nat) (e a b x y : Int) (w : World) (hc : w.cell? ⟨c, 0, none⟩ = some (.int .i64 e)) (hf : w.frozen? ⟨c, 0, none⟩ = false) (hB : B ≤ c) :
    Calls Try.prog 30 #[.pointer (some ⟨c, 0, none⟩), iv a b, iv x y] w fun r w' => r = retR (shareR e a b x y) ∧ Below B w w' := by
  have hlt : c < w.heap.size := World.block_lt_of_cell? w _ hc
  obtain ⟨⟨p1, q1, e1⟩, h1⟩ : ∃ r : R, subR a b x y = r := ⟨_, rfl⟩
  obtain ⟨⟨p2, q2, e2⟩, h2⟩ : ∃ r : R, addR a b x y = r := ⟨_, rfl⟩
  obtain ⟨⟨p3, q3, e3⟩, h3⟩ : ∃ r : R, divR p1 q1 p2 q2 = r := ⟨_, rfl⟩
  obtain ⟨⟨p4, q4, e4⟩, h4⟩ : ∃ r : R, sqR p3 q3 = r := ⟨_, rfl⟩
  obtain ⟨E1, g1⟩ : ∃ E, keepE e e1 = E := ⟨_, rfl⟩
  obtain ⟨E2, g2⟩ : ∃ E, keepE E1 e2 = E := ⟨_, rfl⟩
  obtain ⟨E3, g3⟩ : ∃ E, keepE E2 e3 = E := ⟨_, rfl⟩
  obtain ⟨E4, g4⟩ : ∃ E, keepE E3 e4 = E := ⟨_, rfl⟩
  have HS := Lib.hid (show shareR e a b x y = if E4 = 0 then ⟨cutI p4, cutI q4, 0⟩ else ⟨0, 0, E4⟩ from by simp only [shareR, h1, h2, h3, h4, g1, g2, g3, g4])
  have G1 := Lib.hid (show Ending.returned (iv (subR a b x y).lo (subR a b x y).hi) = .returned (iv p1 q1) ∧ keepE e (subR a b x y).e = E1 from by rw [h1]; exact ⟨rfl, g1⟩)
  have G2 := Lib.hid (show Ending.returned (iv (addR a b x y).lo (addR a b x y).hi) = .returned (iv p2 q2) ∧ keepE E1 (addR a b x y).e = E2 from by rw [h2]; exact ⟨rfl, g2⟩)
  have G3 := Lib.hid (show Ending.returned (iv (divR p1 q1 p2 q2).lo (divR p1 q1 p2 q2).hi) = .returned (iv p3 q3) ∧ keepE E2 (divR p1 q1 p2 q2).e = E3 from by rw [h3]; exact ⟨rfl, g3⟩)
  have G4 := Lib.hid (show Ending.returned (iv (sqR p3 q3).lo (sqR p3 q3).hi) = .returned (iv p4 q4) ∧ keepE E3 (sqR p3 q3).e = E4 from by rw [h4]; exact ⟨rfl, g4⟩)
  clear h1 h2 h3 h4 g1 g2 g3 g4
  have n0 : ¬ (c = w.heap.size) := by omega
  have n1 : ¬ (c = w.heap.size + 1) := by omega
  have n2 : ¬ (c = w.heap.size + 1 + 1) := by omega
  have n3 : ¬ (w.heap.size = c) := by omega
  have n4 : ¬ (w.heap.size + 1 = c) := by omega
  have n5 : ¬ (w.heap.size + 1 + 1 = c) := by omega
  have n6 : c < w.heap.size + 1 := by omega
  have n7 : c < w.heap.size + 1 + 1 := by omega
  have n8 : c < w.heap.size + 1 + 1 + 1 := by omega
  have n9 : ¬ (c = w.heap.size + 1 + 1 + 1) := by omega
  have n10 : ¬ (w.heap.size + 1 + 1 + 1 = c) := by omega
  have n11 : ¬ (c = w.heap.size + 1 + 1 + 1 + 1) := by omega
  have n12 : ¬ (w.heap.size + 1 + 1 + 1 + 1 = c) := by omega
  have n13 : c < w.heap.size + 1 + 1 + 1 + 1 := by omega
  have n14 : c < w.heap.size + 1 + 1 + 1 + 1 + 1 := by omega
  go_enter Try.func30, Try.ntmps30
  go_upto_region 1 with fail
  go_cut [8, 9] from 11 to 18 (fun s t wx => ∃ b1 b2 : Nat, s = .pointer (some ⟨b1, 0, none⟩) ∧ t = .pointer (some ⟨b2, 0, none⟩) ∧ b1 < wx.heap.size ∧ b2 < wx.heap.size ∧ ¬ (b1 = c) ∧ ¬ (b2 = c) ∧ wx.cell? ⟨b1, 0, none⟩ = some (.int .i64 p1) ∧ wx.cell? ⟨b1, 1, none⟩ = some (.int .i64 q1) ∧ wx.cell? ⟨b2, 0, none⟩ = some (.int .i64 p2) ∧ wx.cell? ⟨b2, 1, none⟩ = some (.int .i64 q2) ∧ wx.cell? ⟨w.heap.size + 1 + 1, 0, none⟩ = some (.int .i64 0) ∧ wx.cell? ⟨w.heap.size + 1 + 1, 1, none⟩ = some (.int .i64 0) ∧ wx.frozen? ⟨w.heap.size + 1 + 1, 0, none⟩ = false ∧ wx.frozen? ⟨w.heap.size + 1 + 1, 1, none⟩ = false ∧ wx.cell? ⟨c, 0, none⟩ = some (.int .i64 E2) ∧ wx.frozen? ⟨c, 0, none⟩ = false ∧ w.heap.size + 1 + 1 < wx.heap.size ∧ Below B w wx)
  case first =>
    clear G3 G4 HS
    go_region_held3 (fun w' => w'.cell? ⟨w.heap.size, 0, none⟩ = some (.int .i64 a) ∧ w'.cell? ⟨w.heap.size, 1, none⟩ = some (.int .i64 b) ∧ w'.cell? ⟨w.heap.size + 1, 0, none⟩ = some (.int .i64 x) ∧ w'.cell? ⟨w.heap.size + 1, 1, none⟩ = some (.int .i64 y)) (first | (simp [go_sem, *]; done))
      (first | (have hm := hmark; go_at_call 36; refine (calc_then (cadd_any B c a b x y E1 _) ?_ ?_ ?_); (· (simp [go_sem, *]; done)); (· (simp [go_sem, *]; done)); intro wB stB; rw [G2.out.1]; rw [G2.out.2] at stB; have szB := stB.size; (try simp at szB); have ceB := stB.cell; have feB : wB.frozen? ⟨c, 0, none⟩ = false := (stB.frozen _ _ (by first | omega | (simp <;> omega))).trans (by simp [go_sem, *]); have dB_0_0 : wB.cell? ⟨w.heap.size, 0, none⟩ = some (.int .i64 a) := (stB.other _ _ (by first | omega | (simp <;> omega)) (by omega)).trans (by simp [go_sem, *]); have dB_0_1 : wB.cell? ⟨w.heap.size, 1, none⟩ = some (.int .i64 b) := (stB.other _ _ (by first | omega | (simp <;> omega)) (by omega)).trans (by simp [go_sem, *]); have lB_0 : w.heap.size < wB.heap.size := (by omega); have dB_1_0 : wB.cell? ⟨w.heap.size + 1, 0, none⟩ = some (.int .i64 x) := (stB.other _ _ (by first | omega | (simp <;> omega)) (by omega)).trans (by simp [go_sem, *]); have dB_1_1 : wB.cell? ⟨w.heap.size + 1, 1, none⟩ = some (.int .i64 y) := (stB.other _ _ (by first | omega | (simp <;> omega)) (by omega)).trans (by simp [go_sem, *]); have lB_1 : w.heap.size + 1 < wB.heap.size := (by omega); have dB_2_0 : wB.cell? ⟨w.heap.size + 1 + 1, 0, none⟩ = some (.int .i64 0) := (stB.other _ _ (by first | omega | (simp <;> omega)) (by omega)).trans (by simp [go_sem, *]); have dB_2_1 : wB.cell? ⟨w.heap.size + 1 + 1, 1, none⟩ = some (.int .i64 0) := (stB.other _ _ (by first | omega | (simp <;> omega)) (by omega)).trans (by simp [go_sem, *]); have lB_2 : w.heap.size + 1 + 1 < wB.heap.size := (by omega); have rB_0 : wB.frozen? ⟨w.heap.size + 1 + 1, 0, none⟩ = false := (stB.frozen _ _ (by first | omega | (simp <;> omega))).trans (by simp [go_sem, *]); have rB_1 : wB.frozen? ⟨w.heap.size + 1 + 1, 1, none⟩ = false := (stB.frozen _ _ (by first | omega | (simp <;> omega))).trans (by simp [go_sem, *]); have lcB : c < wB.heap.size := (by omega); have ncB0 : ¬ (c = wB.heap.size ) := (by omega); have mcB0 : ¬ (wB.heap.size  = c) := (by omega); have ncB3 : ¬ (c = wB.heap.size + 1) := (by omega); have mcB3 : ¬ (wB.heap.size + 1 = c) := (by omega); have bwB : Below B w wB := Below.trans (by repeat (first | exact bwA | refine Below.drew ?_ | refine Below.alloc ?_ (by first | omega | (simp <;> omega)) _)) (stB.below hB (by first | omega | (simp <;> omega))); (try (refine box_then stB (w.heap.size + 1 + 1 + 1) ?_ ?_ ?_ ?_ ?_ ?_ ?_; (· (first | omega | (simp <;> omega))); (· omega); (· (simp [go_sem, *]; done)); (· (simp [go_sem, *]; done)); (· (simp [go_sem, *]; done)); (· (simp [go_sem, *]; done)); intro kBa0 kBb0 kBc0 kBd0 kBe0 kBf0 kBg0)); (try (refine box_then stB (w.heap.size + 1 + 1 + 1 + 1) ?_ ?_ ?_ ?_ ?_ ?_ ?_; (· (first | omega | (simp <;> omega))); (· omega); (· (simp [go_sem, *]; done)); (· (simp [go_sem, *]; done)); (· (simp [go_sem, *]; done)); (· (simp [go_sem, *]; done)); intro kBa1 kBb1 kBc1 kBd1 kBe1 kBf1 kBg1)); (try (refine box_then stB wA.heap.size ?_ ?_ ?_ ?_ ?_ ?_ ?_; (· (first | omega | (simp <;> omega))); (· omega); (· (simp [go_sem, *]; done)); (· (simp [go_sem, *]; done)); (· (simp [go_sem, *]; done)); (· (simp [go_sem, *]; done)); intro kBa2 kBb2 kBc2 kBd2 kBe2 kBf2 kBg2)); (try (refine box_then stB (wA.heap.size + 1) ?_ ?_ ?_ ?_ ?_ ?_ ?_; (· (first | omega | (simp <;> omega))); (· omega); (· (simp [go_sem, *]; done)); (· (simp [go_sem, *]; done)); (· (simp [go_sem, *]; done)); (· (simp [go_sem, *]; done)); intro kBa3 kBb3 kBc3 kBd3 kBe3 kBf3 kBg3))) | (go_at_call 45; refine (calc_then (csub_any B c a b x y e _) ?_ ?_ ?_); (· (simp [go_sem, *]; done)); (· (simp [go_sem, *]; done)); intro wA stA; rw [G1.out.1]; rw [G1.out.2] at stA; have szA := stA.size; (try simp at szA); have ceA := stA.cell; have feA : wA.frozen? ⟨c, 0, none⟩ = false := (stA.frozen _ _ (by first | omega | (simp <;> omega))).trans (by simp [go_sem, *]); have dA_0_0 : wA.cell? ⟨w.heap.size, 0, none⟩ = some (.int .i64 a) := (stA.other _ _ (by first | omega | (simp <;> omega)) (by omega)).trans (by simp [go_sem, *]); have dA_0_1 : wA.cell? ⟨w.heap.size, 1, none⟩ = some (.int .i64 b) := (stA.other _ _ (by first | omega | (simp <;> omega)) (by omega)).trans (by simp [go_sem, *]); have lA_0 : w.heap.size < wA.heap.size := (by omega); have dA_1_0 : wA.cell? ⟨w.heap.size + 1, 0, none⟩ = some (.int .i64 x) := (stA.other _ _ (by first | omega | (simp <;> omega)) (by omega)).trans (by simp [go_sem, *]); have dA_1_1 : wA.cell? ⟨w.heap.size + 1, 1, none⟩ = some (.int .i64 y) := (stA.other _ _ (by first | omega | (simp <;> omega)) (by omega)).trans (by simp [go_sem, *]); have lA_1 : w.heap.size + 1 < wA.heap.size := (by omega); have dA_2_0 : wA.cell? ⟨w.heap.size + 1 + 1, 0, none⟩ = some (.int .i64 0) := (stA.other _ _ (by first | omega | (simp <;> omega)) (by omega)).trans (by simp [go_sem, *]); have dA_2_1 : wA.cell? ⟨w.heap.size + 1 + 1, 1, none⟩ = some (.int .i64 0) := (stA.other _ _ (by first | omega | (simp <;> omega)) (by omega)).trans (by simp [go_sem, *]); have lA_2 : w.heap.size + 1 + 1 < wA.heap.size := (by omega); have rA_0 : wA.frozen? ⟨w.heap.size + 1 + 1, 0, none⟩ = false := (stA.frozen _ _ (by first | omega | (simp <;> omega))).trans (by simp [go_sem, *]); have rA_1 : wA.frozen? ⟨w.heap.size + 1 + 1, 1, none⟩ = false := (stA.frozen _ _ (by first | omega | (simp <;> omega))).trans (by simp [go_sem, *]); have lcA : c < wA.heap.size := (by omega); have ncA0 : ¬ (c = wA.heap.size ) := (by omega); have mcA0 : ¬ (wA.heap.size  = c) := (by omega); have ncA3 : ¬ (c = wA.heap.size + 1) := (by omega); have mcA3 : ¬ (wA.heap.size + 1 = c) := (by omega); have bwA : Below B w wA := Below.trans (by repeat (first | exact Below.refl _ _ | refine Below.drew ?_ | refine Below.alloc ?_ (by first | omega | (simp <;> omega)) _)) (stA.below hB (by first | omega | (simp <;> omega))); (try (refine box_then stA (w.heap.size + 1 + 1 + 1) ?_ ?_ ?_ ?_ ?_ ?_ ?_; (· (first | omega | (simp <;> omega))); (· omega); (· (simp [go_sem, *]; done)); (· (simp [go_sem, *]; done)); (· (simp [go_sem, *]; done)); (· (simp [go_sem, *]; done)); intro kAa0 kAb0 kAc0 kAd0 kAe0 kAf0 kAg0)); (try (refine box_then stA (w.heap.size + 1 + 1 + 1 + 1) ?_ ?_ ?_ ?_ ?_ ?_ ?_; (· (first | omega | (simp <;> omega))); (· omega); (· (simp [go_sem, *]; done)); (· (simp [go_sem, *]; done)); (· (simp [go_sem, *]; done)); (· (simp [go_sem, *]; done)); intro kAa1 kAb1 kAc1 kAd1 kAe1 kAf1 kAg1)); have hmark : wA = wA := rfl))
    all_goals (go_wp2_with fail; go_meet)
    all_goals (refine ⟨_, _, rfl, rfl, ?_, ?_, ?_, ?_, ?_, ?_, ?_, ?_, ?_, ?_, ?_, ?_, ?_, ?_, ?_, ?_⟩)
    all_goals first
      | omega
      | (simp; done)
      | (simp; omega)
      | (simp [go_sem, *]; done)
      | ((repeat (first | exact bwB | refine Below.drew ?_ | refine Below.setCell ?_ (by first | omega | (simp <;> omega)) _ | refine Below.alloc ?_ (by first | omega | (simp <;> omega)) _)); done)
  case rest =>
    obtain ⟨b1, b2, rfl, rfl, l1, l2, nb1, nb2, y1, y2, y3, y4, y5, y6, y7, y8, y9, y10, l3, hw2⟩ := hcut
    have lc : c < wc.heap.size := World.block_lt_of_cell? wc _ y9
    obtain ⟨w2, hwc⟩ : ∃ z, z = wc := ⟨_, rfl⟩
    rw [← hwc] at l1 l2 y1 y2 y3 y4 y5 y6 y7 y8 y9 y10 l3 hw2 lc
    rw [← hwc]
    clear hwc
    go_wp2_with fail
    refine (calc_then (cdiv_any B c p1 q1 p2 q2 E2 _) y9 y10 ?_)
    intro w3 st3
    rw [G3.out.1]
    rw [G3.out.2] at st3
    have z3 := st3.size
    have ce3 := st3.cell
    have fe3 := (st3.frozen _ 0 lc).trans y10
    have v5 := (st3.other _ _ l3 (by omega)).trans y5
    have v6 := (st3.other _ _ l3 (by omega)).trans y6
    have v7 := (st3.frozen _ _ l3).trans y7
    have v8 := (st3.frozen _ _ l3).trans y8
    have x3 := hw2.size
    have bw3 := hw2.trans ((st3.below hB (by omega)))
    clear st3 y1 y2 y3 y4 y5 y6 y7 y8 y9 y10
    go_wp2_with fail
    refine (calc_then (csq_any B c p3 q3 E3 _) ce3 fe3 ?_)
    intro w4 st4
    rw [G4.out.1]
    rw [G4.out.2] at st4
    have z4 := st4.size
    have ce4 := st4.cell
    have fe4 := (st4.frozen _ 0 (by omega)).trans fe3
    have x5 := (st4.other _ _ (by omega : w.heap.size + 1 + 1 < w3.heap.size) (by omega)).trans v5
    have x6 := (st4.other _ _ (by omega : w.heap.size + 1 + 1 < w3.heap.size) (by omega)).trans v6
    have x7 := (st4.frozen _ _ (by omega : w.heap.size + 1 + 1 < w3.heap.size)).trans v7
    have x8 := (st4.frozen _ _ (by omega : w.heap.size + 1 + 1 < w3.heap.size)).trans v8
    have bw4 := bw3.trans ((st4.below hB (by omega)))
    have l4 : w.heap.size + 1 + 1 < w4.heap.size := by omega
    have l5 : w.heap.size + 1 + 1 < w4.heap.size + 1 := by omega
    have l6 : c < w4.heap.size := by omega
    have l7 : c < w4.heap.size + 1 := by omega
    have l8 : ¬ (w.heap.size + 1 + 1 = w4.heap.size) := by omega
    have l9 : ¬ (w4.heap.size = w.heap.size + 1 + 1) := by omega
    have lB : B ≤ w4.heap.size := by omega
    clear st4 ce3 fe3 v5 v6 v7 v8
    by_cases hE : E4 = 0
    · subst hE
      go_wp2_with fail
      refine (rcut_any p4 q4 _).mono ?_
      rintro e w5 ⟨rfl, hb5⟩
      obtain ⟨hc5, hf5⟩ := bcell hb5
      have z5 := hb5.size
      try simp at z5
      have t5 : w5.cell? ⟨w.heap.size + 1 + 1, 0, none⟩ = some (.int .i64 0) := (hc5 _ _ (by first | omega | (simp <;> omega))).trans (by simp [go_sem, *])
      have t6 : w5.cell? ⟨w.heap.size + 1 + 1, 1, none⟩ = some (.int .i64 0) := (hc5 _ _ (by first | omega | (simp <;> omega))).trans (by simp [go_sem, *])
      have t7 : w5.frozen? ⟨w.heap.size + 1 + 1, 0, none⟩ = false := (hf5 _ _ (by first | omega | (simp <;> omega))).trans (by simp [go_sem, *])
      have t8 : w5.frozen? ⟨w.heap.size + 1 + 1, 1, none⟩ = false := (hf5 _ _ (by first | omega | (simp <;> omega))).trans (by simp [go_sem, *])
      have bw5 : Below B w w5 := Below.trans (by repeat (first | exact bw4 | refine Below.drew ?_ | refine bdrewS ?_ _ | refine Below.setCell ?_ (by first | omega | (simp <;> omega)) _ | refine Below.alloc ?_ (by first | omega | (simp <;> omega)) _)) (hb5.mono (by first | omega | (simp <;> omega)))
      clear hb5 hc5 hf5
      go_wp2_with fail
      exact bodyPost_ret (v := .tuple #[iv (cutI p4) (cutI q4), .int .i64 0]) (by simp [results, Try.results30, go_sem, *]) rfl ⟨by rw [HS.out]; first | rfl | (simp; done) | (simp; rfl), by repeat (first | exact bw5 | refine Below.drew ?_ | refine bdrewS ?_ _ | refine Below.setCell ?_ (by first | omega | (simp <;> omega)) _ | refine Below.alloc ?_ (by first | omega | (simp <;> omega)) _)⟩
    · have hE' : (E4 == 0) = false := by simpa using hE
      go_wp2_with fail
      go_region
      all_goals go_wp2
      all_goals exact bodyPost_ret (v := .tuple #[iv 0 0, .int .i64 E4]) (by simp [results, Try.results30, go_sem, *]) rfl ⟨by rw [HS.out]; first | rfl | (simp [hE]; done) | (simp [hE]; rfl), by repeat (first | exact bw4 | refine Below.drew ?_ | refine bdrewS ?_ _ | refine Below.setCell ?_ (by first | omega | (simp <;> omega)) _ | refine Below.alloc ?_ (by first | omega | (simp <;> omega)) _)⟩
end Go.Proofs.Ytognaejbpioihaa.Iv
