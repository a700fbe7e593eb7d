/- IntervalInclusion: the results for contained intervals are contained in the results. -/
import Derived.Test.YtognaejbpioihaaDoorIc1
import Derived.Test.YtognaejbpioihaaDoorIv2
import Derived.Deep.RegionHeld3
import Derived.Deep.CutRange
import Derived.Deep.DeepCutAuto
import Derived.Tactics2
namespace Go.Proofs.YtognaejbpioihaaDoor.Iv
open Go.RowKit

theorem kept_then {G : Prop} {W w' : World} {x y : Value} (hc : ∀ b o, b < W.heap.size → w'.cell? ⟨b, o, none⟩ = W.cell? ⟨b, o, none⟩) (hf : ∀ b o, b < W.heap.size → w'.frozen? ⟨b, o, none⟩ = W.frozen? ⟨b, o, none⟩) (hs : W.heap.size ≤ w'.heap.size) (b : Nat) (hb : b < W.heap.size)
    (h0 : W.cell? ⟨b, 0, none⟩ = some x) (h1 : W.cell? ⟨b, 1, none⟩ = some y) (f0 : W.frozen? ⟨b, 0, none⟩ = false) (f1 : W.frozen? ⟨b, 1, none⟩ = false)
    (k : w'.cell? ⟨b, 0, none⟩ = some x → w'.cell? ⟨b, 1, none⟩ = some y → w'.frozen? ⟨b, 0, none⟩ = false → w'.frozen? ⟨b, 1, none⟩ = false → b < w'.heap.size → ¬ (b = w'.heap.size) → ¬ (w'.heap.size = b) → G) : G :=
  k ((hc _ _ hb).trans h0) ((hc _ _ hb).trans h1) ((hf _ _ hb).trans f0) ((hf _ _ hb).trans f1) (by omega) (by omega) (by omega)

set_option maxRecDepth 100000 in
set_option maxHeartbeats 8000000 in
theorem incl_any (a b c d k0 k1 k2 k3 : Int) (w : World) (ha : vB a b = true) (hc : vB c d = true) (h0a : 0 ≤ k0) (h0b : k0 ≤ 4294967295) (h1a : 0 ≤ k1) (h1b : k1 ≤ 4294967295) (h2a : 0 ≤ k2) (h2b : k2 ≤ 4294967295) (h3a : 0 ≤ k3) (h3b : k3 ≤ 4294967295) :
    Calls Tryd.prog 7 #[iv a b, iv c d, .agg #[.int .u32 k0, .int .u32 k1, .int .u32 k2, .int .u32 k3]] w fun e w' => e = .returned (.bool true) ∧ Below w.heap.size w w' := by
  have HA := Lib.hid ha
  have HC := Lib.hid hc
  have S1 := part_sub k0 k1 ha
  have S2 := part_sub k2 k3 hc
  obtain ⟨xa, hxa⟩ : ∃ x, partLo a b k0 k1 = x := ⟨_, rfl⟩
  obtain ⟨xb, hxb⟩ : ∃ x, partHi a b k0 k1 = x := ⟨_, rfl⟩
  obtain ⟨ya, hya⟩ : ∃ x, partLo c d k2 k3 = x := ⟨_, rfl⟩
  obtain ⟨yb, hyb⟩ : ∃ x, partHi c d k2 k3 = x := ⟨_, rfl⟩
  rw [hxa, hxb] at S1
  rw [hya, hyb] at S2
  have HP := Lib.hid (show Ending.returned (iv (partLo a b k0 k1) (partHi a b k0 k1)) = .returned (iv xa xb) from by rw [hxa, hxb])
  have HQ := Lib.hid (show Ending.returned (iv (partLo c d k2 k3) (partHi c d k2 k3)) = .returned (iv ya yb) from by rw [hya, hyb])
  clear ha hc hxa hxb hya hyb
  obtain ⟨⟨p0, q0, e0⟩, h0⟩ : ∃ r : R, addR a b c d = r := ⟨_, rfl⟩
  obtain ⟨⟨r0, s0, f0⟩, g0⟩ : ∃ r : R, addR xa xb ya yb = r := ⟨_, rfl⟩
  have H0 := Lib.hid (show retR (addR a b c d) = .returned (.tuple #[iv p0 q0, .int .i64 e0]) from by rw [h0])
  have G0 := Lib.hid (show retR (addR xa xb ya yb) = .returned (.tuple #[iv r0 s0, .int .i64 f0]) from by rw [g0])
  have N0 := Lib.hid (show e0 = 0 → f0 = 0 ∧ insB r0 s0 p0 q0 = true from fun h => by subst h; obtain ⟨x, y, z1, z2⟩ := add_sub h0 S1 S2; rw [g0] at z1; injection z1 with z3 z4 z5; subst z3 z4; exact ⟨z5, z2⟩)
  clear h0 g0
  obtain ⟨⟨p1, q1, e1⟩, h1⟩ : ∃ r : R, subR a b c d = r := ⟨_, rfl⟩
  obtain ⟨⟨r1, s1, f1⟩, g1⟩ : ∃ r : R, subR xa xb ya yb = r := ⟨_, rfl⟩
  have H1 := Lib.hid (show retR (subR a b c d) = .returned (.tuple #[iv p1 q1, .int .i64 e1]) from by rw [h1])
  have G1 := Lib.hid (show retR (subR xa xb ya yb) = .returned (.tuple #[iv r1 s1, .int .i64 f1]) from by rw [g1])
  have N1 := Lib.hid (show e1 = 0 → f1 = 0 ∧ insB r1 s1 p1 q1 = true from fun h => by subst h; obtain ⟨x, y, z1, z2⟩ := sub_sub h1 S1 S2; rw [g1] at z1; injection z1 with z3 z4 z5; subst z3 z4; exact ⟨z5, z2⟩)
  clear h1 g1
  obtain ⟨⟨p2, q2, e2⟩, h2⟩ : ∃ r : R, mulR a b c d = r := ⟨_, rfl⟩
  obtain ⟨⟨r2, s2, f2⟩, g2⟩ : ∃ r : R, mulR xa xb ya yb = r := ⟨_, rfl⟩
  have H2 := Lib.hid (show retR (mulR a b c d) = .returned (.tuple #[iv p2 q2, .int .i64 e2]) from by rw [h2])
  have G2 := Lib.hid (show retR (mulR xa xb ya yb) = .returned (.tuple #[iv r2 s2, .int .i64 f2]) from by rw [g2])
  have N2 := Lib.hid (show e2 = 0 → f2 = 0 ∧ insB r2 s2 p2 q2 = true from fun h => by subst h; obtain ⟨x, y, z1, z2⟩ := mul_sub h2 S1 S2; rw [g2] at z1; injection z1 with z3 z4 z5; subst z3 z4; exact ⟨z5, z2⟩)
  clear h2 g2
  obtain ⟨⟨p3, q3, e3⟩, h3⟩ : ∃ r : R, divR a b c d = r := ⟨_, rfl⟩
  obtain ⟨⟨r3, s3, f3⟩, g3⟩ : ∃ r : R, divR xa xb ya yb = r := ⟨_, rfl⟩
  have H3 := Lib.hid (show retR (divR a b c d) = .returned (.tuple #[iv p3 q3, .int .i64 e3]) from by rw [h3])
  have G3 := Lib.hid (show retR (divR xa xb ya yb) = .returned (.tuple #[iv r3 s3, .int .i64 f3]) from by rw [g3])
  have N3 := Lib.hid (show e3 = 0 → f3 = 0 ∧ insB r3 s3 p3 q3 = true from fun h => by subst h; obtain ⟨x, y, z1, z2⟩ := div_sub h3 S1 S2; rw [g3] at z1; injection z1 with z3 z4 z5; subst z3 z4; exact ⟨z5, z2⟩)
  clear h3 g3
  obtain ⟨⟨p4, q4, e4⟩, h4⟩ : ∃ r : R, sqR a b = r := ⟨_, rfl⟩
  obtain ⟨⟨r4, s4, f4⟩, g4⟩ : ∃ r : R, sqR xa xb = r := ⟨_, rfl⟩
  have H4 := Lib.hid (show retR (sqR a b) = .returned (.tuple #[iv p4 q4, .int .i64 e4]) from by rw [h4])
  have G4 := Lib.hid (show retR (sqR xa xb) = .returned (.tuple #[iv r4 s4, .int .i64 f4]) from by rw [g4])
  have N4 := Lib.hid (show e4 = 0 → f4 = 0 ∧ insB r4 s4 p4 q4 = true from fun h => by subst h; obtain ⟨x, y, z1, z2⟩ := sq_sub h4 S1; rw [g4] at z1; injection z1 with z3 z4 z5; subst z3 z4; exact ⟨z5, z2⟩)
  clear h4 g4
  obtain ⟨⟨p5, q5, e5⟩, h5⟩ : ∃ r : R, sqrtR a b = r := ⟨_, rfl⟩
  obtain ⟨⟨r5, s5, f5⟩, g5⟩ : ∃ r : R, sqrtR xa xb = r := ⟨_, rfl⟩
  have H5 := Lib.hid (show retR (sqrtR a b) = .returned (.tuple #[iv p5 q5, .int .i64 e5]) from by rw [h5])
  have G5 := Lib.hid (show retR (sqrtR xa xb) = .returned (.tuple #[iv r5 s5, .int .i64 f5]) from by rw [g5])
  have N5 := Lib.hid (show e5 = 0 → f5 = 0 ∧ insB r5 s5 p5 q5 = true from fun h => by subst h; obtain ⟨x, y, z1, z2⟩ := sqrt_sub h5 S1; rw [g5] at z1; injection z1 with z3 z4 z5; subst z3 z4; exact ⟨z5, z2⟩)
  clear h5 g5
  clear S1 S2
  go_enter Tryd.func7, Tryd.ntmps7
  go_wp2_with fail
  refine (awake_any _).mono ?_
  rintro e w1 ⟨rfl, hb1⟩
  obtain ⟨hc1, hf1⟩ := bcell hb1
  have hz1 := hb1.size
  try simp at hz1
  have hw1 : Below w.heap.size w w1 := Below.trans (by repeat (first | exact Below.refl _ _ | refine Below.drew ?_ | refine below_drewN ?_ _ | refine Below.setCell ?_ (by first | omega | (simp <;> omega)) _ | refine Below.alloc ?_ (by first | omega | (simp <;> omega)) _)) (hb1.mono (by first | omega | (simp <;> omega)))
  have d1_0_0 : w1.cell? ⟨w.heap.size, 0, none⟩ = some (.int .i64 a) := (hc1 _ _ (by first | omega | (simp <;> omega))).trans (by first | (simp [go_sem, *]; done) | rfl)
  have d1_0_1 : w1.cell? ⟨w.heap.size, 1, none⟩ = some (.int .i64 b) := (hc1 _ _ (by first | omega | (simp <;> omega))).trans (by first | (simp [go_sem, *]; done) | rfl)
  have d1_1_0 : w1.cell? ⟨w.heap.size + 1, 0, none⟩ = some (.int .i64 c) := (hc1 _ _ (by first | omega | (simp <;> omega))).trans (by first | (simp [go_sem, *]; done) | rfl)
  have d1_1_1 : w1.cell? ⟨w.heap.size + 1, 1, none⟩ = some (.int .i64 d) := (hc1 _ _ (by first | omega | (simp <;> omega))).trans (by first | (simp [go_sem, *]; done) | rfl)
  have d1_2_0 : w1.cell? ⟨w.heap.size + 1 + 1, 0, none⟩ = some (.int .u32 k0) := (hc1 _ _ (by first | omega | (simp <;> omega))).trans (by first | (simp [go_sem, *]; done) | rfl)
  have d1_2_1 : w1.cell? ⟨w.heap.size + 1 + 1, 1, none⟩ = some (.int .u32 k1) := (hc1 _ _ (by first | omega | (simp <;> omega))).trans (by first | (simp [go_sem, *]; done) | rfl)
  have d1_2_2 : w1.cell? ⟨w.heap.size + 1 + 1, 2, none⟩ = some (.int .u32 k2) := (hc1 _ _ (by first | omega | (simp <;> omega))).trans (by first | (simp [go_sem, *]; done) | rfl)
  have d1_2_3 : w1.cell? ⟨w.heap.size + 1 + 1, 3, none⟩ = some (.int .u32 k3) := (hc1 _ _ (by first | omega | (simp <;> omega))).trans (by first | (simp [go_sem, *]; done) | rfl)
  have hm1_0 : w.heap.size < w1.heap.size := by omega
  have hm1_1 : w.heap.size < w1.heap.size + 1 := by omega
  have hm1_2 : w.heap.size < w1.heap.size + 1 + 1 := by omega
  have hm1_3 : w.heap.size + 1 < w1.heap.size := by omega
  have hm1_4 : w.heap.size + 1 < w1.heap.size + 1 := by omega
  have hm1_5 : w.heap.size < w1.heap.size := by omega
  have hm1_6 : w.heap.size + 1 < w1.heap.size + 1 + 1 := by omega
  have hm1_7 : w.heap.size < w1.heap.size + 1 := by omega
  have hm1_8 : w.heap.size + 1 + 1 < w1.heap.size := by omega
  have hm1_9 : w.heap.size + 1 + 1 < w1.heap.size + 1 := by omega
  have hm1_10 : w.heap.size + 1 < w1.heap.size := by omega
  have hm1_11 : w.heap.size + 1 + 1 < w1.heap.size + 1 + 1 := by omega
  have hm1_12 : w.heap.size + 1 < w1.heap.size + 1 := by omega
  clear hb1 hc1 hf1 hz1 
  go_wp2_with fail
  refine (refvalid_any _ _ _).mono ?_
  rintro e w1a ⟨rfl, rfl⟩
  rw [HA.out]
  go_wp2_with fail
  refine (refvalid_any _ _ _).mono ?_
  rintro e w1b ⟨rfl, rfl⟩
  rw [HC.out]
  go_upto_region 5 with fail
  go_cut [7, 8] from 24 to 37 (fun x y wx => ∃ b1 b2 : Nat, x = .pointer (some ⟨b1, 0, none⟩) ∧ y = .pointer (some ⟨b2, 0, none⟩) ∧ b1 < wx.heap.size ∧ b2 < wx.heap.size ∧ wx.cell? ⟨b1, 0, none⟩ = some (.int .i64 xa) ∧ wx.cell? ⟨b1, 1, none⟩ = some (.int .i64 xb) ∧ wx.cell? ⟨b2, 0, none⟩ = some (.int .i64 ya) ∧ wx.cell? ⟨b2, 1, none⟩ = some (.int .i64 yb) ∧ Below w1.heap.size w1 wx)
  case first =>
    clear H0 G0 N0 H1 G1 N1 H2 G2 N2 H3 G3 N3 H4 G4 N4 H5 G5 N5
    go_region_held3 (fun w' => w'.cell? ⟨w.heap.size, 0, none⟩ = some (.int .i64 a) ∧ w'.cell? ⟨w.heap.size, 1, none⟩ = some (.int .i64 b) ∧ w'.cell? ⟨w.heap.size + 1, 0, none⟩ = some (.int .i64 c) ∧ w'.cell? ⟨w.heap.size + 1, 1, none⟩ = some (.int .i64 d) ∧ w'.cell? ⟨w.heap.size + 1 + 1, 0, none⟩ = some (.int .u32 k0) ∧ w'.cell? ⟨w.heap.size + 1 + 1, 1, none⟩ = some (.int .u32 k1) ∧ w'.cell? ⟨w.heap.size + 1 + 1, 2, none⟩ = some (.int .u32 k2) ∧ w'.cell? ⟨w.heap.size + 1 + 1, 3, none⟩ = some (.int .u32 k3)) (first | (simp [go_sem, *]; done))
      (first | (have hm := hmark; go_at_call 31; refine (part_any _ _ _ _ _ (by first | exact HA.out | exact HC.out) (by first | exact h0a | exact h2a) (by first | exact h0b | exact h2b) (by first | exact h1a | exact h3a) (by first | exact h1b | exact h3b)).mono ?_; rintro e wB ⟨rfl, hbwB⟩; (first | rw [HP.out] | rw [HQ.out]); obtain ⟨hcwB, hfwB⟩ := bcell hbwB; have hwwB : Below w1.heap.size w1 wB := Below.trans (by repeat (first | exact hwwA | exact Below.refl _ _ | refine Below.drew ?_ | refine bdrewN ?_ _ | refine Below.alloc ?_ (by first | omega | (simp <;> omega)) _)) (hbwB.mono (by first | omega | (simp <;> omega))); have hswB := hbwB.size; (try simp at hswB); have htwB := hwwB.size; have dwB_0_0 : wB.cell? ⟨w.heap.size, 0, none⟩ = some (.int .i64 a) := (hcwB _ _ (by first | omega | (simp <;> omega))).trans (by simp [go_sem, *]); have dwB_0_1 : wB.cell? ⟨w.heap.size, 1, none⟩ = some (.int .i64 b) := (hcwB _ _ (by first | omega | (simp <;> omega))).trans (by simp [go_sem, *]); have lwB_0 : w.heap.size < wB.heap.size := (by omega); have dwB_1_0 : wB.cell? ⟨w.heap.size + 1, 0, none⟩ = some (.int .i64 c) := (hcwB _ _ (by first | omega | (simp <;> omega))).trans (by simp [go_sem, *]); have dwB_1_1 : wB.cell? ⟨w.heap.size + 1, 1, none⟩ = some (.int .i64 d) := (hcwB _ _ (by first | omega | (simp <;> omega))).trans (by simp [go_sem, *]); have lwB_1 : w.heap.size + 1 < wB.heap.size := (by omega); have dwB_2_0 : wB.cell? ⟨w.heap.size + 1 + 1, 0, none⟩ = some (.int .u32 k0) := (hcwB _ _ (by first | omega | (simp <;> omega))).trans (by simp [go_sem, *]); have dwB_2_1 : wB.cell? ⟨w.heap.size + 1 + 1, 1, none⟩ = some (.int .u32 k1) := (hcwB _ _ (by first | omega | (simp <;> omega))).trans (by simp [go_sem, *]); have dwB_2_2 : wB.cell? ⟨w.heap.size + 1 + 1, 2, none⟩ = some (.int .u32 k2) := (hcwB _ _ (by first | omega | (simp <;> omega))).trans (by simp [go_sem, *]); have dwB_2_3 : wB.cell? ⟨w.heap.size + 1 + 1, 3, none⟩ = some (.int .u32 k3) := (hcwB _ _ (by first | omega | (simp <;> omega))).trans (by simp [go_sem, *]); have lwB_2 : w.heap.size + 1 + 1 < wB.heap.size := (by omega); (try (refine kept_then (x := .int .i64 0) (y := .int .i64 0) hcwB hfwB hbwB.size (w1.heap.size + 1 + 1) ?_ ?_ ?_ ?_ ?_ ?_; (· (first | omega | (simp <;> omega))); (· (simp [go_sem, *]; done)); (· (simp [go_sem, *]; done)); (· (simp [go_sem, *]; done)); (· (simp [go_sem, *]; done)); intro kwBa0 kwBb0 kwBc0 kwBd0 kwBe0 kwBf0 kwBg0)); (try (refine kept_then (x := .int .i64 0) (y := .int .i64 0) hcwB hfwB hbwB.size (w1.heap.size + 1 + 1 + 1) ?_ ?_ ?_ ?_ ?_ ?_; (· (first | omega | (simp <;> omega))); (· (simp [go_sem, *]; done)); (· (simp [go_sem, *]; done)); (· (simp [go_sem, *]; done)); (· (simp [go_sem, *]; done)); intro kwBa1 kwBb1 kwBc1 kwBd1 kwBe1 kwBf1 kwBg1)); (try (refine kept_then (x := .int .i64 0) (y := .int .i64 0) hcwB hfwB hbwB.size wA.heap.size ?_ ?_ ?_ ?_ ?_ ?_; (· (first | omega | (simp <;> omega))); (· (simp [go_sem, *]; done)); (· (simp [go_sem, *]; done)); (· (simp [go_sem, *]; done)); (· (simp [go_sem, *]; done)); intro kwBa2 kwBb2 kwBc2 kwBd2 kwBe2 kwBf2 kwBg2)); (try (refine kept_then (x := .int .i64 0) (y := .int .i64 0) hcwB hfwB hbwB.size (wA.heap.size + 1) ?_ ?_ ?_ ?_ ?_ ?_; (· (first | omega | (simp <;> omega))); (· (simp [go_sem, *]; done)); (· (simp [go_sem, *]; done)); (· (simp [go_sem, *]; done)); (· (simp [go_sem, *]; done)); intro kwBa3 kwBb3 kwBc3 kwBd3 kwBe3 kwBf3 kwBg3))) | (go_at_call 31; refine (part_any _ _ _ _ _ (by first | exact HA.out | exact HC.out) (by first | exact h0a | exact h2a) (by first | exact h0b | exact h2b) (by first | exact h1a | exact h3a) (by first | exact h1b | exact h3b)).mono ?_; rintro e wA ⟨rfl, hbwA⟩; (first | rw [HP.out] | rw [HQ.out]); obtain ⟨hcwA, hfwA⟩ := bcell hbwA; have hwwA : Below w1.heap.size w1 wA := Below.trans (by repeat (first | exact Below.refl _ _ | refine Below.drew ?_ | refine bdrewN ?_ _ | refine Below.alloc ?_ (by first | omega | (simp <;> omega)) _)) (hbwA.mono (by first | omega | (simp <;> omega))); have hswA := hbwA.size; (try simp at hswA); have htwA := hwwA.size; have dwA_0_0 : wA.cell? ⟨w.heap.size, 0, none⟩ = some (.int .i64 a) := (hcwA _ _ (by first | omega | (simp <;> omega))).trans (by simp [go_sem, *]); have dwA_0_1 : wA.cell? ⟨w.heap.size, 1, none⟩ = some (.int .i64 b) := (hcwA _ _ (by first | omega | (simp <;> omega))).trans (by simp [go_sem, *]); have lwA_0 : w.heap.size < wA.heap.size := (by omega); have dwA_1_0 : wA.cell? ⟨w.heap.size + 1, 0, none⟩ = some (.int .i64 c) := (hcwA _ _ (by first | omega | (simp <;> omega))).trans (by simp [go_sem, *]); have dwA_1_1 : wA.cell? ⟨w.heap.size + 1, 1, none⟩ = some (.int .i64 d) := (hcwA _ _ (by first | omega | (simp <;> omega))).trans (by simp [go_sem, *]); have lwA_1 : w.heap.size + 1 < wA.heap.size := (by omega); have dwA_2_0 : wA.cell? ⟨w.heap.size + 1 + 1, 0, none⟩ = some (.int .u32 k0) := (hcwA _ _ (by first | omega | (simp <;> omega))).trans (by simp [go_sem, *]); have dwA_2_1 : wA.cell? ⟨w.heap.size + 1 + 1, 1, none⟩ = some (.int .u32 k1) := (hcwA _ _ (by first | omega | (simp <;> omega))).trans (by simp [go_sem, *]); have dwA_2_2 : wA.cell? ⟨w.heap.size + 1 + 1, 2, none⟩ = some (.int .u32 k2) := (hcwA _ _ (by first | omega | (simp <;> omega))).trans (by simp [go_sem, *]); have dwA_2_3 : wA.cell? ⟨w.heap.size + 1 + 1, 3, none⟩ = some (.int .u32 k3) := (hcwA _ _ (by first | omega | (simp <;> omega))).trans (by simp [go_sem, *]); have lwA_2 : w.heap.size + 1 + 1 < wA.heap.size := (by omega); (try (refine kept_then (x := .int .i64 0) (y := .int .i64 0) hcwA hfwA hbwA.size (w1.heap.size + 1 + 1) ?_ ?_ ?_ ?_ ?_ ?_; (· (first | omega | (simp <;> omega))); (· (simp [go_sem, *]; done)); (· (simp [go_sem, *]; done)); (· (simp [go_sem, *]; done)); (· (simp [go_sem, *]; done)); intro kwAa0 kwAb0 kwAc0 kwAd0 kwAe0 kwAf0 kwAg0)); (try (refine kept_then (x := .int .i64 0) (y := .int .i64 0) hcwA hfwA hbwA.size (w1.heap.size + 1 + 1 + 1) ?_ ?_ ?_ ?_ ?_ ?_; (· (first | omega | (simp <;> omega))); (· (simp [go_sem, *]; done)); (· (simp [go_sem, *]; done)); (· (simp [go_sem, *]; done)); (· (simp [go_sem, *]; done)); intro kwAa1 kwAb1 kwAc1 kwAd1 kwAe1 kwAf1 kwAg1)); have hmark : wA = wA := rfl))
    all_goals (go_wp2_with fail; go_meet)
    all_goals (refine ⟨_, _, rfl, rfl, ?_, ?_, ?_, ?_, ?_, ?_, ?_⟩)
    all_goals first
      | omega
      | (simp; done)
      | (simp; omega)
      | (simp [go_sem, *]; done)
      | ((repeat (first | exact hwwB | refine Below.drew ?_ | refine bdrewN ?_ _ | refine Below.setCell ?_ (by first | omega | (simp <;> omega)) _ | refine Below.alloc ?_ (by first | omega | (simp <;> omega)) _)); done)
  case rest =>
    obtain ⟨b1, b2, rfl, rfl, l1, l2, y1, y2, y3, y4, hb2⟩ := hcut
    obtain ⟨w2, hwc⟩ : ∃ x, x = wc := ⟨_, rfl⟩
    rw [← hwc] at l1 l2 y1 y2 y3 y4 hb2
    rw [← hwc]
    clear hwc
    obtain ⟨hc2, hf2⟩ := bcell hb2
    have hz2 := hb2.size
    have hw2 : Below w.heap.size w w2 := Below.trans hw1 (hb2.mono (by first | omega | (simp <;> omega)))
    have d2_0_0 : w2.cell? ⟨w.heap.size, 0, none⟩ = some (.int .i64 a) := (hc2 _ _ (by first | omega | (simp <;> omega))).trans (by first | (simp [go_sem, *]; done) | rfl)
    have d2_0_1 : w2.cell? ⟨w.heap.size, 1, none⟩ = some (.int .i64 b) := (hc2 _ _ (by first | omega | (simp <;> omega))).trans (by first | (simp [go_sem, *]; done) | rfl)
    have d2_1_0 : w2.cell? ⟨w.heap.size + 1, 0, none⟩ = some (.int .i64 c) := (hc2 _ _ (by first | omega | (simp <;> omega))).trans (by first | (simp [go_sem, *]; done) | rfl)
    have d2_1_1 : w2.cell? ⟨w.heap.size + 1, 1, none⟩ = some (.int .i64 d) := (hc2 _ _ (by first | omega | (simp <;> omega))).trans (by first | (simp [go_sem, *]; done) | rfl)
    have hm2_0 : w.heap.size < w2.heap.size := by omega
    have hm2_1 : w.heap.size < w2.heap.size + 1 := by omega
    have hm2_2 : w.heap.size < w2.heap.size + 1 + 1 := by omega
    have hm2_3 : w.heap.size + 1 < w2.heap.size := by omega
    have hm2_4 : w.heap.size + 1 < w2.heap.size + 1 := by omega
    have hm2_5 : w.heap.size < w2.heap.size := by omega
    have hm2_6 : w.heap.size + 1 < w2.heap.size + 1 + 1 := by omega
    have hm2_7 : w.heap.size < w2.heap.size + 1 := by omega
    clear hb2 hc2 hf2 hz2 d1_0_0 d1_0_1 d1_1_0 d1_1_1 d1_2_0 d1_2_1 d1_2_2 d1_2_3 hm1_0 hm1_1 hm1_2 hm1_3 hm1_4 hm1_5 hm1_6 hm1_7 hm1_8 hm1_9 hm1_10 hm1_11 hm1_12
    have l3 : w.heap.size < w2.heap.size := by omega
    have l4 : w.heap.size + 1 < w2.heap.size := by omega
    go_wp2_with fail
    go_loopw [9, 10, 11, 12, 13, 53, 67, 81, 95, 109] (fun i _ _ _ _ _ _ _ _ _ wr => ∃ z : Int, i = .int .i64 z ∧ 0 ≤ z ∧ z ≤ 6 ∧ Below w2.heap.size w2 wr) (fun i _ _ _ _ _ _ _ _ _ _ => 6 - (RowKit.intOf i).toNat)
    case atStart => exact ⟨0, rfl, by decide, by decide, Below.refl _ _⟩
    case round =>
      obtain ⟨z, rfl, z1, z2, hbr⟩ := hrel
      obtain ⟨hcr, hfr⟩ := bcell hbr
      have hzr := hbr.size
      have dr_0_0 : wr.cell? ⟨w.heap.size, 0, none⟩ = some (.int .i64 a) := (hcr _ _ (by omega)).trans (by assumption)
      have dr_0_1 : wr.cell? ⟨w.heap.size, 1, none⟩ = some (.int .i64 b) := (hcr _ _ (by omega)).trans (by assumption)
      have lr_0 : w.heap.size < wr.heap.size := by omega
      have ne_0 : ¬ (w.heap.size = wr.heap.size) := by omega
      have en_0 : ¬ (wr.heap.size = w.heap.size) := by omega
      have np_0 : ¬ (w.heap.size = wr.heap.size + 1) := by omega
      have pn_0 : ¬ (wr.heap.size + 1 = w.heap.size) := by omega
      have dr_1_0 : wr.cell? ⟨w.heap.size + 1, 0, none⟩ = some (.int .i64 c) := (hcr _ _ (by omega)).trans (by assumption)
      have dr_1_1 : wr.cell? ⟨w.heap.size + 1, 1, none⟩ = some (.int .i64 d) := (hcr _ _ (by omega)).trans (by assumption)
      have lr_1 : w.heap.size + 1 < wr.heap.size := by omega
      have ne_1 : ¬ (w.heap.size + 1 = wr.heap.size) := by omega
      have en_1 : ¬ (wr.heap.size = w.heap.size + 1) := by omega
      have np_1 : ¬ (w.heap.size + 1 = wr.heap.size + 1) := by omega
      have pn_1 : ¬ (wr.heap.size + 1 = w.heap.size + 1) := by omega
      have dr_2_0 : wr.cell? ⟨b1, 0, none⟩ = some (.int .i64 xa) := (hcr _ _ (by omega)).trans (by assumption)
      have dr_2_1 : wr.cell? ⟨b1, 1, none⟩ = some (.int .i64 xb) := (hcr _ _ (by omega)).trans (by assumption)
      have lr_2 : b1 < wr.heap.size := by omega
      have ne_2 : ¬ (b1 = wr.heap.size) := by omega
      have en_2 : ¬ (wr.heap.size = b1) := by omega
      have np_2 : ¬ (b1 = wr.heap.size + 1) := by omega
      have pn_2 : ¬ (wr.heap.size + 1 = b1) := by omega
      have dr_3_0 : wr.cell? ⟨b2, 0, none⟩ = some (.int .i64 ya) := (hcr _ _ (by omega)).trans (by assumption)
      have dr_3_1 : wr.cell? ⟨b2, 1, none⟩ = some (.int .i64 yb) := (hcr _ _ (by omega)).trans (by assumption)
      have lr_3 : b2 < wr.heap.size := by omega
      have ne_3 : ¬ (b2 = wr.heap.size) := by omega
      have en_3 : ¬ (wr.heap.size = b2) := by omega
      have np_3 : ¬ (b2 = wr.heap.size + 1) := by omega
      have pn_3 : ¬ (wr.heap.size + 1 = b2) := by omega
      clear hcr hfr d2_0_0 d2_0_1 d2_1_0 d2_1_1 y1 y2 y3 y4
      have zz : z = 0 ∨ z = 1 ∨ z = 2 ∨ z = 3 ∨ z = 4 ∨ z = 5 ∨ z = 6 := by omega
      clear z1 z2
      rcases zz with rfl | rfl | rfl | rfl | rfl | rfl | rfl
      · clear H1 G1 N1 H2 G2 N2 H3 G3 N3 H4 G4 N4 H5 G5 N5
        go_wp2_with fail
        refine (add_any a b c d _).mono ?_
        rintro e wA ⟨rfl, hbA⟩
        obtain ⟨hcA, hfA⟩ := bcell hbA
        have hzA := hbA.size
        try simp at hzA
        have hwA : Below w2.heap.size w2 wA := Below.trans (by repeat (first | exact hbr | refine Below.drew ?_ | refine bdrewN ?_ _ | refine Below.setCell ?_ (by first | omega | (simp <;> omega)) _ | refine Below.alloc ?_ (by first | omega | (simp <;> omega)) _)) (hbA.mono (by first | omega | (simp <;> omega)))
        have dA_0_0 : wA.cell? ⟨w.heap.size, 0, none⟩ = some (.int .i64 a) := (hcA _ _ (by first | omega | (simp <;> omega))).trans (by first | (simp [go_sem, *]; done) | rfl)
        have dA_0_1 : wA.cell? ⟨w.heap.size, 1, none⟩ = some (.int .i64 b) := (hcA _ _ (by first | omega | (simp <;> omega))).trans (by first | (simp [go_sem, *]; done) | rfl)
        have lA_0 : w.heap.size < wA.heap.size := by omega
        have mA_0 : w.heap.size < wA.heap.size + 1 := by omega
        have dA_1_0 : wA.cell? ⟨w.heap.size + 1, 0, none⟩ = some (.int .i64 c) := (hcA _ _ (by first | omega | (simp <;> omega))).trans (by first | (simp [go_sem, *]; done) | rfl)
        have dA_1_1 : wA.cell? ⟨w.heap.size + 1, 1, none⟩ = some (.int .i64 d) := (hcA _ _ (by first | omega | (simp <;> omega))).trans (by first | (simp [go_sem, *]; done) | rfl)
        have lA_1 : w.heap.size + 1 < wA.heap.size := by omega
        have mA_1 : w.heap.size + 1 < wA.heap.size + 1 := by omega
        have dA_2_0 : wA.cell? ⟨b1, 0, none⟩ = some (.int .i64 xa) := (hcA _ _ (by first | omega | (simp <;> omega))).trans (by first | (simp [go_sem, *]; done) | rfl)
        have dA_2_1 : wA.cell? ⟨b1, 1, none⟩ = some (.int .i64 xb) := (hcA _ _ (by first | omega | (simp <;> omega))).trans (by first | (simp [go_sem, *]; done) | rfl)
        have lA_2 : b1 < wA.heap.size := by omega
        have mA_2 : b1 < wA.heap.size + 1 := by omega
        have dA_3_0 : wA.cell? ⟨b2, 0, none⟩ = some (.int .i64 ya) := (hcA _ _ (by first | omega | (simp <;> omega))).trans (by first | (simp [go_sem, *]; done) | rfl)
        have dA_3_1 : wA.cell? ⟨b2, 1, none⟩ = some (.int .i64 yb) := (hcA _ _ (by first | omega | (simp <;> omega))).trans (by first | (simp [go_sem, *]; done) | rfl)
        have lA_3 : b2 < wA.heap.size := by omega
        have mA_3 : b2 < wA.heap.size + 1 := by omega
        have dA_4_0 : wA.cell? ⟨wr.heap.size, 0, none⟩ = some (.int .i64 0) := (hcA _ _ (by first | omega | (simp <;> omega))).trans (by first | (simp [go_sem, *]; done) | rfl)
        have fA_4_0 : wA.frozen? ⟨wr.heap.size, 0, none⟩ = false := (hfA _ _ (by first | omega | (simp <;> omega))).trans (by first | (simp [go_sem, *]; done) | rfl)
        have dA_4_1 : wA.cell? ⟨wr.heap.size, 1, none⟩ = some (.int .i64 0) := (hcA _ _ (by first | omega | (simp <;> omega))).trans (by first | (simp [go_sem, *]; done) | rfl)
        have fA_4_1 : wA.frozen? ⟨wr.heap.size, 1, none⟩ = false := (hfA _ _ (by first | omega | (simp <;> omega))).trans (by first | (simp [go_sem, *]; done) | rfl)
        have lA_4 : wr.heap.size < wA.heap.size := by omega
        have mA_4 : wr.heap.size < wA.heap.size + 1 := by omega
        have dA_5_0 : wA.cell? ⟨wr.heap.size + 1, 0, none⟩ = some (.int .i64 0) := (hcA _ _ (by first | omega | (simp <;> omega))).trans (by first | (simp [go_sem, *]; done) | rfl)
        have fA_5_0 : wA.frozen? ⟨wr.heap.size + 1, 0, none⟩ = false := (hfA _ _ (by first | omega | (simp <;> omega))).trans (by first | (simp [go_sem, *]; done) | rfl)
        have dA_5_1 : wA.cell? ⟨wr.heap.size + 1, 1, none⟩ = some (.int .i64 0) := (hcA _ _ (by first | omega | (simp <;> omega))).trans (by first | (simp [go_sem, *]; done) | rfl)
        have fA_5_1 : wA.frozen? ⟨wr.heap.size + 1, 1, none⟩ = false := (hfA _ _ (by first | omega | (simp <;> omega))).trans (by first | (simp [go_sem, *]; done) | rfl)
        have lA_5 : wr.heap.size + 1 < wA.heap.size := by omega
        have mA_5 : wr.heap.size + 1 < wA.heap.size + 1 := by omega
        clear hbA hcA hfA hzA dr_0_0 dr_0_1 dr_1_0 dr_1_1 dr_2_0 dr_2_1 dr_3_0 dr_3_1
        rw [H0.out]
        go_wp2_with fail
        refine (add_any xa xb ya yb _).mono ?_
        rintro e wB ⟨rfl, hbB⟩
        obtain ⟨hcB, hfB⟩ := bcell hbB
        have hzB := hbB.size
        try simp at hzB
        have hwB : Below w2.heap.size w2 wB := Below.trans (by repeat (first | exact hwA | refine Below.drew ?_ | refine bdrewN ?_ _ | refine Below.setCell ?_ (by first | omega | (simp <;> omega)) _ | refine Below.alloc ?_ (by first | omega | (simp <;> omega)) _)) (hbB.mono (by first | omega | (simp <;> omega)))
        have dB_0_0 : wB.cell? ⟨w.heap.size, 0, none⟩ = some (.int .i64 a) := (hcB _ _ (by first | omega | (simp <;> omega))).trans (by first | (simp [go_sem, *]; done) | rfl)
        have dB_0_1 : wB.cell? ⟨w.heap.size, 1, none⟩ = some (.int .i64 b) := (hcB _ _ (by first | omega | (simp <;> omega))).trans (by first | (simp [go_sem, *]; done) | rfl)
        have lB_0 : w.heap.size < wB.heap.size := by omega
        have mB_0 : w.heap.size < wB.heap.size + 1 := by omega
        have dB_1_0 : wB.cell? ⟨w.heap.size + 1, 0, none⟩ = some (.int .i64 c) := (hcB _ _ (by first | omega | (simp <;> omega))).trans (by first | (simp [go_sem, *]; done) | rfl)
        have dB_1_1 : wB.cell? ⟨w.heap.size + 1, 1, none⟩ = some (.int .i64 d) := (hcB _ _ (by first | omega | (simp <;> omega))).trans (by first | (simp [go_sem, *]; done) | rfl)
        have lB_1 : w.heap.size + 1 < wB.heap.size := by omega
        have mB_1 : w.heap.size + 1 < wB.heap.size + 1 := by omega
        have dB_2_0 : wB.cell? ⟨b1, 0, none⟩ = some (.int .i64 xa) := (hcB _ _ (by first | omega | (simp <;> omega))).trans (by first | (simp [go_sem, *]; done) | rfl)
        have dB_2_1 : wB.cell? ⟨b1, 1, none⟩ = some (.int .i64 xb) := (hcB _ _ (by first | omega | (simp <;> omega))).trans (by first | (simp [go_sem, *]; done) | rfl)
        have lB_2 : b1 < wB.heap.size := by omega
        have mB_2 : b1 < wB.heap.size + 1 := by omega
        have dB_3_0 : wB.cell? ⟨b2, 0, none⟩ = some (.int .i64 ya) := (hcB _ _ (by first | omega | (simp <;> omega))).trans (by first | (simp [go_sem, *]; done) | rfl)
        have dB_3_1 : wB.cell? ⟨b2, 1, none⟩ = some (.int .i64 yb) := (hcB _ _ (by first | omega | (simp <;> omega))).trans (by first | (simp [go_sem, *]; done) | rfl)
        have lB_3 : b2 < wB.heap.size := by omega
        have mB_3 : b2 < wB.heap.size + 1 := by omega
        have dB_4_0 : wB.cell? ⟨wr.heap.size, 0, none⟩ = some (.int .i64 0) := (hcB _ _ (by first | omega | (simp <;> omega))).trans (by first | (simp [go_sem, *]; done) | rfl)
        have fB_4_0 : wB.frozen? ⟨wr.heap.size, 0, none⟩ = false := (hfB _ _ (by first | omega | (simp <;> omega))).trans (by first | (simp [go_sem, *]; done) | rfl)
        have dB_4_1 : wB.cell? ⟨wr.heap.size, 1, none⟩ = some (.int .i64 0) := (hcB _ _ (by first | omega | (simp <;> omega))).trans (by first | (simp [go_sem, *]; done) | rfl)
        have fB_4_1 : wB.frozen? ⟨wr.heap.size, 1, none⟩ = false := (hfB _ _ (by first | omega | (simp <;> omega))).trans (by first | (simp [go_sem, *]; done) | rfl)
        have lB_4 : wr.heap.size < wB.heap.size := by omega
        have mB_4 : wr.heap.size < wB.heap.size + 1 := by omega
        have dB_5_0 : wB.cell? ⟨wr.heap.size + 1, 0, none⟩ = some (.int .i64 p0) := (hcB _ _ (by first | omega | (simp <;> omega))).trans (by first | (simp [go_sem, *]; done) | rfl)
        have fB_5_0 : wB.frozen? ⟨wr.heap.size + 1, 0, none⟩ = false := (hfB _ _ (by first | omega | (simp <;> omega))).trans (by first | (simp [go_sem, *]; done) | rfl)
        have dB_5_1 : wB.cell? ⟨wr.heap.size + 1, 1, none⟩ = some (.int .i64 q0) := (hcB _ _ (by first | omega | (simp <;> omega))).trans (by first | (simp [go_sem, *]; done) | rfl)
        have fB_5_1 : wB.frozen? ⟨wr.heap.size + 1, 1, none⟩ = false := (hfB _ _ (by first | omega | (simp <;> omega))).trans (by first | (simp [go_sem, *]; done) | rfl)
        have lB_5 : wr.heap.size + 1 < wB.heap.size := by omega
        have mB_5 : wr.heap.size + 1 < wB.heap.size + 1 := by omega
        clear hbB hcB hfB hzB dA_0_0 dA_0_1 lA_0 mA_0 dA_1_0 dA_1_1 lA_1 mA_1 dA_2_0 dA_2_1 lA_2 mA_2 dA_3_0 dA_3_1 lA_3 mA_3 dA_4_0 fA_4_0 dA_4_1 fA_4_1 lA_4 mA_4 dA_5_0 fA_5_0 dA_5_1 fA_5_1 lA_5 mA_5
        rw [G0.out]
        by_cases he : e0 = 0
        · subst he
          obtain ⟨n1, n2⟩ := N0.out rfl
          subst n1
          have NZ := Lib.hid n2
          clear n2
          go_wp2_with fail
          refine (inside_any _ _ _ _ _).mono ?_
          rintro e wI ⟨rfl, hbI⟩
          rw [NZ.out]
          have hwI : Below w2.heap.size w2 wI := Below.trans (by repeat (first | exact hwB | refine Below.drew ?_ | refine bdrewN ?_ _ | refine Below.setCell ?_ (by first | omega | (simp <;> omega)) _ | refine Below.alloc ?_ (by first | omega | (simp <;> omega)) _)) (hbI.mono (by first | omega | (simp <;> omega)))
          go_wp2
          go_roundw
          case rel => exact ⟨1, rfl, by decide, by decide, by repeat (first | exact hwI | refine Below.drew ?_ | refine bdrewN ?_ _ | refine Below.setCell ?_ (by first | omega | (simp <;> omega)) _ | refine Below.alloc ?_ (by first | omega | (simp <;> omega)) _)⟩
          case measure => simp [RowKit.intOf]
        · have he' : (e0 == 0) = false := by simpa using he
          go_wp2
          go_roundw
          case rel => exact ⟨1, rfl, by decide, by decide, by repeat (first | exact hwB | refine Below.drew ?_ | refine bdrewN ?_ _ | refine Below.setCell ?_ (by first | omega | (simp <;> omega)) _ | refine Below.alloc ?_ (by first | omega | (simp <;> omega)) _)⟩
          case measure => simp [RowKit.intOf]
      · clear H0 G0 N0 H2 G2 N2 H3 G3 N3 H4 G4 N4 H5 G5 N5
        go_wp2_with fail
        refine (sub_any a b c d _).mono ?_
        rintro e wA ⟨rfl, hbA⟩
        obtain ⟨hcA, hfA⟩ := bcell hbA
        have hzA := hbA.size
        try simp at hzA
        have hwA : Below w2.heap.size w2 wA := Below.trans (by repeat (first | exact hbr | refine Below.drew ?_ | refine bdrewN ?_ _ | refine Below.setCell ?_ (by first | omega | (simp <;> omega)) _ | refine Below.alloc ?_ (by first | omega | (simp <;> omega)) _)) (hbA.mono (by first | omega | (simp <;> omega)))
        have dA_0_0 : wA.cell? ⟨w.heap.size, 0, none⟩ = some (.int .i64 a) := (hcA _ _ (by first | omega | (simp <;> omega))).trans (by first | (simp [go_sem, *]; done) | rfl)
        have dA_0_1 : wA.cell? ⟨w.heap.size, 1, none⟩ = some (.int .i64 b) := (hcA _ _ (by first | omega | (simp <;> omega))).trans (by first | (simp [go_sem, *]; done) | rfl)
        have lA_0 : w.heap.size < wA.heap.size := by omega
        have mA_0 : w.heap.size < wA.heap.size + 1 := by omega
        have dA_1_0 : wA.cell? ⟨w.heap.size + 1, 0, none⟩ = some (.int .i64 c) := (hcA _ _ (by first | omega | (simp <;> omega))).trans (by first | (simp [go_sem, *]; done) | rfl)
        have dA_1_1 : wA.cell? ⟨w.heap.size + 1, 1, none⟩ = some (.int .i64 d) := (hcA _ _ (by first | omega | (simp <;> omega))).trans (by first | (simp [go_sem, *]; done) | rfl)
        have lA_1 : w.heap.size + 1 < wA.heap.size := by omega
        have mA_1 : w.heap.size + 1 < wA.heap.size + 1 := by omega
        have dA_2_0 : wA.cell? ⟨b1, 0, none⟩ = some (.int .i64 xa) := (hcA _ _ (by first | omega | (simp <;> omega))).trans (by first | (simp [go_sem, *]; done) | rfl)
        have dA_2_1 : wA.cell? ⟨b1, 1, none⟩ = some (.int .i64 xb) := (hcA _ _ (by first | omega | (simp <;> omega))).trans (by first | (simp [go_sem, *]; done) | rfl)
        have lA_2 : b1 < wA.heap.size := by omega
        have mA_2 : b1 < wA.heap.size + 1 := by omega
        have dA_3_0 : wA.cell? ⟨b2, 0, none⟩ = some (.int .i64 ya) := (hcA _ _ (by first | omega | (simp <;> omega))).trans (by first | (simp [go_sem, *]; done) | rfl)
        have dA_3_1 : wA.cell? ⟨b2, 1, none⟩ = some (.int .i64 yb) := (hcA _ _ (by first | omega | (simp <;> omega))).trans (by first | (simp [go_sem, *]; done) | rfl)
        have lA_3 : b2 < wA.heap.size := by omega
        have mA_3 : b2 < wA.heap.size + 1 := by omega
        have dA_4_0 : wA.cell? ⟨wr.heap.size, 0, none⟩ = some (.int .i64 0) := (hcA _ _ (by first | omega | (simp <;> omega))).trans (by first | (simp [go_sem, *]; done) | rfl)
        have fA_4_0 : wA.frozen? ⟨wr.heap.size, 0, none⟩ = false := (hfA _ _ (by first | omega | (simp <;> omega))).trans (by first | (simp [go_sem, *]; done) | rfl)
        have dA_4_1 : wA.cell? ⟨wr.heap.size, 1, none⟩ = some (.int .i64 0) := (hcA _ _ (by first | omega | (simp <;> omega))).trans (by first | (simp [go_sem, *]; done) | rfl)
        have fA_4_1 : wA.frozen? ⟨wr.heap.size, 1, none⟩ = false := (hfA _ _ (by first | omega | (simp <;> omega))).trans (by first | (simp [go_sem, *]; done) | rfl)
        have lA_4 : wr.heap.size < wA.heap.size := by omega
        have mA_4 : wr.heap.size < wA.heap.size + 1 := by omega
        have dA_5_0 : wA.cell? ⟨wr.heap.size + 1, 0, none⟩ = some (.int .i64 0) := (hcA _ _ (by first | omega | (simp <;> omega))).trans (by first | (simp [go_sem, *]; done) | rfl)
        have fA_5_0 : wA.frozen? ⟨wr.heap.size + 1, 0, none⟩ = false := (hfA _ _ (by first | omega | (simp <;> omega))).trans (by first | (simp [go_sem, *]; done) | rfl)
        have dA_5_1 : wA.cell? ⟨wr.heap.size + 1, 1, none⟩ = some (.int .i64 0) := (hcA _ _ (by first | omega | (simp <;> omega))).trans (by first | (simp [go_sem, *]; done) | rfl)
        have fA_5_1 : wA.frozen? ⟨wr.heap.size + 1, 1, none⟩ = false := (hfA _ _ (by first | omega | (simp <;> omega))).trans (by first | (simp [go_sem, *]; done) | rfl)
        have lA_5 : wr.heap.size + 1 < wA.heap.size := by omega
        have mA_5 : wr.heap.size + 1 < wA.heap.size + 1 := by omega
        clear hbA hcA hfA hzA dr_0_0 dr_0_1 dr_1_0 dr_1_1 dr_2_0 dr_2_1 dr_3_0 dr_3_1
        rw [H1.out]
        go_wp2_with fail
        refine (sub_any xa xb ya yb _).mono ?_
        rintro e wB ⟨rfl, hbB⟩
        obtain ⟨hcB, hfB⟩ := bcell hbB
        have hzB := hbB.size
        try simp at hzB
        have hwB : Below w2.heap.size w2 wB := Below.trans (by repeat (first | exact hwA | refine Below.drew ?_ | refine bdrewN ?_ _ | refine Below.setCell ?_ (by first | omega | (simp <;> omega)) _ | refine Below.alloc ?_ (by first | omega | (simp <;> omega)) _)) (hbB.mono (by first | omega | (simp <;> omega)))
        have dB_0_0 : wB.cell? ⟨w.heap.size, 0, none⟩ = some (.int .i64 a) := (hcB _ _ (by first | omega | (simp <;> omega))).trans (by first | (simp [go_sem, *]; done) | rfl)
        have dB_0_1 : wB.cell? ⟨w.heap.size, 1, none⟩ = some (.int .i64 b) := (hcB _ _ (by first | omega | (simp <;> omega))).trans (by first | (simp [go_sem, *]; done) | rfl)
        have lB_0 : w.heap.size < wB.heap.size := by omega
        have mB_0 : w.heap.size < wB.heap.size + 1 := by omega
        have dB_1_0 : wB.cell? ⟨w.heap.size + 1, 0, none⟩ = some (.int .i64 c) := (hcB _ _ (by first | omega | (simp <;> omega))).trans (by first | (simp [go_sem, *]; done) | rfl)
        have dB_1_1 : wB.cell? ⟨w.heap.size + 1, 1, none⟩ = some (.int .i64 d) := (hcB _ _ (by first | omega | (simp <;> omega))).trans (by first | (simp [go_sem, *]; done) | rfl)
        have lB_1 : w.heap.size + 1 < wB.heap.size := by omega
        have mB_1 : w.heap.size + 1 < wB.heap.size + 1 := by omega
        have dB_2_0 : wB.cell? ⟨b1, 0, none⟩ = some (.int .i64 xa) := (hcB _ _ (by first | omega | (simp <;> omega))).trans (by first | (simp [go_sem, *]; done) | rfl)
        have dB_2_1 : wB.cell? ⟨b1, 1, none⟩ = some (.int .i64 xb) := (hcB _ _ (by first | omega | (simp <;> omega))).trans (by first | (simp [go_sem, *]; done) | rfl)
        have lB_2 : b1 < wB.heap.size := by omega
        have mB_2 : b1 < wB.heap.size + 1 := by omega
        have dB_3_0 : wB.cell? ⟨b2, 0, none⟩ = some (.int .i64 ya) := (hcB _ _ (by first | omega | (simp <;> omega))).trans (by first | (simp [go_sem, *]; done) | rfl)
        have dB_3_1 : wB.cell? ⟨b2, 1, none⟩ = some (.int .i64 yb) := (hcB _ _ (by first | omega | (simp <;> omega))).trans (by first | (simp [go_sem, *]; done) | rfl)
        have lB_3 : b2 < wB.heap.size := by omega
        have mB_3 : b2 < wB.heap.size + 1 := by omega
        have dB_4_0 : wB.cell? ⟨wr.heap.size, 0, none⟩ = some (.int .i64 0) := (hcB _ _ (by first | omega | (simp <;> omega))).trans (by first | (simp [go_sem, *]; done) | rfl)
        have fB_4_0 : wB.frozen? ⟨wr.heap.size, 0, none⟩ = false := (hfB _ _ (by first | omega | (simp <;> omega))).trans (by first | (simp [go_sem, *]; done) | rfl)
        have dB_4_1 : wB.cell? ⟨wr.heap.size, 1, none⟩ = some (.int .i64 0) := (hcB _ _ (by first | omega | (simp <;> omega))).trans (by first | (simp [go_sem, *]; done) | rfl)
        have fB_4_1 : wB.frozen? ⟨wr.heap.size, 1, none⟩ = false := (hfB _ _ (by first | omega | (simp <;> omega))).trans (by first | (simp [go_sem, *]; done) | rfl)
        have lB_4 : wr.heap.size < wB.heap.size := by omega
        have mB_4 : wr.heap.size < wB.heap.size + 1 := by omega
        have dB_5_0 : wB.cell? ⟨wr.heap.size + 1, 0, none⟩ = some (.int .i64 p1) := (hcB _ _ (by first | omega | (simp <;> omega))).trans (by first | (simp [go_sem, *]; done) | rfl)
        have fB_5_0 : wB.frozen? ⟨wr.heap.size + 1, 0, none⟩ = false := (hfB _ _ (by first | omega | (simp <;> omega))).trans (by first | (simp [go_sem, *]; done) | rfl)
        have dB_5_1 : wB.cell? ⟨wr.heap.size + 1, 1, none⟩ = some (.int .i64 q1) := (hcB _ _ (by first | omega | (simp <;> omega))).trans (by first | (simp [go_sem, *]; done) | rfl)
        have fB_5_1 : wB.frozen? ⟨wr.heap.size + 1, 1, none⟩ = false := (hfB _ _ (by first | omega | (simp <;> omega))).trans (by first | (simp [go_sem, *]; done) | rfl)
        have lB_5 : wr.heap.size + 1 < wB.heap.size := by omega
        have mB_5 : wr.heap.size + 1 < wB.heap.size + 1 := by omega
        clear hbB hcB hfB hzB dA_0_0 dA_0_1 lA_0 mA_0 dA_1_0 dA_1_1 lA_1 mA_1 dA_2_0 dA_2_1 lA_2 mA_2 dA_3_0 dA_3_1 lA_3 mA_3 dA_4_0 fA_4_0 dA_4_1 fA_4_1 lA_4 mA_4 dA_5_0 fA_5_0 dA_5_1 fA_5_1 lA_5 mA_5
        rw [G1.out]
        by_cases he : e1 = 0
        · subst he
          obtain ⟨n1, n2⟩ := N1.out rfl
          subst n1
          have NZ := Lib.hid n2
          clear n2
          go_wp2_with fail
          refine (inside_any _ _ _ _ _).mono ?_
          rintro e wI ⟨rfl, hbI⟩
          rw [NZ.out]
          have hwI : Below w2.heap.size w2 wI := Below.trans (by repeat (first | exact hwB | refine Below.drew ?_ | refine bdrewN ?_ _ | refine Below.setCell ?_ (by first | omega | (simp <;> omega)) _ | refine Below.alloc ?_ (by first | omega | (simp <;> omega)) _)) (hbI.mono (by first | omega | (simp <;> omega)))
          go_wp2
          go_roundw
          case rel => exact ⟨2, rfl, by decide, by decide, by repeat (first | exact hwI | refine Below.drew ?_ | refine bdrewN ?_ _ | refine Below.setCell ?_ (by first | omega | (simp <;> omega)) _ | refine Below.alloc ?_ (by first | omega | (simp <;> omega)) _)⟩
          case measure => simp [RowKit.intOf]
        · have he' : (e1 == 0) = false := by simpa using he
          go_wp2
          go_roundw
          case rel => exact ⟨2, rfl, by decide, by decide, by repeat (first | exact hwB | refine Below.drew ?_ | refine bdrewN ?_ _ | refine Below.setCell ?_ (by first | omega | (simp <;> omega)) _ | refine Below.alloc ?_ (by first | omega | (simp <;> omega)) _)⟩
          case measure => simp [RowKit.intOf]
      · clear H0 G0 N0 H1 G1 N1 H3 G3 N3 H4 G4 N4 H5 G5 N5
        go_wp2_with fail
        refine (mul_any a b c d _).mono ?_
        rintro e wA ⟨rfl, hbA⟩
        obtain ⟨hcA, hfA⟩ := bcell hbA
        have hzA := hbA.size
        try simp at hzA
        have hwA : Below w2.heap.size w2 wA := Below.trans (by repeat (first | exact hbr | refine Below.drew ?_ | refine bdrewN ?_ _ | refine Below.setCell ?_ (by first | omega | (simp <;> omega)) _ | refine Below.alloc ?_ (by first | omega | (simp <;> omega)) _)) (hbA.mono (by first | omega | (simp <;> omega)))
        have dA_0_0 : wA.cell? ⟨w.heap.size, 0, none⟩ = some (.int .i64 a) := (hcA _ _ (by first | omega | (simp <;> omega))).trans (by first | (simp [go_sem, *]; done) | rfl)
        have dA_0_1 : wA.cell? ⟨w.heap.size, 1, none⟩ = some (.int .i64 b) := (hcA _ _ (by first | omega | (simp <;> omega))).trans (by first | (simp [go_sem, *]; done) | rfl)
        have lA_0 : w.heap.size < wA.heap.size := by omega
        have mA_0 : w.heap.size < wA.heap.size + 1 := by omega
        have dA_1_0 : wA.cell? ⟨w.heap.size + 1, 0, none⟩ = some (.int .i64 c) := (hcA _ _ (by first | omega | (simp <;> omega))).trans (by first | (simp [go_sem, *]; done) | rfl)
        have dA_1_1 : wA.cell? ⟨w.heap.size + 1, 1, none⟩ = some (.int .i64 d) := (hcA _ _ (by first | omega | (simp <;> omega))).trans (by first | (simp [go_sem, *]; done) | rfl)
        have lA_1 : w.heap.size + 1 < wA.heap.size := by omega
        have mA_1 : w.heap.size + 1 < wA.heap.size + 1 := by omega
        have dA_2_0 : wA.cell? ⟨b1, 0, none⟩ = some (.int .i64 xa) := (hcA _ _ (by first | omega | (simp <;> omega))).trans (by first | (simp [go_sem, *]; done) | rfl)
        have dA_2_1 : wA.cell? ⟨b1, 1, none⟩ = some (.int .i64 xb) := (hcA _ _ (by first | omega | (simp <;> omega))).trans (by first | (simp [go_sem, *]; done) | rfl)
        have lA_2 : b1 < wA.heap.size := by omega
        have mA_2 : b1 < wA.heap.size + 1 := by omega
        have dA_3_0 : wA.cell? ⟨b2, 0, none⟩ = some (.int .i64 ya) := (hcA _ _ (by first | omega | (simp <;> omega))).trans (by first | (simp [go_sem, *]; done) | rfl)
        have dA_3_1 : wA.cell? ⟨b2, 1, none⟩ = some (.int .i64 yb) := (hcA _ _ (by first | omega | (simp <;> omega))).trans (by first | (simp [go_sem, *]; done) | rfl)
        have lA_3 : b2 < wA.heap.size := by omega
        have mA_3 : b2 < wA.heap.size + 1 := by omega
        have dA_4_0 : wA.cell? ⟨wr.heap.size, 0, none⟩ = some (.int .i64 0) := (hcA _ _ (by first | omega | (simp <;> omega))).trans (by first | (simp [go_sem, *]; done) | rfl)
        have fA_4_0 : wA.frozen? ⟨wr.heap.size, 0, none⟩ = false := (hfA _ _ (by first | omega | (simp <;> omega))).trans (by first | (simp [go_sem, *]; done) | rfl)
        have dA_4_1 : wA.cell? ⟨wr.heap.size, 1, none⟩ = some (.int .i64 0) := (hcA _ _ (by first | omega | (simp <;> omega))).trans (by first | (simp [go_sem, *]; done) | rfl)
        have fA_4_1 : wA.frozen? ⟨wr.heap.size, 1, none⟩ = false := (hfA _ _ (by first | omega | (simp <;> omega))).trans (by first | (simp [go_sem, *]; done) | rfl)
        have lA_4 : wr.heap.size < wA.heap.size := by omega
        have mA_4 : wr.heap.size < wA.heap.size + 1 := by omega
        have dA_5_0 : wA.cell? ⟨wr.heap.size + 1, 0, none⟩ = some (.int .i64 0) := (hcA _ _ (by first | omega | (simp <;> omega))).trans (by first | (simp [go_sem, *]; done) | rfl)
        have fA_5_0 : wA.frozen? ⟨wr.heap.size + 1, 0, none⟩ = false := (hfA _ _ (by first | omega | (simp <;> omega))).trans (by first | (simp [go_sem, *]; done) | rfl)
        have dA_5_1 : wA.cell? ⟨wr.heap.size + 1, 1, none⟩ = some (.int .i64 0) := (hcA _ _ (by first | omega | (simp <;> omega))).trans (by first | (simp [go_sem, *]; done) | rfl)
        have fA_5_1 : wA.frozen? ⟨wr.heap.size + 1, 1, none⟩ = false := (hfA _ _ (by first | omega | (simp <;> omega))).trans (by first | (simp [go_sem, *]; done) | rfl)
        have lA_5 : wr.heap.size + 1 < wA.heap.size := by omega
        have mA_5 : wr.heap.size + 1 < wA.heap.size + 1 := by omega
        clear hbA hcA hfA hzA dr_0_0 dr_0_1 dr_1_0 dr_1_1 dr_2_0 dr_2_1 dr_3_0 dr_3_1
        rw [H2.out]
        go_wp2_with fail
        refine (mul_any xa xb ya yb _).mono ?_
        rintro e wB ⟨rfl, hbB⟩
        obtain ⟨hcB, hfB⟩ := bcell hbB
        have hzB := hbB.size
        try simp at hzB
        have hwB : Below w2.heap.size w2 wB := Below.trans (by repeat (first | exact hwA | refine Below.drew ?_ | refine bdrewN ?_ _ | refine Below.setCell ?_ (by first | omega | (simp <;> omega)) _ | refine Below.alloc ?_ (by first | omega | (simp <;> omega)) _)) (hbB.mono (by first | omega | (simp <;> omega)))
        have dB_0_0 : wB.cell? ⟨w.heap.size, 0, none⟩ = some (.int .i64 a) := (hcB _ _ (by first | omega | (simp <;> omega))).trans (by first | (simp [go_sem, *]; done) | rfl)
        have dB_0_1 : wB.cell? ⟨w.heap.size, 1, none⟩ = some (.int .i64 b) := (hcB _ _ (by first | omega | (simp <;> omega))).trans (by first | (simp [go_sem, *]; done) | rfl)
        have lB_0 : w.heap.size < wB.heap.size := by omega
        have mB_0 : w.heap.size < wB.heap.size + 1 := by omega
        have dB_1_0 : wB.cell? ⟨w.heap.size + 1, 0, none⟩ = some (.int .i64 c) := (hcB _ _ (by first | omega | (simp <;> omega))).trans (by first | (simp [go_sem, *]; done) | rfl)
        have dB_1_1 : wB.cell? ⟨w.heap.size + 1, 1, none⟩ = some (.int .i64 d) := (hcB _ _ (by first | omega | (simp <;> omega))).trans (by first | (simp [go_sem, *]; done) | rfl)
        have lB_1 : w.heap.size + 1 < wB.heap.size := by omega
        have mB_1 : w.heap.size + 1 < wB.heap.size + 1 := by omega
        have dB_2_0 : wB.cell? ⟨b1, 0, none⟩ = some (.int .i64 xa) := (hcB _ _ (by first | omega | (simp <;> omega))).trans (by first | (simp [go_sem, *]; done) | rfl)
        have dB_2_1 : wB.cell? ⟨b1, 1, none⟩ = some (.int .i64 xb) := (hcB _ _ (by first | omega | (simp <;> omega))).trans (by first | (simp [go_sem, *]; done) | rfl)
        have lB_2 : b1 < wB.heap.size := by omega
        have mB_2 : b1 < wB.heap.size + 1 := by omega
        have dB_3_0 : wB.cell? ⟨b2, 0, none⟩ = some (.int .i64 ya) := (hcB _ _ (by first | omega | (simp <;> omega))).trans (by first | (simp [go_sem, *]; done) | rfl)
        have dB_3_1 : wB.cell? ⟨b2, 1, none⟩ = some (.int .i64 yb) := (hcB _ _ (by first | omega | (simp <;> omega))).trans (by first | (simp [go_sem, *]; done) | rfl)
        have lB_3 : b2 < wB.heap.size := by omega
        have mB_3 : b2 < wB.heap.size + 1 := by omega
        have dB_4_0 : wB.cell? ⟨wr.heap.size, 0, none⟩ = some (.int .i64 0) := (hcB _ _ (by first | omega | (simp <;> omega))).trans (by first | (simp [go_sem, *]; done) | rfl)
        have fB_4_0 : wB.frozen? ⟨wr.heap.size, 0, none⟩ = false := (hfB _ _ (by first | omega | (simp <;> omega))).trans (by first | (simp [go_sem, *]; done) | rfl)
        have dB_4_1 : wB.cell? ⟨wr.heap.size, 1, none⟩ = some (.int .i64 0) := (hcB _ _ (by first | omega | (simp <;> omega))).trans (by first | (simp [go_sem, *]; done) | rfl)
        have fB_4_1 : wB.frozen? ⟨wr.heap.size, 1, none⟩ = false := (hfB _ _ (by first | omega | (simp <;> omega))).trans (by first | (simp [go_sem, *]; done) | rfl)
        have lB_4 : wr.heap.size < wB.heap.size := by omega
        have mB_4 : wr.heap.size < wB.heap.size + 1 := by omega
        have dB_5_0 : wB.cell? ⟨wr.heap.size + 1, 0, none⟩ = some (.int .i64 p2) := (hcB _ _ (by first | omega | (simp <;> omega))).trans (by first | (simp [go_sem, *]; done) | rfl)
        have fB_5_0 : wB.frozen? ⟨wr.heap.size + 1, 0, none⟩ = false := (hfB _ _ (by first | omega | (simp <;> omega))).trans (by first | (simp [go_sem, *]; done) | rfl)
        have dB_5_1 : wB.cell? ⟨wr.heap.size + 1, 1, none⟩ = some (.int .i64 q2) := (hcB _ _ (by first | omega | (simp <;> omega))).trans (by first | (simp [go_sem, *]; done) | rfl)
        have fB_5_1 : wB.frozen? ⟨wr.heap.size + 1, 1, none⟩ = false := (hfB _ _ (by first | omega | (simp <;> omega))).trans (by first | (simp [go_sem, *]; done) | rfl)
        have lB_5 : wr.heap.size + 1 < wB.heap.size := by omega
        have mB_5 : wr.heap.size + 1 < wB.heap.size + 1 := by omega
        clear hbB hcB hfB hzB dA_0_0 dA_0_1 lA_0 mA_0 dA_1_0 dA_1_1 lA_1 mA_1 dA_2_0 dA_2_1 lA_2 mA_2 dA_3_0 dA_3_1 lA_3 mA_3 dA_4_0 fA_4_0 dA_4_1 fA_4_1 lA_4 mA_4 dA_5_0 fA_5_0 dA_5_1 fA_5_1 lA_5 mA_5
        rw [G2.out]
        by_cases he : e2 = 0
        · subst he
          obtain ⟨n1, n2⟩ := N2.out rfl
          subst n1
          have NZ := Lib.hid n2
          clear n2
          go_wp2_with fail
          refine (inside_any _ _ _ _ _).mono ?_
          rintro e wI ⟨rfl, hbI⟩
          rw [NZ.out]
          have hwI : Below w2.heap.size w2 wI := Below.trans (by repeat (first | exact hwB | refine Below.drew ?_ | refine bdrewN ?_ _ | refine Below.setCell ?_ (by first | omega | (simp <;> omega)) _ | refine Below.alloc ?_ (by first | omega | (simp <;> omega)) _)) (hbI.mono (by first | omega | (simp <;> omega)))
          go_wp2
          go_roundw
          case rel => exact ⟨3, rfl, by decide, by decide, by repeat (first | exact hwI | refine Below.drew ?_ | refine bdrewN ?_ _ | refine Below.setCell ?_ (by first | omega | (simp <;> omega)) _ | refine Below.alloc ?_ (by first | omega | (simp <;> omega)) _)⟩
          case measure => simp [RowKit.intOf]
        · have he' : (e2 == 0) = false := by simpa using he
          go_wp2
          go_roundw
          case rel => exact ⟨3, rfl, by decide, by decide, by repeat (first | exact hwB | refine Below.drew ?_ | refine bdrewN ?_ _ | refine Below.setCell ?_ (by first | omega | (simp <;> omega)) _ | refine Below.alloc ?_ (by first | omega | (simp <;> omega)) _)⟩
          case measure => simp [RowKit.intOf]
      · clear H0 G0 N0 H1 G1 N1 H2 G2 N2 H4 G4 N4 H5 G5 N5
        go_wp2_with fail
        refine (div_any a b c d _).mono ?_
        rintro e wA ⟨rfl, hbA⟩
        obtain ⟨hcA, hfA⟩ := bcell hbA
        have hzA := hbA.size
        try simp at hzA
        have hwA : Below w2.heap.size w2 wA := Below.trans (by repeat (first | exact hbr | refine Below.drew ?_ | refine bdrewN ?_ _ | refine Below.setCell ?_ (by first | omega | (simp <;> omega)) _ | refine Below.alloc ?_ (by first | omega | (simp <;> omega)) _)) (hbA.mono (by first | omega | (simp <;> omega)))
        have dA_0_0 : wA.cell? ⟨w.heap.size, 0, none⟩ = some (.int .i64 a) := (hcA _ _ (by first | omega | (simp <;> omega))).trans (by first | (simp [go_sem, *]; done) | rfl)
        have dA_0_1 : wA.cell? ⟨w.heap.size, 1, none⟩ = some (.int .i64 b) := (hcA _ _ (by first | omega | (simp <;> omega))).trans (by first | (simp [go_sem, *]; done) | rfl)
        have lA_0 : w.heap.size < wA.heap.size := by omega
        have mA_0 : w.heap.size < wA.heap.size + 1 := by omega
        have dA_1_0 : wA.cell? ⟨w.heap.size + 1, 0, none⟩ = some (.int .i64 c) := (hcA _ _ (by first | omega | (simp <;> omega))).trans (by first | (simp [go_sem, *]; done) | rfl)
        have dA_1_1 : wA.cell? ⟨w.heap.size + 1, 1, none⟩ = some (.int .i64 d) := (hcA _ _ (by first | omega | (simp <;> omega))).trans (by first | (simp [go_sem, *]; done) | rfl)
        have lA_1 : w.heap.size + 1 < wA.heap.size := by omega
        have mA_1 : w.heap.size + 1 < wA.heap.size + 1 := by omega
        have dA_2_0 : wA.cell? ⟨b1, 0, none⟩ = some (.int .i64 xa) := (hcA _ _ (by first | omega | (simp <;> omega))).trans (by first | (simp [go_sem, *]; done) | rfl)
        have dA_2_1 : wA.cell? ⟨b1, 1, none⟩ = some (.int .i64 xb) := (hcA _ _ (by first | omega | (simp <;> omega))).trans (by first | (simp [go_sem, *]; done) | rfl)
        have lA_2 : b1 < wA.heap.size := by omega
        have mA_2 : b1 < wA.heap.size + 1 := by omega
        have dA_3_0 : wA.cell? ⟨b2, 0, none⟩ = some (.int .i64 ya) := (hcA _ _ (by first | omega | (simp <;> omega))).trans (by first | (simp [go_sem, *]; done) | rfl)
        have dA_3_1 : wA.cell? ⟨b2, 1, none⟩ = some (.int .i64 yb) := (hcA _ _ (by first | omega | (simp <;> omega))).trans (by first | (simp [go_sem, *]; done) | rfl)
        have lA_3 : b2 < wA.heap.size := by omega
        have mA_3 : b2 < wA.heap.size + 1 := by omega
        have dA_4_0 : wA.cell? ⟨wr.heap.size, 0, none⟩ = some (.int .i64 0) := (hcA _ _ (by first | omega | (simp <;> omega))).trans (by first | (simp [go_sem, *]; done) | rfl)
        have fA_4_0 : wA.frozen? ⟨wr.heap.size, 0, none⟩ = false := (hfA _ _ (by first | omega | (simp <;> omega))).trans (by first | (simp [go_sem, *]; done) | rfl)
        have dA_4_1 : wA.cell? ⟨wr.heap.size, 1, none⟩ = some (.int .i64 0) := (hcA _ _ (by first | omega | (simp <;> omega))).trans (by first | (simp [go_sem, *]; done) | rfl)
        have fA_4_1 : wA.frozen? ⟨wr.heap.size, 1, none⟩ = false := (hfA _ _ (by first | omega | (simp <;> omega))).trans (by first | (simp [go_sem, *]; done) | rfl)
        have lA_4 : wr.heap.size < wA.heap.size := by omega
        have mA_4 : wr.heap.size < wA.heap.size + 1 := by omega
        have dA_5_0 : wA.cell? ⟨wr.heap.size + 1, 0, none⟩ = some (.int .i64 0) := (hcA _ _ (by first | omega | (simp <;> omega))).trans (by first | (simp [go_sem, *]; done) | rfl)
        have fA_5_0 : wA.frozen? ⟨wr.heap.size + 1, 0, none⟩ = false := (hfA _ _ (by first | omega | (simp <;> omega))).trans (by first | (simp [go_sem, *]; done) | rfl)
        have dA_5_1 : wA.cell? ⟨wr.heap.size + 1, 1, none⟩ = some (.int .i64 0) := (hcA _ _ (by first | omega | (simp <;> omega))).trans (by first | (simp [go_sem, *]; done) | rfl)
        have fA_5_1 : wA.frozen? ⟨wr.heap.size + 1, 1, none⟩ = false := (hfA _ _ (by first | omega | (simp <;> omega))).trans (by first | (simp [go_sem, *]; done) | rfl)
        have lA_5 : wr.heap.size + 1 < wA.heap.size := by omega
        have mA_5 : wr.heap.size + 1 < wA.heap.size + 1 := by omega
        clear hbA hcA hfA hzA dr_0_0 dr_0_1 dr_1_0 dr_1_1 dr_2_0 dr_2_1 dr_3_0 dr_3_1
        rw [H3.out]
        go_wp2_with fail
        refine (div_any xa xb ya yb _).mono ?_
        rintro e wB ⟨rfl, hbB⟩
        obtain ⟨hcB, hfB⟩ := bcell hbB
        have hzB := hbB.size
        try simp at hzB
        have hwB : Below w2.heap.size w2 wB := Below.trans (by repeat (first | exact hwA | refine Below.drew ?_ | refine bdrewN ?_ _ | refine Below.setCell ?_ (by first | omega | (simp <;> omega)) _ | refine Below.alloc ?_ (by first | omega | (simp <;> omega)) _)) (hbB.mono (by first | omega | (simp <;> omega)))
        have dB_0_0 : wB.cell? ⟨w.heap.size, 0, none⟩ = some (.int .i64 a) := (hcB _ _ (by first | omega | (simp <;> omega))).trans (by first | (simp [go_sem, *]; done) | rfl)
        have dB_0_1 : wB.cell? ⟨w.heap.size, 1, none⟩ = some (.int .i64 b) := (hcB _ _ (by first | omega | (simp <;> omega))).trans (by first | (simp [go_sem, *]; done) | rfl)
        have lB_0 : w.heap.size < wB.heap.size := by omega
        have mB_0 : w.heap.size < wB.heap.size + 1 := by omega
        have dB_1_0 : wB.cell? ⟨w.heap.size + 1, 0, none⟩ = some (.int .i64 c) := (hcB _ _ (by first | omega | (simp <;> omega))).trans (by first | (simp [go_sem, *]; done) | rfl)
        have dB_1_1 : wB.cell? ⟨w.heap.size + 1, 1, none⟩ = some (.int .i64 d) := (hcB _ _ (by first | omega | (simp <;> omega))).trans (by first | (simp [go_sem, *]; done) | rfl)
        have lB_1 : w.heap.size + 1 < wB.heap.size := by omega
        have mB_1 : w.heap.size + 1 < wB.heap.size + 1 := by omega
        have dB_2_0 : wB.cell? ⟨b1, 0, none⟩ = some (.int .i64 xa) := (hcB _ _ (by first | omega | (simp <;> omega))).trans (by first | (simp [go_sem, *]; done) | rfl)
        have dB_2_1 : wB.cell? ⟨b1, 1, none⟩ = some (.int .i64 xb) := (hcB _ _ (by first | omega | (simp <;> omega))).trans (by first | (simp [go_sem, *]; done) | rfl)
        have lB_2 : b1 < wB.heap.size := by omega
        have mB_2 : b1 < wB.heap.size + 1 := by omega
        have dB_3_0 : wB.cell? ⟨b2, 0, none⟩ = some (.int .i64 ya) := (hcB _ _ (by first | omega | (simp <;> omega))).trans (by first | (simp [go_sem, *]; done) | rfl)
        have dB_3_1 : wB.cell? ⟨b2, 1, none⟩ = some (.int .i64 yb) := (hcB _ _ (by first | omega | (simp <;> omega))).trans (by first | (simp [go_sem, *]; done) | rfl)
        have lB_3 : b2 < wB.heap.size := by omega
        have mB_3 : b2 < wB.heap.size + 1 := by omega
        have dB_4_0 : wB.cell? ⟨wr.heap.size, 0, none⟩ = some (.int .i64 0) := (hcB _ _ (by first | omega | (simp <;> omega))).trans (by first | (simp [go_sem, *]; done) | rfl)
        have fB_4_0 : wB.frozen? ⟨wr.heap.size, 0, none⟩ = false := (hfB _ _ (by first | omega | (simp <;> omega))).trans (by first | (simp [go_sem, *]; done) | rfl)
        have dB_4_1 : wB.cell? ⟨wr.heap.size, 1, none⟩ = some (.int .i64 0) := (hcB _ _ (by first | omega | (simp <;> omega))).trans (by first | (simp [go_sem, *]; done) | rfl)
        have fB_4_1 : wB.frozen? ⟨wr.heap.size, 1, none⟩ = false := (hfB _ _ (by first | omega | (simp <;> omega))).trans (by first | (simp [go_sem, *]; done) | rfl)
        have lB_4 : wr.heap.size < wB.heap.size := by omega
        have mB_4 : wr.heap.size < wB.heap.size + 1 := by omega
        have dB_5_0 : wB.cell? ⟨wr.heap.size + 1, 0, none⟩ = some (.int .i64 p3) := (hcB _ _ (by first | omega | (simp <;> omega))).trans (by first | (simp [go_sem, *]; done) | rfl)
        have fB_5_0 : wB.frozen? ⟨wr.heap.size + 1, 0, none⟩ = false := (hfB _ _ (by first | omega | (simp <;> omega))).trans (by first | (simp [go_sem, *]; done) | rfl)
        have dB_5_1 : wB.cell? ⟨wr.heap.size + 1, 1, none⟩ = some (.int .i64 q3) := (hcB _ _ (by first | omega | (simp <;> omega))).trans (by first | (simp [go_sem, *]; done) | rfl)
        have fB_5_1 : wB.frozen? ⟨wr.heap.size + 1, 1, none⟩ = false := (hfB _ _ (by first | omega | (simp <;> omega))).trans (by first | (simp [go_sem, *]; done) | rfl)
        have lB_5 : wr.heap.size + 1 < wB.heap.size := by omega
        have mB_5 : wr.heap.size + 1 < wB.heap.size + 1 := by omega
        clear hbB hcB hfB hzB dA_0_0 dA_0_1 lA_0 mA_0 dA_1_0 dA_1_1 lA_1 mA_1 dA_2_0 dA_2_1 lA_2 mA_2 dA_3_0 dA_3_1 lA_3 mA_3 dA_4_0 fA_4_0 dA_4_1 fA_4_1 lA_4 mA_4 dA_5_0 fA_5_0 dA_5_1 fA_5_1 lA_5 mA_5
        rw [G3.out]
        by_cases he : e3 = 0
        · subst he
          obtain ⟨n1, n2⟩ := N3.out rfl
          subst n1
          have NZ := Lib.hid n2
          clear n2
          go_wp2_with fail
          refine (inside_any _ _ _ _ _).mono ?_
          rintro e wI ⟨rfl, hbI⟩
          rw [NZ.out]
          have hwI : Below w2.heap.size w2 wI := Below.trans (by repeat (first | exact hwB | refine Below.drew ?_ | refine bdrewN ?_ _ | refine Below.setCell ?_ (by first | omega | (simp <;> omega)) _ | refine Below.alloc ?_ (by first | omega | (simp <;> omega)) _)) (hbI.mono (by first | omega | (simp <;> omega)))
          go_wp2
          go_roundw
          case rel => exact ⟨4, rfl, by decide, by decide, by repeat (first | exact hwI | refine Below.drew ?_ | refine bdrewN ?_ _ | refine Below.setCell ?_ (by first | omega | (simp <;> omega)) _ | refine Below.alloc ?_ (by first | omega | (simp <;> omega)) _)⟩
          case measure => simp [RowKit.intOf]
        · have he' : (e3 == 0) = false := by simpa using he
          go_wp2
          go_roundw
          case rel => exact ⟨4, rfl, by decide, by decide, by repeat (first | exact hwB | refine Below.drew ?_ | refine bdrewN ?_ _ | refine Below.setCell ?_ (by first | omega | (simp <;> omega)) _ | refine Below.alloc ?_ (by first | omega | (simp <;> omega)) _)⟩
          case measure => simp [RowKit.intOf]
      · clear H0 G0 N0 H1 G1 N1 H2 G2 N2 H3 G3 N3 H5 G5 N5
        go_wp2_with fail
        refine (square_any a b _).mono ?_
        rintro e wA ⟨rfl, hbA⟩
        obtain ⟨hcA, hfA⟩ := bcell hbA
        have hzA := hbA.size
        try simp at hzA
        have hwA : Below w2.heap.size w2 wA := Below.trans (by repeat (first | exact hbr | refine Below.drew ?_ | refine bdrewN ?_ _ | refine Below.setCell ?_ (by first | omega | (simp <;> omega)) _ | refine Below.alloc ?_ (by first | omega | (simp <;> omega)) _)) (hbA.mono (by first | omega | (simp <;> omega)))
        have dA_0_0 : wA.cell? ⟨w.heap.size, 0, none⟩ = some (.int .i64 a) := (hcA _ _ (by first | omega | (simp <;> omega))).trans (by first | (simp [go_sem, *]; done) | rfl)
        have dA_0_1 : wA.cell? ⟨w.heap.size, 1, none⟩ = some (.int .i64 b) := (hcA _ _ (by first | omega | (simp <;> omega))).trans (by first | (simp [go_sem, *]; done) | rfl)
        have lA_0 : w.heap.size < wA.heap.size := by omega
        have mA_0 : w.heap.size < wA.heap.size + 1 := by omega
        have dA_1_0 : wA.cell? ⟨w.heap.size + 1, 0, none⟩ = some (.int .i64 c) := (hcA _ _ (by first | omega | (simp <;> omega))).trans (by first | (simp [go_sem, *]; done) | rfl)
        have dA_1_1 : wA.cell? ⟨w.heap.size + 1, 1, none⟩ = some (.int .i64 d) := (hcA _ _ (by first | omega | (simp <;> omega))).trans (by first | (simp [go_sem, *]; done) | rfl)
        have lA_1 : w.heap.size + 1 < wA.heap.size := by omega
        have mA_1 : w.heap.size + 1 < wA.heap.size + 1 := by omega
        have dA_2_0 : wA.cell? ⟨b1, 0, none⟩ = some (.int .i64 xa) := (hcA _ _ (by first | omega | (simp <;> omega))).trans (by first | (simp [go_sem, *]; done) | rfl)
        have dA_2_1 : wA.cell? ⟨b1, 1, none⟩ = some (.int .i64 xb) := (hcA _ _ (by first | omega | (simp <;> omega))).trans (by first | (simp [go_sem, *]; done) | rfl)
        have lA_2 : b1 < wA.heap.size := by omega
        have mA_2 : b1 < wA.heap.size + 1 := by omega
        have dA_3_0 : wA.cell? ⟨b2, 0, none⟩ = some (.int .i64 ya) := (hcA _ _ (by first | omega | (simp <;> omega))).trans (by first | (simp [go_sem, *]; done) | rfl)
        have dA_3_1 : wA.cell? ⟨b2, 1, none⟩ = some (.int .i64 yb) := (hcA _ _ (by first | omega | (simp <;> omega))).trans (by first | (simp [go_sem, *]; done) | rfl)
        have lA_3 : b2 < wA.heap.size := by omega
        have mA_3 : b2 < wA.heap.size + 1 := by omega
        have dA_4_0 : wA.cell? ⟨wr.heap.size, 0, none⟩ = some (.int .i64 0) := (hcA _ _ (by first | omega | (simp <;> omega))).trans (by first | (simp [go_sem, *]; done) | rfl)
        have fA_4_0 : wA.frozen? ⟨wr.heap.size, 0, none⟩ = false := (hfA _ _ (by first | omega | (simp <;> omega))).trans (by first | (simp [go_sem, *]; done) | rfl)
        have dA_4_1 : wA.cell? ⟨wr.heap.size, 1, none⟩ = some (.int .i64 0) := (hcA _ _ (by first | omega | (simp <;> omega))).trans (by first | (simp [go_sem, *]; done) | rfl)
        have fA_4_1 : wA.frozen? ⟨wr.heap.size, 1, none⟩ = false := (hfA _ _ (by first | omega | (simp <;> omega))).trans (by first | (simp [go_sem, *]; done) | rfl)
        have lA_4 : wr.heap.size < wA.heap.size := by omega
        have mA_4 : wr.heap.size < wA.heap.size + 1 := by omega
        have dA_5_0 : wA.cell? ⟨wr.heap.size + 1, 0, none⟩ = some (.int .i64 0) := (hcA _ _ (by first | omega | (simp <;> omega))).trans (by first | (simp [go_sem, *]; done) | rfl)
        have fA_5_0 : wA.frozen? ⟨wr.heap.size + 1, 0, none⟩ = false := (hfA _ _ (by first | omega | (simp <;> omega))).trans (by first | (simp [go_sem, *]; done) | rfl)
        have dA_5_1 : wA.cell? ⟨wr.heap.size + 1, 1, none⟩ = some (.int .i64 0) := (hcA _ _ (by first | omega | (simp <;> omega))).trans (by first | (simp [go_sem, *]; done) | rfl)
        have fA_5_1 : wA.frozen? ⟨wr.heap.size + 1, 1, none⟩ = false := (hfA _ _ (by first | omega | (simp <;> omega))).trans (by first | (simp [go_sem, *]; done) | rfl)
        have lA_5 : wr.heap.size + 1 < wA.heap.size := by omega
        have mA_5 : wr.heap.size + 1 < wA.heap.size + 1 := by omega
        clear hbA hcA hfA hzA dr_0_0 dr_0_1 dr_1_0 dr_1_1 dr_2_0 dr_2_1 dr_3_0 dr_3_1
        rw [H4.out]
        go_wp2_with fail
        refine (square_any xa xb _).mono ?_
        rintro e wB ⟨rfl, hbB⟩
        obtain ⟨hcB, hfB⟩ := bcell hbB
        have hzB := hbB.size
        try simp at hzB
        have hwB : Below w2.heap.size w2 wB := Below.trans (by repeat (first | exact hwA | refine Below.drew ?_ | refine bdrewN ?_ _ | refine Below.setCell ?_ (by first | omega | (simp <;> omega)) _ | refine Below.alloc ?_ (by first | omega | (simp <;> omega)) _)) (hbB.mono (by first | omega | (simp <;> omega)))
        have dB_0_0 : wB.cell? ⟨w.heap.size, 0, none⟩ = some (.int .i64 a) := (hcB _ _ (by first | omega | (simp <;> omega))).trans (by first | (simp [go_sem, *]; done) | rfl)
        have dB_0_1 : wB.cell? ⟨w.heap.size, 1, none⟩ = some (.int .i64 b) := (hcB _ _ (by first | omega | (simp <;> omega))).trans (by first | (simp [go_sem, *]; done) | rfl)
        have lB_0 : w.heap.size < wB.heap.size := by omega
        have mB_0 : w.heap.size < wB.heap.size + 1 := by omega
        have dB_1_0 : wB.cell? ⟨w.heap.size + 1, 0, none⟩ = some (.int .i64 c) := (hcB _ _ (by first | omega | (simp <;> omega))).trans (by first | (simp [go_sem, *]; done) | rfl)
        have dB_1_1 : wB.cell? ⟨w.heap.size + 1, 1, none⟩ = some (.int .i64 d) := (hcB _ _ (by first | omega | (simp <;> omega))).trans (by first | (simp [go_sem, *]; done) | rfl)
        have lB_1 : w.heap.size + 1 < wB.heap.size := by omega
        have mB_1 : w.heap.size + 1 < wB.heap.size + 1 := by omega
        have dB_2_0 : wB.cell? ⟨b1, 0, none⟩ = some (.int .i64 xa) := (hcB _ _ (by first | omega | (simp <;> omega))).trans (by first | (simp [go_sem, *]; done) | rfl)
        have dB_2_1 : wB.cell? ⟨b1, 1, none⟩ = some (.int .i64 xb) := (hcB _ _ (by first | omega | (simp <;> omega))).trans (by first | (simp [go_sem, *]; done) | rfl)
        have lB_2 : b1 < wB.heap.size := by omega
        have mB_2 : b1 < wB.heap.size + 1 := by omega
        have dB_3_0 : wB.cell? ⟨b2, 0, none⟩ = some (.int .i64 ya) := (hcB _ _ (by first | omega | (simp <;> omega))).trans (by first | (simp [go_sem, *]; done) | rfl)
        have dB_3_1 : wB.cell? ⟨b2, 1, none⟩ = some (.int .i64 yb) := (hcB _ _ (by first | omega | (simp <;> omega))).trans (by first | (simp [go_sem, *]; done) | rfl)
        have lB_3 : b2 < wB.heap.size := by omega
        have mB_3 : b2 < wB.heap.size + 1 := by omega
        have dB_4_0 : wB.cell? ⟨wr.heap.size, 0, none⟩ = some (.int .i64 0) := (hcB _ _ (by first | omega | (simp <;> omega))).trans (by first | (simp [go_sem, *]; done) | rfl)
        have fB_4_0 : wB.frozen? ⟨wr.heap.size, 0, none⟩ = false := (hfB _ _ (by first | omega | (simp <;> omega))).trans (by first | (simp [go_sem, *]; done) | rfl)
        have dB_4_1 : wB.cell? ⟨wr.heap.size, 1, none⟩ = some (.int .i64 0) := (hcB _ _ (by first | omega | (simp <;> omega))).trans (by first | (simp [go_sem, *]; done) | rfl)
        have fB_4_1 : wB.frozen? ⟨wr.heap.size, 1, none⟩ = false := (hfB _ _ (by first | omega | (simp <;> omega))).trans (by first | (simp [go_sem, *]; done) | rfl)
        have lB_4 : wr.heap.size < wB.heap.size := by omega
        have mB_4 : wr.heap.size < wB.heap.size + 1 := by omega
        have dB_5_0 : wB.cell? ⟨wr.heap.size + 1, 0, none⟩ = some (.int .i64 p4) := (hcB _ _ (by first | omega | (simp <;> omega))).trans (by first | (simp [go_sem, *]; done) | rfl)
        have fB_5_0 : wB.frozen? ⟨wr.heap.size + 1, 0, none⟩ = false := (hfB _ _ (by first | omega | (simp <;> omega))).trans (by first | (simp [go_sem, *]; done) | rfl)
        have dB_5_1 : wB.cell? ⟨wr.heap.size + 1, 1, none⟩ = some (.int .i64 q4) := (hcB _ _ (by first | omega | (simp <;> omega))).trans (by first | (simp [go_sem, *]; done) | rfl)
        have fB_5_1 : wB.frozen? ⟨wr.heap.size + 1, 1, none⟩ = false := (hfB _ _ (by first | omega | (simp <;> omega))).trans (by first | (simp [go_sem, *]; done) | rfl)
        have lB_5 : wr.heap.size + 1 < wB.heap.size := by omega
        have mB_5 : wr.heap.size + 1 < wB.heap.size + 1 := by omega
        clear hbB hcB hfB hzB dA_0_0 dA_0_1 lA_0 mA_0 dA_1_0 dA_1_1 lA_1 mA_1 dA_2_0 dA_2_1 lA_2 mA_2 dA_3_0 dA_3_1 lA_3 mA_3 dA_4_0 fA_4_0 dA_4_1 fA_4_1 lA_4 mA_4 dA_5_0 fA_5_0 dA_5_1 fA_5_1 lA_5 mA_5
        rw [G4.out]
        by_cases he : e4 = 0
        · subst he
          obtain ⟨n1, n2⟩ := N4.out rfl
          subst n1
          have NZ := Lib.hid n2
          clear n2
          go_wp2_with fail
          refine (inside_any _ _ _ _ _).mono ?_
          rintro e wI ⟨rfl, hbI⟩
          rw [NZ.out]
          have hwI : Below w2.heap.size w2 wI := Below.trans (by repeat (first | exact hwB | refine Below.drew ?_ | refine bdrewN ?_ _ | refine Below.setCell ?_ (by first | omega | (simp <;> omega)) _ | refine Below.alloc ?_ (by first | omega | (simp <;> omega)) _)) (hbI.mono (by first | omega | (simp <;> omega)))
          go_wp2
          go_roundw
          case rel => exact ⟨5, rfl, by decide, by decide, by repeat (first | exact hwI | refine Below.drew ?_ | refine bdrewN ?_ _ | refine Below.setCell ?_ (by first | omega | (simp <;> omega)) _ | refine Below.alloc ?_ (by first | omega | (simp <;> omega)) _)⟩
          case measure => simp [RowKit.intOf]
        · have he' : (e4 == 0) = false := by simpa using he
          go_wp2
          go_roundw
          case rel => exact ⟨5, rfl, by decide, by decide, by repeat (first | exact hwB | refine Below.drew ?_ | refine bdrewN ?_ _ | refine Below.setCell ?_ (by first | omega | (simp <;> omega)) _ | refine Below.alloc ?_ (by first | omega | (simp <;> omega)) _)⟩
          case measure => simp [RowKit.intOf]
      · clear H0 G0 N0 H1 G1 N1 H2 G2 N2 H3 G3 N3 H4 G4 N4
        go_wp2_with fail
        refine (sqrt_any a b _).mono ?_
        rintro e wA ⟨rfl, hbA⟩
        obtain ⟨hcA, hfA⟩ := bcell hbA
        have hzA := hbA.size
        try simp at hzA
        have hwA : Below w2.heap.size w2 wA := Below.trans (by repeat (first | exact hbr | refine Below.drew ?_ | refine bdrewN ?_ _ | refine Below.setCell ?_ (by first | omega | (simp <;> omega)) _ | refine Below.alloc ?_ (by first | omega | (simp <;> omega)) _)) (hbA.mono (by first | omega | (simp <;> omega)))
        have dA_0_0 : wA.cell? ⟨w.heap.size, 0, none⟩ = some (.int .i64 a) := (hcA _ _ (by first | omega | (simp <;> omega))).trans (by first | (simp [go_sem, *]; done) | rfl)
        have dA_0_1 : wA.cell? ⟨w.heap.size, 1, none⟩ = some (.int .i64 b) := (hcA _ _ (by first | omega | (simp <;> omega))).trans (by first | (simp [go_sem, *]; done) | rfl)
        have lA_0 : w.heap.size < wA.heap.size := by omega
        have mA_0 : w.heap.size < wA.heap.size + 1 := by omega
        have dA_1_0 : wA.cell? ⟨w.heap.size + 1, 0, none⟩ = some (.int .i64 c) := (hcA _ _ (by first | omega | (simp <;> omega))).trans (by first | (simp [go_sem, *]; done) | rfl)
        have dA_1_1 : wA.cell? ⟨w.heap.size + 1, 1, none⟩ = some (.int .i64 d) := (hcA _ _ (by first | omega | (simp <;> omega))).trans (by first | (simp [go_sem, *]; done) | rfl)
        have lA_1 : w.heap.size + 1 < wA.heap.size := by omega
        have mA_1 : w.heap.size + 1 < wA.heap.size + 1 := by omega
        have dA_2_0 : wA.cell? ⟨b1, 0, none⟩ = some (.int .i64 xa) := (hcA _ _ (by first | omega | (simp <;> omega))).trans (by first | (simp [go_sem, *]; done) | rfl)
        have dA_2_1 : wA.cell? ⟨b1, 1, none⟩ = some (.int .i64 xb) := (hcA _ _ (by first | omega | (simp <;> omega))).trans (by first | (simp [go_sem, *]; done) | rfl)
        have lA_2 : b1 < wA.heap.size := by omega
        have mA_2 : b1 < wA.heap.size + 1 := by omega
        have dA_3_0 : wA.cell? ⟨b2, 0, none⟩ = some (.int .i64 ya) := (hcA _ _ (by first | omega | (simp <;> omega))).trans (by first | (simp [go_sem, *]; done) | rfl)
        have dA_3_1 : wA.cell? ⟨b2, 1, none⟩ = some (.int .i64 yb) := (hcA _ _ (by first | omega | (simp <;> omega))).trans (by first | (simp [go_sem, *]; done) | rfl)
        have lA_3 : b2 < wA.heap.size := by omega
        have mA_3 : b2 < wA.heap.size + 1 := by omega
        have dA_4_0 : wA.cell? ⟨wr.heap.size, 0, none⟩ = some (.int .i64 0) := (hcA _ _ (by first | omega | (simp <;> omega))).trans (by first | (simp [go_sem, *]; done) | rfl)
        have fA_4_0 : wA.frozen? ⟨wr.heap.size, 0, none⟩ = false := (hfA _ _ (by first | omega | (simp <;> omega))).trans (by first | (simp [go_sem, *]; done) | rfl)
        have dA_4_1 : wA.cell? ⟨wr.heap.size, 1, none⟩ = some (.int .i64 0) := (hcA _ _ (by first | omega | (simp <;> omega))).trans (by first | (simp [go_sem, *]; done) | rfl)
        have fA_4_1 : wA.frozen? ⟨wr.heap.size, 1, none⟩ = false := (hfA _ _ (by first | omega | (simp <;> omega))).trans (by first | (simp [go_sem, *]; done) | rfl)
        have lA_4 : wr.heap.size < wA.heap.size := by omega
        have mA_4 : wr.heap.size < wA.heap.size + 1 := by omega
        have dA_5_0 : wA.cell? ⟨wr.heap.size + 1, 0, none⟩ = some (.int .i64 0) := (hcA _ _ (by first | omega | (simp <;> omega))).trans (by first | (simp [go_sem, *]; done) | rfl)
        have fA_5_0 : wA.frozen? ⟨wr.heap.size + 1, 0, none⟩ = false := (hfA _ _ (by first | omega | (simp <;> omega))).trans (by first | (simp [go_sem, *]; done) | rfl)
        have dA_5_1 : wA.cell? ⟨wr.heap.size + 1, 1, none⟩ = some (.int .i64 0) := (hcA _ _ (by first | omega | (simp <;> omega))).trans (by first | (simp [go_sem, *]; done) | rfl)
        have fA_5_1 : wA.frozen? ⟨wr.heap.size + 1, 1, none⟩ = false := (hfA _ _ (by first | omega | (simp <;> omega))).trans (by first | (simp [go_sem, *]; done) | rfl)
        have lA_5 : wr.heap.size + 1 < wA.heap.size := by omega
        have mA_5 : wr.heap.size + 1 < wA.heap.size + 1 := by omega
        clear hbA hcA hfA hzA dr_0_0 dr_0_1 dr_1_0 dr_1_1 dr_2_0 dr_2_1 dr_3_0 dr_3_1
        rw [H5.out]
        go_wp2_with fail
        refine (sqrt_any xa xb _).mono ?_
        rintro e wB ⟨rfl, hbB⟩
        obtain ⟨hcB, hfB⟩ := bcell hbB
        have hzB := hbB.size
        try simp at hzB
        have hwB : Below w2.heap.size w2 wB := Below.trans (by repeat (first | exact hwA | refine Below.drew ?_ | refine bdrewN ?_ _ | refine Below.setCell ?_ (by first | omega | (simp <;> omega)) _ | refine Below.alloc ?_ (by first | omega | (simp <;> omega)) _)) (hbB.mono (by first | omega | (simp <;> omega)))
        have dB_0_0 : wB.cell? ⟨w.heap.size, 0, none⟩ = some (.int .i64 a) := (hcB _ _ (by first | omega | (simp <;> omega))).trans (by first | (simp [go_sem, *]; done) | rfl)
        have dB_0_1 : wB.cell? ⟨w.heap.size, 1, none⟩ = some (.int .i64 b) := (hcB _ _ (by first | omega | (simp <;> omega))).trans (by first | (simp [go_sem, *]; done) | rfl)
        have lB_0 : w.heap.size < wB.heap.size := by omega
        have mB_0 : w.heap.size < wB.heap.size + 1 := by omega
        have dB_1_0 : wB.cell? ⟨w.heap.size + 1, 0, none⟩ = some (.int .i64 c) := (hcB _ _ (by first | omega | (simp <;> omega))).trans (by first | (simp [go_sem, *]; done) | rfl)
        have dB_1_1 : wB.cell? ⟨w.heap.size + 1, 1, none⟩ = some (.int .i64 d) := (hcB _ _ (by first | omega | (simp <;> omega))).trans (by first | (simp [go_sem, *]; done) | rfl)
        have lB_1 : w.heap.size + 1 < wB.heap.size := by omega
        have mB_1 : w.heap.size + 1 < wB.heap.size + 1 := by omega
        have dB_2_0 : wB.cell? ⟨b1, 0, none⟩ = some (.int .i64 xa) := (hcB _ _ (by first | omega | (simp <;> omega))).trans (by first | (simp [go_sem, *]; done) | rfl)
        have dB_2_1 : wB.cell? ⟨b1, 1, none⟩ = some (.int .i64 xb) := (hcB _ _ (by first | omega | (simp <;> omega))).trans (by first | (simp [go_sem, *]; done) | rfl)
        have lB_2 : b1 < wB.heap.size := by omega
        have mB_2 : b1 < wB.heap.size + 1 := by omega
        have dB_3_0 : wB.cell? ⟨b2, 0, none⟩ = some (.int .i64 ya) := (hcB _ _ (by first | omega | (simp <;> omega))).trans (by first | (simp [go_sem, *]; done) | rfl)
        have dB_3_1 : wB.cell? ⟨b2, 1, none⟩ = some (.int .i64 yb) := (hcB _ _ (by first | omega | (simp <;> omega))).trans (by first | (simp [go_sem, *]; done) | rfl)
        have lB_3 : b2 < wB.heap.size := by omega
        have mB_3 : b2 < wB.heap.size + 1 := by omega
        have dB_4_0 : wB.cell? ⟨wr.heap.size, 0, none⟩ = some (.int .i64 0) := (hcB _ _ (by first | omega | (simp <;> omega))).trans (by first | (simp [go_sem, *]; done) | rfl)
        have fB_4_0 : wB.frozen? ⟨wr.heap.size, 0, none⟩ = false := (hfB _ _ (by first | omega | (simp <;> omega))).trans (by first | (simp [go_sem, *]; done) | rfl)
        have dB_4_1 : wB.cell? ⟨wr.heap.size, 1, none⟩ = some (.int .i64 0) := (hcB _ _ (by first | omega | (simp <;> omega))).trans (by first | (simp [go_sem, *]; done) | rfl)
        have fB_4_1 : wB.frozen? ⟨wr.heap.size, 1, none⟩ = false := (hfB _ _ (by first | omega | (simp <;> omega))).trans (by first | (simp [go_sem, *]; done) | rfl)
        have lB_4 : wr.heap.size < wB.heap.size := by omega
        have mB_4 : wr.heap.size < wB.heap.size + 1 := by omega
        have dB_5_0 : wB.cell? ⟨wr.heap.size + 1, 0, none⟩ = some (.int .i64 p5) := (hcB _ _ (by first | omega | (simp <;> omega))).trans (by first | (simp [go_sem, *]; done) | rfl)
        have fB_5_0 : wB.frozen? ⟨wr.heap.size + 1, 0, none⟩ = false := (hfB _ _ (by first | omega | (simp <;> omega))).trans (by first | (simp [go_sem, *]; done) | rfl)
        have dB_5_1 : wB.cell? ⟨wr.heap.size + 1, 1, none⟩ = some (.int .i64 q5) := (hcB _ _ (by first | omega | (simp <;> omega))).trans (by first | (simp [go_sem, *]; done) | rfl)
        have fB_5_1 : wB.frozen? ⟨wr.heap.size + 1, 1, none⟩ = false := (hfB _ _ (by first | omega | (simp <;> omega))).trans (by first | (simp [go_sem, *]; done) | rfl)
        have lB_5 : wr.heap.size + 1 < wB.heap.size := by omega
        have mB_5 : wr.heap.size + 1 < wB.heap.size + 1 := by omega
        clear hbB hcB hfB hzB dA_0_0 dA_0_1 lA_0 mA_0 dA_1_0 dA_1_1 lA_1 mA_1 dA_2_0 dA_2_1 lA_2 mA_2 dA_3_0 dA_3_1 lA_3 mA_3 dA_4_0 fA_4_0 dA_4_1 fA_4_1 lA_4 mA_4 dA_5_0 fA_5_0 dA_5_1 fA_5_1 lA_5 mA_5
        rw [G5.out]
        by_cases he : e5 = 0
        · subst he
          obtain ⟨n1, n2⟩ := N5.out rfl
          subst n1
          have NZ := Lib.hid n2
          clear n2
          go_wp2_with fail
          refine (inside_any _ _ _ _ _).mono ?_
          rintro e wI ⟨rfl, hbI⟩
          rw [NZ.out]
          have hwI : Below w2.heap.size w2 wI := Below.trans (by repeat (first | exact hwB | refine Below.drew ?_ | refine bdrewN ?_ _ | refine Below.setCell ?_ (by first | omega | (simp <;> omega)) _ | refine Below.alloc ?_ (by first | omega | (simp <;> omega)) _)) (hbI.mono (by first | omega | (simp <;> omega)))
          go_wp2
          go_roundw
          case rel => exact ⟨6, rfl, by decide, by decide, by repeat (first | exact hwI | refine Below.drew ?_ | refine bdrewN ?_ _ | refine Below.setCell ?_ (by first | omega | (simp <;> omega)) _ | refine Below.alloc ?_ (by first | omega | (simp <;> omega)) _)⟩
          case measure => simp [RowKit.intOf]
        · have he' : (e5 == 0) = false := by simpa using he
          go_wp2
          go_roundw
          case rel => exact ⟨6, rfl, by decide, by decide, by repeat (first | exact hwB | refine Below.drew ?_ | refine bdrewN ?_ _ | refine Below.setCell ?_ (by first | omega | (simp <;> omega)) _ | refine Below.alloc ?_ (by first | omega | (simp <;> omega)) _)⟩
          case measure => simp [RowKit.intOf]
      · go_wp2_with fail
        go_ret
        exact ⟨rfl, hw2.trans (hbr.mono (by omega))⟩
end Go.Proofs.YtognaejbpioihaaDoor.Iv
