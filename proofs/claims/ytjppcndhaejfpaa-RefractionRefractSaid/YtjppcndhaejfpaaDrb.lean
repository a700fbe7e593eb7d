/- What the example needs: Of, One, up, and Critical of 2. -/
import Derived.Test.YtjppcndhaejfpaaDr7
namespace Go.Proofs.Ytjppcndhaejfpaa.Iv
open Go.RowKit

theorem of_two (w : World) : Calls Try.prog 29 #[.int .i64 2] w fun e w' => e = .returned (.tuple #[iv 33554432 33554432, .int .i64 0]) ∧ Below w.heap.size w w' := by
  go_enter Try.func29, Try.ntmps29
  go_wp2_with fail
  exact bodyPost_ret (v := .tuple #[iv 33554432 33554432, .int .i64 0]) (by simp [results, Try.results29, go_sem]) rfl ⟨rfl, (by repeat (first | exact Below.refl _ _ | refine Below.drew ?_ | refine below_drewN ?_ _ | refine Below.setCell ?_ (by first | omega | (simp <;> omega)) _ | refine Below.alloc ?_ (by first | omega | (simp <;> omega)) _))⟩
theorem one_any (w : World) : Calls Try.prog 27 #[] w fun e w' => e = .returned (iv 16777216 16777216) ∧ Below w.heap.size w w' := by
  go_enter Try.func27, Try.ntmps27
  go_wp2_with fail
  exact bodyPost_ret (v := iv 16777216 16777216) (by simp [results, Try.results27, go_sem]) rfl ⟨rfl, (by repeat (first | exact Below.refl _ _ | refine Below.drew ?_ | refine below_drewN ?_ _ | refine Below.setCell ?_ (by first | omega | (simp <;> omega)) _ | refine Below.alloc ?_ (by first | omega | (simp <;> omega)) _))⟩
set_option maxHeartbeats 2000000 in
theorem upD_any (w : World) : Calls Try.prog 30 #[] w fun e w' => e = .returned (dv ⟨0, 0, 0, 0, 16777216, 16777216⟩) ∧ Below w.heap.size w w' := by
  go_enter Try.func30, Try.ntmps30
  go_wp2_with fail
  refine (one_any _).mono ?_
  rintro e w1 ⟨rfl, hb⟩
  have hz := hb.size
  simp at hz
  obtain ⟨hc, hf⟩ := bcell hb
  have z0 : w1.cell? ⟨w.heap.size, 0, none⟩ = some (.int .i64 0) := (hc _ _ (by simp)).trans (by simp [go_sem])
  have f0 : w1.frozen? ⟨w.heap.size, 0, none⟩ = false := (hf _ _ (by simp)).trans (by simp [go_sem])
  have z1 : w1.cell? ⟨w.heap.size, 1, none⟩ = some (.int .i64 0) := (hc _ _ (by simp)).trans (by simp [go_sem])
  have f1 : w1.frozen? ⟨w.heap.size, 1, none⟩ = false := (hf _ _ (by simp)).trans (by simp [go_sem])
  have z2 : w1.cell? ⟨w.heap.size, 2, none⟩ = some (.int .i64 0) := (hc _ _ (by simp)).trans (by simp [go_sem])
  have f2 : w1.frozen? ⟨w.heap.size, 2, none⟩ = false := (hf _ _ (by simp)).trans (by simp [go_sem])
  have z3 : w1.cell? ⟨w.heap.size, 3, none⟩ = some (.int .i64 0) := (hc _ _ (by simp)).trans (by simp [go_sem])
  have f3 : w1.frozen? ⟨w.heap.size, 3, none⟩ = false := (hf _ _ (by simp)).trans (by simp [go_sem])
  have z4 : w1.cell? ⟨w.heap.size, 4, none⟩ = some (.int .i64 0) := (hc _ _ (by simp)).trans (by simp [go_sem])
  have f4 : w1.frozen? ⟨w.heap.size, 4, none⟩ = false := (hf _ _ (by simp)).trans (by simp [go_sem])
  have z5 : w1.cell? ⟨w.heap.size, 5, none⟩ = some (.int .i64 0) := (hc _ _ (by simp)).trans (by simp [go_sem])
  have f5 : w1.frozen? ⟨w.heap.size, 5, none⟩ = false := (hf _ _ (by simp)).trans (by simp [go_sem])
  have hw : Below w.heap.size w w1 := ((Below.refl _ _).alloc (Nat.le_refl _) _).trans (hb.mono (by simp))
  go_wp2_with fail
  have K : ((((((w1.setCell ⟨w.heap.size, 0, none⟩ (.int .i64 0)).setCell ⟨w.heap.size, 1, none⟩ (.int .i64 0)).setCell ⟨w.heap.size, 2, none⟩ (.int .i64 0)).setCell ⟨w.heap.size, 3, none⟩ (.int .i64 0)).setCell ⟨w.heap.size, 4, none⟩ (.int .i64 16777216)).setCell ⟨w.heap.size, 5, none⟩ (.int .i64 16777216)).cell? ⟨w.heap.size, 0, none⟩ = some (.int .i64 0) ∧ ((((((w1.setCell ⟨w.heap.size, 0, none⟩ (.int .i64 0)).setCell ⟨w.heap.size, 1, none⟩ (.int .i64 0)).setCell ⟨w.heap.size, 2, none⟩ (.int .i64 0)).setCell ⟨w.heap.size, 3, none⟩ (.int .i64 0)).setCell ⟨w.heap.size, 4, none⟩ (.int .i64 16777216)).setCell ⟨w.heap.size, 5, none⟩ (.int .i64 16777216)).cell? ⟨w.heap.size, 1, none⟩ = some (.int .i64 0) ∧ ((((((w1.setCell ⟨w.heap.size, 0, none⟩ (.int .i64 0)).setCell ⟨w.heap.size, 1, none⟩ (.int .i64 0)).setCell ⟨w.heap.size, 2, none⟩ (.int .i64 0)).setCell ⟨w.heap.size, 3, none⟩ (.int .i64 0)).setCell ⟨w.heap.size, 4, none⟩ (.int .i64 16777216)).setCell ⟨w.heap.size, 5, none⟩ (.int .i64 16777216)).cell? ⟨w.heap.size, 2, none⟩ = some (.int .i64 0) ∧ ((((((w1.setCell ⟨w.heap.size, 0, none⟩ (.int .i64 0)).setCell ⟨w.heap.size, 1, none⟩ (.int .i64 0)).setCell ⟨w.heap.size, 2, none⟩ (.int .i64 0)).setCell ⟨w.heap.size, 3, none⟩ (.int .i64 0)).setCell ⟨w.heap.size, 4, none⟩ (.int .i64 16777216)).setCell ⟨w.heap.size, 5, none⟩ (.int .i64 16777216)).cell? ⟨w.heap.size, 3, none⟩ = some (.int .i64 0) ∧ ((((((w1.setCell ⟨w.heap.size, 0, none⟩ (.int .i64 0)).setCell ⟨w.heap.size, 1, none⟩ (.int .i64 0)).setCell ⟨w.heap.size, 2, none⟩ (.int .i64 0)).setCell ⟨w.heap.size, 3, none⟩ (.int .i64 0)).setCell ⟨w.heap.size, 4, none⟩ (.int .i64 16777216)).setCell ⟨w.heap.size, 5, none⟩ (.int .i64 16777216)).cell? ⟨w.heap.size, 4, none⟩ = some (.int .i64 16777216) ∧ ((((((w1.setCell ⟨w.heap.size, 0, none⟩ (.int .i64 0)).setCell ⟨w.heap.size, 1, none⟩ (.int .i64 0)).setCell ⟨w.heap.size, 2, none⟩ (.int .i64 0)).setCell ⟨w.heap.size, 3, none⟩ (.int .i64 0)).setCell ⟨w.heap.size, 4, none⟩ (.int .i64 16777216)).setCell ⟨w.heap.size, 5, none⟩ (.int .i64 16777216)).cell? ⟨w.heap.size, 5, none⟩ = some (.int .i64 16777216) ∧ Below w.heap.size w ((((((w1.setCell ⟨w.heap.size, 0, none⟩ (.int .i64 0)).setCell ⟨w.heap.size, 1, none⟩ (.int .i64 0)).setCell ⟨w.heap.size, 2, none⟩ (.int .i64 0)).setCell ⟨w.heap.size, 3, none⟩ (.int .i64 0)).setCell ⟨w.heap.size, 4, none⟩ (.int .i64 16777216)).setCell ⟨w.heap.size, 5, none⟩ (.int .i64 16777216)) := by
    refine ⟨?_, ?_, ?_, ?_, ?_, ?_, ((((((hw.setCell (by dsimp only; omega) _).setCell (by dsimp only; omega) _).setCell (by dsimp only; omega) _).setCell (by dsimp only; omega) _).setCell (by dsimp only; omega) _).setCell (by dsimp only; omega) _)⟩ <;> simp [go_sem, *]
  revert K
  generalize ((((((w1.setCell ⟨w.heap.size, 0, none⟩ (.int .i64 0)).setCell ⟨w.heap.size, 1, none⟩ (.int .i64 0)).setCell ⟨w.heap.size, 2, none⟩ (.int .i64 0)).setCell ⟨w.heap.size, 3, none⟩ (.int .i64 0)).setCell ⟨w.heap.size, 4, none⟩ (.int .i64 16777216)).setCell ⟨w.heap.size, 5, none⟩ (.int .i64 16777216)) = X
  intro K
  obtain ⟨k0, k1, k2, k3, k4, k5, kb⟩ := K
  exact bodyPost_ret (v := dv ⟨0, 0, 0, 0, 16777216, 16777216⟩) (by simp [results, Try.results30, go_sem, k0, k1, k2, k3, k4, k5]) rfl ⟨rfl, kb⟩
theorem isq_a : isq (12582912 * 16777216) = 14529495 := isq_eq (by decide) (by decide) (by decide)
theorem sqrt_a : sqrtR 12582912 12582912 = ⟨14529495, 14529496, 0⟩ := by
  rw [show sqrtR 12582912 12582912 = ⟨isq (12582912 * 16777216), rup 12582912, 0⟩ from by unfold sqrtR; rw [if_pos (by decide), if_neg (by decide)], isq_a]
  unfold rup
  rw [isq_a, if_neg (by decide)]
  rfl
structure C1 (w0 W : World) (n : Nat) (a b : Int) : Prop where
  r0_0 : W.cell? ⟨n, 0, none⟩ = some (.int .i64 a)
  r0_1 : W.cell? ⟨n, 1, none⟩ = some (.int .i64 b)
  z1_0 : W.cell? ⟨n + 1, 0, none⟩ = some (.int .i64 0)
  f1_0 : W.frozen? ⟨n + 1, 0, none⟩ = false
  z1_1 : W.cell? ⟨n + 1, 1, none⟩ = some (.int .i64 0)
  f1_1 : W.frozen? ⟨n + 1, 1, none⟩ = false
  size : n + 1 < W.heap.size
  below : Below n w0 W
theorem C1.drew {w0 W : World} {n : Nat} {a b : Int} (h : C1 w0 W n a b) : C1 w0 W.drew n a b :=
  ⟨h.r0_0, h.r0_1, h.z1_0, h.f1_0, h.z1_1, h.f1_1, h.size, h.below.drew⟩
theorem C1.call {w0 W : World} {n : Nat} {a b : Int} {W' : World} (h : C1 w0 W n a b) (hb : Below W.heap.size W W') : C1 w0 W' n a b := by
  have z := h.size
  have z' := hb.size
  have hc : ∀ b o, b < W.heap.size → W'.cell? ⟨b, o, none⟩ = W.cell? ⟨b, o, none⟩ := fun b o h => hb.cell (p := ⟨b, o, none⟩) h
  have hf : ∀ b o, b < W.heap.size → W'.frozen? ⟨b, o, none⟩ = W.frozen? ⟨b, o, none⟩ := fun b o h => hb.frozen (p := ⟨b, o, none⟩) h
  have l0 : n < W.heap.size := by omega
  have l1 : n + 1 < W.heap.size := by omega
  exact ⟨(hc _ _ l0).trans h.r0_0, (hc _ _ l0).trans h.r0_1, (hc _ _ l1).trans h.z1_0, (hf _ _ l1).trans h.f1_0, (hc _ _ l1).trans h.z1_1, (hf _ _ l1).trans h.f1_1, by omega, h.below.trans (hb.mono (by omega))⟩
theorem C1.all {w0 W : World} {n : Nat} {a b : Int} (h : C1 w0 W n a b) : W.cell? ⟨n, 0, none⟩ = some (.int .i64 a) ∧ W.cell? ⟨n, 1, none⟩ = some (.int .i64 b) :=
  ⟨h.r0_0, h.r0_1⟩
theorem C1.set2_1 {w0 W : World} {n : Nat} {a b : Int} (h : C1 w0 W n a b) (u0 u1 : Value) : ((W.setCell ⟨n + 1, 0, none⟩ u0).setCell ⟨n + 1, 1, none⟩ u1).cell? ⟨n, 0, none⟩ = some (.int .i64 a) ∧ ((W.setCell ⟨n + 1, 0, none⟩ u0).setCell ⟨n + 1, 1, none⟩ u1).cell? ⟨n, 1, none⟩ = some (.int .i64 b) := by
  have n0 : ¬ (n = n + 1) := by omega
  exact ⟨(fset (fset h.r0_0 n0) n0), (fset (fset h.r0_1 n0) n0)⟩
theorem C1.fin2_1 {w0 W : World} {n : Nat} {a b : Int} (h : C1 w0 W n a b) (u0 u1 : Int) : ((W.setCell ⟨n + 1, 0, none⟩ (.int .i64 u0)).setCell ⟨n + 1, 1, none⟩ (.int .i64 u1)).cell? ⟨n + 1, 0, none⟩ = some (.int .i64 u0) ∧ ((W.setCell ⟨n + 1, 0, none⟩ (.int .i64 u0)).setCell ⟨n + 1, 1, none⟩ (.int .i64 u1)).cell? ⟨n + 1, 1, none⟩ = some (.int .i64 u1) ∧ Below n w0 ((W.setCell ⟨n + 1, 0, none⟩ (.int .i64 u0)).setCell ⟨n + 1, 1, none⟩ (.int .i64 u1)) := by
  have b := h.below
  have z0 := h.z1_0
  have z1 := h.z1_1
  clear h
  refine ⟨?_, ?_, ((b.setCell (by dsimp only; omega) _).setCell (by dsimp only; omega) _)⟩ <;> simp [go_sem, *]
theorem C1.alc {w0 W : World} {n : Nat} {a b : Int} (h : C1 w0 W n a b) (o : Obj) : C1 w0 (W.alloc o) n a b := h.call ((Below.refl _ _).alloc (Nat.le_refl _) o)
theorem C1.put {w0 W : World} {n : Nat} {a b : Int} {d i : Nat} {u : Value} (h : C1 w0 W n a b) (lt : n + 1 < d) : C1 w0 (W.setCell ⟨d, i, none⟩ u) n a b := by
  have n0 : ¬ (n = d) := by omega
  have n1 : ¬ (n + 1 = d) := by omega
  exact ⟨fset h.r0_0 n0, fset h.r0_1 n0, fset h.z1_0 n1, (by simp [go_sem, h.f1_0]), fset h.z1_1 n1, (by simp [go_sem, h.f1_1]), by simpa using h.size, h.below.setCell (by dsimp only; omega) _⟩
set_option maxRecDepth 100000 in
set_option maxHeartbeats 4000000 in
theorem crit_two (w : World) : Calls Try.prog 18 #[iv 33554432 33554432] w fun e w' => e = .returned (.tuple #[iv 14529495 14529496, .int .i64 0]) ∧ Below w.heap.size w w' := by
  have EV := Lib.hid (show vB 33554432 33554432 = true from by decide)
  have E1 := Lib.hid (show retR (sqR 33554432 33554432) = .returned (.tuple #[iv 67108864 67108864, .int .i64 0]) from rfl)
  have E2 := Lib.hid (show retR (divR 16777216 16777216 67108864 67108864) = .returned (.tuple #[iv 4194304 4194304, .int .i64 0]) from rfl)
  have E3 := Lib.hid (show retR (subR 16777216 16777216 4194304 4194304) = .returned (.tuple #[iv 12582912 12582912, .int .i64 0]) from rfl)
  have E4 := Lib.hid (show retR (sqrtR 12582912 12582912) = .returned (.tuple #[iv 14529495 14529496, .int .i64 0]) from by rw [sqrt_a])
  have I0 : C1 w ((w.alloc (.cells #[.int .i64 33554432, .int .i64 33554432] 23)).alloc (.cells #[.int .i64 0, .int .i64 0] 23)) w.heap.size 33554432 33554432 := by
    refine ⟨by simp [go_sem], by simp [go_sem], by simp [go_sem], by simp [go_sem], by simp [go_sem], by simp [go_sem], by simp, ?_⟩
    · repeat (first | exact Below.refl _ _ | refine Below.alloc ?_ (by first | omega | (simp <;> omega)) _)
  go_enter Try.func18, Try.ntmps18
  go_wp2_with fail
  refine (validb_any _ _ _).mono ?_
  rintro e w1 ⟨rfl, hb⟩
  rw [EV.out]
  have I1 := I0.call hb
  clear hb
  have r0_0_1 := I1.r0_0
  have r0_1_1 := I1.r0_1
  have z1_0_1 := I1.z1_0
  have f1_0_1 := I1.f1_0
  have z1_1_1 := I1.z1_1
  have f1_1_1 := I1.f1_1
  have sz_1 := I1.size
  go_wp2_with fail
  refine (square_any _ _ _).mono ?_
  rintro e w2 ⟨rfl, hb⟩
  rw [E1.out]
  have I2 := I1.call hb
  clear hb
  clear r0_0_1 r0_1_1 z1_0_1 f1_0_1 z1_1_1 f1_1_1 sz_1
  have r0_0_2 := I2.r0_0
  have r0_1_2 := I2.r0_1
  have z1_0_2 := I2.z1_0
  have f1_0_2 := I2.f1_0
  have z1_1_2 := I2.z1_1
  have f1_1_2 := I2.f1_1
  have sz_2 := I2.size
  have naq_0 : w.heap.size < w2.heap.size := by omega
  have nbq_0 : ¬ (w.heap.size = w2.heap.size) := by omega
  have ncq_0 : ¬ (w2.heap.size = w.heap.size) := by omega
  have ndq_0 : w.heap.size < w2.heap.size + 1 := by omega
  have naq_1 : w.heap.size + 1 < w2.heap.size := by omega
  have nbq_1 : ¬ (w.heap.size + 1 = w2.heap.size) := by omega
  have ncq_1 : ¬ (w2.heap.size = w.heap.size + 1) := by omega
  have ndq_1 : w.heap.size + 1 < w2.heap.size + 1 := by omega
  have I3 := I2.alc (.cells #[.int .i64 67108864, .int .i64 67108864] 23)
  have A3 : At (w2.alloc (.cells #[.int .i64 67108864, .int .i64 67108864] 23)) w2.heap.size [.int .i64 67108864, .int .i64 67108864] := At.new2 rfl
  obtain ⟨W3, hW3⟩ : ∃ W3, W3 = w2.alloc (.cells #[.int .i64 67108864, .int .i64 67108864] 23) := ⟨_, rfl⟩
  go_upto_region 8 with fail
  rw [← hW3] at I3 A3 ⊢
  clear hW3
  have ID := I3.drew
  have SD := A3.drew
  have IDz := (I3.alc (.cells #[.int .i64 0, .int .i64 0] 23)).drew
  have SDz := (A3.alc (.cells #[.int .i64 0, .int .i64 0] 23)).drew
  have ZDz : Zn ((W3.alloc (.cells #[.int .i64 0, .int .i64 0] 23)).drew) (W3.heap.size) := (Zn.new rfl).kept (Below.refl _ _).drew
  have lz1 : w.heap.size + 1 < W3.heap.size := I3.size
  have nS1 : ¬ (w2.heap.size = W3.heap.size) := Nat.ne_of_lt A3.1
  go_cut [5, 6] from 25 to 30 (fun v5 v6 wx => v5 = .int .i64 0 ∧ ∃ bz : Nat, v6 = .pointer (some ⟨bz, 0, none⟩) ∧ C1 w wx w.heap.size 33554432 33554432 ∧ At wx bz [.int .i64 4194304, .int .i64 4194304])
  case first =>
    go_region_held3 (fun w' => w'.cell? ⟨w2.heap.size, 0, none⟩ = some (.int .i64 67108864) ∧ w'.cell? ⟨w2.heap.size, 1, none⟩ = some (.int .i64 67108864)) (with_reducible first | exact ⟨SDz.c0, SDz.c1⟩ | exact ⟨SD.c0, SD.c1⟩ | exact ⟨(SD.alc _).c0, (SD.alc _).c1⟩ | exact ⟨SA.c0, SA.c1⟩ | exact ⟨(SA.alc _).c0, (SA.alc _).c1⟩ | exact ⟨SB.c0, SB.c1⟩ | exact ⟨(SB.alc _).c0, (SB.alc _).c1⟩ | exact ⟨((SB.set nS1).set nS1).c0, ((SB.set nS1).set nS1).c1⟩ | exact ⟨((SB.set nSA).set nSA).c0, ((SB.set nSA).set nSA).c1⟩)
      (first | (have hm := hmarkA; go_at_call 54; refine (div_any 16777216 16777216 67108864 67108864 _).mono ?_; rintro r wB ⟨rfl, hb⟩; rw [E2.out]; have IB : C1 w wB w.heap.size 33554432 33554432 := (by with_reducible first | exact IA.call hb | exact (IA.alc _).call hb); have SB : At wB (w2.heap.size) [.int .i64 67108864, .int .i64 67108864] := (by with_reducible first | exact SA.kept hb | exact (SA.alc _).kept hb); have nSB : ¬ ((w2.heap.size) = wB.heap.size) := Nat.ne_of_lt SB.1; (first | (have ZB := ZA.kept hb) | (have ZB : Zn wB (wA.heap.size) := (by with_reducible exact (Zn.new rfl).kept hb)) | skip); (try (have zz0 := ZB.z0; have zz1 := ZB.z1; have ff0 := ZB.f0; have ff1 := ZB.f1)); have hmarkB : wB = wB := rfl) | (go_at_call 45; refine (unit_any _).mono ?_; rintro r wA ⟨rfl, hb⟩; have IA : C1 w wA w.heap.size 33554432 33554432 := (by with_reducible first | exact ID.call hb | exact IDz.call hb); have SA : At wA (w2.heap.size) [.int .i64 67108864, .int .i64 67108864] := (by with_reducible first | exact SD.kept hb | exact SDz.kept hb); have nSA : ¬ ((w2.heap.size) = wA.heap.size) := Nat.ne_of_lt SA.1; (first | (have ZA : Zn wA (W3.heap.size) := (by with_reducible exact ZDz.kept hb)) | skip); have hmarkA : wA = wA := rfl))
    all_goals (go_wp2_with fail; go_meet)
    all_goals refine ⟨rfl, _, rfl, ?_, ?_⟩
    all_goals with_reducible first
      | exact (IB.put lz1).put lz1
      | exact (IB.put IA.size).put IA.size
      | exact IB.alc _
      | exact ZB.fin _ _
      | exact At.new2 rfl
  case rest =>
    obtain ⟨rfl, bz, rfl, I4, A4⟩ := hcut
    clear ID SD IDz SDz ZDz lz1 nS1 I3 A3
    have ID := I4.drew
    have SD := A4.drew
    have IDz := (I4.alc (.cells #[.int .i64 0, .int .i64 0] 23)).drew
    have SDz := (A4.alc (.cells #[.int .i64 0, .int .i64 0] 23)).drew
    have ZDz : Zn ((wc.alloc (.cells #[.int .i64 0, .int .i64 0] 23)).drew) (wc.heap.size) := (Zn.new rfl).kept (Below.refl _ _).drew
    have lz1 : w.heap.size + 1 < wc.heap.size := I4.size
    have nS1 : ¬ (bz = wc.heap.size) := Nat.ne_of_lt A4.1
    go_upto_region 11 with fail
    go_cut [5, 7] from 35 to 40 (fun v5 v6 wx => v5 = .int .i64 0 ∧ ∃ bz : Nat, v6 = .pointer (some ⟨bz, 0, none⟩) ∧ C1 w wx w.heap.size 33554432 33554432 ∧ At wx bz [.int .i64 12582912, .int .i64 12582912])
    case first =>
      go_region_held3 (fun w' => w'.cell? ⟨bz, 0, none⟩ = some (.int .i64 4194304) ∧ w'.cell? ⟨bz, 1, none⟩ = some (.int .i64 4194304)) (with_reducible first | exact ⟨SDz.c0, SDz.c1⟩ | exact ⟨SD.c0, SD.c1⟩ | exact ⟨(SD.alc _).c0, (SD.alc _).c1⟩ | exact ⟨SA.c0, SA.c1⟩ | exact ⟨(SA.alc _).c0, (SA.alc _).c1⟩ | exact ⟨SB.c0, SB.c1⟩ | exact ⟨(SB.alc _).c0, (SB.alc _).c1⟩ | exact ⟨((SB.set nS1).set nS1).c0, ((SB.set nS1).set nS1).c1⟩ | exact ⟨((SB.set nSA).set nSA).c0, ((SB.set nSA).set nSA).c1⟩)
        (first | (have hm := hmarkA; go_at_call 44; refine (sub_any 16777216 16777216 4194304 4194304 _).mono ?_; rintro r wB ⟨rfl, hb⟩; rw [E3.out]; have IB : C1 w wB w.heap.size 33554432 33554432 := (by with_reducible first | exact IA.call hb | exact (IA.alc _).call hb); have SB : At wB (bz) [.int .i64 4194304, .int .i64 4194304] := (by with_reducible first | exact SA.kept hb | exact (SA.alc _).kept hb); have nSB : ¬ ((bz) = wB.heap.size) := Nat.ne_of_lt SB.1; (first | (have ZB := ZA.kept hb) | (have ZB : Zn wB (wA.heap.size) := (by with_reducible exact (Zn.new rfl).kept hb)) | skip); (try (have zz0 := ZB.z0; have zz1 := ZB.z1; have ff0 := ZB.f0; have ff1 := ZB.f1)); have hmarkB : wB = wB := rfl) | (go_at_call 45; refine (unit_any _).mono ?_; rintro r wA ⟨rfl, hb⟩; have IA : C1 w wA w.heap.size 33554432 33554432 := (by with_reducible first | exact ID.call hb | exact IDz.call hb); have SA : At wA (bz) [.int .i64 4194304, .int .i64 4194304] := (by with_reducible first | exact SD.kept hb | exact SDz.kept hb); have nSA : ¬ ((bz) = wA.heap.size) := Nat.ne_of_lt SA.1; (first | (have ZA : Zn wA (wc.heap.size) := (by with_reducible exact ZDz.kept hb)) | skip); have hmarkA : wA = wA := rfl))
      all_goals (go_wp2_with fail; go_meet)
      all_goals refine ⟨rfl, _, rfl, ?_, ?_⟩
      all_goals with_reducible first
        | exact (IB.put lz1).put lz1
        | exact (IB.put IA.size).put IA.size
        | exact IB.alc _
        | exact ZB.fin _ _
        | exact At.new2 rfl
    case rest =>
      obtain ⟨rfl, bc, rfl, I5, A5⟩ := hcut
      clear ID SD IDz SDz ZDz lz1 nS1 I4 A4
      have o0 := A5.c0
      have o1 := A5.c1
      have zr0 := I5.z1_0
      have zr1 := I5.z1_1
      have fr0 := I5.f1_0
      have fr1 := I5.f1_1
      go_wp2_with fail
      refine (sqrt_any _ _ _).mono ?_
      rintro e w9 ⟨rfl, hb⟩
      rw [E4.out]
      have I9 := I5.call hb
      clear hb zr0 zr1 fr0 fr1 o0 o1
      have r0_0_9 := I9.r0_0
      have r0_1_9 := I9.r0_1
      have z1_0_9 := I9.z1_0
      have f1_0_9 := I9.f1_0
      have z1_1_9 := I9.z1_1
      have f1_1_9 := I9.f1_1
      have sz_9 := I9.size
      go_wp2_with fail
      have K := I9.fin2_1 (14529495) (14529496)
      revert K
      generalize ((w9.setCell ⟨w.heap.size + 1, 0, none⟩ (.int .i64 14529495)).setCell ⟨w.heap.size + 1, 1, none⟩ (.int .i64 14529496)) = X
      intro K
      obtain ⟨k0, k1, kb⟩ := K
      exact bodyPost_ret (v := .tuple #[iv 14529495 14529496, .int .i64 0]) (by simp [results, Try.results18, go_sem, k0, k1]) rfl ⟨rfl, kb⟩
end Go.Proofs.Ytjppcndhaejfpaa.Iv
