/- Contracts of package refraction's small functions: unit, validRay, Decide, scale, vector, Radicand. -/
import Derived.Test.YtjppcndhaejfpaaDr5
namespace Go.Proofs.Ytjppcndhaejfpaa.Iv
open Go.RowKit

theorem validb_any (a b : Int) (w : World) : Calls Try.prog 42 #[iv a b] w fun e w' => e = .returned (.bool (vB a b)) ∧ Below w.heap.size w w' :=
  (valid_any a b w).mono fun e w' h => ⟨h.1, by rw [← h.2]; exact (Below.refl _ _).alloc (Nat.le_refl _) _⟩
theorem unit_any (w : World) : Calls Try.prog 45 #[] w fun e w' => e = .returned (iv 16777216 16777216) ∧ Below w.heap.size w w' := by
  go_enter Try.func45, Try.ntmps45
  go_wp2_with fail
  exact bodyPost_ret (v := iv 16777216 16777216) (by simp [results, Try.results45, go_sem]) rfl ⟨rfl, (by repeat (first | exact Below.refl _ _ | refine Below.drew ?_ | refine below_drewN ?_ _ | refine Below.setCell ?_ (by first | omega | (simp <;> omega)) _ | refine Below.alloc ?_ (by first | omega | (simp <;> omega)) _))⟩
structure V2 (w0 W : World) (n : Nat) (s t : D) : Prop where
  r0_0 : W.cell? ⟨n, 0, none⟩ = some (.int .i64 s.a)
  r0_1 : W.cell? ⟨n, 1, none⟩ = some (.int .i64 s.b)
  r0_2 : W.cell? ⟨n, 2, none⟩ = some (.int .i64 s.c)
  r0_3 : W.cell? ⟨n, 3, none⟩ = some (.int .i64 s.d)
  r0_4 : W.cell? ⟨n, 4, none⟩ = some (.int .i64 s.e)
  r0_5 : W.cell? ⟨n, 5, none⟩ = some (.int .i64 s.f)
  r1_0 : W.cell? ⟨n + 1, 0, none⟩ = some (.int .i64 t.a)
  r1_1 : W.cell? ⟨n + 1, 1, none⟩ = some (.int .i64 t.b)
  r1_2 : W.cell? ⟨n + 1, 2, none⟩ = some (.int .i64 t.c)
  r1_3 : W.cell? ⟨n + 1, 3, none⟩ = some (.int .i64 t.d)
  r1_4 : W.cell? ⟨n + 1, 4, none⟩ = some (.int .i64 t.e)
  r1_5 : W.cell? ⟨n + 1, 5, none⟩ = some (.int .i64 t.f)
  size : n + 1 < W.heap.size
  below : Below n w0 W
theorem V2.drew {w0 W : World} {n : Nat} {s t : D} (h : V2 w0 W n s t) : V2 w0 W.drew n s t :=
  ⟨h.r0_0, h.r0_1, h.r0_2, h.r0_3, h.r0_4, h.r0_5, h.r1_0, h.r1_1, h.r1_2, h.r1_3, h.r1_4, h.r1_5, h.size, h.below.drew⟩
theorem V2.call {w0 W : World} {n : Nat} {s t : D} {W' : World} (h : V2 w0 W n s t) (hb : Below W.heap.size W W') : V2 w0 W' n s t := by
  have z := h.size
  have z' := hb.size
  have hc : ∀ b o, b < W.heap.size → W'.cell? ⟨b, o, none⟩ = W.cell? ⟨b, o, none⟩ := fun b o h => hb.cell (p := ⟨b, o, none⟩) h
  have hf : ∀ b o, b < W.heap.size → W'.frozen? ⟨b, o, none⟩ = W.frozen? ⟨b, o, none⟩ := fun b o h => hb.frozen (p := ⟨b, o, none⟩) h
  have l0 : n < W.heap.size := by omega
  have l1 : n + 1 < W.heap.size := by omega
  exact ⟨(hc _ _ l0).trans h.r0_0, (hc _ _ l0).trans h.r0_1, (hc _ _ l0).trans h.r0_2, (hc _ _ l0).trans h.r0_3, (hc _ _ l0).trans h.r0_4, (hc _ _ l0).trans h.r0_5, (hc _ _ l1).trans h.r1_0, (hc _ _ l1).trans h.r1_1, (hc _ _ l1).trans h.r1_2, (hc _ _ l1).trans h.r1_3, (hc _ _ l1).trans h.r1_4, (hc _ _ l1).trans h.r1_5, by omega, h.below.trans (hb.mono (by omega))⟩
theorem V2.all {w0 W : World} {n : Nat} {s t : D} (h : V2 w0 W n s t) : W.cell? ⟨n, 0, none⟩ = some (.int .i64 s.a) ∧ W.cell? ⟨n, 1, none⟩ = some (.int .i64 s.b) ∧ W.cell? ⟨n, 2, none⟩ = some (.int .i64 s.c) ∧ W.cell? ⟨n, 3, none⟩ = some (.int .i64 s.d) ∧ W.cell? ⟨n, 4, none⟩ = some (.int .i64 s.e) ∧ W.cell? ⟨n, 5, none⟩ = some (.int .i64 s.f) ∧ W.cell? ⟨n + 1, 0, none⟩ = some (.int .i64 t.a) ∧ W.cell? ⟨n + 1, 1, none⟩ = some (.int .i64 t.b) ∧ W.cell? ⟨n + 1, 2, none⟩ = some (.int .i64 t.c) ∧ W.cell? ⟨n + 1, 3, none⟩ = some (.int .i64 t.d) ∧ W.cell? ⟨n + 1, 4, none⟩ = some (.int .i64 t.e) ∧ W.cell? ⟨n + 1, 5, none⟩ = some (.int .i64 t.f) :=
  ⟨h.r0_0, h.r0_1, h.r0_2, h.r0_3, h.r0_4, h.r0_5, h.r1_0, h.r1_1, h.r1_2, h.r1_3, h.r1_4, h.r1_5⟩
structure K1 (w0 W : World) (n : Nat) (a b : Int) : Prop where
  r0_0 : W.cell? ⟨n, 0, none⟩ = some (.int .i64 a)
  r0_1 : W.cell? ⟨n, 1, none⟩ = some (.int .i64 b)
  size : n < W.heap.size
  below : Below n w0 W
theorem K1.drew {w0 W : World} {n : Nat} {a b : Int} (h : K1 w0 W n a b) : K1 w0 W.drew n a b :=
  ⟨h.r0_0, h.r0_1, h.size, h.below.drew⟩
theorem K1.call {w0 W : World} {n : Nat} {a b : Int} {W' : World} (h : K1 w0 W n a b) (hb : Below W.heap.size W W') : K1 w0 W' n a b := by
  have z := h.size
  have z' := hb.size
  have hc : ∀ b o, b < W.heap.size → W'.cell? ⟨b, o, none⟩ = W.cell? ⟨b, o, none⟩ := fun b o h => hb.cell (p := ⟨b, o, none⟩) h
  have hf : ∀ b o, b < W.heap.size → W'.frozen? ⟨b, o, none⟩ = W.frozen? ⟨b, o, none⟩ := fun b o h => hb.frozen (p := ⟨b, o, none⟩) h
  have l0 : n < W.heap.size := by omega
  exact ⟨(hc _ _ l0).trans h.r0_0, (hc _ _ l0).trans h.r0_1, by omega, h.below.trans (hb.mono (by omega))⟩
theorem K1.all {w0 W : World} {n : Nat} {a b : Int} (h : K1 w0 W n a b) : W.cell? ⟨n, 0, none⟩ = some (.int .i64 a) ∧ W.cell? ⟨n, 1, none⟩ = some (.int .i64 b) :=
  ⟨h.r0_0, h.r0_1⟩
structure R1 (w0 W : World) (n : Nat) (a b x y : Int) : Prop where
  r0_0 : W.cell? ⟨n, 0, none⟩ = some (.int .i64 a)
  r0_1 : W.cell? ⟨n, 1, none⟩ = some (.int .i64 b)
  r1_0 : W.cell? ⟨n + 1, 0, none⟩ = some (.int .i64 x)
  r1_1 : W.cell? ⟨n + 1, 1, none⟩ = some (.int .i64 y)
  z2_0 : W.cell? ⟨n + 1 + 1, 0, none⟩ = some (.int .i64 0)
  f2_0 : W.frozen? ⟨n + 1 + 1, 0, none⟩ = false
  z2_1 : W.cell? ⟨n + 1 + 1, 1, none⟩ = some (.int .i64 0)
  f2_1 : W.frozen? ⟨n + 1 + 1, 1, none⟩ = false
  size : n + 1 + 1 < W.heap.size
  below : Below n w0 W
theorem R1.drew {w0 W : World} {n : Nat} {a b x y : Int} (h : R1 w0 W n a b x y) : R1 w0 W.drew n a b x y :=
  ⟨h.r0_0, h.r0_1, h.r1_0, h.r1_1, h.z2_0, h.f2_0, h.z2_1, h.f2_1, h.size, h.below.drew⟩
theorem R1.call {w0 W : World} {n : Nat} {a b x y : Int} {W' : World} (h : R1 w0 W n a b x y) (hb : Below W.heap.size W W') : R1 w0 W' n a b x y := by
  have z := h.size
  have z' := hb.size
  have hc : ∀ b o, b < W.heap.size → W'.cell? ⟨b, o, none⟩ = W.cell? ⟨b, o, none⟩ := fun b o h => hb.cell (p := ⟨b, o, none⟩) h
  have hf : ∀ b o, b < W.heap.size → W'.frozen? ⟨b, o, none⟩ = W.frozen? ⟨b, o, none⟩ := fun b o h => hb.frozen (p := ⟨b, o, none⟩) h
  have l0 : n < W.heap.size := by omega
  have l1 : n + 1 < W.heap.size := by omega
  have l2 : n + 1 + 1 < W.heap.size := by omega
  exact ⟨(hc _ _ l0).trans h.r0_0, (hc _ _ l0).trans h.r0_1, (hc _ _ l1).trans h.r1_0, (hc _ _ l1).trans h.r1_1, (hc _ _ l2).trans h.z2_0, (hf _ _ l2).trans h.f2_0, (hc _ _ l2).trans h.z2_1, (hf _ _ l2).trans h.f2_1, by omega, h.below.trans (hb.mono (by omega))⟩
theorem R1.all {w0 W : World} {n : Nat} {a b x y : Int} (h : R1 w0 W n a b x y) : W.cell? ⟨n, 0, none⟩ = some (.int .i64 a) ∧ W.cell? ⟨n, 1, none⟩ = some (.int .i64 b) ∧ W.cell? ⟨n + 1, 0, none⟩ = some (.int .i64 x) ∧ W.cell? ⟨n + 1, 1, none⟩ = some (.int .i64 y) :=
  ⟨h.r0_0, h.r0_1, h.r1_0, h.r1_1⟩
theorem R1.set2_2 {w0 W : World} {n : Nat} {a b x y : Int} (h : R1 w0 W n a b x y) (u0 u1 : Value) : ((W.setCell ⟨n + 1 + 1, 0, none⟩ u0).setCell ⟨n + 1 + 1, 1, none⟩ u1).cell? ⟨n, 0, none⟩ = some (.int .i64 a) ∧ ((W.setCell ⟨n + 1 + 1, 0, none⟩ u0).setCell ⟨n + 1 + 1, 1, none⟩ u1).cell? ⟨n, 1, none⟩ = some (.int .i64 b) ∧ ((W.setCell ⟨n + 1 + 1, 0, none⟩ u0).setCell ⟨n + 1 + 1, 1, none⟩ u1).cell? ⟨n + 1, 0, none⟩ = some (.int .i64 x) ∧ ((W.setCell ⟨n + 1 + 1, 0, none⟩ u0).setCell ⟨n + 1 + 1, 1, none⟩ u1).cell? ⟨n + 1, 1, none⟩ = some (.int .i64 y) := by
  have n0 : ¬ (n = n + 1 + 1) := by omega
  have n1 : ¬ (n + 1 = n + 1 + 1) := by omega
  exact ⟨(fset (fset h.r0_0 n0) n0), (fset (fset h.r0_1 n0) n0), (fset (fset h.r1_0 n1) n1), (fset (fset h.r1_1 n1) n1)⟩
theorem R1.fin2_2 {w0 W : World} {n : Nat} {a b x y : Int} (h : R1 w0 W n a b x y) (u0 u1 : Int) : ((W.setCell ⟨n + 1 + 1, 0, none⟩ (.int .i64 u0)).setCell ⟨n + 1 + 1, 1, none⟩ (.int .i64 u1)).cell? ⟨n + 1 + 1, 0, none⟩ = some (.int .i64 u0) ∧ ((W.setCell ⟨n + 1 + 1, 0, none⟩ (.int .i64 u0)).setCell ⟨n + 1 + 1, 1, none⟩ (.int .i64 u1)).cell? ⟨n + 1 + 1, 1, none⟩ = some (.int .i64 u1) ∧ Below n w0 ((W.setCell ⟨n + 1 + 1, 0, none⟩ (.int .i64 u0)).setCell ⟨n + 1 + 1, 1, none⟩ (.int .i64 u1)) := by
  have b := h.below
  have z0 := h.z2_0
  have z1 := h.z2_1
  clear h
  refine ⟨?_, ?_, ((b.setCell (by dsimp only; omega) _).setCell (by dsimp only; omega) _)⟩ <;> simp [go_sem, *]
structure Rm (w0 W : World) (n : Nat) (a b x y : Int) (m : Nat) (E : Int) : Prop where
  r0_0 : W.cell? ⟨n, 0, none⟩ = some (.int .i64 a)
  r0_1 : W.cell? ⟨n, 1, none⟩ = some (.int .i64 b)
  r1_0 : W.cell? ⟨n + 1, 0, none⟩ = some (.int .i64 x)
  r1_1 : W.cell? ⟨n + 1, 1, none⟩ = some (.int .i64 y)
  z2_0 : W.cell? ⟨n + 1 + 1, 0, none⟩ = some (.int .i64 0)
  f2_0 : W.frozen? ⟨n + 1 + 1, 0, none⟩ = false
  z2_1 : W.cell? ⟨n + 1 + 1, 1, none⟩ = some (.int .i64 0)
  f2_1 : W.frozen? ⟨n + 1 + 1, 1, none⟩ = false
  cE : W.cell? ⟨m, 0, none⟩ = some (.int .i64 E)
  fE : W.frozen? ⟨m, 0, none⟩ = false
  mlt : n + 1 + 1 < m
  size : m < W.heap.size
  below : Below n w0 W
theorem Rm.drew {w0 W : World} {n : Nat} {a b x y : Int} {m : Nat} {E : Int} (h : Rm w0 W n a b x y m E) : Rm w0 W.drew n a b x y m E :=
  ⟨h.r0_0, h.r0_1, h.r1_0, h.r1_1, h.z2_0, h.f2_0, h.z2_1, h.f2_1, h.cE, h.fE, h.mlt, h.size, h.below.drew⟩
theorem Rm.call {w0 W : World} {n : Nat} {a b x y : Int} {m : Nat} {E : Int} {W' : World} (h : Rm w0 W n a b x y m E) (hb : Below W.heap.size W W') : Rm w0 W' n a b x y m E := by
  have z := h.size
  have z' := hb.size
  have hc : ∀ b o, b < W.heap.size → W'.cell? ⟨b, o, none⟩ = W.cell? ⟨b, o, none⟩ := fun b o h => hb.cell (p := ⟨b, o, none⟩) h
  have hf : ∀ b o, b < W.heap.size → W'.frozen? ⟨b, o, none⟩ = W.frozen? ⟨b, o, none⟩ := fun b o h => hb.frozen (p := ⟨b, o, none⟩) h
  have mlt := h.mlt
  have l0 : n < W.heap.size := by omega
  have l1 : n + 1 < W.heap.size := by omega
  have l2 : n + 1 + 1 < W.heap.size := by omega
  have lm : m < W.heap.size := h.size
  exact ⟨(hc _ _ l0).trans h.r0_0, (hc _ _ l0).trans h.r0_1, (hc _ _ l1).trans h.r1_0, (hc _ _ l1).trans h.r1_1, (hc _ _ l2).trans h.z2_0, (hf _ _ l2).trans h.f2_0, (hc _ _ l2).trans h.z2_1, (hf _ _ l2).trans h.f2_1, (hc _ _ lm).trans h.cE, (hf _ _ lm).trans h.fE, mlt, by omega, h.below.trans (hb.mono (by omega))⟩
theorem Rm.step {w0 W : World} {n : Nat} {a b x y : Int} {m : Nat} {E : Int} {W' : World} {E' : Int} (h : Rm w0 W n a b x y m E) (st : Step n W m E' W') : Rm w0 W' n a b x y m E' := by
  have z := h.size
  have z' := st.size
  have mlt := h.mlt
  have l0 : n < W.heap.size := by omega
  have l1 : n + 1 < W.heap.size := by omega
  have l2 : n + 1 + 1 < W.heap.size := by omega
  have lm : m < W.heap.size := h.size
  have n0 : ¬ (n = m) := by omega
  have n1 : ¬ (n + 1 = m) := by omega
  have n2 : ¬ (n + 1 + 1 = m) := by omega
  exact ⟨(st.other _ _ l0 n0).trans h.r0_0, (st.other _ _ l0 n0).trans h.r0_1, (st.other _ _ l1 n1).trans h.r1_0, (st.other _ _ l1 n1).trans h.r1_1, (st.other _ _ l2 n2).trans h.z2_0, (st.frozen _ _ l2).trans h.f2_0, (st.other _ _ l2 n2).trans h.z2_1, (st.frozen _ _ l2).trans h.f2_1, st.cell, (st.frozen _ _ lm).trans h.fE, mlt, by omega, h.below.trans (st.below (by omega) (by omega))⟩
theorem Rm.all {w0 W : World} {n : Nat} {a b x y : Int} {m : Nat} {E : Int} (h : Rm w0 W n a b x y m E) : W.cell? ⟨n, 0, none⟩ = some (.int .i64 a) ∧ W.cell? ⟨n, 1, none⟩ = some (.int .i64 b) ∧ W.cell? ⟨n + 1, 0, none⟩ = some (.int .i64 x) ∧ W.cell? ⟨n + 1, 1, none⟩ = some (.int .i64 y) :=
  ⟨h.r0_0, h.r0_1, h.r1_0, h.r1_1⟩
theorem Rm.set2_2 {w0 W : World} {n : Nat} {a b x y : Int} {m : Nat} {E : Int} (h : Rm w0 W n a b x y m E) (u0 u1 : Value) : ((W.setCell ⟨n + 1 + 1, 0, none⟩ u0).setCell ⟨n + 1 + 1, 1, none⟩ u1).cell? ⟨n, 0, none⟩ = some (.int .i64 a) ∧ ((W.setCell ⟨n + 1 + 1, 0, none⟩ u0).setCell ⟨n + 1 + 1, 1, none⟩ u1).cell? ⟨n, 1, none⟩ = some (.int .i64 b) ∧ ((W.setCell ⟨n + 1 + 1, 0, none⟩ u0).setCell ⟨n + 1 + 1, 1, none⟩ u1).cell? ⟨n + 1, 0, none⟩ = some (.int .i64 x) ∧ ((W.setCell ⟨n + 1 + 1, 0, none⟩ u0).setCell ⟨n + 1 + 1, 1, none⟩ u1).cell? ⟨n + 1, 1, none⟩ = some (.int .i64 y) := by
  have n0 : ¬ (n = n + 1 + 1) := by omega
  have n1 : ¬ (n + 1 = n + 1 + 1) := by omega
  exact ⟨(fset (fset h.r0_0 n0) n0), (fset (fset h.r0_1 n0) n0), (fset (fset h.r1_0 n1) n1), (fset (fset h.r1_1 n1) n1)⟩
theorem Rm.fin2_2 {w0 W : World} {n : Nat} {a b x y : Int} {m : Nat} {E : Int} (h : Rm w0 W n a b x y m E) (u0 u1 : Int) : ((W.setCell ⟨n + 1 + 1, 0, none⟩ (.int .i64 u0)).setCell ⟨n + 1 + 1, 1, none⟩ (.int .i64 u1)).cell? ⟨n + 1 + 1, 0, none⟩ = some (.int .i64 u0) ∧ ((W.setCell ⟨n + 1 + 1, 0, none⟩ (.int .i64 u0)).setCell ⟨n + 1 + 1, 1, none⟩ (.int .i64 u1)).cell? ⟨n + 1 + 1, 1, none⟩ = some (.int .i64 u1) ∧ Below n w0 ((W.setCell ⟨n + 1 + 1, 0, none⟩ (.int .i64 u0)).setCell ⟨n + 1 + 1, 1, none⟩ (.int .i64 u1)) := by
  have b := h.below
  have z0 := h.z2_0
  have z1 := h.z2_1
  clear h
  refine ⟨?_, ?_, ((b.setCell (by dsimp only; omega) _).setCell (by dsimp only; omega) _)⟩ <;> simp [go_sem, *]
theorem Rm.of {w0 W : World} {n : Nat} {a b x y : Int} {t : TypeId} (h : R1 w0 W n a b x y) : Rm w0 (W.alloc (.cells #[.int .i64 0] t)) n a b x y W.heap.size 0 := by
  have z := h.size
  have k := h.call ((Below.refl _ _).alloc (Nat.le_refl _) (.cells #[.int .i64 0] t))
  exact ⟨k.r0_0, k.r0_1, k.r1_0, k.r1_1, k.z2_0, k.f2_0, k.z2_1, k.f2_1, by simp [go_sem], by simp [go_sem], z, by simp, k.below⟩
theorem vray_any (s t : D) (w : World) :
    Calls Try.prog 31 #[dv s, dv t] w fun e w' => e = .returned (.bool (vD s && vD t)) ∧ Below w.heap.size w w' := by
  have I0 : V2 w ((w.alloc (.cells #[.int .i64 s.a, .int .i64 s.b, .int .i64 s.c, .int .i64 s.d, .int .i64 s.e, .int .i64 s.f] 25)).alloc (.cells #[.int .i64 t.a, .int .i64 t.b, .int .i64 t.c, .int .i64 t.d, .int .i64 t.e, .int .i64 t.f] 25)) w.heap.size s t := by
    refine ⟨by simp [go_sem], by simp [go_sem], by simp [go_sem], by simp [go_sem], by simp [go_sem], by simp [go_sem], by simp [go_sem], by simp [go_sem], by simp [go_sem], by simp [go_sem], by simp [go_sem], by simp [go_sem], by simp, ?_⟩
    · repeat (first | exact Below.refl _ _ | refine Below.alloc ?_ (by first | omega | (simp <;> omega)) _)
  cases hs : vD s
  · have HS := Lib.hid hs
    clear hs
    go_enter Try.func31, Try.ntmps31
    go_wp2_with fail
    refine (dvalid_any s _).mono ?_
    rintro e w1 ⟨rfl, hb⟩
    rw [HS.out]
    have I1 := I0.call hb
    clear hb
    have r0_0_1 := I1.r0_0
    have r0_1_1 := I1.r0_1
    have r0_2_1 := I1.r0_2
    have r0_3_1 := I1.r0_3
    have r0_4_1 := I1.r0_4
    have r0_5_1 := I1.r0_5
    have r1_0_1 := I1.r1_0
    have r1_1_1 := I1.r1_1
    have r1_2_1 := I1.r1_2
    have r1_3_1 := I1.r1_3
    have r1_4_1 := I1.r1_4
    have r1_5_1 := I1.r1_5
    have sz_1 := I1.size
    go_wp2_with fail
    go_ret
    exact ⟨rfl, I1.below⟩
  · have HS := Lib.hid hs
    clear hs
    go_enter Try.func31, Try.ntmps31
    go_wp2_with fail
    refine (dvalid_any s _).mono ?_
    rintro e w1 ⟨rfl, hb⟩
    rw [HS.out]
    have I1 := I0.call hb
    clear hb
    have r0_0_1 := I1.r0_0
    have r0_1_1 := I1.r0_1
    have r0_2_1 := I1.r0_2
    have r0_3_1 := I1.r0_3
    have r0_4_1 := I1.r0_4
    have r0_5_1 := I1.r0_5
    have r1_0_1 := I1.r1_0
    have r1_1_1 := I1.r1_1
    have r1_2_1 := I1.r1_2
    have r1_3_1 := I1.r1_3
    have r1_4_1 := I1.r1_4
    have r1_5_1 := I1.r1_5
    have sz_1 := I1.size
    go_wp2_with fail
    refine (dvalid_any t _).mono ?_
    rintro e w2 ⟨rfl, hb⟩
    have I2 := I1.call hb
    clear hb
    clear r0_0_1 r0_1_1 r0_2_1 r0_3_1 r0_4_1 r0_5_1 r1_0_1 r1_1_1 r1_2_1 r1_3_1 r1_4_1 r1_5_1 sz_1
    have r0_0_2 := I2.r0_0
    have r0_1_2 := I2.r0_1
    have r0_2_2 := I2.r0_2
    have r0_3_2 := I2.r0_3
    have r0_4_2 := I2.r0_4
    have r0_5_2 := I2.r0_5
    have r1_0_2 := I2.r1_0
    have r1_1_2 := I2.r1_1
    have r1_2_2 := I2.r1_2
    have r1_3_2 := I2.r1_3
    have r1_4_2 := I2.r1_4
    have r1_5_2 := I2.r1_5
    have sz_2 := I2.size
    go_wp2_with fail
    go_ret
    exact ⟨rfl, I2.below⟩
/-- what happens for a radicand -/
def decI (a b : Int) : Int := if vB a b = true then (if sgn a b = -1 then 1 else if sgn a b = 1 then 2 else 3) else 0
theorem decide_any (a b : Int) (w : World) :
    Calls Try.prog 14 #[iv a b] w fun e w' => e = .returned (.int .i64 (decI a b)) ∧ Below w.heap.size w w' := by
  have I0 : K1 w (w.alloc (.cells #[.int .i64 a, .int .i64 b] 23)) w.heap.size a b := by
    refine ⟨by simp [go_sem], by simp [go_sem], by simp, ?_⟩
    · repeat (first | exact Below.refl _ _ | refine Below.alloc ?_ (by first | omega | (simp <;> omega)) _)
  cases h1 : vB a b
  · rw [show decI a b = 0 from if_neg (by rw [h1]; decide)]
    have H1 := Lib.hid h1
    clear h1
    go_enter Try.func14, Try.ntmps14
    go_wp2_with fail
    refine (validb_any a b _).mono ?_
    rintro e w1 ⟨rfl, hb⟩
    rw [H1.out]
    have I1 := I0.call hb
    clear hb
    have r0_0_1 := I1.r0_0
    have r0_1_1 := I1.r0_1
    have sz_1 := I1.size
    go_wp2_with fail
    go_ret
    exact ⟨rfl, I1.below⟩
  · have hs : sgn a b = 1 ∨ sgn a b = -1 ∨ sgn a b = 0 := by
      rw [show sgn a b = (if 0 < a then 1 else if b < 0 then -1 else 0) from if_pos h1]
      (repeat' split) <;> simp
    rcases hs with hs | hs | hs
    · rw [show decI a b = 2 from by rw [show decI a b = (if sgn a b = -1 then 1 else if sgn a b = 1 then 2 else 3) from if_pos h1, hs]; decide]
      have HS := Lib.hid hs
      clear hs
      have H1 := Lib.hid h1
      clear h1
      go_enter Try.func14, Try.ntmps14
      go_wp2_with fail
      refine (validb_any a b _).mono ?_
      rintro e w1 ⟨rfl, hb⟩
      rw [H1.out]
      have I1 := I0.call hb
      clear hb
      have r0_0_1 := I1.r0_0
      have r0_1_1 := I1.r0_1
      have sz_1 := I1.size
      go_wp2_with fail
      refine (sign_any a b _).mono ?_
      rintro e w2 ⟨rfl, hb⟩
      rw [HS.out]
      have I2 := I1.call hb
      clear hb
      clear r0_0_1 r0_1_1 sz_1
      have r0_0_2 := I2.r0_0
      have r0_1_2 := I2.r0_1
      have sz_2 := I2.size
      go_wp2_with fail
      go_ret
      exact ⟨rfl, I2.below⟩
    · rw [show decI a b = 1 from by rw [show decI a b = (if sgn a b = -1 then 1 else if sgn a b = 1 then 2 else 3) from if_pos h1, hs]; decide]
      have HS := Lib.hid hs
      clear hs
      have H1 := Lib.hid h1
      clear h1
      go_enter Try.func14, Try.ntmps14
      go_wp2_with fail
      refine (validb_any a b _).mono ?_
      rintro e w1 ⟨rfl, hb⟩
      rw [H1.out]
      have I1 := I0.call hb
      clear hb
      have r0_0_1 := I1.r0_0
      have r0_1_1 := I1.r0_1
      have sz_1 := I1.size
      go_wp2_with fail
      refine (sign_any a b _).mono ?_
      rintro e w2 ⟨rfl, hb⟩
      rw [HS.out]
      have I2 := I1.call hb
      clear hb
      clear r0_0_1 r0_1_1 sz_1
      have r0_0_2 := I2.r0_0
      have r0_1_2 := I2.r0_1
      have sz_2 := I2.size
      go_wp2_with fail
      go_ret
      exact ⟨rfl, I2.below⟩
    · rw [show decI a b = 3 from by rw [show decI a b = (if sgn a b = -1 then 1 else if sgn a b = 1 then 2 else 3) from if_pos h1, hs]; decide]
      have HS := Lib.hid hs
      clear hs
      have H1 := Lib.hid h1
      clear h1
      go_enter Try.func14, Try.ntmps14
      go_wp2_with fail
      refine (validb_any a b _).mono ?_
      rintro e w1 ⟨rfl, hb⟩
      rw [H1.out]
      have I1 := I0.call hb
      clear hb
      have r0_0_1 := I1.r0_0
      have r0_1_1 := I1.r0_1
      have sz_1 := I1.size
      go_wp2_with fail
      refine (sign_any a b _).mono ?_
      rintro e w2 ⟨rfl, hb⟩
      rw [HS.out]
      have I2 := I1.call hb
      clear hb
      clear r0_0_1 r0_1_1 sz_1
      have r0_0_2 := I2.r0_0
      have r0_1_2 := I2.r0_1
      have sz_2 := I2.size
      go_wp2_with fail
      go_ret
      exact ⟨rfl, I2.below⟩
theorem al {w : World} {a : Addr} {o : Obj} {v : Value} (h : w.cell? a = some v) : (w.alloc o).cell? a = some v := (World.cell?_alloc_some w a o (by rw [h]; rfl)).trans h
structure X3 (w0 W : World) (s : D) (a b : Int) (B c : Nat) (E : Int) : Prop where
  r0_0 : W.cell? ⟨w0.heap.size, 0, none⟩ = some (.int .i64 s.a)
  r0_1 : W.cell? ⟨w0.heap.size, 1, none⟩ = some (.int .i64 s.b)
  r0_2 : W.cell? ⟨w0.heap.size, 2, none⟩ = some (.int .i64 s.c)
  r0_3 : W.cell? ⟨w0.heap.size, 3, none⟩ = some (.int .i64 s.d)
  r0_4 : W.cell? ⟨w0.heap.size, 4, none⟩ = some (.int .i64 s.e)
  r0_5 : W.cell? ⟨w0.heap.size, 5, none⟩ = some (.int .i64 s.f)
  r1_0 : W.cell? ⟨w0.heap.size + 1, 0, none⟩ = some (.int .i64 a)
  r1_1 : W.cell? ⟨w0.heap.size + 1, 1, none⟩ = some (.int .i64 b)
  z2_0 : W.cell? ⟨w0.heap.size + 1 + 1, 0, none⟩ = some (.int .i64 0)
  f2_0 : W.frozen? ⟨w0.heap.size + 1 + 1, 0, none⟩ = false
  z2_1 : W.cell? ⟨w0.heap.size + 1 + 1, 1, none⟩ = some (.int .i64 0)
  f2_1 : W.frozen? ⟨w0.heap.size + 1 + 1, 1, none⟩ = false
  z2_2 : W.cell? ⟨w0.heap.size + 1 + 1, 2, none⟩ = some (.int .i64 0)
  f2_2 : W.frozen? ⟨w0.heap.size + 1 + 1, 2, none⟩ = false
  z2_3 : W.cell? ⟨w0.heap.size + 1 + 1, 3, none⟩ = some (.int .i64 0)
  f2_3 : W.frozen? ⟨w0.heap.size + 1 + 1, 3, none⟩ = false
  z2_4 : W.cell? ⟨w0.heap.size + 1 + 1, 4, none⟩ = some (.int .i64 0)
  f2_4 : W.frozen? ⟨w0.heap.size + 1 + 1, 4, none⟩ = false
  z2_5 : W.cell? ⟨w0.heap.size + 1 + 1, 5, none⟩ = some (.int .i64 0)
  f2_5 : W.frozen? ⟨w0.heap.size + 1 + 1, 5, none⟩ = false
  fE : W.frozen? ⟨c, 0, none⟩ = false
  lt : c < w0.heap.size
  size : w0.heap.size + 1 + 1 < W.heap.size
  st : Step B w0 c E W
theorem X3.call {w0 W : World} {s : D} {a b : Int} {B c : Nat} {E : Int} {W' : World} (h : X3 w0 W s a b B c E) (hb : Below W.heap.size W W') : X3 w0 W' s a b B c E := by
  have z := h.size
  have z' := hb.size
  have lt := h.lt
  have hc : ∀ b o, b < W.heap.size → W'.cell? ⟨b, o, none⟩ = W.cell? ⟨b, o, none⟩ := fun b o h => hb.cell (p := ⟨b, o, none⟩) h
  have hf : ∀ b o, b < W.heap.size → W'.frozen? ⟨b, o, none⟩ = W.frozen? ⟨b, o, none⟩ := fun b o h => hb.frozen (p := ⟨b, o, none⟩) h
  have l0 : w0.heap.size < W.heap.size := by omega
  have l1 : w0.heap.size + 1 < W.heap.size := by omega
  have l2 : w0.heap.size + 1 + 1 < W.heap.size := by omega
  exact ⟨(hc _ _ l0).trans h.r0_0, (hc _ _ l0).trans h.r0_1, (hc _ _ l0).trans h.r0_2, (hc _ _ l0).trans h.r0_3, (hc _ _ l0).trans h.r0_4, (hc _ _ l0).trans h.r0_5, (hc _ _ l1).trans h.r1_0, (hc _ _ l1).trans h.r1_1, (hc _ _ l2).trans h.z2_0, (hf _ _ l2).trans h.f2_0, (hc _ _ l2).trans h.z2_1, (hf _ _ l2).trans h.f2_1, (hc _ _ l2).trans h.z2_2, (hf _ _ l2).trans h.f2_2, (hc _ _ l2).trans h.z2_3, (hf _ _ l2).trans h.f2_3, (hc _ _ l2).trans h.z2_4, (hf _ _ l2).trans h.f2_4, (hc _ _ l2).trans h.z2_5, (hf _ _ l2).trans h.f2_5, (hf _ _ (by omega)).trans h.fE, lt, by omega, h.st.more lt (hb.mono (by omega))⟩
theorem X3.put {w0 W : World} {s : D} {a b : Int} {B c : Nat} {E : Int} (h : X3 w0 W s a b B c E) (E' : Int) : X3 w0 (W.setCell ⟨c, 0, none⟩ (.int .i64 E')) s a b B c E' := by
  have z := h.size
  have lt := h.lt
  have cE := h.st.cell
  have n0 : ¬ (w0.heap.size = c) := by omega
  have n1 : ¬ (w0.heap.size + 1 = c) := by omega
  have n2 : ¬ (w0.heap.size + 1 + 1 = c) := by omega
  have st' : Step B w0 c E' (W.setCell ⟨c, 0, none⟩ (.int .i64 E')) := ⟨World.cell?_setCell_same W _ _ cE, fun b o h1 h2 => (World.cell?_setCell_other W _ _ _ (fun e => h2 (by injection e with e1 e2 e3; exact e1.symm))).trans (h.st.other b o h1 h2), fun b o h1 => (by simp [go_sem, h.st.frozen b o h1]), by have := h.st.size; simpa using this, fun h1 h2 => (h.st.below h1 h2).setCell h1 _⟩
  exact ⟨fset h.r0_0 n0, fset h.r0_1 n0, fset h.r0_2 n0, fset h.r0_3 n0, fset h.r0_4 n0, fset h.r0_5 n0, fset h.r1_0 n1, fset h.r1_1 n1, fset h.z2_0 n2, (by simp [go_sem, h.f2_0]), fset h.z2_1 n2, (by simp [go_sem, h.f2_1]), fset h.z2_2 n2, (by simp [go_sem, h.f2_2]), fset h.z2_3 n2, (by simp [go_sem, h.f2_3]), fset h.z2_4 n2, (by simp [go_sem, h.f2_4]), fset h.z2_5 n2, (by simp [go_sem, h.f2_5]), by simp [go_sem, h.fE], lt, by simpa using z, st'⟩
theorem X3.fin6_2 {w0 W : World} {s : D} {a b : Int} {B c : Nat} {E : Int} (h : X3 w0 W s a b B c E) (u0 u1 u2 u3 u4 u5 : Int) : ((((((W.setCell ⟨w0.heap.size + 1 + 1, 0, none⟩ (.int .i64 u0)).setCell ⟨w0.heap.size + 1 + 1, 1, none⟩ (.int .i64 u1)).setCell ⟨w0.heap.size + 1 + 1, 2, none⟩ (.int .i64 u2)).setCell ⟨w0.heap.size + 1 + 1, 3, none⟩ (.int .i64 u3)).setCell ⟨w0.heap.size + 1 + 1, 4, none⟩ (.int .i64 u4)).setCell ⟨w0.heap.size + 1 + 1, 5, none⟩ (.int .i64 u5)).cell? ⟨w0.heap.size + 1 + 1, 0, none⟩ = some (.int .i64 u0) ∧ ((((((W.setCell ⟨w0.heap.size + 1 + 1, 0, none⟩ (.int .i64 u0)).setCell ⟨w0.heap.size + 1 + 1, 1, none⟩ (.int .i64 u1)).setCell ⟨w0.heap.size + 1 + 1, 2, none⟩ (.int .i64 u2)).setCell ⟨w0.heap.size + 1 + 1, 3, none⟩ (.int .i64 u3)).setCell ⟨w0.heap.size + 1 + 1, 4, none⟩ (.int .i64 u4)).setCell ⟨w0.heap.size + 1 + 1, 5, none⟩ (.int .i64 u5)).cell? ⟨w0.heap.size + 1 + 1, 1, none⟩ = some (.int .i64 u1) ∧ ((((((W.setCell ⟨w0.heap.size + 1 + 1, 0, none⟩ (.int .i64 u0)).setCell ⟨w0.heap.size + 1 + 1, 1, none⟩ (.int .i64 u1)).setCell ⟨w0.heap.size + 1 + 1, 2, none⟩ (.int .i64 u2)).setCell ⟨w0.heap.size + 1 + 1, 3, none⟩ (.int .i64 u3)).setCell ⟨w0.heap.size + 1 + 1, 4, none⟩ (.int .i64 u4)).setCell ⟨w0.heap.size + 1 + 1, 5, none⟩ (.int .i64 u5)).cell? ⟨w0.heap.size + 1 + 1, 2, none⟩ = some (.int .i64 u2) ∧ ((((((W.setCell ⟨w0.heap.size + 1 + 1, 0, none⟩ (.int .i64 u0)).setCell ⟨w0.heap.size + 1 + 1, 1, none⟩ (.int .i64 u1)).setCell ⟨w0.heap.size + 1 + 1, 2, none⟩ (.int .i64 u2)).setCell ⟨w0.heap.size + 1 + 1, 3, none⟩ (.int .i64 u3)).setCell ⟨w0.heap.size + 1 + 1, 4, none⟩ (.int .i64 u4)).setCell ⟨w0.heap.size + 1 + 1, 5, none⟩ (.int .i64 u5)).cell? ⟨w0.heap.size + 1 + 1, 3, none⟩ = some (.int .i64 u3) ∧ ((((((W.setCell ⟨w0.heap.size + 1 + 1, 0, none⟩ (.int .i64 u0)).setCell ⟨w0.heap.size + 1 + 1, 1, none⟩ (.int .i64 u1)).setCell ⟨w0.heap.size + 1 + 1, 2, none⟩ (.int .i64 u2)).setCell ⟨w0.heap.size + 1 + 1, 3, none⟩ (.int .i64 u3)).setCell ⟨w0.heap.size + 1 + 1, 4, none⟩ (.int .i64 u4)).setCell ⟨w0.heap.size + 1 + 1, 5, none⟩ (.int .i64 u5)).cell? ⟨w0.heap.size + 1 + 1, 4, none⟩ = some (.int .i64 u4) ∧ ((((((W.setCell ⟨w0.heap.size + 1 + 1, 0, none⟩ (.int .i64 u0)).setCell ⟨w0.heap.size + 1 + 1, 1, none⟩ (.int .i64 u1)).setCell ⟨w0.heap.size + 1 + 1, 2, none⟩ (.int .i64 u2)).setCell ⟨w0.heap.size + 1 + 1, 3, none⟩ (.int .i64 u3)).setCell ⟨w0.heap.size + 1 + 1, 4, none⟩ (.int .i64 u4)).setCell ⟨w0.heap.size + 1 + 1, 5, none⟩ (.int .i64 u5)).cell? ⟨w0.heap.size + 1 + 1, 5, none⟩ = some (.int .i64 u5) ∧ Step B w0 c E ((((((W.setCell ⟨w0.heap.size + 1 + 1, 0, none⟩ (.int .i64 u0)).setCell ⟨w0.heap.size + 1 + 1, 1, none⟩ (.int .i64 u1)).setCell ⟨w0.heap.size + 1 + 1, 2, none⟩ (.int .i64 u2)).setCell ⟨w0.heap.size + 1 + 1, 3, none⟩ (.int .i64 u3)).setCell ⟨w0.heap.size + 1 + 1, 4, none⟩ (.int .i64 u4)).setCell ⟨w0.heap.size + 1 + 1, 5, none⟩ (.int .i64 u5)) := by
  have z0 := h.z2_0
  have z1 := h.z2_1
  have z2 := h.z2_2
  have z3 := h.z2_3
  have z4 := h.z2_4
  have z5 := h.z2_5
  have st := h.st
  have lt := h.lt
  clear h
  refine ⟨?_, ?_, ?_, ?_, ?_, ?_, st.more lt (((((((Below.refl _ _).setCell (by dsimp only; omega) _).setCell (by dsimp only; omega) _).setCell (by dsimp only; omega) _).setCell (by dsimp only; omega) _).setCell (by dsimp only; omega) _).setCell (by dsimp only; omega) _)⟩ <;> simp [go_sem, *]
structure X4 (w0 W : World) (s t : D) (B c : Nat) (E : Int) : Prop where
  r0_0 : W.cell? ⟨w0.heap.size, 0, none⟩ = some (.int .i64 s.a)
  r0_1 : W.cell? ⟨w0.heap.size, 1, none⟩ = some (.int .i64 s.b)
  r0_2 : W.cell? ⟨w0.heap.size, 2, none⟩ = some (.int .i64 s.c)
  r0_3 : W.cell? ⟨w0.heap.size, 3, none⟩ = some (.int .i64 s.d)
  r0_4 : W.cell? ⟨w0.heap.size, 4, none⟩ = some (.int .i64 s.e)
  r0_5 : W.cell? ⟨w0.heap.size, 5, none⟩ = some (.int .i64 s.f)
  r1_0 : W.cell? ⟨w0.heap.size + 1, 0, none⟩ = some (.int .i64 t.a)
  r1_1 : W.cell? ⟨w0.heap.size + 1, 1, none⟩ = some (.int .i64 t.b)
  r1_2 : W.cell? ⟨w0.heap.size + 1, 2, none⟩ = some (.int .i64 t.c)
  r1_3 : W.cell? ⟨w0.heap.size + 1, 3, none⟩ = some (.int .i64 t.d)
  r1_4 : W.cell? ⟨w0.heap.size + 1, 4, none⟩ = some (.int .i64 t.e)
  r1_5 : W.cell? ⟨w0.heap.size + 1, 5, none⟩ = some (.int .i64 t.f)
  z2_0 : W.cell? ⟨w0.heap.size + 1 + 1, 0, none⟩ = some (.int .i64 0)
  f2_0 : W.frozen? ⟨w0.heap.size + 1 + 1, 0, none⟩ = false
  z2_1 : W.cell? ⟨w0.heap.size + 1 + 1, 1, none⟩ = some (.int .i64 0)
  f2_1 : W.frozen? ⟨w0.heap.size + 1 + 1, 1, none⟩ = false
  z2_2 : W.cell? ⟨w0.heap.size + 1 + 1, 2, none⟩ = some (.int .i64 0)
  f2_2 : W.frozen? ⟨w0.heap.size + 1 + 1, 2, none⟩ = false
  z2_3 : W.cell? ⟨w0.heap.size + 1 + 1, 3, none⟩ = some (.int .i64 0)
  f2_3 : W.frozen? ⟨w0.heap.size + 1 + 1, 3, none⟩ = false
  z2_4 : W.cell? ⟨w0.heap.size + 1 + 1, 4, none⟩ = some (.int .i64 0)
  f2_4 : W.frozen? ⟨w0.heap.size + 1 + 1, 4, none⟩ = false
  z2_5 : W.cell? ⟨w0.heap.size + 1 + 1, 5, none⟩ = some (.int .i64 0)
  f2_5 : W.frozen? ⟨w0.heap.size + 1 + 1, 5, none⟩ = false
  fE : W.frozen? ⟨c, 0, none⟩ = false
  lt : c < w0.heap.size
  size : w0.heap.size + 1 + 1 < W.heap.size
  st : Step B w0 c E W
theorem X4.call {w0 W : World} {s t : D} {B c : Nat} {E : Int} {W' : World} (h : X4 w0 W s t B c E) (hb : Below W.heap.size W W') : X4 w0 W' s t B c E := by
  have z := h.size
  have z' := hb.size
  have lt := h.lt
  have hc : ∀ b o, b < W.heap.size → W'.cell? ⟨b, o, none⟩ = W.cell? ⟨b, o, none⟩ := fun b o h => hb.cell (p := ⟨b, o, none⟩) h
  have hf : ∀ b o, b < W.heap.size → W'.frozen? ⟨b, o, none⟩ = W.frozen? ⟨b, o, none⟩ := fun b o h => hb.frozen (p := ⟨b, o, none⟩) h
  have l0 : w0.heap.size < W.heap.size := by omega
  have l1 : w0.heap.size + 1 < W.heap.size := by omega
  have l2 : w0.heap.size + 1 + 1 < W.heap.size := by omega
  exact ⟨(hc _ _ l0).trans h.r0_0, (hc _ _ l0).trans h.r0_1, (hc _ _ l0).trans h.r0_2, (hc _ _ l0).trans h.r0_3, (hc _ _ l0).trans h.r0_4, (hc _ _ l0).trans h.r0_5, (hc _ _ l1).trans h.r1_0, (hc _ _ l1).trans h.r1_1, (hc _ _ l1).trans h.r1_2, (hc _ _ l1).trans h.r1_3, (hc _ _ l1).trans h.r1_4, (hc _ _ l1).trans h.r1_5, (hc _ _ l2).trans h.z2_0, (hf _ _ l2).trans h.f2_0, (hc _ _ l2).trans h.z2_1, (hf _ _ l2).trans h.f2_1, (hc _ _ l2).trans h.z2_2, (hf _ _ l2).trans h.f2_2, (hc _ _ l2).trans h.z2_3, (hf _ _ l2).trans h.f2_3, (hc _ _ l2).trans h.z2_4, (hf _ _ l2).trans h.f2_4, (hc _ _ l2).trans h.z2_5, (hf _ _ l2).trans h.f2_5, (hf _ _ (by omega)).trans h.fE, lt, by omega, h.st.more lt (hb.mono (by omega))⟩
theorem X4.put {w0 W : World} {s t : D} {B c : Nat} {E : Int} (h : X4 w0 W s t B c E) (E' : Int) : X4 w0 (W.setCell ⟨c, 0, none⟩ (.int .i64 E')) s t B c E' := by
  have z := h.size
  have lt := h.lt
  have cE := h.st.cell
  have n0 : ¬ (w0.heap.size = c) := by omega
  have n1 : ¬ (w0.heap.size + 1 = c) := by omega
  have n2 : ¬ (w0.heap.size + 1 + 1 = c) := by omega
  have st' : Step B w0 c E' (W.setCell ⟨c, 0, none⟩ (.int .i64 E')) := ⟨World.cell?_setCell_same W _ _ cE, fun b o h1 h2 => (World.cell?_setCell_other W _ _ _ (fun e => h2 (by injection e with e1 e2 e3; exact e1.symm))).trans (h.st.other b o h1 h2), fun b o h1 => (by simp [go_sem, h.st.frozen b o h1]), by have := h.st.size; simpa using this, fun h1 h2 => (h.st.below h1 h2).setCell h1 _⟩
  exact ⟨fset h.r0_0 n0, fset h.r0_1 n0, fset h.r0_2 n0, fset h.r0_3 n0, fset h.r0_4 n0, fset h.r0_5 n0, fset h.r1_0 n1, fset h.r1_1 n1, fset h.r1_2 n1, fset h.r1_3 n1, fset h.r1_4 n1, fset h.r1_5 n1, fset h.z2_0 n2, (by simp [go_sem, h.f2_0]), fset h.z2_1 n2, (by simp [go_sem, h.f2_1]), fset h.z2_2 n2, (by simp [go_sem, h.f2_2]), fset h.z2_3 n2, (by simp [go_sem, h.f2_3]), fset h.z2_4 n2, (by simp [go_sem, h.f2_4]), fset h.z2_5 n2, (by simp [go_sem, h.f2_5]), by simp [go_sem, h.fE], lt, by simpa using z, st'⟩
theorem X4.fin6_2 {w0 W : World} {s t : D} {B c : Nat} {E : Int} (h : X4 w0 W s t B c E) (u0 u1 u2 u3 u4 u5 : Int) : ((((((W.setCell ⟨w0.heap.size + 1 + 1, 0, none⟩ (.int .i64 u0)).setCell ⟨w0.heap.size + 1 + 1, 1, none⟩ (.int .i64 u1)).setCell ⟨w0.heap.size + 1 + 1, 2, none⟩ (.int .i64 u2)).setCell ⟨w0.heap.size + 1 + 1, 3, none⟩ (.int .i64 u3)).setCell ⟨w0.heap.size + 1 + 1, 4, none⟩ (.int .i64 u4)).setCell ⟨w0.heap.size + 1 + 1, 5, none⟩ (.int .i64 u5)).cell? ⟨w0.heap.size + 1 + 1, 0, none⟩ = some (.int .i64 u0) ∧ ((((((W.setCell ⟨w0.heap.size + 1 + 1, 0, none⟩ (.int .i64 u0)).setCell ⟨w0.heap.size + 1 + 1, 1, none⟩ (.int .i64 u1)).setCell ⟨w0.heap.size + 1 + 1, 2, none⟩ (.int .i64 u2)).setCell ⟨w0.heap.size + 1 + 1, 3, none⟩ (.int .i64 u3)).setCell ⟨w0.heap.size + 1 + 1, 4, none⟩ (.int .i64 u4)).setCell ⟨w0.heap.size + 1 + 1, 5, none⟩ (.int .i64 u5)).cell? ⟨w0.heap.size + 1 + 1, 1, none⟩ = some (.int .i64 u1) ∧ ((((((W.setCell ⟨w0.heap.size + 1 + 1, 0, none⟩ (.int .i64 u0)).setCell ⟨w0.heap.size + 1 + 1, 1, none⟩ (.int .i64 u1)).setCell ⟨w0.heap.size + 1 + 1, 2, none⟩ (.int .i64 u2)).setCell ⟨w0.heap.size + 1 + 1, 3, none⟩ (.int .i64 u3)).setCell ⟨w0.heap.size + 1 + 1, 4, none⟩ (.int .i64 u4)).setCell ⟨w0.heap.size + 1 + 1, 5, none⟩ (.int .i64 u5)).cell? ⟨w0.heap.size + 1 + 1, 2, none⟩ = some (.int .i64 u2) ∧ ((((((W.setCell ⟨w0.heap.size + 1 + 1, 0, none⟩ (.int .i64 u0)).setCell ⟨w0.heap.size + 1 + 1, 1, none⟩ (.int .i64 u1)).setCell ⟨w0.heap.size + 1 + 1, 2, none⟩ (.int .i64 u2)).setCell ⟨w0.heap.size + 1 + 1, 3, none⟩ (.int .i64 u3)).setCell ⟨w0.heap.size + 1 + 1, 4, none⟩ (.int .i64 u4)).setCell ⟨w0.heap.size + 1 + 1, 5, none⟩ (.int .i64 u5)).cell? ⟨w0.heap.size + 1 + 1, 3, none⟩ = some (.int .i64 u3) ∧ ((((((W.setCell ⟨w0.heap.size + 1 + 1, 0, none⟩ (.int .i64 u0)).setCell ⟨w0.heap.size + 1 + 1, 1, none⟩ (.int .i64 u1)).setCell ⟨w0.heap.size + 1 + 1, 2, none⟩ (.int .i64 u2)).setCell ⟨w0.heap.size + 1 + 1, 3, none⟩ (.int .i64 u3)).setCell ⟨w0.heap.size + 1 + 1, 4, none⟩ (.int .i64 u4)).setCell ⟨w0.heap.size + 1 + 1, 5, none⟩ (.int .i64 u5)).cell? ⟨w0.heap.size + 1 + 1, 4, none⟩ = some (.int .i64 u4) ∧ ((((((W.setCell ⟨w0.heap.size + 1 + 1, 0, none⟩ (.int .i64 u0)).setCell ⟨w0.heap.size + 1 + 1, 1, none⟩ (.int .i64 u1)).setCell ⟨w0.heap.size + 1 + 1, 2, none⟩ (.int .i64 u2)).setCell ⟨w0.heap.size + 1 + 1, 3, none⟩ (.int .i64 u3)).setCell ⟨w0.heap.size + 1 + 1, 4, none⟩ (.int .i64 u4)).setCell ⟨w0.heap.size + 1 + 1, 5, none⟩ (.int .i64 u5)).cell? ⟨w0.heap.size + 1 + 1, 5, none⟩ = some (.int .i64 u5) ∧ Step B w0 c E ((((((W.setCell ⟨w0.heap.size + 1 + 1, 0, none⟩ (.int .i64 u0)).setCell ⟨w0.heap.size + 1 + 1, 1, none⟩ (.int .i64 u1)).setCell ⟨w0.heap.size + 1 + 1, 2, none⟩ (.int .i64 u2)).setCell ⟨w0.heap.size + 1 + 1, 3, none⟩ (.int .i64 u3)).setCell ⟨w0.heap.size + 1 + 1, 4, none⟩ (.int .i64 u4)).setCell ⟨w0.heap.size + 1 + 1, 5, none⟩ (.int .i64 u5)) := by
  have z0 := h.z2_0
  have z1 := h.z2_1
  have z2 := h.z2_2
  have z3 := h.z2_3
  have z4 := h.z2_4
  have z5 := h.z2_5
  have st := h.st
  have lt := h.lt
  clear h
  refine ⟨?_, ?_, ?_, ?_, ?_, ?_, st.more lt (((((((Below.refl _ _).setCell (by dsimp only; omega) _).setCell (by dsimp only; omega) _).setCell (by dsimp only; omega) _).setCell (by dsimp only; omega) _).setCell (by dsimp only; omega) _).setCell (by dsimp only; omega) _)⟩ <;> simp [go_sem, *]
/-- a step of a calculation with boxes that stops at its first error -/
def goOnD (e : Int) (r : RD) : RD := if e = 0 then r else ⟨zD, e⟩
set_option maxRecDepth 100000 in
set_option maxHeartbeats 1000000 in
theorem rscale_any (B c : Nat) (e : Int) (s : D) (a b : Int) (w : World) (hc : w.cell? ⟨c, 0, none⟩ = some (.int .i64 e)) (hf : w.frozen? ⟨c, 0, none⟩ = false) :
    Calls Try.prog 33 #[.pointer (some ⟨c, 0, none⟩), dv s, iv a b] w fun r w' => r = .returned (dv (goOnD e (scaleD s a b)).d) ∧ Step B w c (goOnD e (scaleD s a b)).e w' := by
  have hlt : c < w.heap.size := World.block_lt_of_cell? w _ hc
  have q1 : c < w.heap.size + 1 := by omega
  have q2 : c < w.heap.size + 1 + 1 := by omega
  have q3 : c < w.heap.size + 1 + 1 + 1 := by omega
  have nn0 : ¬ (c = w.heap.size) := by omega
  have nn1 : ¬ (c = w.heap.size + 1) := by omega
  have nn2 : ¬ (c = w.heap.size + 1 + 1) := by omega
  have hbel : Below w.heap.size w (((w.alloc (.cells #[.int .i64 s.a, .int .i64 s.b, .int .i64 s.c, .int .i64 s.d, .int .i64 s.e, .int .i64 s.f] 25)).alloc (.cells #[.int .i64 a, .int .i64 b] 23)).alloc (.cells #[.int .i64 0, .int .i64 0, .int .i64 0, .int .i64 0, .int .i64 0, .int .i64 0] 25)) := by
    repeat (first | exact Below.refl _ _ | refine Below.alloc ?_ (by first | omega | (simp <;> omega)) _)
  have I0 : X3 w (((w.alloc (.cells #[.int .i64 s.a, .int .i64 s.b, .int .i64 s.c, .int .i64 s.d, .int .i64 s.e, .int .i64 s.f] 25)).alloc (.cells #[.int .i64 a, .int .i64 b] 23)).alloc (.cells #[.int .i64 0, .int .i64 0, .int .i64 0, .int .i64 0, .int .i64 0, .int .i64 0] 25)) s a b B c e := by
    refine ⟨by simp [go_sem], by simp [go_sem], by simp [go_sem], by simp [go_sem], by simp [go_sem], by simp [go_sem], by simp [go_sem], by simp [go_sem], by simp [go_sem], by simp [go_sem], by simp [go_sem], by simp [go_sem], by simp [go_sem], by simp [go_sem], by simp [go_sem], by simp [go_sem], by simp [go_sem], by simp [go_sem], by simp [go_sem], by simp [go_sem], by simp [go_sem, *], hlt, by simp, Step.start hbel hc⟩
  clear hbel
  by_cases he : e = 0
  · subst he
    rw [show goOnD 0 (scaleD s a b) = scaleD s a b from if_pos rfl]
    obtain ⟨⟨⟨d0, d1, d2, d3, d4, d5⟩, ee⟩, hd⟩ : ∃ r : RD, scaleD s a b = r := ⟨_, rfl⟩
    have HD := Lib.hid (show retD (scaleD s a b) = .returned (.tuple #[.agg #[.int .i64 d0, .int .i64 d1, .int .i64 d2, .int .i64 d3, .int .i64 d4, .int .i64 d5], .int .i64 ee]) from by rw [hd])
    rw [hd]
    clear hd
    go_enter Try.func33, Try.ntmps33
    go_wp2_with fail
    refine (dscale_any s a b _).mono ?_
    rintro r w1 ⟨rfl, hb⟩
    rw [HD.out]
    have I1 := I0.call hb
    clear hb
    have r0_0_1 := I1.r0_0
    have r0_1_1 := I1.r0_1
    have r0_2_1 := I1.r0_2
    have r0_3_1 := I1.r0_3
    have r0_4_1 := I1.r0_4
    have r0_5_1 := I1.r0_5
    have r1_0_1 := I1.r1_0
    have r1_1_1 := I1.r1_1
    have z2_0_1 := I1.z2_0
    have f2_0_1 := I1.f2_0
    have z2_1_1 := I1.z2_1
    have f2_1_1 := I1.f2_1
    have z2_2_1 := I1.z2_2
    have f2_2_1 := I1.f2_2
    have z2_3_1 := I1.z2_3
    have f2_3_1 := I1.f2_3
    have z2_4_1 := I1.z2_4
    have f2_4_1 := I1.f2_4
    have z2_5_1 := I1.z2_5
    have f2_5_1 := I1.f2_5
    have cE_1 := I1.st.cell
    have fE_1 := I1.fE
    have sz_1 := I1.size
    have v1 : c < w1.heap.size := by omega
    have v2 : ¬ (c = w1.heap.size) := by omega
    have v3 : ¬ (w1.heap.size = c) := by omega
    have v4 : w.heap.size + 1 + 1 < w1.heap.size := by omega
    have v5 : ¬ (w.heap.size + 1 + 1 = w1.heap.size) := by omega
    have v6 : ¬ (w1.heap.size = w.heap.size + 1 + 1) := by omega
    have v7 : c < w1.heap.size + 1 := by omega
    have v8 : w.heap.size + 1 + 1 < w1.heap.size + 1 := by omega
    have v9 : ¬ (c = w.heap.size + 1 + 1) := by omega
    have v10 : ¬ (w.heap.size + 1 + 1 = c) := by omega
    go_wp2_with fail
    have I2 := I1.put ee
    have K := I2.fin6_2 (d0) (d1) (d2) (d3) (d4) (d5)
    have LT := I2.lt
    revert K
    generalize (((((((w1.setCell ⟨c, 0, none⟩ (.int .i64 ee)).setCell ⟨w.heap.size + 1 + 1, 0, none⟩ (.int .i64 d0)).setCell ⟨w.heap.size + 1 + 1, 1, none⟩ (.int .i64 d1)).setCell ⟨w.heap.size + 1 + 1, 2, none⟩ (.int .i64 d2)).setCell ⟨w.heap.size + 1 + 1, 3, none⟩ (.int .i64 d3)).setCell ⟨w.heap.size + 1 + 1, 4, none⟩ (.int .i64 d4)).setCell ⟨w.heap.size + 1 + 1, 5, none⟩ (.int .i64 d5)) = X
    intro K
    obtain ⟨k0, k1, k2, k3, k4, k5, kb⟩ := K
    have kb := kb.more LT ((Below.refl _ _).alloc kb.size (.cells #[.int .i64 d0, .int .i64 d1, .int .i64 d2, .int .i64 d3, .int .i64 d4, .int .i64 d5] 25))
    have k0 := al k0 (o := .cells #[.int .i64 d0, .int .i64 d1, .int .i64 d2, .int .i64 d3, .int .i64 d4, .int .i64 d5] 25)
    have k1 := al k1 (o := .cells #[.int .i64 d0, .int .i64 d1, .int .i64 d2, .int .i64 d3, .int .i64 d4, .int .i64 d5] 25)
    have k2 := al k2 (o := .cells #[.int .i64 d0, .int .i64 d1, .int .i64 d2, .int .i64 d3, .int .i64 d4, .int .i64 d5] 25)
    have k3 := al k3 (o := .cells #[.int .i64 d0, .int .i64 d1, .int .i64 d2, .int .i64 d3, .int .i64 d4, .int .i64 d5] 25)
    have k4 := al k4 (o := .cells #[.int .i64 d0, .int .i64 d1, .int .i64 d2, .int .i64 d3, .int .i64 d4, .int .i64 d5] 25)
    have k5 := al k5 (o := .cells #[.int .i64 d0, .int .i64 d1, .int .i64 d2, .int .i64 d3, .int .i64 d4, .int .i64 d5] 25)
    revert kb k0 k1 k2 k3 k4 k5
    generalize X.alloc (.cells #[.int .i64 d0, .int .i64 d1, .int .i64 d2, .int .i64 d3, .int .i64 d4, .int .i64 d5] 25) = Y
    intro kb k0 k1 k2 k3 k4 k5
    exact bodyPost_ret (v := dv ⟨d0, d1, d2, d3, d4, d5⟩) (by simp [results, Try.results33, go_sem, k0, k1, k2, k3, k4, k5]) rfl ⟨rfl, kb⟩
  · rw [show goOnD e (scaleD s a b) = ⟨zD, e⟩ from if_neg he]
    have he' : (e == 0) = false := by simpa using he
    go_enter Try.func33, Try.ntmps33
    go_wp2_with fail
    exact bodyPost_ret (v := dv zD) (by simp [results, Try.results33, go_sem, zD]) rfl ⟨rfl, I0.st⟩
set_option maxRecDepth 100000 in
set_option maxHeartbeats 1000000 in
theorem rvec_add (B c : Nat) (e : Int) (s t : D) (w : World) (hc : w.cell? ⟨c, 0, none⟩ = some (.int .i64 e)) (hf : w.frozen? ⟨c, 0, none⟩ = false) :
    Calls Try.prog 34 #[.pointer (some ⟨c, 0, none⟩), .func (.func 87) #[] #[], dv s, dv t] w fun r w' => r = .returned (dv (goOnD e (addD s t)).d) ∧ Step B w c (goOnD e (addD s t)).e w' := by
  have hlt : c < w.heap.size := World.block_lt_of_cell? w _ hc
  have q1 : c < w.heap.size + 1 := by omega
  have q2 : c < w.heap.size + 1 + 1 := by omega
  have q3 : c < w.heap.size + 1 + 1 + 1 := by omega
  have nn0 : ¬ (c = w.heap.size) := by omega
  have nn1 : ¬ (c = w.heap.size + 1) := by omega
  have nn2 : ¬ (c = w.heap.size + 1 + 1) := by omega
  have hbel : Below w.heap.size w (((w.alloc (.cells #[.int .i64 s.a, .int .i64 s.b, .int .i64 s.c, .int .i64 s.d, .int .i64 s.e, .int .i64 s.f] 25)).alloc (.cells #[.int .i64 t.a, .int .i64 t.b, .int .i64 t.c, .int .i64 t.d, .int .i64 t.e, .int .i64 t.f] 25)).alloc (.cells #[.int .i64 0, .int .i64 0, .int .i64 0, .int .i64 0, .int .i64 0, .int .i64 0] 25)) := by
    repeat (first | exact Below.refl _ _ | refine Below.alloc ?_ (by first | omega | (simp <;> omega)) _)
  have I0 : X4 w (((w.alloc (.cells #[.int .i64 s.a, .int .i64 s.b, .int .i64 s.c, .int .i64 s.d, .int .i64 s.e, .int .i64 s.f] 25)).alloc (.cells #[.int .i64 t.a, .int .i64 t.b, .int .i64 t.c, .int .i64 t.d, .int .i64 t.e, .int .i64 t.f] 25)).alloc (.cells #[.int .i64 0, .int .i64 0, .int .i64 0, .int .i64 0, .int .i64 0, .int .i64 0] 25)) s t B c e := by
    refine ⟨by simp [go_sem], by simp [go_sem], by simp [go_sem], by simp [go_sem], by simp [go_sem], by simp [go_sem], by simp [go_sem], by simp [go_sem], by simp [go_sem], by simp [go_sem], by simp [go_sem], by simp [go_sem], by simp [go_sem], by simp [go_sem], by simp [go_sem], by simp [go_sem], by simp [go_sem], by simp [go_sem], by simp [go_sem], by simp [go_sem], by simp [go_sem], by simp [go_sem], by simp [go_sem], by simp [go_sem], by simp [go_sem, *], hlt, by simp, Step.start hbel hc⟩
  clear hbel
  by_cases he : e = 0
  · subst he
    rw [show goOnD 0 (addD s t) = addD s t from if_pos rfl]
    obtain ⟨⟨⟨d0, d1, d2, d3, d4, d5⟩, ee⟩, hd⟩ : ∃ r : RD, addD s t = r := ⟨_, rfl⟩
    have HD := Lib.hid (show retD (addD s t) = .returned (.tuple #[.agg #[.int .i64 d0, .int .i64 d1, .int .i64 d2, .int .i64 d3, .int .i64 d4, .int .i64 d5], .int .i64 ee]) from by rw [hd])
    rw [hd]
    clear hd
    go_enter Try.func34, Try.ntmps34
    go_wp2_with fail
    refine (dadd_any s t _).mono ?_
    rintro r w1 ⟨rfl, hb⟩
    rw [HD.out]
    have I1 := I0.call hb
    clear hb
    have r0_0_1 := I1.r0_0
    have r0_1_1 := I1.r0_1
    have r0_2_1 := I1.r0_2
    have r0_3_1 := I1.r0_3
    have r0_4_1 := I1.r0_4
    have r0_5_1 := I1.r0_5
    have r1_0_1 := I1.r1_0
    have r1_1_1 := I1.r1_1
    have r1_2_1 := I1.r1_2
    have r1_3_1 := I1.r1_3
    have r1_4_1 := I1.r1_4
    have r1_5_1 := I1.r1_5
    have z2_0_1 := I1.z2_0
    have f2_0_1 := I1.f2_0
    have z2_1_1 := I1.z2_1
    have f2_1_1 := I1.f2_1
    have z2_2_1 := I1.z2_2
    have f2_2_1 := I1.f2_2
    have z2_3_1 := I1.z2_3
    have f2_3_1 := I1.f2_3
    have z2_4_1 := I1.z2_4
    have f2_4_1 := I1.f2_4
    have z2_5_1 := I1.z2_5
    have f2_5_1 := I1.f2_5
    have cE_1 := I1.st.cell
    have fE_1 := I1.fE
    have sz_1 := I1.size
    have v1 : c < w1.heap.size := by omega
    have v2 : ¬ (c = w1.heap.size) := by omega
    have v3 : ¬ (w1.heap.size = c) := by omega
    have v4 : w.heap.size + 1 + 1 < w1.heap.size := by omega
    have v5 : ¬ (w.heap.size + 1 + 1 = w1.heap.size) := by omega
    have v6 : ¬ (w1.heap.size = w.heap.size + 1 + 1) := by omega
    have v7 : c < w1.heap.size + 1 := by omega
    have v8 : w.heap.size + 1 + 1 < w1.heap.size + 1 := by omega
    have v9 : ¬ (c = w.heap.size + 1 + 1) := by omega
    have v10 : ¬ (w.heap.size + 1 + 1 = c) := by omega
    go_wp2_with fail
    have I2 := I1.put ee
    have K := I2.fin6_2 (d0) (d1) (d2) (d3) (d4) (d5)
    have LT := I2.lt
    revert K
    generalize (((((((w1.setCell ⟨c, 0, none⟩ (.int .i64 ee)).setCell ⟨w.heap.size + 1 + 1, 0, none⟩ (.int .i64 d0)).setCell ⟨w.heap.size + 1 + 1, 1, none⟩ (.int .i64 d1)).setCell ⟨w.heap.size + 1 + 1, 2, none⟩ (.int .i64 d2)).setCell ⟨w.heap.size + 1 + 1, 3, none⟩ (.int .i64 d3)).setCell ⟨w.heap.size + 1 + 1, 4, none⟩ (.int .i64 d4)).setCell ⟨w.heap.size + 1 + 1, 5, none⟩ (.int .i64 d5)) = X
    intro K
    obtain ⟨k0, k1, k2, k3, k4, k5, kb⟩ := K
    have kb := kb.more LT ((Below.refl _ _).alloc kb.size (.cells #[.int .i64 d0, .int .i64 d1, .int .i64 d2, .int .i64 d3, .int .i64 d4, .int .i64 d5] 25))
    have k0 := al k0 (o := .cells #[.int .i64 d0, .int .i64 d1, .int .i64 d2, .int .i64 d3, .int .i64 d4, .int .i64 d5] 25)
    have k1 := al k1 (o := .cells #[.int .i64 d0, .int .i64 d1, .int .i64 d2, .int .i64 d3, .int .i64 d4, .int .i64 d5] 25)
    have k2 := al k2 (o := .cells #[.int .i64 d0, .int .i64 d1, .int .i64 d2, .int .i64 d3, .int .i64 d4, .int .i64 d5] 25)
    have k3 := al k3 (o := .cells #[.int .i64 d0, .int .i64 d1, .int .i64 d2, .int .i64 d3, .int .i64 d4, .int .i64 d5] 25)
    have k4 := al k4 (o := .cells #[.int .i64 d0, .int .i64 d1, .int .i64 d2, .int .i64 d3, .int .i64 d4, .int .i64 d5] 25)
    have k5 := al k5 (o := .cells #[.int .i64 d0, .int .i64 d1, .int .i64 d2, .int .i64 d3, .int .i64 d4, .int .i64 d5] 25)
    revert kb k0 k1 k2 k3 k4 k5
    generalize X.alloc (.cells #[.int .i64 d0, .int .i64 d1, .int .i64 d2, .int .i64 d3, .int .i64 d4, .int .i64 d5] 25) = Y
    intro kb k0 k1 k2 k3 k4 k5
    exact bodyPost_ret (v := dv ⟨d0, d1, d2, d3, d4, d5⟩) (by simp [results, Try.results34, go_sem, k0, k1, k2, k3, k4, k5]) rfl ⟨rfl, kb⟩
  · rw [show goOnD e (addD s t) = ⟨zD, e⟩ from if_neg he]
    have he' : (e == 0) = false := by simpa using he
    go_enter Try.func34, Try.ntmps34
    go_wp2_with fail
    exact bodyPost_ret (v := dv zD) (by simp [results, Try.results34, go_sem, zD]) rfl ⟨rfl, I0.st⟩
set_option maxRecDepth 100000 in
set_option maxHeartbeats 1000000 in
theorem rvec_sub (B c : Nat) (e : Int) (s t : D) (w : World) (hc : w.cell? ⟨c, 0, none⟩ = some (.int .i64 e)) (hf : w.frozen? ⟨c, 0, none⟩ = false) :
    Calls Try.prog 34 #[.pointer (some ⟨c, 0, none⟩), .func (.func 36) #[] #[], dv s, dv t] w fun r w' => r = .returned (dv (goOnD e (subD s t)).d) ∧ Step B w c (goOnD e (subD s t)).e w' := by
  have hlt : c < w.heap.size := World.block_lt_of_cell? w _ hc
  have q1 : c < w.heap.size + 1 := by omega
  have q2 : c < w.heap.size + 1 + 1 := by omega
  have q3 : c < w.heap.size + 1 + 1 + 1 := by omega
  have nn0 : ¬ (c = w.heap.size) := by omega
  have nn1 : ¬ (c = w.heap.size + 1) := by omega
  have nn2 : ¬ (c = w.heap.size + 1 + 1) := by omega
  have hbel : Below w.heap.size w (((w.alloc (.cells #[.int .i64 s.a, .int .i64 s.b, .int .i64 s.c, .int .i64 s.d, .int .i64 s.e, .int .i64 s.f] 25)).alloc (.cells #[.int .i64 t.a, .int .i64 t.b, .int .i64 t.c, .int .i64 t.d, .int .i64 t.e, .int .i64 t.f] 25)).alloc (.cells #[.int .i64 0, .int .i64 0, .int .i64 0, .int .i64 0, .int .i64 0, .int .i64 0] 25)) := by
    repeat (first | exact Below.refl _ _ | refine Below.alloc ?_ (by first | omega | (simp <;> omega)) _)
  have I0 : X4 w (((w.alloc (.cells #[.int .i64 s.a, .int .i64 s.b, .int .i64 s.c, .int .i64 s.d, .int .i64 s.e, .int .i64 s.f] 25)).alloc (.cells #[.int .i64 t.a, .int .i64 t.b, .int .i64 t.c, .int .i64 t.d, .int .i64 t.e, .int .i64 t.f] 25)).alloc (.cells #[.int .i64 0, .int .i64 0, .int .i64 0, .int .i64 0, .int .i64 0, .int .i64 0] 25)) s t B c e := by
    refine ⟨by simp [go_sem], by simp [go_sem], by simp [go_sem], by simp [go_sem], by simp [go_sem], by simp [go_sem], by simp [go_sem], by simp [go_sem], by simp [go_sem], by simp [go_sem], by simp [go_sem], by simp [go_sem], by simp [go_sem], by simp [go_sem], by simp [go_sem], by simp [go_sem], by simp [go_sem], by simp [go_sem], by simp [go_sem], by simp [go_sem], by simp [go_sem], by simp [go_sem], by simp [go_sem], by simp [go_sem], by simp [go_sem, *], hlt, by simp, Step.start hbel hc⟩
  clear hbel
  by_cases he : e = 0
  · subst he
    rw [show goOnD 0 (subD s t) = subD s t from if_pos rfl]
    obtain ⟨⟨⟨d0, d1, d2, d3, d4, d5⟩, ee⟩, hd⟩ : ∃ r : RD, subD s t = r := ⟨_, rfl⟩
    have HD := Lib.hid (show retD (subD s t) = .returned (.tuple #[.agg #[.int .i64 d0, .int .i64 d1, .int .i64 d2, .int .i64 d3, .int .i64 d4, .int .i64 d5], .int .i64 ee]) from by rw [hd])
    rw [hd]
    clear hd
    go_enter Try.func34, Try.ntmps34
    go_wp2_with fail
    refine (dsub_any s t _).mono ?_
    rintro r w1 ⟨rfl, hb⟩
    rw [HD.out]
    have I1 := I0.call hb
    clear hb
    have r0_0_1 := I1.r0_0
    have r0_1_1 := I1.r0_1
    have r0_2_1 := I1.r0_2
    have r0_3_1 := I1.r0_3
    have r0_4_1 := I1.r0_4
    have r0_5_1 := I1.r0_5
    have r1_0_1 := I1.r1_0
    have r1_1_1 := I1.r1_1
    have r1_2_1 := I1.r1_2
    have r1_3_1 := I1.r1_3
    have r1_4_1 := I1.r1_4
    have r1_5_1 := I1.r1_5
    have z2_0_1 := I1.z2_0
    have f2_0_1 := I1.f2_0
    have z2_1_1 := I1.z2_1
    have f2_1_1 := I1.f2_1
    have z2_2_1 := I1.z2_2
    have f2_2_1 := I1.f2_2
    have z2_3_1 := I1.z2_3
    have f2_3_1 := I1.f2_3
    have z2_4_1 := I1.z2_4
    have f2_4_1 := I1.f2_4
    have z2_5_1 := I1.z2_5
    have f2_5_1 := I1.f2_5
    have cE_1 := I1.st.cell
    have fE_1 := I1.fE
    have sz_1 := I1.size
    have v1 : c < w1.heap.size := by omega
    have v2 : ¬ (c = w1.heap.size) := by omega
    have v3 : ¬ (w1.heap.size = c) := by omega
    have v4 : w.heap.size + 1 + 1 < w1.heap.size := by omega
    have v5 : ¬ (w.heap.size + 1 + 1 = w1.heap.size) := by omega
    have v6 : ¬ (w1.heap.size = w.heap.size + 1 + 1) := by omega
    have v7 : c < w1.heap.size + 1 := by omega
    have v8 : w.heap.size + 1 + 1 < w1.heap.size + 1 := by omega
    have v9 : ¬ (c = w.heap.size + 1 + 1) := by omega
    have v10 : ¬ (w.heap.size + 1 + 1 = c) := by omega
    go_wp2_with fail
    have I2 := I1.put ee
    have K := I2.fin6_2 (d0) (d1) (d2) (d3) (d4) (d5)
    have LT := I2.lt
    revert K
    generalize (((((((w1.setCell ⟨c, 0, none⟩ (.int .i64 ee)).setCell ⟨w.heap.size + 1 + 1, 0, none⟩ (.int .i64 d0)).setCell ⟨w.heap.size + 1 + 1, 1, none⟩ (.int .i64 d1)).setCell ⟨w.heap.size + 1 + 1, 2, none⟩ (.int .i64 d2)).setCell ⟨w.heap.size + 1 + 1, 3, none⟩ (.int .i64 d3)).setCell ⟨w.heap.size + 1 + 1, 4, none⟩ (.int .i64 d4)).setCell ⟨w.heap.size + 1 + 1, 5, none⟩ (.int .i64 d5)) = X
    intro K
    obtain ⟨k0, k1, k2, k3, k4, k5, kb⟩ := K
    have kb := kb.more LT ((Below.refl _ _).alloc kb.size (.cells #[.int .i64 d0, .int .i64 d1, .int .i64 d2, .int .i64 d3, .int .i64 d4, .int .i64 d5] 25))
    have k0 := al k0 (o := .cells #[.int .i64 d0, .int .i64 d1, .int .i64 d2, .int .i64 d3, .int .i64 d4, .int .i64 d5] 25)
    have k1 := al k1 (o := .cells #[.int .i64 d0, .int .i64 d1, .int .i64 d2, .int .i64 d3, .int .i64 d4, .int .i64 d5] 25)
    have k2 := al k2 (o := .cells #[.int .i64 d0, .int .i64 d1, .int .i64 d2, .int .i64 d3, .int .i64 d4, .int .i64 d5] 25)
    have k3 := al k3 (o := .cells #[.int .i64 d0, .int .i64 d1, .int .i64 d2, .int .i64 d3, .int .i64 d4, .int .i64 d5] 25)
    have k4 := al k4 (o := .cells #[.int .i64 d0, .int .i64 d1, .int .i64 d2, .int .i64 d3, .int .i64 d4, .int .i64 d5] 25)
    have k5 := al k5 (o := .cells #[.int .i64 d0, .int .i64 d1, .int .i64 d2, .int .i64 d3, .int .i64 d4, .int .i64 d5] 25)
    revert kb k0 k1 k2 k3 k4 k5
    generalize X.alloc (.cells #[.int .i64 d0, .int .i64 d1, .int .i64 d2, .int .i64 d3, .int .i64 d4, .int .i64 d5] 25) = Y
    intro kb k0 k1 k2 k3 k4 k5
    exact bodyPost_ret (v := dv ⟨d0, d1, d2, d3, d4, d5⟩) (by simp [results, Try.results34, go_sem, k0, k1, k2, k3, k4, k5]) rfl ⟨rfl, kb⟩
  · rw [show goOnD e (subD s t) = ⟨zD, e⟩ from if_neg he]
    have he' : (e == 0) = false := by simpa using he
    go_enter Try.func34, Try.ntmps34
    go_wp2_with fail
    exact bodyPost_ret (v := dv zD) (by simp [results, Try.results34, go_sem, zD]) rfl ⟨rfl, I0.st⟩
end Go.Proofs.Ytjppcndhaejfpaa.Iv
