/- Contracts of package direction's functions of boxes: Valid, Add, Sub, Scale, Dot. -/
import Derived.Test.YtjppcndhaejfpaaDr3
namespace Go.Proofs.Ytjppcndhaejfpaa.Iv
open Go.RowKit

set_option maxRecDepth 100000 in
theorem dvalid_any (s : D) (w : World) :
    Calls Try.prog 65 #[dv s] w fun e w' => e = .returned (.bool (vD s)) ∧ Below w.heap.size w w' := by
  have l1 : w.heap.size < w.heap.size + 1 := by omega
  cases h1 : vB s.a s.b
  · rw [show vD s = false from by simp [vD, h1]]
    go_enter Try.func65, Try.ntmps65
    go_wp2_with (go_at_call 42; refine (valid_any _ _ _).mono ?_; rintro e w1 ⟨rfl, rfl⟩)
    go_ret
    exact ⟨rfl, (by repeat (first | exact Below.refl _ _ | refine Below.drew ?_ | refine below_drewN ?_ _ | refine Below.setCell ?_ (by first | omega | (simp <;> omega)) _ | refine Below.alloc ?_ (by first | omega | (simp <;> omega)) _))⟩
  · cases h2 : vB s.c s.d
    · rw [show vD s = false from by simp [vD, h2]]
      go_enter Try.func65, Try.ntmps65
      go_wp2_with (go_at_call 42; refine (valid_any _ _ _).mono ?_; rintro e w1 ⟨rfl, rfl⟩)
      go_ret
      exact ⟨rfl, (by repeat (first | exact Below.refl _ _ | refine Below.drew ?_ | refine below_drewN ?_ _ | refine Below.setCell ?_ (by first | omega | (simp <;> omega)) _ | refine Below.alloc ?_ (by first | omega | (simp <;> omega)) _))⟩
    · rw [show vD s = vB s.e s.f from by simp [vD, h1, h2]]
      go_enter Try.func65, Try.ntmps65
      go_wp2_with (go_at_call 42; refine (valid_any _ _ _).mono ?_; rintro e w1 ⟨rfl, rfl⟩)
      go_ret
      exact ⟨rfl, (by repeat (first | exact Below.refl _ _ | refine Below.drew ?_ | refine below_drewN ?_ _ | refine Below.setCell ?_ (by first | omega | (simp <;> omega)) _ | refine Below.alloc ?_ (by first | omega | (simp <;> omega)) _))⟩
structure B2 (w0 W : World) (n : Nat) (s t : D) : Prop where
  r0_0 : W.cell? ⟨n, 0, none⟩ = some (.int .i64 s.a)
  r0_1 : W.cell? ⟨n, 1, none⟩ = some (.int .i64 s.b)
  r0_2 : W.cell? ⟨n, 2, none⟩ = some (.int .i64 s.c)
  r0_3 : W.cell? ⟨n, 3, none⟩ = some (.int .i64 s.d)
  r0_4 : W.cell? ⟨n, 4, none⟩ = some (.int .i64 s.e)
  r0_5 : W.cell? ⟨n, 5, none⟩ = some (.int .i64 s.f)
  r1_0 : W.cell? ⟨n + 1, 0, none⟩ = some (.int .i64 t.a)
  r1_1 : W.cell? ⟨n + 1, 1, none⟩ = some (.int .i64 t.b)
  r1_2 : W.cell? ⟨n + 1, 2, none⟩ = some (.int .i64 t.c)
  r1_3 : W.cell? ⟨n + 1, 3, none⟩ = some (.int .i64 t.d)
  r1_4 : W.cell? ⟨n + 1, 4, none⟩ = some (.int .i64 t.e)
  r1_5 : W.cell? ⟨n + 1, 5, none⟩ = some (.int .i64 t.f)
  z2_0 : W.cell? ⟨n + 1 + 1, 0, none⟩ = some (.int .i64 0)
  f2_0 : W.frozen? ⟨n + 1 + 1, 0, none⟩ = false
  z2_1 : W.cell? ⟨n + 1 + 1, 1, none⟩ = some (.int .i64 0)
  f2_1 : W.frozen? ⟨n + 1 + 1, 1, none⟩ = false
  z2_2 : W.cell? ⟨n + 1 + 1, 2, none⟩ = some (.int .i64 0)
  f2_2 : W.frozen? ⟨n + 1 + 1, 2, none⟩ = false
  z2_3 : W.cell? ⟨n + 1 + 1, 3, none⟩ = some (.int .i64 0)
  f2_3 : W.frozen? ⟨n + 1 + 1, 3, none⟩ = false
  z2_4 : W.cell? ⟨n + 1 + 1, 4, none⟩ = some (.int .i64 0)
  f2_4 : W.frozen? ⟨n + 1 + 1, 4, none⟩ = false
  z2_5 : W.cell? ⟨n + 1 + 1, 5, none⟩ = some (.int .i64 0)
  f2_5 : W.frozen? ⟨n + 1 + 1, 5, none⟩ = false
  size : n + 1 + 1 < W.heap.size
  below : Below n w0 W
theorem B2.drew {w0 W : World} {n : Nat} {s t : D} (h : B2 w0 W n s t) : B2 w0 W.drew n s t :=
  ⟨h.r0_0, h.r0_1, h.r0_2, h.r0_3, h.r0_4, h.r0_5, h.r1_0, h.r1_1, h.r1_2, h.r1_3, h.r1_4, h.r1_5, h.z2_0, h.f2_0, h.z2_1, h.f2_1, h.z2_2, h.f2_2, h.z2_3, h.f2_3, h.z2_4, h.f2_4, h.z2_5, h.f2_5, h.size, h.below.drew⟩
theorem B2.call {w0 W : World} {n : Nat} {s t : D} {W' : World} (h : B2 w0 W n s t) (hb : Below W.heap.size W W') : B2 w0 W' n s t := by
  have z := h.size
  have z' := hb.size
  have hc : ∀ b o, b < W.heap.size → W'.cell? ⟨b, o, none⟩ = W.cell? ⟨b, o, none⟩ := fun b o h => hb.cell (p := ⟨b, o, none⟩) h
  have hf : ∀ b o, b < W.heap.size → W'.frozen? ⟨b, o, none⟩ = W.frozen? ⟨b, o, none⟩ := fun b o h => hb.frozen (p := ⟨b, o, none⟩) h
  have l0 : n < W.heap.size := by omega
  have l1 : n + 1 < W.heap.size := by omega
  have l2 : n + 1 + 1 < W.heap.size := by omega
  exact ⟨(hc _ _ l0).trans h.r0_0, (hc _ _ l0).trans h.r0_1, (hc _ _ l0).trans h.r0_2, (hc _ _ l0).trans h.r0_3, (hc _ _ l0).trans h.r0_4, (hc _ _ l0).trans h.r0_5, (hc _ _ l1).trans h.r1_0, (hc _ _ l1).trans h.r1_1, (hc _ _ l1).trans h.r1_2, (hc _ _ l1).trans h.r1_3, (hc _ _ l1).trans h.r1_4, (hc _ _ l1).trans h.r1_5, (hc _ _ l2).trans h.z2_0, (hf _ _ l2).trans h.f2_0, (hc _ _ l2).trans h.z2_1, (hf _ _ l2).trans h.f2_1, (hc _ _ l2).trans h.z2_2, (hf _ _ l2).trans h.f2_2, (hc _ _ l2).trans h.z2_3, (hf _ _ l2).trans h.f2_3, (hc _ _ l2).trans h.z2_4, (hf _ _ l2).trans h.f2_4, (hc _ _ l2).trans h.z2_5, (hf _ _ l2).trans h.f2_5, by omega, h.below.trans (hb.mono (by omega))⟩
theorem B2.all {w0 W : World} {n : Nat} {s t : D} (h : B2 w0 W n s t) : W.cell? ⟨n, 0, none⟩ = some (.int .i64 s.a) ∧ W.cell? ⟨n, 1, none⟩ = some (.int .i64 s.b) ∧ W.cell? ⟨n, 2, none⟩ = some (.int .i64 s.c) ∧ W.cell? ⟨n, 3, none⟩ = some (.int .i64 s.d) ∧ W.cell? ⟨n, 4, none⟩ = some (.int .i64 s.e) ∧ W.cell? ⟨n, 5, none⟩ = some (.int .i64 s.f) ∧ W.cell? ⟨n + 1, 0, none⟩ = some (.int .i64 t.a) ∧ W.cell? ⟨n + 1, 1, none⟩ = some (.int .i64 t.b) ∧ W.cell? ⟨n + 1, 2, none⟩ = some (.int .i64 t.c) ∧ W.cell? ⟨n + 1, 3, none⟩ = some (.int .i64 t.d) ∧ W.cell? ⟨n + 1, 4, none⟩ = some (.int .i64 t.e) ∧ W.cell? ⟨n + 1, 5, none⟩ = some (.int .i64 t.f) :=
  ⟨h.r0_0, h.r0_1, h.r0_2, h.r0_3, h.r0_4, h.r0_5, h.r1_0, h.r1_1, h.r1_2, h.r1_3, h.r1_4, h.r1_5⟩
theorem B2.set6_2 {w0 W : World} {n : Nat} {s t : D} (h : B2 w0 W n s t) (u0 u1 u2 u3 u4 u5 : Value) : ((((((W.setCell ⟨n + 1 + 1, 0, none⟩ u0).setCell ⟨n + 1 + 1, 1, none⟩ u1).setCell ⟨n + 1 + 1, 2, none⟩ u2).setCell ⟨n + 1 + 1, 3, none⟩ u3).setCell ⟨n + 1 + 1, 4, none⟩ u4).setCell ⟨n + 1 + 1, 5, none⟩ u5).cell? ⟨n, 0, none⟩ = some (.int .i64 s.a) ∧ ((((((W.setCell ⟨n + 1 + 1, 0, none⟩ u0).setCell ⟨n + 1 + 1, 1, none⟩ u1).setCell ⟨n + 1 + 1, 2, none⟩ u2).setCell ⟨n + 1 + 1, 3, none⟩ u3).setCell ⟨n + 1 + 1, 4, none⟩ u4).setCell ⟨n + 1 + 1, 5, none⟩ u5).cell? ⟨n, 1, none⟩ = some (.int .i64 s.b) ∧ ((((((W.setCell ⟨n + 1 + 1, 0, none⟩ u0).setCell ⟨n + 1 + 1, 1, none⟩ u1).setCell ⟨n + 1 + 1, 2, none⟩ u2).setCell ⟨n + 1 + 1, 3, none⟩ u3).setCell ⟨n + 1 + 1, 4, none⟩ u4).setCell ⟨n + 1 + 1, 5, none⟩ u5).cell? ⟨n, 2, none⟩ = some (.int .i64 s.c) ∧ ((((((W.setCell ⟨n + 1 + 1, 0, none⟩ u0).setCell ⟨n + 1 + 1, 1, none⟩ u1).setCell ⟨n + 1 + 1, 2, none⟩ u2).setCell ⟨n + 1 + 1, 3, none⟩ u3).setCell ⟨n + 1 + 1, 4, none⟩ u4).setCell ⟨n + 1 + 1, 5, none⟩ u5).cell? ⟨n, 3, none⟩ = some (.int .i64 s.d) ∧ ((((((W.setCell ⟨n + 1 + 1, 0, none⟩ u0).setCell ⟨n + 1 + 1, 1, none⟩ u1).setCell ⟨n + 1 + 1, 2, none⟩ u2).setCell ⟨n + 1 + 1, 3, none⟩ u3).setCell ⟨n + 1 + 1, 4, none⟩ u4).setCell ⟨n + 1 + 1, 5, none⟩ u5).cell? ⟨n, 4, none⟩ = some (.int .i64 s.e) ∧ ((((((W.setCell ⟨n + 1 + 1, 0, none⟩ u0).setCell ⟨n + 1 + 1, 1, none⟩ u1).setCell ⟨n + 1 + 1, 2, none⟩ u2).setCell ⟨n + 1 + 1, 3, none⟩ u3).setCell ⟨n + 1 + 1, 4, none⟩ u4).setCell ⟨n + 1 + 1, 5, none⟩ u5).cell? ⟨n, 5, none⟩ = some (.int .i64 s.f) ∧ ((((((W.setCell ⟨n + 1 + 1, 0, none⟩ u0).setCell ⟨n + 1 + 1, 1, none⟩ u1).setCell ⟨n + 1 + 1, 2, none⟩ u2).setCell ⟨n + 1 + 1, 3, none⟩ u3).setCell ⟨n + 1 + 1, 4, none⟩ u4).setCell ⟨n + 1 + 1, 5, none⟩ u5).cell? ⟨n + 1, 0, none⟩ = some (.int .i64 t.a) ∧ ((((((W.setCell ⟨n + 1 + 1, 0, none⟩ u0).setCell ⟨n + 1 + 1, 1, none⟩ u1).setCell ⟨n + 1 + 1, 2, none⟩ u2).setCell ⟨n + 1 + 1, 3, none⟩ u3).setCell ⟨n + 1 + 1, 4, none⟩ u4).setCell ⟨n + 1 + 1, 5, none⟩ u5).cell? ⟨n + 1, 1, none⟩ = some (.int .i64 t.b) ∧ ((((((W.setCell ⟨n + 1 + 1, 0, none⟩ u0).setCell ⟨n + 1 + 1, 1, none⟩ u1).setCell ⟨n + 1 + 1, 2, none⟩ u2).setCell ⟨n + 1 + 1, 3, none⟩ u3).setCell ⟨n + 1 + 1, 4, none⟩ u4).setCell ⟨n + 1 + 1, 5, none⟩ u5).cell? ⟨n + 1, 2, none⟩ = some (.int .i64 t.c) ∧ ((((((W.setCell ⟨n + 1 + 1, 0, none⟩ u0).setCell ⟨n + 1 + 1, 1, none⟩ u1).setCell ⟨n + 1 + 1, 2, none⟩ u2).setCell ⟨n + 1 + 1, 3, none⟩ u3).setCell ⟨n + 1 + 1, 4, none⟩ u4).setCell ⟨n + 1 + 1, 5, none⟩ u5).cell? ⟨n + 1, 3, none⟩ = some (.int .i64 t.d) ∧ ((((((W.setCell ⟨n + 1 + 1, 0, none⟩ u0).setCell ⟨n + 1 + 1, 1, none⟩ u1).setCell ⟨n + 1 + 1, 2, none⟩ u2).setCell ⟨n + 1 + 1, 3, none⟩ u3).setCell ⟨n + 1 + 1, 4, none⟩ u4).setCell ⟨n + 1 + 1, 5, none⟩ u5).cell? ⟨n + 1, 4, none⟩ = some (.int .i64 t.e) ∧ ((((((W.setCell ⟨n + 1 + 1, 0, none⟩ u0).setCell ⟨n + 1 + 1, 1, none⟩ u1).setCell ⟨n + 1 + 1, 2, none⟩ u2).setCell ⟨n + 1 + 1, 3, none⟩ u3).setCell ⟨n + 1 + 1, 4, none⟩ u4).setCell ⟨n + 1 + 1, 5, none⟩ u5).cell? ⟨n + 1, 5, none⟩ = some (.int .i64 t.f) := by
  have n0 : ¬ (n = n + 1 + 1) := by omega
  have n1 : ¬ (n + 1 = n + 1 + 1) := by omega
  exact ⟨(fset (fset (fset (fset (fset (fset h.r0_0 n0) n0) n0) n0) n0) n0), (fset (fset (fset (fset (fset (fset h.r0_1 n0) n0) n0) n0) n0) n0), (fset (fset (fset (fset (fset (fset h.r0_2 n0) n0) n0) n0) n0) n0), (fset (fset (fset (fset (fset (fset h.r0_3 n0) n0) n0) n0) n0) n0), (fset (fset (fset (fset (fset (fset h.r0_4 n0) n0) n0) n0) n0) n0), (fset (fset (fset (fset (fset (fset h.r0_5 n0) n0) n0) n0) n0) n0), (fset (fset (fset (fset (fset (fset h.r1_0 n1) n1) n1) n1) n1) n1), (fset (fset (fset (fset (fset (fset h.r1_1 n1) n1) n1) n1) n1) n1), (fset (fset (fset (fset (fset (fset h.r1_2 n1) n1) n1) n1) n1) n1), (fset (fset (fset (fset (fset (fset h.r1_3 n1) n1) n1) n1) n1) n1), (fset (fset (fset (fset (fset (fset h.r1_4 n1) n1) n1) n1) n1) n1), (fset (fset (fset (fset (fset (fset h.r1_5 n1) n1) n1) n1) n1) n1)⟩
theorem B2.fin6_2 {w0 W : World} {n : Nat} {s t : D} (h : B2 w0 W n s t) (u0 u1 u2 u3 u4 u5 : Int) : ((((((W.setCell ⟨n + 1 + 1, 0, none⟩ (.int .i64 u0)).setCell ⟨n + 1 + 1, 1, none⟩ (.int .i64 u1)).setCell ⟨n + 1 + 1, 2, none⟩ (.int .i64 u2)).setCell ⟨n + 1 + 1, 3, none⟩ (.int .i64 u3)).setCell ⟨n + 1 + 1, 4, none⟩ (.int .i64 u4)).setCell ⟨n + 1 + 1, 5, none⟩ (.int .i64 u5)).cell? ⟨n + 1 + 1, 0, none⟩ = some (.int .i64 u0) ∧ ((((((W.setCell ⟨n + 1 + 1, 0, none⟩ (.int .i64 u0)).setCell ⟨n + 1 + 1, 1, none⟩ (.int .i64 u1)).setCell ⟨n + 1 + 1, 2, none⟩ (.int .i64 u2)).setCell ⟨n + 1 + 1, 3, none⟩ (.int .i64 u3)).setCell ⟨n + 1 + 1, 4, none⟩ (.int .i64 u4)).setCell ⟨n + 1 + 1, 5, none⟩ (.int .i64 u5)).cell? ⟨n + 1 + 1, 1, none⟩ = some (.int .i64 u1) ∧ ((((((W.setCell ⟨n + 1 + 1, 0, none⟩ (.int .i64 u0)).setCell ⟨n + 1 + 1, 1, none⟩ (.int .i64 u1)).setCell ⟨n + 1 + 1, 2, none⟩ (.int .i64 u2)).setCell ⟨n + 1 + 1, 3, none⟩ (.int .i64 u3)).setCell ⟨n + 1 + 1, 4, none⟩ (.int .i64 u4)).setCell ⟨n + 1 + 1, 5, none⟩ (.int .i64 u5)).cell? ⟨n + 1 + 1, 2, none⟩ = some (.int .i64 u2) ∧ ((((((W.setCell ⟨n + 1 + 1, 0, none⟩ (.int .i64 u0)).setCell ⟨n + 1 + 1, 1, none⟩ (.int .i64 u1)).setCell ⟨n + 1 + 1, 2, none⟩ (.int .i64 u2)).setCell ⟨n + 1 + 1, 3, none⟩ (.int .i64 u3)).setCell ⟨n + 1 + 1, 4, none⟩ (.int .i64 u4)).setCell ⟨n + 1 + 1, 5, none⟩ (.int .i64 u5)).cell? ⟨n + 1 + 1, 3, none⟩ = some (.int .i64 u3) ∧ ((((((W.setCell ⟨n + 1 + 1, 0, none⟩ (.int .i64 u0)).setCell ⟨n + 1 + 1, 1, none⟩ (.int .i64 u1)).setCell ⟨n + 1 + 1, 2, none⟩ (.int .i64 u2)).setCell ⟨n + 1 + 1, 3, none⟩ (.int .i64 u3)).setCell ⟨n + 1 + 1, 4, none⟩ (.int .i64 u4)).setCell ⟨n + 1 + 1, 5, none⟩ (.int .i64 u5)).cell? ⟨n + 1 + 1, 4, none⟩ = some (.int .i64 u4) ∧ ((((((W.setCell ⟨n + 1 + 1, 0, none⟩ (.int .i64 u0)).setCell ⟨n + 1 + 1, 1, none⟩ (.int .i64 u1)).setCell ⟨n + 1 + 1, 2, none⟩ (.int .i64 u2)).setCell ⟨n + 1 + 1, 3, none⟩ (.int .i64 u3)).setCell ⟨n + 1 + 1, 4, none⟩ (.int .i64 u4)).setCell ⟨n + 1 + 1, 5, none⟩ (.int .i64 u5)).cell? ⟨n + 1 + 1, 5, none⟩ = some (.int .i64 u5) ∧ Below n w0 ((((((W.setCell ⟨n + 1 + 1, 0, none⟩ (.int .i64 u0)).setCell ⟨n + 1 + 1, 1, none⟩ (.int .i64 u1)).setCell ⟨n + 1 + 1, 2, none⟩ (.int .i64 u2)).setCell ⟨n + 1 + 1, 3, none⟩ (.int .i64 u3)).setCell ⟨n + 1 + 1, 4, none⟩ (.int .i64 u4)).setCell ⟨n + 1 + 1, 5, none⟩ (.int .i64 u5)) := by
  have b := h.below
  have z0 := h.z2_0
  have z1 := h.z2_1
  have z2 := h.z2_2
  have z3 := h.z2_3
  have z4 := h.z2_4
  have z5 := h.z2_5
  clear h
  refine ⟨?_, ?_, ?_, ?_, ?_, ?_, ((((((b.setCell (by dsimp only; omega) _).setCell (by dsimp only; omega) _).setCell (by dsimp only; omega) _).setCell (by dsimp only; omega) _).setCell (by dsimp only; omega) _).setCell (by dsimp only; omega) _)⟩ <;> simp [go_sem, *]
structure B3 (w0 W : World) (n : Nat) (s : D) (a b : Int) : Prop where
  r0_0 : W.cell? ⟨n, 0, none⟩ = some (.int .i64 s.a)
  r0_1 : W.cell? ⟨n, 1, none⟩ = some (.int .i64 s.b)
  r0_2 : W.cell? ⟨n, 2, none⟩ = some (.int .i64 s.c)
  r0_3 : W.cell? ⟨n, 3, none⟩ = some (.int .i64 s.d)
  r0_4 : W.cell? ⟨n, 4, none⟩ = some (.int .i64 s.e)
  r0_5 : W.cell? ⟨n, 5, none⟩ = some (.int .i64 s.f)
  r1_0 : W.cell? ⟨n + 1, 0, none⟩ = some (.int .i64 a)
  r1_1 : W.cell? ⟨n + 1, 1, none⟩ = some (.int .i64 b)
  z2_0 : W.cell? ⟨n + 1 + 1, 0, none⟩ = some (.int .i64 0)
  f2_0 : W.frozen? ⟨n + 1 + 1, 0, none⟩ = false
  z2_1 : W.cell? ⟨n + 1 + 1, 1, none⟩ = some (.int .i64 0)
  f2_1 : W.frozen? ⟨n + 1 + 1, 1, none⟩ = false
  z2_2 : W.cell? ⟨n + 1 + 1, 2, none⟩ = some (.int .i64 0)
  f2_2 : W.frozen? ⟨n + 1 + 1, 2, none⟩ = false
  z2_3 : W.cell? ⟨n + 1 + 1, 3, none⟩ = some (.int .i64 0)
  f2_3 : W.frozen? ⟨n + 1 + 1, 3, none⟩ = false
  z2_4 : W.cell? ⟨n + 1 + 1, 4, none⟩ = some (.int .i64 0)
  f2_4 : W.frozen? ⟨n + 1 + 1, 4, none⟩ = false
  z2_5 : W.cell? ⟨n + 1 + 1, 5, none⟩ = some (.int .i64 0)
  f2_5 : W.frozen? ⟨n + 1 + 1, 5, none⟩ = false
  size : n + 1 + 1 < W.heap.size
  below : Below n w0 W
theorem B3.drew {w0 W : World} {n : Nat} {s : D} {a b : Int} (h : B3 w0 W n s a b) : B3 w0 W.drew n s a b :=
  ⟨h.r0_0, h.r0_1, h.r0_2, h.r0_3, h.r0_4, h.r0_5, h.r1_0, h.r1_1, h.z2_0, h.f2_0, h.z2_1, h.f2_1, h.z2_2, h.f2_2, h.z2_3, h.f2_3, h.z2_4, h.f2_4, h.z2_5, h.f2_5, h.size, h.below.drew⟩
theorem B3.call {w0 W : World} {n : Nat} {s : D} {a b : Int} {W' : World} (h : B3 w0 W n s a b) (hb : Below W.heap.size W W') : B3 w0 W' n s a b := by
  have z := h.size
  have z' := hb.size
  have hc : ∀ b o, b < W.heap.size → W'.cell? ⟨b, o, none⟩ = W.cell? ⟨b, o, none⟩ := fun b o h => hb.cell (p := ⟨b, o, none⟩) h
  have hf : ∀ b o, b < W.heap.size → W'.frozen? ⟨b, o, none⟩ = W.frozen? ⟨b, o, none⟩ := fun b o h => hb.frozen (p := ⟨b, o, none⟩) h
  have l0 : n < W.heap.size := by omega
  have l1 : n + 1 < W.heap.size := by omega
  have l2 : n + 1 + 1 < W.heap.size := by omega
  exact ⟨(hc _ _ l0).trans h.r0_0, (hc _ _ l0).trans h.r0_1, (hc _ _ l0).trans h.r0_2, (hc _ _ l0).trans h.r0_3, (hc _ _ l0).trans h.r0_4, (hc _ _ l0).trans h.r0_5, (hc _ _ l1).trans h.r1_0, (hc _ _ l1).trans h.r1_1, (hc _ _ l2).trans h.z2_0, (hf _ _ l2).trans h.f2_0, (hc _ _ l2).trans h.z2_1, (hf _ _ l2).trans h.f2_1, (hc _ _ l2).trans h.z2_2, (hf _ _ l2).trans h.f2_2, (hc _ _ l2).trans h.z2_3, (hf _ _ l2).trans h.f2_3, (hc _ _ l2).trans h.z2_4, (hf _ _ l2).trans h.f2_4, (hc _ _ l2).trans h.z2_5, (hf _ _ l2).trans h.f2_5, by omega, h.below.trans (hb.mono (by omega))⟩
theorem B3.all {w0 W : World} {n : Nat} {s : D} {a b : Int} (h : B3 w0 W n s a b) : W.cell? ⟨n, 0, none⟩ = some (.int .i64 s.a) ∧ W.cell? ⟨n, 1, none⟩ = some (.int .i64 s.b) ∧ W.cell? ⟨n, 2, none⟩ = some (.int .i64 s.c) ∧ W.cell? ⟨n, 3, none⟩ = some (.int .i64 s.d) ∧ W.cell? ⟨n, 4, none⟩ = some (.int .i64 s.e) ∧ W.cell? ⟨n, 5, none⟩ = some (.int .i64 s.f) ∧ W.cell? ⟨n + 1, 0, none⟩ = some (.int .i64 a) ∧ W.cell? ⟨n + 1, 1, none⟩ = some (.int .i64 b) :=
  ⟨h.r0_0, h.r0_1, h.r0_2, h.r0_3, h.r0_4, h.r0_5, h.r1_0, h.r1_1⟩
theorem B3.set6_2 {w0 W : World} {n : Nat} {s : D} {a b : Int} (h : B3 w0 W n s a b) (u0 u1 u2 u3 u4 u5 : Value) : ((((((W.setCell ⟨n + 1 + 1, 0, none⟩ u0).setCell ⟨n + 1 + 1, 1, none⟩ u1).setCell ⟨n + 1 + 1, 2, none⟩ u2).setCell ⟨n + 1 + 1, 3, none⟩ u3).setCell ⟨n + 1 + 1, 4, none⟩ u4).setCell ⟨n + 1 + 1, 5, none⟩ u5).cell? ⟨n, 0, none⟩ = some (.int .i64 s.a) ∧ ((((((W.setCell ⟨n + 1 + 1, 0, none⟩ u0).setCell ⟨n + 1 + 1, 1, none⟩ u1).setCell ⟨n + 1 + 1, 2, none⟩ u2).setCell ⟨n + 1 + 1, 3, none⟩ u3).setCell ⟨n + 1 + 1, 4, none⟩ u4).setCell ⟨n + 1 + 1, 5, none⟩ u5).cell? ⟨n, 1, none⟩ = some (.int .i64 s.b) ∧ ((((((W.setCell ⟨n + 1 + 1, 0, none⟩ u0).setCell ⟨n + 1 + 1, 1, none⟩ u1).setCell ⟨n + 1 + 1, 2, none⟩ u2).setCell ⟨n + 1 + 1, 3, none⟩ u3).setCell ⟨n + 1 + 1, 4, none⟩ u4).setCell ⟨n + 1 + 1, 5, none⟩ u5).cell? ⟨n, 2, none⟩ = some (.int .i64 s.c) ∧ ((((((W.setCell ⟨n + 1 + 1, 0, none⟩ u0).setCell ⟨n + 1 + 1, 1, none⟩ u1).setCell ⟨n + 1 + 1, 2, none⟩ u2).setCell ⟨n + 1 + 1, 3, none⟩ u3).setCell ⟨n + 1 + 1, 4, none⟩ u4).setCell ⟨n + 1 + 1, 5, none⟩ u5).cell? ⟨n, 3, none⟩ = some (.int .i64 s.d) ∧ ((((((W.setCell ⟨n + 1 + 1, 0, none⟩ u0).setCell ⟨n + 1 + 1, 1, none⟩ u1).setCell ⟨n + 1 + 1, 2, none⟩ u2).setCell ⟨n + 1 + 1, 3, none⟩ u3).setCell ⟨n + 1 + 1, 4, none⟩ u4).setCell ⟨n + 1 + 1, 5, none⟩ u5).cell? ⟨n, 4, none⟩ = some (.int .i64 s.e) ∧ ((((((W.setCell ⟨n + 1 + 1, 0, none⟩ u0).setCell ⟨n + 1 + 1, 1, none⟩ u1).setCell ⟨n + 1 + 1, 2, none⟩ u2).setCell ⟨n + 1 + 1, 3, none⟩ u3).setCell ⟨n + 1 + 1, 4, none⟩ u4).setCell ⟨n + 1 + 1, 5, none⟩ u5).cell? ⟨n, 5, none⟩ = some (.int .i64 s.f) ∧ ((((((W.setCell ⟨n + 1 + 1, 0, none⟩ u0).setCell ⟨n + 1 + 1, 1, none⟩ u1).setCell ⟨n + 1 + 1, 2, none⟩ u2).setCell ⟨n + 1 + 1, 3, none⟩ u3).setCell ⟨n + 1 + 1, 4, none⟩ u4).setCell ⟨n + 1 + 1, 5, none⟩ u5).cell? ⟨n + 1, 0, none⟩ = some (.int .i64 a) ∧ ((((((W.setCell ⟨n + 1 + 1, 0, none⟩ u0).setCell ⟨n + 1 + 1, 1, none⟩ u1).setCell ⟨n + 1 + 1, 2, none⟩ u2).setCell ⟨n + 1 + 1, 3, none⟩ u3).setCell ⟨n + 1 + 1, 4, none⟩ u4).setCell ⟨n + 1 + 1, 5, none⟩ u5).cell? ⟨n + 1, 1, none⟩ = some (.int .i64 b) := by
  have n0 : ¬ (n = n + 1 + 1) := by omega
  have n1 : ¬ (n + 1 = n + 1 + 1) := by omega
  exact ⟨(fset (fset (fset (fset (fset (fset h.r0_0 n0) n0) n0) n0) n0) n0), (fset (fset (fset (fset (fset (fset h.r0_1 n0) n0) n0) n0) n0) n0), (fset (fset (fset (fset (fset (fset h.r0_2 n0) n0) n0) n0) n0) n0), (fset (fset (fset (fset (fset (fset h.r0_3 n0) n0) n0) n0) n0) n0), (fset (fset (fset (fset (fset (fset h.r0_4 n0) n0) n0) n0) n0) n0), (fset (fset (fset (fset (fset (fset h.r0_5 n0) n0) n0) n0) n0) n0), (fset (fset (fset (fset (fset (fset h.r1_0 n1) n1) n1) n1) n1) n1), (fset (fset (fset (fset (fset (fset h.r1_1 n1) n1) n1) n1) n1) n1)⟩
theorem B3.fin6_2 {w0 W : World} {n : Nat} {s : D} {a b : Int} (h : B3 w0 W n s a b) (u0 u1 u2 u3 u4 u5 : Int) : ((((((W.setCell ⟨n + 1 + 1, 0, none⟩ (.int .i64 u0)).setCell ⟨n + 1 + 1, 1, none⟩ (.int .i64 u1)).setCell ⟨n + 1 + 1, 2, none⟩ (.int .i64 u2)).setCell ⟨n + 1 + 1, 3, none⟩ (.int .i64 u3)).setCell ⟨n + 1 + 1, 4, none⟩ (.int .i64 u4)).setCell ⟨n + 1 + 1, 5, none⟩ (.int .i64 u5)).cell? ⟨n + 1 + 1, 0, none⟩ = some (.int .i64 u0) ∧ ((((((W.setCell ⟨n + 1 + 1, 0, none⟩ (.int .i64 u0)).setCell ⟨n + 1 + 1, 1, none⟩ (.int .i64 u1)).setCell ⟨n + 1 + 1, 2, none⟩ (.int .i64 u2)).setCell ⟨n + 1 + 1, 3, none⟩ (.int .i64 u3)).setCell ⟨n + 1 + 1, 4, none⟩ (.int .i64 u4)).setCell ⟨n + 1 + 1, 5, none⟩ (.int .i64 u5)).cell? ⟨n + 1 + 1, 1, none⟩ = some (.int .i64 u1) ∧ ((((((W.setCell ⟨n + 1 + 1, 0, none⟩ (.int .i64 u0)).setCell ⟨n + 1 + 1, 1, none⟩ (.int .i64 u1)).setCell ⟨n + 1 + 1, 2, none⟩ (.int .i64 u2)).setCell ⟨n + 1 + 1, 3, none⟩ (.int .i64 u3)).setCell ⟨n + 1 + 1, 4, none⟩ (.int .i64 u4)).setCell ⟨n + 1 + 1, 5, none⟩ (.int .i64 u5)).cell? ⟨n + 1 + 1, 2, none⟩ = some (.int .i64 u2) ∧ ((((((W.setCell ⟨n + 1 + 1, 0, none⟩ (.int .i64 u0)).setCell ⟨n + 1 + 1, 1, none⟩ (.int .i64 u1)).setCell ⟨n + 1 + 1, 2, none⟩ (.int .i64 u2)).setCell ⟨n + 1 + 1, 3, none⟩ (.int .i64 u3)).setCell ⟨n + 1 + 1, 4, none⟩ (.int .i64 u4)).setCell ⟨n + 1 + 1, 5, none⟩ (.int .i64 u5)).cell? ⟨n + 1 + 1, 3, none⟩ = some (.int .i64 u3) ∧ ((((((W.setCell ⟨n + 1 + 1, 0, none⟩ (.int .i64 u0)).setCell ⟨n + 1 + 1, 1, none⟩ (.int .i64 u1)).setCell ⟨n + 1 + 1, 2, none⟩ (.int .i64 u2)).setCell ⟨n + 1 + 1, 3, none⟩ (.int .i64 u3)).setCell ⟨n + 1 + 1, 4, none⟩ (.int .i64 u4)).setCell ⟨n + 1 + 1, 5, none⟩ (.int .i64 u5)).cell? ⟨n + 1 + 1, 4, none⟩ = some (.int .i64 u4) ∧ ((((((W.setCell ⟨n + 1 + 1, 0, none⟩ (.int .i64 u0)).setCell ⟨n + 1 + 1, 1, none⟩ (.int .i64 u1)).setCell ⟨n + 1 + 1, 2, none⟩ (.int .i64 u2)).setCell ⟨n + 1 + 1, 3, none⟩ (.int .i64 u3)).setCell ⟨n + 1 + 1, 4, none⟩ (.int .i64 u4)).setCell ⟨n + 1 + 1, 5, none⟩ (.int .i64 u5)).cell? ⟨n + 1 + 1, 5, none⟩ = some (.int .i64 u5) ∧ Below n w0 ((((((W.setCell ⟨n + 1 + 1, 0, none⟩ (.int .i64 u0)).setCell ⟨n + 1 + 1, 1, none⟩ (.int .i64 u1)).setCell ⟨n + 1 + 1, 2, none⟩ (.int .i64 u2)).setCell ⟨n + 1 + 1, 3, none⟩ (.int .i64 u3)).setCell ⟨n + 1 + 1, 4, none⟩ (.int .i64 u4)).setCell ⟨n + 1 + 1, 5, none⟩ (.int .i64 u5)) := by
  have b := h.below
  have z0 := h.z2_0
  have z1 := h.z2_1
  have z2 := h.z2_2
  have z3 := h.z2_3
  have z4 := h.z2_4
  have z5 := h.z2_5
  clear h
  refine ⟨?_, ?_, ?_, ?_, ?_, ?_, ((((((b.setCell (by dsimp only; omega) _).setCell (by dsimp only; omega) _).setCell (by dsimp only; omega) _).setCell (by dsimp only; omega) _).setCell (by dsimp only; omega) _).setCell (by dsimp only; omega) _)⟩ <;> simp [go_sem, *]
def addD (s t : D) : RD := if vD s = true ∧ vD t = true then comb (addR s.a s.b t.a t.b) (addR s.c s.d t.c t.d) (addR s.e s.f t.e t.f) else ⟨zD, 1⟩
set_option maxRecDepth 100000 in
set_option maxHeartbeats 1000000 in
theorem dadd_any (s t : D) (w : World) :
    Calls Try.prog 87 #[dv s, dv t] w fun e w' => e = retD (addD s t) ∧ Below w.heap.size w w' := by
  have I0 : B2 w (((w.alloc (.cells #[.int .i64 s.a, .int .i64 s.b, .int .i64 s.c, .int .i64 s.d, .int .i64 s.e, .int .i64 s.f] 25)).alloc (.cells #[.int .i64 t.a, .int .i64 t.b, .int .i64 t.c, .int .i64 t.d, .int .i64 t.e, .int .i64 t.f] 25)).alloc (.cells #[.int .i64 0, .int .i64 0, .int .i64 0, .int .i64 0, .int .i64 0, .int .i64 0] 25)) w.heap.size s t := by
    refine ⟨by simp [go_sem], by simp [go_sem], by simp [go_sem], by simp [go_sem], by simp [go_sem], by simp [go_sem], by simp [go_sem], by simp [go_sem], by simp [go_sem], by simp [go_sem], by simp [go_sem], by simp [go_sem], by simp [go_sem], by simp [go_sem], by simp [go_sem], by simp [go_sem], by simp [go_sem], by simp [go_sem], by simp [go_sem], by simp [go_sem], by simp [go_sem], by simp [go_sem], by simp [go_sem], by simp [go_sem], by simp, ?_⟩
    · repeat (first | exact Below.refl _ _ | refine Below.alloc ?_ (by first | omega | (simp <;> omega)) _)
  cases hs : vD s
  · rw [show addD s t = ⟨zD, 1⟩ from if_neg (by rw [hs]; simp)]
    have HS := Lib.hid hs
    clear hs
    go_enter Try.func87, Try.ntmps87
    go_wp2_with fail
    refine (dvalid_any s _).mono ?_
    rintro e w1 ⟨rfl, hb⟩
    rw [HS.out]
    have I1 := I0.call hb
    clear hb
    have r0_0_1 := I1.r0_0
    have r0_1_1 := I1.r0_1
    have r0_2_1 := I1.r0_2
    have r0_3_1 := I1.r0_3
    have r0_4_1 := I1.r0_4
    have r0_5_1 := I1.r0_5
    have r1_0_1 := I1.r1_0
    have r1_1_1 := I1.r1_1
    have r1_2_1 := I1.r1_2
    have r1_3_1 := I1.r1_3
    have r1_4_1 := I1.r1_4
    have r1_5_1 := I1.r1_5
    have z2_0_1 := I1.z2_0
    have f2_0_1 := I1.f2_0
    have z2_1_1 := I1.z2_1
    have f2_1_1 := I1.f2_1
    have z2_2_1 := I1.z2_2
    have f2_2_1 := I1.f2_2
    have z2_3_1 := I1.z2_3
    have f2_3_1 := I1.f2_3
    have z2_4_1 := I1.z2_4
    have f2_4_1 := I1.f2_4
    have z2_5_1 := I1.z2_5
    have f2_5_1 := I1.f2_5
    have sz_1 := I1.size
    go_wp2_with fail
    have K := I1.fin6_2 (0) (0) (0) (0) (0) (0)
    revert K
    generalize ((((((w1.setCell ⟨w.heap.size + 1 + 1, 0, none⟩ (.int .i64 0)).setCell ⟨w.heap.size + 1 + 1, 1, none⟩ (.int .i64 0)).setCell ⟨w.heap.size + 1 + 1, 2, none⟩ (.int .i64 0)).setCell ⟨w.heap.size + 1 + 1, 3, none⟩ (.int .i64 0)).setCell ⟨w.heap.size + 1 + 1, 4, none⟩ (.int .i64 0)).setCell ⟨w.heap.size + 1 + 1, 5, none⟩ (.int .i64 0)) = X
    intro K
    obtain ⟨k0, k1, k2, k3, k4, k5, kb⟩ := K
    exact bodyPost_ret (v := .tuple #[dv ⟨0, 0, 0, 0, 0, 0⟩, .int .i64 1]) (by simp [results, Try.results87, go_sem, k0, k1, k2, k3, k4, k5]) rfl ⟨rfl, kb⟩
  · cases ht : vD t
    · rw [show addD s t = ⟨zD, 1⟩ from if_neg (by rw [ht]; simp)]
      have HS := Lib.hid hs
      have HT := Lib.hid ht
      clear hs ht
      go_enter Try.func87, Try.ntmps87
      go_wp2_with fail
      refine (dvalid_any s _).mono ?_
      rintro e w1 ⟨rfl, hb⟩
      rw [HS.out]
      have I1 := I0.call hb
      clear hb
      have r0_0_1 := I1.r0_0
      have r0_1_1 := I1.r0_1
      have r0_2_1 := I1.r0_2
      have r0_3_1 := I1.r0_3
      have r0_4_1 := I1.r0_4
      have r0_5_1 := I1.r0_5
      have r1_0_1 := I1.r1_0
      have r1_1_1 := I1.r1_1
      have r1_2_1 := I1.r1_2
      have r1_3_1 := I1.r1_3
      have r1_4_1 := I1.r1_4
      have r1_5_1 := I1.r1_5
      have z2_0_1 := I1.z2_0
      have f2_0_1 := I1.f2_0
      have z2_1_1 := I1.z2_1
      have f2_1_1 := I1.f2_1
      have z2_2_1 := I1.z2_2
      have f2_2_1 := I1.f2_2
      have z2_3_1 := I1.z2_3
      have f2_3_1 := I1.f2_3
      have z2_4_1 := I1.z2_4
      have f2_4_1 := I1.f2_4
      have z2_5_1 := I1.z2_5
      have f2_5_1 := I1.f2_5
      have sz_1 := I1.size
      go_wp2_with fail
      refine (dvalid_any t _).mono ?_
      rintro e w2 ⟨rfl, hb⟩
      rw [HT.out]
      have I2 := I1.call hb
      clear hb
      clear r0_0_1 r0_1_1 r0_2_1 r0_3_1 r0_4_1 r0_5_1 r1_0_1 r1_1_1 r1_2_1 r1_3_1 r1_4_1 r1_5_1 z2_0_1 f2_0_1 z2_1_1 f2_1_1 z2_2_1 f2_2_1 z2_3_1 f2_3_1 z2_4_1 f2_4_1 z2_5_1 f2_5_1 sz_1
      have r0_0_2 := I2.r0_0
      have r0_1_2 := I2.r0_1
      have r0_2_2 := I2.r0_2
      have r0_3_2 := I2.r0_3
      have r0_4_2 := I2.r0_4
      have r0_5_2 := I2.r0_5
      have r1_0_2 := I2.r1_0
      have r1_1_2 := I2.r1_1
      have r1_2_2 := I2.r1_2
      have r1_3_2 := I2.r1_3
      have r1_4_2 := I2.r1_4
      have r1_5_2 := I2.r1_5
      have z2_0_2 := I2.z2_0
      have f2_0_2 := I2.f2_0
      have z2_1_2 := I2.z2_1
      have f2_1_2 := I2.f2_1
      have z2_2_2 := I2.z2_2
      have f2_2_2 := I2.f2_2
      have z2_3_2 := I2.z2_3
      have f2_3_2 := I2.f2_3
      have z2_4_2 := I2.z2_4
      have f2_4_2 := I2.f2_4
      have z2_5_2 := I2.z2_5
      have f2_5_2 := I2.f2_5
      have sz_2 := I2.size
      go_wp2_with fail
      have K := I2.fin6_2 (0) (0) (0) (0) (0) (0)
      revert K
      generalize ((((((w2.setCell ⟨w.heap.size + 1 + 1, 0, none⟩ (.int .i64 0)).setCell ⟨w.heap.size + 1 + 1, 1, none⟩ (.int .i64 0)).setCell ⟨w.heap.size + 1 + 1, 2, none⟩ (.int .i64 0)).setCell ⟨w.heap.size + 1 + 1, 3, none⟩ (.int .i64 0)).setCell ⟨w.heap.size + 1 + 1, 4, none⟩ (.int .i64 0)).setCell ⟨w.heap.size + 1 + 1, 5, none⟩ (.int .i64 0)) = X
      intro K
      obtain ⟨k0, k1, k2, k3, k4, k5, kb⟩ := K
      exact bodyPost_ret (v := .tuple #[dv ⟨0, 0, 0, 0, 0, 0⟩, .int .i64 1]) (by simp [results, Try.results87, go_sem, k0, k1, k2, k3, k4, k5]) rfl ⟨rfl, kb⟩
    · rw [show addD s t = comb (addR s.a s.b t.a t.b) (addR s.c s.d t.c t.d) (addR s.e s.f t.e t.f) from if_pos ⟨hs, ht⟩]
      obtain ⟨⟨⟨d0, d1, d2, d3, d4, d5⟩, ee⟩, hd⟩ : ∃ r : RD, comb (addR s.a s.b t.a t.b) (addR s.c s.d t.c t.d) (addR s.e s.f t.e t.f) = r := ⟨_, rfl⟩
      have HD := Lib.hid (show retD (comb (addR s.a s.b t.a t.b) (addR s.c s.d t.c t.d) (addR s.e s.f t.e t.f)) = .returned (.tuple #[.agg #[.int .i64 d0, .int .i64 d1, .int .i64 d2, .int .i64 d3, .int .i64 d4, .int .i64 d5], .int .i64 ee]) from by rw [hd])
      rw [hd]
      clear hd
      have HS := Lib.hid hs
      have HT := Lib.hid ht
      clear hs ht
      go_enter Try.func87, Try.ntmps87
      go_wp2_with fail
      refine (dvalid_any s _).mono ?_
      rintro e w1 ⟨rfl, hb⟩
      rw [HS.out]
      have I1 := I0.call hb
      clear hb
      have r0_0_1 := I1.r0_0
      have r0_1_1 := I1.r0_1
      have r0_2_1 := I1.r0_2
      have r0_3_1 := I1.r0_3
      have r0_4_1 := I1.r0_4
      have r0_5_1 := I1.r0_5
      have r1_0_1 := I1.r1_0
      have r1_1_1 := I1.r1_1
      have r1_2_1 := I1.r1_2
      have r1_3_1 := I1.r1_3
      have r1_4_1 := I1.r1_4
      have r1_5_1 := I1.r1_5
      have z2_0_1 := I1.z2_0
      have f2_0_1 := I1.f2_0
      have z2_1_1 := I1.z2_1
      have f2_1_1 := I1.f2_1
      have z2_2_1 := I1.z2_2
      have f2_2_1 := I1.f2_2
      have z2_3_1 := I1.z2_3
      have f2_3_1 := I1.f2_3
      have z2_4_1 := I1.z2_4
      have f2_4_1 := I1.f2_4
      have z2_5_1 := I1.z2_5
      have f2_5_1 := I1.f2_5
      have sz_1 := I1.size
      go_wp2_with fail
      refine (dvalid_any t _).mono ?_
      rintro e w2 ⟨rfl, hb⟩
      rw [HT.out]
      have I2 := I1.call hb
      clear hb
      clear r0_0_1 r0_1_1 r0_2_1 r0_3_1 r0_4_1 r0_5_1 r1_0_1 r1_1_1 r1_2_1 r1_3_1 r1_4_1 r1_5_1 z2_0_1 f2_0_1 z2_1_1 f2_1_1 z2_2_1 f2_2_1 z2_3_1 f2_3_1 z2_4_1 f2_4_1 z2_5_1 f2_5_1 sz_1
      have r0_0_2 := I2.r0_0
      have r0_1_2 := I2.r0_1
      have r0_2_2 := I2.r0_2
      have r0_3_2 := I2.r0_3
      have r0_4_2 := I2.r0_4
      have r0_5_2 := I2.r0_5
      have r1_0_2 := I2.r1_0
      have r1_1_2 := I2.r1_1
      have r1_2_2 := I2.r1_2
      have r1_3_2 := I2.r1_3
      have r1_4_2 := I2.r1_4
      have r1_5_2 := I2.r1_5
      have z2_0_2 := I2.z2_0
      have f2_0_2 := I2.f2_0
      have z2_1_2 := I2.z2_1
      have f2_1_2 := I2.f2_1
      have z2_2_2 := I2.z2_2
      have f2_2_2 := I2.f2_2
      have z2_3_2 := I2.z2_3
      have f2_3_2 := I2.f2_3
      have z2_4_2 := I2.z2_4
      have f2_4_2 := I2.f2_4
      have z2_5_2 := I2.z2_5
      have f2_5_2 := I2.f2_5
      have sz_2 := I2.size
      go_wp2_with fail
      refine (combine_add s t _).mono ?_
      rintro e w3 ⟨rfl, hb⟩
      rw [HD.out]
      have I3 := I2.call hb
      clear hb
      clear r0_0_2 r0_1_2 r0_2_2 r0_3_2 r0_4_2 r0_5_2 r1_0_2 r1_1_2 r1_2_2 r1_3_2 r1_4_2 r1_5_2 z2_0_2 f2_0_2 z2_1_2 f2_1_2 z2_2_2 f2_2_2 z2_3_2 f2_3_2 z2_4_2 f2_4_2 z2_5_2 f2_5_2 sz_2
      have r0_0_3 := I3.r0_0
      have r0_1_3 := I3.r0_1
      have r0_2_3 := I3.r0_2
      have r0_3_3 := I3.r0_3
      have r0_4_3 := I3.r0_4
      have r0_5_3 := I3.r0_5
      have r1_0_3 := I3.r1_0
      have r1_1_3 := I3.r1_1
      have r1_2_3 := I3.r1_2
      have r1_3_3 := I3.r1_3
      have r1_4_3 := I3.r1_4
      have r1_5_3 := I3.r1_5
      have z2_0_3 := I3.z2_0
      have f2_0_3 := I3.f2_0
      have z2_1_3 := I3.z2_1
      have f2_1_3 := I3.f2_1
      have z2_2_3 := I3.z2_2
      have f2_2_3 := I3.f2_2
      have z2_3_3 := I3.z2_3
      have f2_3_3 := I3.f2_3
      have z2_4_3 := I3.z2_4
      have f2_4_3 := I3.f2_4
      have z2_5_3 := I3.z2_5
      have f2_5_3 := I3.f2_5
      have sz_3 := I3.size
      go_wp2_with fail
      have K := I3.fin6_2 (d0) (d1) (d2) (d3) (d4) (d5)
      revert K
      generalize ((((((w3.setCell ⟨w.heap.size + 1 + 1, 0, none⟩ (.int .i64 d0)).setCell ⟨w.heap.size + 1 + 1, 1, none⟩ (.int .i64 d1)).setCell ⟨w.heap.size + 1 + 1, 2, none⟩ (.int .i64 d2)).setCell ⟨w.heap.size + 1 + 1, 3, none⟩ (.int .i64 d3)).setCell ⟨w.heap.size + 1 + 1, 4, none⟩ (.int .i64 d4)).setCell ⟨w.heap.size + 1 + 1, 5, none⟩ (.int .i64 d5)) = X
      intro K
      obtain ⟨k0, k1, k2, k3, k4, k5, kb⟩ := K
      exact bodyPost_ret (v := .tuple #[dv ⟨d0, d1, d2, d3, d4, d5⟩, .int .i64 ee]) (by simp [results, Try.results87, go_sem, k0, k1, k2, k3, k4, k5]) rfl ⟨rfl, kb⟩
def subD (s t : D) : RD := if vD s = true ∧ vD t = true then comb (subR s.a s.b t.a t.b) (subR s.c s.d t.c t.d) (subR s.e s.f t.e t.f) else ⟨zD, 1⟩
set_option maxRecDepth 100000 in
set_option maxHeartbeats 1000000 in
theorem dsub_any (s t : D) (w : World) :
    Calls Try.prog 36 #[dv s, dv t] w fun e w' => e = retD (subD s t) ∧ Below w.heap.size w w' := by
  have I0 : B2 w (((w.alloc (.cells #[.int .i64 s.a, .int .i64 s.b, .int .i64 s.c, .int .i64 s.d, .int .i64 s.e, .int .i64 s.f] 25)).alloc (.cells #[.int .i64 t.a, .int .i64 t.b, .int .i64 t.c, .int .i64 t.d, .int .i64 t.e, .int .i64 t.f] 25)).alloc (.cells #[.int .i64 0, .int .i64 0, .int .i64 0, .int .i64 0, .int .i64 0, .int .i64 0] 25)) w.heap.size s t := by
    refine ⟨by simp [go_sem], by simp [go_sem], by simp [go_sem], by simp [go_sem], by simp [go_sem], by simp [go_sem], by simp [go_sem], by simp [go_sem], by simp [go_sem], by simp [go_sem], by simp [go_sem], by simp [go_sem], by simp [go_sem], by simp [go_sem], by simp [go_sem], by simp [go_sem], by simp [go_sem], by simp [go_sem], by simp [go_sem], by simp [go_sem], by simp [go_sem], by simp [go_sem], by simp [go_sem], by simp [go_sem], by simp, ?_⟩
    · repeat (first | exact Below.refl _ _ | refine Below.alloc ?_ (by first | omega | (simp <;> omega)) _)
  cases hs : vD s
  · rw [show subD s t = ⟨zD, 1⟩ from if_neg (by rw [hs]; simp)]
    have HS := Lib.hid hs
    clear hs
    go_enter Try.func36, Try.ntmps36
    go_wp2_with fail
    refine (dvalid_any s _).mono ?_
    rintro e w1 ⟨rfl, hb⟩
    rw [HS.out]
    have I1 := I0.call hb
    clear hb
    have r0_0_1 := I1.r0_0
    have r0_1_1 := I1.r0_1
    have r0_2_1 := I1.r0_2
    have r0_3_1 := I1.r0_3
    have r0_4_1 := I1.r0_4
    have r0_5_1 := I1.r0_5
    have r1_0_1 := I1.r1_0
    have r1_1_1 := I1.r1_1
    have r1_2_1 := I1.r1_2
    have r1_3_1 := I1.r1_3
    have r1_4_1 := I1.r1_4
    have r1_5_1 := I1.r1_5
    have z2_0_1 := I1.z2_0
    have f2_0_1 := I1.f2_0
    have z2_1_1 := I1.z2_1
    have f2_1_1 := I1.f2_1
    have z2_2_1 := I1.z2_2
    have f2_2_1 := I1.f2_2
    have z2_3_1 := I1.z2_3
    have f2_3_1 := I1.f2_3
    have z2_4_1 := I1.z2_4
    have f2_4_1 := I1.f2_4
    have z2_5_1 := I1.z2_5
    have f2_5_1 := I1.f2_5
    have sz_1 := I1.size
    go_wp2_with fail
    have K := I1.fin6_2 (0) (0) (0) (0) (0) (0)
    revert K
    generalize ((((((w1.setCell ⟨w.heap.size + 1 + 1, 0, none⟩ (.int .i64 0)).setCell ⟨w.heap.size + 1 + 1, 1, none⟩ (.int .i64 0)).setCell ⟨w.heap.size + 1 + 1, 2, none⟩ (.int .i64 0)).setCell ⟨w.heap.size + 1 + 1, 3, none⟩ (.int .i64 0)).setCell ⟨w.heap.size + 1 + 1, 4, none⟩ (.int .i64 0)).setCell ⟨w.heap.size + 1 + 1, 5, none⟩ (.int .i64 0)) = X
    intro K
    obtain ⟨k0, k1, k2, k3, k4, k5, kb⟩ := K
    exact bodyPost_ret (v := .tuple #[dv ⟨0, 0, 0, 0, 0, 0⟩, .int .i64 1]) (by simp [results, Try.results36, go_sem, k0, k1, k2, k3, k4, k5]) rfl ⟨rfl, kb⟩
  · cases ht : vD t
    · rw [show subD s t = ⟨zD, 1⟩ from if_neg (by rw [ht]; simp)]
      have HS := Lib.hid hs
      have HT := Lib.hid ht
      clear hs ht
      go_enter Try.func36, Try.ntmps36
      go_wp2_with fail
      refine (dvalid_any s _).mono ?_
      rintro e w1 ⟨rfl, hb⟩
      rw [HS.out]
      have I1 := I0.call hb
      clear hb
      have r0_0_1 := I1.r0_0
      have r0_1_1 := I1.r0_1
      have r0_2_1 := I1.r0_2
      have r0_3_1 := I1.r0_3
      have r0_4_1 := I1.r0_4
      have r0_5_1 := I1.r0_5
      have r1_0_1 := I1.r1_0
      have r1_1_1 := I1.r1_1
      have r1_2_1 := I1.r1_2
      have r1_3_1 := I1.r1_3
      have r1_4_1 := I1.r1_4
      have r1_5_1 := I1.r1_5
      have z2_0_1 := I1.z2_0
      have f2_0_1 := I1.f2_0
      have z2_1_1 := I1.z2_1
      have f2_1_1 := I1.f2_1
      have z2_2_1 := I1.z2_2
      have f2_2_1 := I1.f2_2
      have z2_3_1 := I1.z2_3
      have f2_3_1 := I1.f2_3
      have z2_4_1 := I1.z2_4
      have f2_4_1 := I1.f2_4
      have z2_5_1 := I1.z2_5
      have f2_5_1 := I1.f2_5
      have sz_1 := I1.size
      go_wp2_with fail
      refine (dvalid_any t _).mono ?_
      rintro e w2 ⟨rfl, hb⟩
      rw [HT.out]
      have I2 := I1.call hb
      clear hb
      clear r0_0_1 r0_1_1 r0_2_1 r0_3_1 r0_4_1 r0_5_1 r1_0_1 r1_1_1 r1_2_1 r1_3_1 r1_4_1 r1_5_1 z2_0_1 f2_0_1 z2_1_1 f2_1_1 z2_2_1 f2_2_1 z2_3_1 f2_3_1 z2_4_1 f2_4_1 z2_5_1 f2_5_1 sz_1
      have r0_0_2 := I2.r0_0
      have r0_1_2 := I2.r0_1
      have r0_2_2 := I2.r0_2
      have r0_3_2 := I2.r0_3
      have r0_4_2 := I2.r0_4
      have r0_5_2 := I2.r0_5
      have r1_0_2 := I2.r1_0
      have r1_1_2 := I2.r1_1
      have r1_2_2 := I2.r1_2
      have r1_3_2 := I2.r1_3
      have r1_4_2 := I2.r1_4
      have r1_5_2 := I2.r1_5
      have z2_0_2 := I2.z2_0
      have f2_0_2 := I2.f2_0
      have z2_1_2 := I2.z2_1
      have f2_1_2 := I2.f2_1
      have z2_2_2 := I2.z2_2
      have f2_2_2 := I2.f2_2
      have z2_3_2 := I2.z2_3
      have f2_3_2 := I2.f2_3
      have z2_4_2 := I2.z2_4
      have f2_4_2 := I2.f2_4
      have z2_5_2 := I2.z2_5
      have f2_5_2 := I2.f2_5
      have sz_2 := I2.size
      go_wp2_with fail
      have K := I2.fin6_2 (0) (0) (0) (0) (0) (0)
      revert K
      generalize ((((((w2.setCell ⟨w.heap.size + 1 + 1, 0, none⟩ (.int .i64 0)).setCell ⟨w.heap.size + 1 + 1, 1, none⟩ (.int .i64 0)).setCell ⟨w.heap.size + 1 + 1, 2, none⟩ (.int .i64 0)).setCell ⟨w.heap.size + 1 + 1, 3, none⟩ (.int .i64 0)).setCell ⟨w.heap.size + 1 + 1, 4, none⟩ (.int .i64 0)).setCell ⟨w.heap.size + 1 + 1, 5, none⟩ (.int .i64 0)) = X
      intro K
      obtain ⟨k0, k1, k2, k3, k4, k5, kb⟩ := K
      exact bodyPost_ret (v := .tuple #[dv ⟨0, 0, 0, 0, 0, 0⟩, .int .i64 1]) (by simp [results, Try.results36, go_sem, k0, k1, k2, k3, k4, k5]) rfl ⟨rfl, kb⟩
    · rw [show subD s t = comb (subR s.a s.b t.a t.b) (subR s.c s.d t.c t.d) (subR s.e s.f t.e t.f) from if_pos ⟨hs, ht⟩]
      obtain ⟨⟨⟨d0, d1, d2, d3, d4, d5⟩, ee⟩, hd⟩ : ∃ r : RD, comb (subR s.a s.b t.a t.b) (subR s.c s.d t.c t.d) (subR s.e s.f t.e t.f) = r := ⟨_, rfl⟩
      have HD := Lib.hid (show retD (comb (subR s.a s.b t.a t.b) (subR s.c s.d t.c t.d) (subR s.e s.f t.e t.f)) = .returned (.tuple #[.agg #[.int .i64 d0, .int .i64 d1, .int .i64 d2, .int .i64 d3, .int .i64 d4, .int .i64 d5], .int .i64 ee]) from by rw [hd])
      rw [hd]
      clear hd
      have HS := Lib.hid hs
      have HT := Lib.hid ht
      clear hs ht
      go_enter Try.func36, Try.ntmps36
      go_wp2_with fail
      refine (dvalid_any s _).mono ?_
      rintro e w1 ⟨rfl, hb⟩
      rw [HS.out]
      have I1 := I0.call hb
      clear hb
      have r0_0_1 := I1.r0_0
      have r0_1_1 := I1.r0_1
      have r0_2_1 := I1.r0_2
      have r0_3_1 := I1.r0_3
      have r0_4_1 := I1.r0_4
      have r0_5_1 := I1.r0_5
      have r1_0_1 := I1.r1_0
      have r1_1_1 := I1.r1_1
      have r1_2_1 := I1.r1_2
      have r1_3_1 := I1.r1_3
      have r1_4_1 := I1.r1_4
      have r1_5_1 := I1.r1_5
      have z2_0_1 := I1.z2_0
      have f2_0_1 := I1.f2_0
      have z2_1_1 := I1.z2_1
      have f2_1_1 := I1.f2_1
      have z2_2_1 := I1.z2_2
      have f2_2_1 := I1.f2_2
      have z2_3_1 := I1.z2_3
      have f2_3_1 := I1.f2_3
      have z2_4_1 := I1.z2_4
      have f2_4_1 := I1.f2_4
      have z2_5_1 := I1.z2_5
      have f2_5_1 := I1.f2_5
      have sz_1 := I1.size
      go_wp2_with fail
      refine (dvalid_any t _).mono ?_
      rintro e w2 ⟨rfl, hb⟩
      rw [HT.out]
      have I2 := I1.call hb
      clear hb
      clear r0_0_1 r0_1_1 r0_2_1 r0_3_1 r0_4_1 r0_5_1 r1_0_1 r1_1_1 r1_2_1 r1_3_1 r1_4_1 r1_5_1 z2_0_1 f2_0_1 z2_1_1 f2_1_1 z2_2_1 f2_2_1 z2_3_1 f2_3_1 z2_4_1 f2_4_1 z2_5_1 f2_5_1 sz_1
      have r0_0_2 := I2.r0_0
      have r0_1_2 := I2.r0_1
      have r0_2_2 := I2.r0_2
      have r0_3_2 := I2.r0_3
      have r0_4_2 := I2.r0_4
      have r0_5_2 := I2.r0_5
      have r1_0_2 := I2.r1_0
      have r1_1_2 := I2.r1_1
      have r1_2_2 := I2.r1_2
      have r1_3_2 := I2.r1_3
      have r1_4_2 := I2.r1_4
      have r1_5_2 := I2.r1_5
      have z2_0_2 := I2.z2_0
      have f2_0_2 := I2.f2_0
      have z2_1_2 := I2.z2_1
      have f2_1_2 := I2.f2_1
      have z2_2_2 := I2.z2_2
      have f2_2_2 := I2.f2_2
      have z2_3_2 := I2.z2_3
      have f2_3_2 := I2.f2_3
      have z2_4_2 := I2.z2_4
      have f2_4_2 := I2.f2_4
      have z2_5_2 := I2.z2_5
      have f2_5_2 := I2.f2_5
      have sz_2 := I2.size
      go_wp2_with fail
      refine (combine_sub s t _).mono ?_
      rintro e w3 ⟨rfl, hb⟩
      rw [HD.out]
      have I3 := I2.call hb
      clear hb
      clear r0_0_2 r0_1_2 r0_2_2 r0_3_2 r0_4_2 r0_5_2 r1_0_2 r1_1_2 r1_2_2 r1_3_2 r1_4_2 r1_5_2 z2_0_2 f2_0_2 z2_1_2 f2_1_2 z2_2_2 f2_2_2 z2_3_2 f2_3_2 z2_4_2 f2_4_2 z2_5_2 f2_5_2 sz_2
      have r0_0_3 := I3.r0_0
      have r0_1_3 := I3.r0_1
      have r0_2_3 := I3.r0_2
      have r0_3_3 := I3.r0_3
      have r0_4_3 := I3.r0_4
      have r0_5_3 := I3.r0_5
      have r1_0_3 := I3.r1_0
      have r1_1_3 := I3.r1_1
      have r1_2_3 := I3.r1_2
      have r1_3_3 := I3.r1_3
      have r1_4_3 := I3.r1_4
      have r1_5_3 := I3.r1_5
      have z2_0_3 := I3.z2_0
      have f2_0_3 := I3.f2_0
      have z2_1_3 := I3.z2_1
      have f2_1_3 := I3.f2_1
      have z2_2_3 := I3.z2_2
      have f2_2_3 := I3.f2_2
      have z2_3_3 := I3.z2_3
      have f2_3_3 := I3.f2_3
      have z2_4_3 := I3.z2_4
      have f2_4_3 := I3.f2_4
      have z2_5_3 := I3.z2_5
      have f2_5_3 := I3.f2_5
      have sz_3 := I3.size
      go_wp2_with fail
      have K := I3.fin6_2 (d0) (d1) (d2) (d3) (d4) (d5)
      revert K
      generalize ((((((w3.setCell ⟨w.heap.size + 1 + 1, 0, none⟩ (.int .i64 d0)).setCell ⟨w.heap.size + 1 + 1, 1, none⟩ (.int .i64 d1)).setCell ⟨w.heap.size + 1 + 1, 2, none⟩ (.int .i64 d2)).setCell ⟨w.heap.size + 1 + 1, 3, none⟩ (.int .i64 d3)).setCell ⟨w.heap.size + 1 + 1, 4, none⟩ (.int .i64 d4)).setCell ⟨w.heap.size + 1 + 1, 5, none⟩ (.int .i64 d5)) = X
      intro K
      obtain ⟨k0, k1, k2, k3, k4, k5, kb⟩ := K
      exact bodyPost_ret (v := .tuple #[dv ⟨d0, d1, d2, d3, d4, d5⟩, .int .i64 ee]) (by simp [results, Try.results36, go_sem, k0, k1, k2, k3, k4, k5]) rfl ⟨rfl, kb⟩
def scaleD (s : D) (a b : Int) : RD := if vD s = true ∧ vB a b = true then comb (mulR s.a s.b a b) (mulR s.c s.d a b) (mulR s.e s.f a b) else ⟨zD, 1⟩
set_option maxRecDepth 100000 in
set_option maxHeartbeats 1000000 in
theorem dscale_any (s : D) (a b : Int) (w : World) :
    Calls Try.prog 66 #[dv s, iv a b] w fun e w' => e = retD (scaleD s a b) ∧ Below w.heap.size w w' := by
  have I0 : B3 w (((w.alloc (.cells #[.int .i64 s.a, .int .i64 s.b, .int .i64 s.c, .int .i64 s.d, .int .i64 s.e, .int .i64 s.f] 25)).alloc (.cells #[.int .i64 a, .int .i64 b] 23)).alloc (.cells #[.int .i64 0, .int .i64 0, .int .i64 0, .int .i64 0, .int .i64 0, .int .i64 0] 25)) w.heap.size s a b := by
    refine ⟨by simp [go_sem], by simp [go_sem], by simp [go_sem], by simp [go_sem], by simp [go_sem], by simp [go_sem], by simp [go_sem], by simp [go_sem], by simp [go_sem], by simp [go_sem], by simp [go_sem], by simp [go_sem], by simp [go_sem], by simp [go_sem], by simp [go_sem], by simp [go_sem], by simp [go_sem], by simp [go_sem], by simp [go_sem], by simp [go_sem], by simp, ?_⟩
    · repeat (first | exact Below.refl _ _ | refine Below.alloc ?_ (by first | omega | (simp <;> omega)) _)
  cases hs : vD s
  · rw [show scaleD s a b = ⟨zD, 1⟩ from if_neg (by rw [hs]; simp)]
    have HS := Lib.hid hs
    clear hs
    go_enter Try.func66, Try.ntmps66
    go_wp2_with fail
    refine (dvalid_any s _).mono ?_
    rintro e w1 ⟨rfl, hb⟩
    rw [HS.out]
    have I1 := I0.call hb
    clear hb
    have r0_0_1 := I1.r0_0
    have r0_1_1 := I1.r0_1
    have r0_2_1 := I1.r0_2
    have r0_3_1 := I1.r0_3
    have r0_4_1 := I1.r0_4
    have r0_5_1 := I1.r0_5
    have r1_0_1 := I1.r1_0
    have r1_1_1 := I1.r1_1
    have z2_0_1 := I1.z2_0
    have f2_0_1 := I1.f2_0
    have z2_1_1 := I1.z2_1
    have f2_1_1 := I1.f2_1
    have z2_2_1 := I1.z2_2
    have f2_2_1 := I1.f2_2
    have z2_3_1 := I1.z2_3
    have f2_3_1 := I1.f2_3
    have z2_4_1 := I1.z2_4
    have f2_4_1 := I1.f2_4
    have z2_5_1 := I1.z2_5
    have f2_5_1 := I1.f2_5
    have sz_1 := I1.size
    go_wp2_with fail
    have K := I1.fin6_2 (0) (0) (0) (0) (0) (0)
    revert K
    generalize ((((((w1.setCell ⟨w.heap.size + 1 + 1, 0, none⟩ (.int .i64 0)).setCell ⟨w.heap.size + 1 + 1, 1, none⟩ (.int .i64 0)).setCell ⟨w.heap.size + 1 + 1, 2, none⟩ (.int .i64 0)).setCell ⟨w.heap.size + 1 + 1, 3, none⟩ (.int .i64 0)).setCell ⟨w.heap.size + 1 + 1, 4, none⟩ (.int .i64 0)).setCell ⟨w.heap.size + 1 + 1, 5, none⟩ (.int .i64 0)) = X
    intro K
    obtain ⟨k0, k1, k2, k3, k4, k5, kb⟩ := K
    exact bodyPost_ret (v := .tuple #[dv ⟨0, 0, 0, 0, 0, 0⟩, .int .i64 1]) (by simp [results, Try.results66, go_sem, k0, k1, k2, k3, k4, k5]) rfl ⟨rfl, kb⟩
  · cases ht : vB a b
    · rw [show scaleD s a b = ⟨zD, 1⟩ from if_neg (by rw [ht]; simp)]
      have HS := Lib.hid hs
      have HT := Lib.hid ht
      clear hs ht
      go_enter Try.func66, Try.ntmps66
      go_wp2_with fail
      refine (dvalid_any s _).mono ?_
      rintro e w1 ⟨rfl, hb⟩
      rw [HS.out]
      have I1 := I0.call hb
      clear hb
      have r0_0_1 := I1.r0_0
      have r0_1_1 := I1.r0_1
      have r0_2_1 := I1.r0_2
      have r0_3_1 := I1.r0_3
      have r0_4_1 := I1.r0_4
      have r0_5_1 := I1.r0_5
      have r1_0_1 := I1.r1_0
      have r1_1_1 := I1.r1_1
      have z2_0_1 := I1.z2_0
      have f2_0_1 := I1.f2_0
      have z2_1_1 := I1.z2_1
      have f2_1_1 := I1.f2_1
      have z2_2_1 := I1.z2_2
      have f2_2_1 := I1.f2_2
      have z2_3_1 := I1.z2_3
      have f2_3_1 := I1.f2_3
      have z2_4_1 := I1.z2_4
      have f2_4_1 := I1.f2_4
      have z2_5_1 := I1.z2_5
      have f2_5_1 := I1.f2_5
      have sz_1 := I1.size
      go_wp2_with fail
      refine (valid_any a b _).mono ?_
      rintro e w2 ⟨rfl, hw2⟩
      rw [HT.out]
      have hb : Below w1.heap.size w1 w2 := by rw [← hw2]; exact (Below.refl _ _).alloc (Nat.le_refl _) _
      clear hw2
      have I2 := I1.call hb
      clear hb
      clear r0_0_1 r0_1_1 r0_2_1 r0_3_1 r0_4_1 r0_5_1 r1_0_1 r1_1_1 z2_0_1 f2_0_1 z2_1_1 f2_1_1 z2_2_1 f2_2_1 z2_3_1 f2_3_1 z2_4_1 f2_4_1 z2_5_1 f2_5_1 sz_1
      have r0_0_2 := I2.r0_0
      have r0_1_2 := I2.r0_1
      have r0_2_2 := I2.r0_2
      have r0_3_2 := I2.r0_3
      have r0_4_2 := I2.r0_4
      have r0_5_2 := I2.r0_5
      have r1_0_2 := I2.r1_0
      have r1_1_2 := I2.r1_1
      have z2_0_2 := I2.z2_0
      have f2_0_2 := I2.f2_0
      have z2_1_2 := I2.z2_1
      have f2_1_2 := I2.f2_1
      have z2_2_2 := I2.z2_2
      have f2_2_2 := I2.f2_2
      have z2_3_2 := I2.z2_3
      have f2_3_2 := I2.f2_3
      have z2_4_2 := I2.z2_4
      have f2_4_2 := I2.f2_4
      have z2_5_2 := I2.z2_5
      have f2_5_2 := I2.f2_5
      have sz_2 := I2.size
      go_wp2_with fail
      have K := I2.fin6_2 (0) (0) (0) (0) (0) (0)
      revert K
      generalize ((((((w2.setCell ⟨w.heap.size + 1 + 1, 0, none⟩ (.int .i64 0)).setCell ⟨w.heap.size + 1 + 1, 1, none⟩ (.int .i64 0)).setCell ⟨w.heap.size + 1 + 1, 2, none⟩ (.int .i64 0)).setCell ⟨w.heap.size + 1 + 1, 3, none⟩ (.int .i64 0)).setCell ⟨w.heap.size + 1 + 1, 4, none⟩ (.int .i64 0)).setCell ⟨w.heap.size + 1 + 1, 5, none⟩ (.int .i64 0)) = X
      intro K
      obtain ⟨k0, k1, k2, k3, k4, k5, kb⟩ := K
      exact bodyPost_ret (v := .tuple #[dv ⟨0, 0, 0, 0, 0, 0⟩, .int .i64 1]) (by simp [results, Try.results66, go_sem, k0, k1, k2, k3, k4, k5]) rfl ⟨rfl, kb⟩
    · rw [show scaleD s a b = comb (mulR s.a s.b a b) (mulR s.c s.d a b) (mulR s.e s.f a b) from if_pos ⟨hs, ht⟩]
      obtain ⟨⟨⟨d0, d1, d2, d3, d4, d5⟩, ee⟩, hd⟩ : ∃ r : RD, comb (mulR s.a s.b a b) (mulR s.c s.d a b) (mulR s.e s.f a b) = r := ⟨_, rfl⟩
      have HD := Lib.hid (show retD (comb (mulR s.a s.b a b) (mulR s.c s.d a b) (mulR s.e s.f a b)) = .returned (.tuple #[.agg #[.int .i64 d0, .int .i64 d1, .int .i64 d2, .int .i64 d3, .int .i64 d4, .int .i64 d5], .int .i64 ee]) from by rw [hd])
      rw [hd]
      clear hd
      have HS := Lib.hid hs
      have HT := Lib.hid ht
      clear hs ht
      go_enter Try.func66, Try.ntmps66
      go_wp2_with fail
      refine (dvalid_any s _).mono ?_
      rintro e w1 ⟨rfl, hb⟩
      rw [HS.out]
      have I1 := I0.call hb
      clear hb
      have r0_0_1 := I1.r0_0
      have r0_1_1 := I1.r0_1
      have r0_2_1 := I1.r0_2
      have r0_3_1 := I1.r0_3
      have r0_4_1 := I1.r0_4
      have r0_5_1 := I1.r0_5
      have r1_0_1 := I1.r1_0
      have r1_1_1 := I1.r1_1
      have z2_0_1 := I1.z2_0
      have f2_0_1 := I1.f2_0
      have z2_1_1 := I1.z2_1
      have f2_1_1 := I1.f2_1
      have z2_2_1 := I1.z2_2
      have f2_2_1 := I1.f2_2
      have z2_3_1 := I1.z2_3
      have f2_3_1 := I1.f2_3
      have z2_4_1 := I1.z2_4
      have f2_4_1 := I1.f2_4
      have z2_5_1 := I1.z2_5
      have f2_5_1 := I1.f2_5
      have sz_1 := I1.size
      go_wp2_with fail
      refine (valid_any a b _).mono ?_
      rintro e w2 ⟨rfl, hw2⟩
      rw [HT.out]
      have hb : Below w1.heap.size w1 w2 := by rw [← hw2]; exact (Below.refl _ _).alloc (Nat.le_refl _) _
      clear hw2
      have I2 := I1.call hb
      clear hb
      clear r0_0_1 r0_1_1 r0_2_1 r0_3_1 r0_4_1 r0_5_1 r1_0_1 r1_1_1 z2_0_1 f2_0_1 z2_1_1 f2_1_1 z2_2_1 f2_2_1 z2_3_1 f2_3_1 z2_4_1 f2_4_1 z2_5_1 f2_5_1 sz_1
      have r0_0_2 := I2.r0_0
      have r0_1_2 := I2.r0_1
      have r0_2_2 := I2.r0_2
      have r0_3_2 := I2.r0_3
      have r0_4_2 := I2.r0_4
      have r0_5_2 := I2.r0_5
      have r1_0_2 := I2.r1_0
      have r1_1_2 := I2.r1_1
      have z2_0_2 := I2.z2_0
      have f2_0_2 := I2.f2_0
      have z2_1_2 := I2.z2_1
      have f2_1_2 := I2.f2_1
      have z2_2_2 := I2.z2_2
      have f2_2_2 := I2.f2_2
      have z2_3_2 := I2.z2_3
      have f2_3_2 := I2.f2_3
      have z2_4_2 := I2.z2_4
      have f2_4_2 := I2.f2_4
      have z2_5_2 := I2.z2_5
      have f2_5_2 := I2.f2_5
      have sz_2 := I2.size
      have HC := Lib.hid (fun w => combine_mul s ⟨a, b, a, b, a, b⟩ w)
      go_wp2_with fail
      refine (HC.out _).mono ?_
      rintro e w3 ⟨rfl, hb⟩
      rw [HD.out]
      have I3 := I2.call hb
      clear hb
      clear r0_0_2 r0_1_2 r0_2_2 r0_3_2 r0_4_2 r0_5_2 r1_0_2 r1_1_2 z2_0_2 f2_0_2 z2_1_2 f2_1_2 z2_2_2 f2_2_2 z2_3_2 f2_3_2 z2_4_2 f2_4_2 z2_5_2 f2_5_2 sz_2
      have r0_0_3 := I3.r0_0
      have r0_1_3 := I3.r0_1
      have r0_2_3 := I3.r0_2
      have r0_3_3 := I3.r0_3
      have r0_4_3 := I3.r0_4
      have r0_5_3 := I3.r0_5
      have r1_0_3 := I3.r1_0
      have r1_1_3 := I3.r1_1
      have z2_0_3 := I3.z2_0
      have f2_0_3 := I3.f2_0
      have z2_1_3 := I3.z2_1
      have f2_1_3 := I3.f2_1
      have z2_2_3 := I3.z2_2
      have f2_2_3 := I3.f2_2
      have z2_3_3 := I3.z2_3
      have f2_3_3 := I3.f2_3
      have z2_4_3 := I3.z2_4
      have f2_4_3 := I3.f2_4
      have z2_5_3 := I3.z2_5
      have f2_5_3 := I3.f2_5
      have sz_3 := I3.size
      go_wp2_with fail
      have K := I3.fin6_2 (d0) (d1) (d2) (d3) (d4) (d5)
      revert K
      generalize ((((((w3.setCell ⟨w.heap.size + 1 + 1, 0, none⟩ (.int .i64 d0)).setCell ⟨w.heap.size + 1 + 1, 1, none⟩ (.int .i64 d1)).setCell ⟨w.heap.size + 1 + 1, 2, none⟩ (.int .i64 d2)).setCell ⟨w.heap.size + 1 + 1, 3, none⟩ (.int .i64 d3)).setCell ⟨w.heap.size + 1 + 1, 4, none⟩ (.int .i64 d4)).setCell ⟨w.heap.size + 1 + 1, 5, none⟩ (.int .i64 d5)) = X
      intro K
      obtain ⟨k0, k1, k2, k3, k4, k5, kb⟩ := K
      exact bodyPost_ret (v := .tuple #[dv ⟨d0, d1, d2, d3, d4, d5⟩, .int .i64 ee]) (by simp [results, Try.results66, go_sem, k0, k1, k2, k3, k4, k5]) rfl ⟨rfl, kb⟩
end Go.Proofs.Ytjppcndhaejfpaa.Iv
