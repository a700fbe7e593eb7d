/- Boxes of three intervals: validity, and the operations of two boxes, coordinate by coordinate (combine). -/
import Derived.Test.YtjppcndhaejfpaaDr2
import Derived.Deep.RegionHeld3
import Derived.Deep.CutRange
import Derived.Deep.DeepCutAuto
import Derived.Tactics2
namespace Go.Proofs.Ytjppcndhaejfpaa.Iv
open Go.RowKit

structure D where
  a : Int
  b : Int
  c : Int
  d : Int
  e : Int
  f : Int
structure RD where
  d : D
  e : Int
abbrev dv (s : D) : Value := .agg #[.int .i64 s.a, .int .i64 s.b, .int .i64 s.c, .int .i64 s.d, .int .i64 s.e, .int .i64 s.f]
abbrev retD (r : RD) : Ending := .returned (.tuple #[dv r.d, .int .i64 r.e])
def vD (s : D) : Bool := vB s.a s.b && (vB s.c s.d && vB s.e s.f)
def zD : D := ⟨0, 0, 0, 0, 0, 0⟩
def comb (r s t : R) : RD := if r.e = 0 then if s.e = 0 then if t.e = 0 then ⟨⟨r.lo, r.hi, s.lo, s.hi, t.lo, t.hi⟩, 0⟩ else ⟨zD, t.e⟩ else ⟨zD, s.e⟩ else ⟨zD, r.e⟩
/-- a box, or the first error -/
def dirR (e : Int) (d : D) : RD := if e = 0 then ⟨d, 0⟩ else ⟨zD, e⟩
theorem comb_eq (r s t : R) : dirR (goOn (goOn (goOn 0 r).e s).e t).e ⟨(goOn 0 r).lo, (goOn 0 r).hi, (goOn (goOn 0 r).e s).lo, (goOn (goOn 0 r).e s).hi, (goOn (goOn (goOn 0 r).e s).e t).lo, (goOn (goOn (goOn 0 r).e s).e t).hi⟩ = comb r s t := by
  rw [show goOn 0 r = r from if_pos rfl]
  unfold comb dirR
  by_cases h1 : r.e = 0
  · rw [if_pos h1, show goOn r.e s = s from if_pos h1]
    by_cases h2 : s.e = 0
    · rw [if_pos h2, show goOn s.e t = t from if_pos h2]
    · rw [if_neg h2, show goOn s.e t = ⟨0, 0, s.e⟩ from if_neg h2, if_neg h2]
  · rw [if_neg h1, show goOn r.e s = ⟨0, 0, r.e⟩ from if_neg h1]
    dsimp only
    rw [show goOn r.e t = ⟨0, 0, r.e⟩ from if_neg h1]
    exact if_neg h1

set_option maxRecDepth 100000 in
theorem dir_any (c : Nat) (e : Int) (d : D) (w : World) (hc : w.cell? ⟨c, 0, none⟩ = some (.int .i64 e)) :
    Calls Try.prog 90 #[.pointer (some ⟨c, 0, none⟩), dv d] w fun r w' => r = retD (dirR e d) ∧ Below w.heap.size w w' := by
  have hlt : c < w.heap.size := World.block_lt_of_cell? w _ hc
  have q1 : c < w.heap.size + 1 := by omega
  have q2 : c < w.heap.size + 1 + 1 := by omega
  have n1 : ¬ (c = w.heap.size) := by omega
  have n2 : ¬ (c = w.heap.size + 1) := by omega
  by_cases he : e = 0
  · subst he
    rw [show dirR 0 d = ⟨d, 0⟩ from if_pos rfl]
    go_enter Try.func90, Try.ntmps90
    go_wp2_with fail
    exact bodyPost_ret (v := .tuple #[dv d, .int .i64 0]) (by simp [results, Try.results90, go_sem, *]) rfl ⟨rfl, by repeat (first | exact Below.refl _ _ | refine Below.setCell ?_ (by first | omega | (simp <;> omega)) _ | refine Below.alloc ?_ (by first | omega | (simp <;> omega)) _)⟩
  · rw [show dirR e d = ⟨zD, e⟩ from if_neg he]
    have he' : (e == 0) = false := by simpa using he
    go_enter Try.func90, Try.ntmps90
    go_wp2_with fail
    go_region
    all_goals go_wp2_with fail
    all_goals exact bodyPost_ret (v := .tuple #[dv zD, .int .i64 e]) (by simp [results, Try.results90, go_sem, zD, *]) rfl ⟨rfl, by repeat (first | exact Below.refl _ _ | refine Below.drew ?_ | refine Below.setCell ?_ (by first | omega | (simp <;> omega)) _ | refine Below.alloc ?_ (by first | omega | (simp <;> omega)) _)⟩
theorem fset {w : World} {b c o i : Nat} {u v : Value} (h : w.cell? ⟨c, o, none⟩ = some v) (n : ¬ (c = b)) : (w.setCell ⟨b, i, none⟩ u).cell? ⟨c, o, none⟩ = some v := by simp [go_sem, h]
structure Cm (w0 W : World) (n : Nat) (s t : D) (E : Int) : Prop where
  r0_0 : W.cell? ⟨n, 0, none⟩ = some (.int .i64 s.a)
  r0_1 : W.cell? ⟨n, 1, none⟩ = some (.int .i64 s.b)
  r0_2 : W.cell? ⟨n, 2, none⟩ = some (.int .i64 s.c)
  r0_3 : W.cell? ⟨n, 3, none⟩ = some (.int .i64 s.d)
  r0_4 : W.cell? ⟨n, 4, none⟩ = some (.int .i64 s.e)
  r0_5 : W.cell? ⟨n, 5, none⟩ = some (.int .i64 s.f)
  r1_0 : W.cell? ⟨n + 1, 0, none⟩ = some (.int .i64 t.a)
  r1_1 : W.cell? ⟨n + 1, 1, none⟩ = some (.int .i64 t.b)
  r1_2 : W.cell? ⟨n + 1, 2, none⟩ = some (.int .i64 t.c)
  r1_3 : W.cell? ⟨n + 1, 3, none⟩ = some (.int .i64 t.d)
  r1_4 : W.cell? ⟨n + 1, 4, none⟩ = some (.int .i64 t.e)
  r1_5 : W.cell? ⟨n + 1, 5, none⟩ = some (.int .i64 t.f)
  z2_0 : W.cell? ⟨n + 1 + 1, 0, none⟩ = some (.int .i64 0)
  f2_0 : W.frozen? ⟨n + 1 + 1, 0, none⟩ = false
  z2_1 : W.cell? ⟨n + 1 + 1, 1, none⟩ = some (.int .i64 0)
  f2_1 : W.frozen? ⟨n + 1 + 1, 1, none⟩ = false
  z2_2 : W.cell? ⟨n + 1 + 1, 2, none⟩ = some (.int .i64 0)
  f2_2 : W.frozen? ⟨n + 1 + 1, 2, none⟩ = false
  z2_3 : W.cell? ⟨n + 1 + 1, 3, none⟩ = some (.int .i64 0)
  f2_3 : W.frozen? ⟨n + 1 + 1, 3, none⟩ = false
  z2_4 : W.cell? ⟨n + 1 + 1, 4, none⟩ = some (.int .i64 0)
  f2_4 : W.frozen? ⟨n + 1 + 1, 4, none⟩ = false
  z2_5 : W.cell? ⟨n + 1 + 1, 5, none⟩ = some (.int .i64 0)
  f2_5 : W.frozen? ⟨n + 1 + 1, 5, none⟩ = false
  cE : W.cell? ⟨n + 1 + 1 + 1, 0, none⟩ = some (.int .i64 E)
  fE : W.frozen? ⟨n + 1 + 1 + 1, 0, none⟩ = false
  size : n + 1 + 1 + 1 < W.heap.size
  below : Below n w0 W
theorem Cm.drew {w0 W : World} {n : Nat} {s t : D} {E : Int} (h : Cm w0 W n s t E) : Cm w0 W.drew n s t E :=
  ⟨h.r0_0, h.r0_1, h.r0_2, h.r0_3, h.r0_4, h.r0_5, h.r1_0, h.r1_1, h.r1_2, h.r1_3, h.r1_4, h.r1_5, h.z2_0, h.f2_0, h.z2_1, h.f2_1, h.z2_2, h.f2_2, h.z2_3, h.f2_3, h.z2_4, h.f2_4, h.z2_5, h.f2_5, h.cE, h.fE, h.size, h.below.drew⟩
theorem Cm.call {w0 W : World} {n : Nat} {s t : D} {E : Int} {W' : World} (h : Cm w0 W n s t E) (hb : Below W.heap.size W W') : Cm w0 W' n s t E := by
  have z := h.size
  have z' := hb.size
  have hc : ∀ b o, b < W.heap.size → W'.cell? ⟨b, o, none⟩ = W.cell? ⟨b, o, none⟩ := fun b o h => hb.cell (p := ⟨b, o, none⟩) h
  have hf : ∀ b o, b < W.heap.size → W'.frozen? ⟨b, o, none⟩ = W.frozen? ⟨b, o, none⟩ := fun b o h => hb.frozen (p := ⟨b, o, none⟩) h
  have l0 : n < W.heap.size := by omega
  have l1 : n + 1 < W.heap.size := by omega
  have l2 : n + 1 + 1 < W.heap.size := by omega
  have l3 : n + 1 + 1 + 1 < W.heap.size := by omega
  exact ⟨(hc _ _ l0).trans h.r0_0, (hc _ _ l0).trans h.r0_1, (hc _ _ l0).trans h.r0_2, (hc _ _ l0).trans h.r0_3, (hc _ _ l0).trans h.r0_4, (hc _ _ l0).trans h.r0_5, (hc _ _ l1).trans h.r1_0, (hc _ _ l1).trans h.r1_1, (hc _ _ l1).trans h.r1_2, (hc _ _ l1).trans h.r1_3, (hc _ _ l1).trans h.r1_4, (hc _ _ l1).trans h.r1_5, (hc _ _ l2).trans h.z2_0, (hf _ _ l2).trans h.f2_0, (hc _ _ l2).trans h.z2_1, (hf _ _ l2).trans h.f2_1, (hc _ _ l2).trans h.z2_2, (hf _ _ l2).trans h.f2_2, (hc _ _ l2).trans h.z2_3, (hf _ _ l2).trans h.f2_3, (hc _ _ l2).trans h.z2_4, (hf _ _ l2).trans h.f2_4, (hc _ _ l2).trans h.z2_5, (hf _ _ l2).trans h.f2_5, (hc _ _ l3).trans h.cE, (hf _ _ l3).trans h.fE, by omega, h.below.trans (hb.mono (by omega))⟩
theorem Cm.step {w0 W : World} {n : Nat} {s t : D} {E : Int} {W' : World} {E' : Int} (h : Cm w0 W n s t E) (st : Step n W (n + 1 + 1 + 1) E' W') : Cm w0 W' n s t E' := by
  have z := h.size
  have z' := st.size
  have l0 : n < W.heap.size := by omega
  have l1 : n + 1 < W.heap.size := by omega
  have l2 : n + 1 + 1 < W.heap.size := by omega
  have l3 : n + 1 + 1 + 1 < W.heap.size := by omega
  have n0 : ¬ (n = n + 1 + 1 + 1) := by omega
  have n1 : ¬ (n + 1 = n + 1 + 1 + 1) := by omega
  have n2 : ¬ (n + 1 + 1 = n + 1 + 1 + 1) := by omega
  exact ⟨(st.other _ _ l0 n0).trans h.r0_0, (st.other _ _ l0 n0).trans h.r0_1, (st.other _ _ l0 n0).trans h.r0_2, (st.other _ _ l0 n0).trans h.r0_3, (st.other _ _ l0 n0).trans h.r0_4, (st.other _ _ l0 n0).trans h.r0_5, (st.other _ _ l1 n1).trans h.r1_0, (st.other _ _ l1 n1).trans h.r1_1, (st.other _ _ l1 n1).trans h.r1_2, (st.other _ _ l1 n1).trans h.r1_3, (st.other _ _ l1 n1).trans h.r1_4, (st.other _ _ l1 n1).trans h.r1_5, (st.other _ _ l2 n2).trans h.z2_0, (st.frozen _ _ l2).trans h.f2_0, (st.other _ _ l2 n2).trans h.z2_1, (st.frozen _ _ l2).trans h.f2_1, (st.other _ _ l2 n2).trans h.z2_2, (st.frozen _ _ l2).trans h.f2_2, (st.other _ _ l2 n2).trans h.z2_3, (st.frozen _ _ l2).trans h.f2_3, (st.other _ _ l2 n2).trans h.z2_4, (st.frozen _ _ l2).trans h.f2_4, (st.other _ _ l2 n2).trans h.z2_5, (st.frozen _ _ l2).trans h.f2_5, st.cell, (st.frozen _ _ l3).trans h.fE, by omega, h.below.trans (st.below (by omega) (by omega))⟩
theorem Cm.all {w0 W : World} {n : Nat} {s t : D} {E : Int} (h : Cm w0 W n s t E) : W.cell? ⟨n, 0, none⟩ = some (.int .i64 s.a) ∧ W.cell? ⟨n, 1, none⟩ = some (.int .i64 s.b) ∧ W.cell? ⟨n, 2, none⟩ = some (.int .i64 s.c) ∧ W.cell? ⟨n, 3, none⟩ = some (.int .i64 s.d) ∧ W.cell? ⟨n, 4, none⟩ = some (.int .i64 s.e) ∧ W.cell? ⟨n, 5, none⟩ = some (.int .i64 s.f) ∧ W.cell? ⟨n + 1, 0, none⟩ = some (.int .i64 t.a) ∧ W.cell? ⟨n + 1, 1, none⟩ = some (.int .i64 t.b) ∧ W.cell? ⟨n + 1, 2, none⟩ = some (.int .i64 t.c) ∧ W.cell? ⟨n + 1, 3, none⟩ = some (.int .i64 t.d) ∧ W.cell? ⟨n + 1, 4, none⟩ = some (.int .i64 t.e) ∧ W.cell? ⟨n + 1, 5, none⟩ = some (.int .i64 t.f) :=
  ⟨h.r0_0, h.r0_1, h.r0_2, h.r0_3, h.r0_4, h.r0_5, h.r1_0, h.r1_1, h.r1_2, h.r1_3, h.r1_4, h.r1_5⟩
theorem Cm.set6_2 {w0 W : World} {n : Nat} {s t : D} {E : Int} (h : Cm w0 W n s t E) (u0 u1 u2 u3 u4 u5 : Value) : ((((((W.setCell ⟨n + 1 + 1, 0, none⟩ u0).setCell ⟨n + 1 + 1, 1, none⟩ u1).setCell ⟨n + 1 + 1, 2, none⟩ u2).setCell ⟨n + 1 + 1, 3, none⟩ u3).setCell ⟨n + 1 + 1, 4, none⟩ u4).setCell ⟨n + 1 + 1, 5, none⟩ u5).cell? ⟨n, 0, none⟩ = some (.int .i64 s.a) ∧ ((((((W.setCell ⟨n + 1 + 1, 0, none⟩ u0).setCell ⟨n + 1 + 1, 1, none⟩ u1).setCell ⟨n + 1 + 1, 2, none⟩ u2).setCell ⟨n + 1 + 1, 3, none⟩ u3).setCell ⟨n + 1 + 1, 4, none⟩ u4).setCell ⟨n + 1 + 1, 5, none⟩ u5).cell? ⟨n, 1, none⟩ = some (.int .i64 s.b) ∧ ((((((W.setCell ⟨n + 1 + 1, 0, none⟩ u0).setCell ⟨n + 1 + 1, 1, none⟩ u1).setCell ⟨n + 1 + 1, 2, none⟩ u2).setCell ⟨n + 1 + 1, 3, none⟩ u3).setCell ⟨n + 1 + 1, 4, none⟩ u4).setCell ⟨n + 1 + 1, 5, none⟩ u5).cell? ⟨n, 2, none⟩ = some (.int .i64 s.c) ∧ ((((((W.setCell ⟨n + 1 + 1, 0, none⟩ u0).setCell ⟨n + 1 + 1, 1, none⟩ u1).setCell ⟨n + 1 + 1, 2, none⟩ u2).setCell ⟨n + 1 + 1, 3, none⟩ u3).setCell ⟨n + 1 + 1, 4, none⟩ u4).setCell ⟨n + 1 + 1, 5, none⟩ u5).cell? ⟨n, 3, none⟩ = some (.int .i64 s.d) ∧ ((((((W.setCell ⟨n + 1 + 1, 0, none⟩ u0).setCell ⟨n + 1 + 1, 1, none⟩ u1).setCell ⟨n + 1 + 1, 2, none⟩ u2).setCell ⟨n + 1 + 1, 3, none⟩ u3).setCell ⟨n + 1 + 1, 4, none⟩ u4).setCell ⟨n + 1 + 1, 5, none⟩ u5).cell? ⟨n, 4, none⟩ = some (.int .i64 s.e) ∧ ((((((W.setCell ⟨n + 1 + 1, 0, none⟩ u0).setCell ⟨n + 1 + 1, 1, none⟩ u1).setCell ⟨n + 1 + 1, 2, none⟩ u2).setCell ⟨n + 1 + 1, 3, none⟩ u3).setCell ⟨n + 1 + 1, 4, none⟩ u4).setCell ⟨n + 1 + 1, 5, none⟩ u5).cell? ⟨n, 5, none⟩ = some (.int .i64 s.f) ∧ ((((((W.setCell ⟨n + 1 + 1, 0, none⟩ u0).setCell ⟨n + 1 + 1, 1, none⟩ u1).setCell ⟨n + 1 + 1, 2, none⟩ u2).setCell ⟨n + 1 + 1, 3, none⟩ u3).setCell ⟨n + 1 + 1, 4, none⟩ u4).setCell ⟨n + 1 + 1, 5, none⟩ u5).cell? ⟨n + 1, 0, none⟩ = some (.int .i64 t.a) ∧ ((((((W.setCell ⟨n + 1 + 1, 0, none⟩ u0).setCell ⟨n + 1 + 1, 1, none⟩ u1).setCell ⟨n + 1 + 1, 2, none⟩ u2).setCell ⟨n + 1 + 1, 3, none⟩ u3).setCell ⟨n + 1 + 1, 4, none⟩ u4).setCell ⟨n + 1 + 1, 5, none⟩ u5).cell? ⟨n + 1, 1, none⟩ = some (.int .i64 t.b) ∧ ((((((W.setCell ⟨n + 1 + 1, 0, none⟩ u0).setCell ⟨n + 1 + 1, 1, none⟩ u1).setCell ⟨n + 1 + 1, 2, none⟩ u2).setCell ⟨n + 1 + 1, 3, none⟩ u3).setCell ⟨n + 1 + 1, 4, none⟩ u4).setCell ⟨n + 1 + 1, 5, none⟩ u5).cell? ⟨n + 1, 2, none⟩ = some (.int .i64 t.c) ∧ ((((((W.setCell ⟨n + 1 + 1, 0, none⟩ u0).setCell ⟨n + 1 + 1, 1, none⟩ u1).setCell ⟨n + 1 + 1, 2, none⟩ u2).setCell ⟨n + 1 + 1, 3, none⟩ u3).setCell ⟨n + 1 + 1, 4, none⟩ u4).setCell ⟨n + 1 + 1, 5, none⟩ u5).cell? ⟨n + 1, 3, none⟩ = some (.int .i64 t.d) ∧ ((((((W.setCell ⟨n + 1 + 1, 0, none⟩ u0).setCell ⟨n + 1 + 1, 1, none⟩ u1).setCell ⟨n + 1 + 1, 2, none⟩ u2).setCell ⟨n + 1 + 1, 3, none⟩ u3).setCell ⟨n + 1 + 1, 4, none⟩ u4).setCell ⟨n + 1 + 1, 5, none⟩ u5).cell? ⟨n + 1, 4, none⟩ = some (.int .i64 t.e) ∧ ((((((W.setCell ⟨n + 1 + 1, 0, none⟩ u0).setCell ⟨n + 1 + 1, 1, none⟩ u1).setCell ⟨n + 1 + 1, 2, none⟩ u2).setCell ⟨n + 1 + 1, 3, none⟩ u3).setCell ⟨n + 1 + 1, 4, none⟩ u4).setCell ⟨n + 1 + 1, 5, none⟩ u5).cell? ⟨n + 1, 5, none⟩ = some (.int .i64 t.f) := by
  have n0 : ¬ (n = n + 1 + 1) := by omega
  have n1 : ¬ (n + 1 = n + 1 + 1) := by omega
  exact ⟨(fset (fset (fset (fset (fset (fset h.r0_0 n0) n0) n0) n0) n0) n0), (fset (fset (fset (fset (fset (fset h.r0_1 n0) n0) n0) n0) n0) n0), (fset (fset (fset (fset (fset (fset h.r0_2 n0) n0) n0) n0) n0) n0), (fset (fset (fset (fset (fset (fset h.r0_3 n0) n0) n0) n0) n0) n0), (fset (fset (fset (fset (fset (fset h.r0_4 n0) n0) n0) n0) n0) n0), (fset (fset (fset (fset (fset (fset h.r0_5 n0) n0) n0) n0) n0) n0), (fset (fset (fset (fset (fset (fset h.r1_0 n1) n1) n1) n1) n1) n1), (fset (fset (fset (fset (fset (fset h.r1_1 n1) n1) n1) n1) n1) n1), (fset (fset (fset (fset (fset (fset h.r1_2 n1) n1) n1) n1) n1) n1), (fset (fset (fset (fset (fset (fset h.r1_3 n1) n1) n1) n1) n1) n1), (fset (fset (fset (fset (fset (fset h.r1_4 n1) n1) n1) n1) n1) n1), (fset (fset (fset (fset (fset (fset h.r1_5 n1) n1) n1) n1) n1) n1)⟩
theorem Cm.fin6_2 {w0 W : World} {n : Nat} {s t : D} {E : Int} (h : Cm w0 W n s t E) (u0 u1 u2 u3 u4 u5 : Int) : ((((((W.setCell ⟨n + 1 + 1, 0, none⟩ (.int .i64 u0)).setCell ⟨n + 1 + 1, 1, none⟩ (.int .i64 u1)).setCell ⟨n + 1 + 1, 2, none⟩ (.int .i64 u2)).setCell ⟨n + 1 + 1, 3, none⟩ (.int .i64 u3)).setCell ⟨n + 1 + 1, 4, none⟩ (.int .i64 u4)).setCell ⟨n + 1 + 1, 5, none⟩ (.int .i64 u5)).cell? ⟨n + 1 + 1, 0, none⟩ = some (.int .i64 u0) ∧ ((((((W.setCell ⟨n + 1 + 1, 0, none⟩ (.int .i64 u0)).setCell ⟨n + 1 + 1, 1, none⟩ (.int .i64 u1)).setCell ⟨n + 1 + 1, 2, none⟩ (.int .i64 u2)).setCell ⟨n + 1 + 1, 3, none⟩ (.int .i64 u3)).setCell ⟨n + 1 + 1, 4, none⟩ (.int .i64 u4)).setCell ⟨n + 1 + 1, 5, none⟩ (.int .i64 u5)).cell? ⟨n + 1 + 1, 1, none⟩ = some (.int .i64 u1) ∧ ((((((W.setCell ⟨n + 1 + 1, 0, none⟩ (.int .i64 u0)).setCell ⟨n + 1 + 1, 1, none⟩ (.int .i64 u1)).setCell ⟨n + 1 + 1, 2, none⟩ (.int .i64 u2)).setCell ⟨n + 1 + 1, 3, none⟩ (.int .i64 u3)).setCell ⟨n + 1 + 1, 4, none⟩ (.int .i64 u4)).setCell ⟨n + 1 + 1, 5, none⟩ (.int .i64 u5)).cell? ⟨n + 1 + 1, 2, none⟩ = some (.int .i64 u2) ∧ ((((((W.setCell ⟨n + 1 + 1, 0, none⟩ (.int .i64 u0)).setCell ⟨n + 1 + 1, 1, none⟩ (.int .i64 u1)).setCell ⟨n + 1 + 1, 2, none⟩ (.int .i64 u2)).setCell ⟨n + 1 + 1, 3, none⟩ (.int .i64 u3)).setCell ⟨n + 1 + 1, 4, none⟩ (.int .i64 u4)).setCell ⟨n + 1 + 1, 5, none⟩ (.int .i64 u5)).cell? ⟨n + 1 + 1, 3, none⟩ = some (.int .i64 u3) ∧ ((((((W.setCell ⟨n + 1 + 1, 0, none⟩ (.int .i64 u0)).setCell ⟨n + 1 + 1, 1, none⟩ (.int .i64 u1)).setCell ⟨n + 1 + 1, 2, none⟩ (.int .i64 u2)).setCell ⟨n + 1 + 1, 3, none⟩ (.int .i64 u3)).setCell ⟨n + 1 + 1, 4, none⟩ (.int .i64 u4)).setCell ⟨n + 1 + 1, 5, none⟩ (.int .i64 u5)).cell? ⟨n + 1 + 1, 4, none⟩ = some (.int .i64 u4) ∧ ((((((W.setCell ⟨n + 1 + 1, 0, none⟩ (.int .i64 u0)).setCell ⟨n + 1 + 1, 1, none⟩ (.int .i64 u1)).setCell ⟨n + 1 + 1, 2, none⟩ (.int .i64 u2)).setCell ⟨n + 1 + 1, 3, none⟩ (.int .i64 u3)).setCell ⟨n + 1 + 1, 4, none⟩ (.int .i64 u4)).setCell ⟨n + 1 + 1, 5, none⟩ (.int .i64 u5)).cell? ⟨n + 1 + 1, 5, none⟩ = some (.int .i64 u5) ∧ Below n w0 ((((((W.setCell ⟨n + 1 + 1, 0, none⟩ (.int .i64 u0)).setCell ⟨n + 1 + 1, 1, none⟩ (.int .i64 u1)).setCell ⟨n + 1 + 1, 2, none⟩ (.int .i64 u2)).setCell ⟨n + 1 + 1, 3, none⟩ (.int .i64 u3)).setCell ⟨n + 1 + 1, 4, none⟩ (.int .i64 u4)).setCell ⟨n + 1 + 1, 5, none⟩ (.int .i64 u5)) := by
  have b := h.below
  have z0 := h.z2_0
  have z1 := h.z2_1
  have z2 := h.z2_2
  have z3 := h.z2_3
  have z4 := h.z2_4
  have z5 := h.z2_5
  clear h
  refine ⟨?_, ?_, ?_, ?_, ?_, ?_, ((((((b.setCell (by dsimp only; omega) _).setCell (by dsimp only; omega) _).setCell (by dsimp only; omega) _).setCell (by dsimp only; omega) _).setCell (by dsimp only; omega) _).setCell (by dsimp only; omega) _)⟩ <;> simp [go_sem, *]

set_option maxRecDepth 100000 in
set_option maxHeartbeats 8000000 in
theorem combine_add (s t : D) (w : World) :
    Calls Try.prog 67 #[.func (.func 37) #[] #[], dv s, dv t] w fun e w' => e = retD (comb (addR s.a s.b t.a t.b) (addR s.c s.d t.c t.d) (addR s.e s.f t.e t.f)) ∧ Below w.heap.size w w' := by
  rw [← comb_eq]
  obtain ⟨⟨p0, q0, e0⟩, h0⟩ : ∃ r : R, goOn 0 (addR s.a s.b t.a t.b) = r := ⟨_, rfl⟩
  have H0 := Lib.hid (show Ending.returned (iv (goOn 0 (addR s.a s.b t.a t.b)).lo (goOn 0 (addR s.a s.b t.a t.b)).hi) = .returned (iv p0 q0) ∧ (goOn 0 (addR s.a s.b t.a t.b)).e = e0 from by rw [h0]; exact ⟨rfl, rfl⟩)
  rw [h0]
  obtain ⟨⟨p1, q1, e1⟩, h1⟩ : ∃ r : R, goOn e0 (addR s.c s.d t.c t.d) = r := ⟨_, rfl⟩
  have H1 := Lib.hid (show Ending.returned (iv (goOn e0 (addR s.c s.d t.c t.d)).lo (goOn e0 (addR s.c s.d t.c t.d)).hi) = .returned (iv p1 q1) ∧ (goOn e0 (addR s.c s.d t.c t.d)).e = e1 from by rw [h1]; exact ⟨rfl, rfl⟩)
  rw [h1]
  obtain ⟨⟨p2, q2, e2⟩, h2⟩ : ∃ r : R, goOn e1 (addR s.e s.f t.e t.f) = r := ⟨_, rfl⟩
  have H2 := Lib.hid (show Ending.returned (iv (goOn e1 (addR s.e s.f t.e t.f)).lo (goOn e1 (addR s.e s.f t.e t.f)).hi) = .returned (iv p2 q2) ∧ (goOn e1 (addR s.e s.f t.e t.f)).e = e2 from by rw [h2]; exact ⟨rfl, rfl⟩)
  rw [h2]
  dsimp only
  clear h0 h1 h2
  obtain ⟨⟨⟨d0, d1, d2, d3, d4, d5⟩, ee⟩, hd⟩ : ∃ r : RD, dirR e2 ⟨p0, q0, p1, q1, p2, q2⟩ = r := ⟨_, rfl⟩
  have HD := Lib.hid (show retD (dirR e2 ⟨p0, q0, p1, q1, p2, q2⟩) = .returned (.tuple #[.agg #[.int .i64 d0, .int .i64 d1, .int .i64 d2, .int .i64 d3, .int .i64 d4, .int .i64 d5], .int .i64 ee]) from by rw [hd])
  rw [hd]
  clear hd
  have I0 : Cm w ((((w.alloc (.cells #[.int .i64 s.a, .int .i64 s.b, .int .i64 s.c, .int .i64 s.d, .int .i64 s.e, .int .i64 s.f] 25)).alloc (.cells #[.int .i64 t.a, .int .i64 t.b, .int .i64 t.c, .int .i64 t.d, .int .i64 t.e, .int .i64 t.f] 25)).alloc (.cells #[.int .i64 0, .int .i64 0, .int .i64 0, .int .i64 0, .int .i64 0, .int .i64 0] 25)).alloc (.cells #[.int .i64 0] 85)) w.heap.size s t 0 := by
    refine ⟨by simp [go_sem], by simp [go_sem], by simp [go_sem], by simp [go_sem], by simp [go_sem], by simp [go_sem], by simp [go_sem], by simp [go_sem], by simp [go_sem], by simp [go_sem], by simp [go_sem], by simp [go_sem], by simp [go_sem], by simp [go_sem], by simp [go_sem], by simp [go_sem], by simp [go_sem], by simp [go_sem], by simp [go_sem], by simp [go_sem], by simp [go_sem], by simp [go_sem], by simp [go_sem], by simp [go_sem], by simp [go_sem], by simp [go_sem], by simp, ?_⟩
    · repeat (first | exact Below.refl _ _ | refine Below.alloc ?_ (by first | omega | (simp <;> omega)) _)
  go_enter Try.func67, Try.ntmps67
  go_wp2_with fail
  go_region_held3 (fun w' => w'.cell? ⟨w.heap.size, 0, none⟩ = some (.int .i64 s.a) ∧ w'.cell? ⟨w.heap.size, 1, none⟩ = some (.int .i64 s.b) ∧ w'.cell? ⟨w.heap.size, 2, none⟩ = some (.int .i64 s.c) ∧ w'.cell? ⟨w.heap.size, 3, none⟩ = some (.int .i64 s.d) ∧ w'.cell? ⟨w.heap.size, 4, none⟩ = some (.int .i64 s.e) ∧ w'.cell? ⟨w.heap.size, 5, none⟩ = some (.int .i64 s.f) ∧ w'.cell? ⟨w.heap.size + 1, 0, none⟩ = some (.int .i64 t.a) ∧ w'.cell? ⟨w.heap.size + 1, 1, none⟩ = some (.int .i64 t.b) ∧ w'.cell? ⟨w.heap.size + 1, 2, none⟩ = some (.int .i64 t.c) ∧ w'.cell? ⟨w.heap.size + 1, 3, none⟩ = some (.int .i64 t.d) ∧ w'.cell? ⟨w.heap.size + 1, 4, none⟩ = some (.int .i64 t.e) ∧ w'.cell? ⟨w.heap.size + 1, 5, none⟩ = some (.int .i64 t.f)) (with_reducible first | exact I0.drew.all | exact ID.set6_2 _ _ _ _ _ _ | exact ID.all | exact IC.all | exact IB.all | exact IA.all)
    (first | (have hm := hmarkC; go_at_call 90; refine (dir_any (w.heap.size + 1 + 1 + 1) e2 ⟨p0, q0, p1, q1, p2, q2⟩ _ IC.cE).mono ?_; rintro r wD ⟨rfl, hb⟩; rw [HD.out]; have ID := IC.call hb; clear hb; have zz0 := ID.z2_0; have zz1 := ID.z2_1; have zz2 := ID.z2_2; have zz3 := ID.z2_3; have zz4 := ID.z2_4; have zz5 := ID.z2_5; have ff0 := ID.f2_0; have ff1 := ID.f2_1; have ff2 := ID.f2_2; have ff3 := ID.f2_3; have ff4 := ID.f2_4; have ff5 := ID.f2_5) | (have hm := hmarkB; go_at_call 89; refine (do_add w.heap.size (w.heap.size + 1 + 1 + 1) s.e s.f t.e t.f e1 _ IB.cE IB.fE).mono ?_; rintro r wC ⟨rfl, st⟩; rw [H2.out.1]; rw [H2.out.2] at st; have IC := IB.step st; clear st; have hmarkC : wC = wC := rfl) | (have hm := hmarkA; go_at_call 89; refine (do_add w.heap.size (w.heap.size + 1 + 1 + 1) s.c s.d t.c t.d e0 _ IA.cE IA.fE).mono ?_; rintro r wB ⟨rfl, st⟩; rw [H1.out.1]; rw [H1.out.2] at st; have IB := IA.step st; clear st; have hmarkB : wB = wB := rfl) | (go_at_call 89; refine (do_add w.heap.size (w.heap.size + 1 + 1 + 1) s.a s.b t.a t.b 0 _ I0.drew.cE I0.drew.fE).mono ?_; rintro r wA ⟨rfl, st⟩; rw [H0.out.1]; rw [H0.out.2] at st; have IA := I0.drew.step st; clear st; have hmarkA : wA = wA := rfl))
  all_goals go_wp2_with fail
  have K := ID.fin6_2 d0 d1 d2 d3 d4 d5
  revert K
  generalize ((((((wD.setCell ⟨w.heap.size + 1 + 1, 0, none⟩ (.int .i64 d0)).setCell ⟨w.heap.size + 1 + 1, 1, none⟩ (.int .i64 d1)).setCell ⟨w.heap.size + 1 + 1, 2, none⟩ (.int .i64 d2)).setCell ⟨w.heap.size + 1 + 1, 3, none⟩ (.int .i64 d3)).setCell ⟨w.heap.size + 1 + 1, 4, none⟩ (.int .i64 d4)).setCell ⟨w.heap.size + 1 + 1, 5, none⟩ (.int .i64 d5)) = X
  intro K
  obtain ⟨k0, k1, k2, k3, k4, k5, kb⟩ := K
  exact bodyPost_ret (v := .tuple #[dv ⟨d0, d1, d2, d3, d4, d5⟩, .int .i64 ee]) (by simp [results, Try.results67, go_sem, k0, k1, k2, k3, k4, k5]) rfl ⟨rfl, kb⟩

set_option maxRecDepth 100000 in
set_option maxHeartbeats 8000000 in
theorem combine_sub (s t : D) (w : World) :
    Calls Try.prog 67 #[.func (.func 44) #[] #[], dv s, dv t] w fun e w' => e = retD (comb (subR s.a s.b t.a t.b) (subR s.c s.d t.c t.d) (subR s.e s.f t.e t.f)) ∧ Below w.heap.size w w' := by
  rw [← comb_eq]
  obtain ⟨⟨p0, q0, e0⟩, h0⟩ : ∃ r : R, goOn 0 (subR s.a s.b t.a t.b) = r := ⟨_, rfl⟩
  have H0 := Lib.hid (show Ending.returned (iv (goOn 0 (subR s.a s.b t.a t.b)).lo (goOn 0 (subR s.a s.b t.a t.b)).hi) = .returned (iv p0 q0) ∧ (goOn 0 (subR s.a s.b t.a t.b)).e = e0 from by rw [h0]; exact ⟨rfl, rfl⟩)
  rw [h0]
  obtain ⟨⟨p1, q1, e1⟩, h1⟩ : ∃ r : R, goOn e0 (subR s.c s.d t.c t.d) = r := ⟨_, rfl⟩
  have H1 := Lib.hid (show Ending.returned (iv (goOn e0 (subR s.c s.d t.c t.d)).lo (goOn e0 (subR s.c s.d t.c t.d)).hi) = .returned (iv p1 q1) ∧ (goOn e0 (subR s.c s.d t.c t.d)).e = e1 from by rw [h1]; exact ⟨rfl, rfl⟩)
  rw [h1]
  obtain ⟨⟨p2, q2, e2⟩, h2⟩ : ∃ r : R, goOn e1 (subR s.e s.f t.e t.f) = r := ⟨_, rfl⟩
  have H2 := Lib.hid (show Ending.returned (iv (goOn e1 (subR s.e s.f t.e t.f)).lo (goOn e1 (subR s.e s.f t.e t.f)).hi) = .returned (iv p2 q2) ∧ (goOn e1 (subR s.e s.f t.e t.f)).e = e2 from by rw [h2]; exact ⟨rfl, rfl⟩)
  rw [h2]
  dsimp only
  clear h0 h1 h2
  obtain ⟨⟨⟨d0, d1, d2, d3, d4, d5⟩, ee⟩, hd⟩ : ∃ r : RD, dirR e2 ⟨p0, q0, p1, q1, p2, q2⟩ = r := ⟨_, rfl⟩
  have HD := Lib.hid (show retD (dirR e2 ⟨p0, q0, p1, q1, p2, q2⟩) = .returned (.tuple #[.agg #[.int .i64 d0, .int .i64 d1, .int .i64 d2, .int .i64 d3, .int .i64 d4, .int .i64 d5], .int .i64 ee]) from by rw [hd])
  rw [hd]
  clear hd
  have I0 : Cm w ((((w.alloc (.cells #[.int .i64 s.a, .int .i64 s.b, .int .i64 s.c, .int .i64 s.d, .int .i64 s.e, .int .i64 s.f] 25)).alloc (.cells #[.int .i64 t.a, .int .i64 t.b, .int .i64 t.c, .int .i64 t.d, .int .i64 t.e, .int .i64 t.f] 25)).alloc (.cells #[.int .i64 0, .int .i64 0, .int .i64 0, .int .i64 0, .int .i64 0, .int .i64 0] 25)).alloc (.cells #[.int .i64 0] 85)) w.heap.size s t 0 := by
    refine ⟨by simp [go_sem], by simp [go_sem], by simp [go_sem], by simp [go_sem], by simp [go_sem], by simp [go_sem], by simp [go_sem], by simp [go_sem], by simp [go_sem], by simp [go_sem], by simp [go_sem], by simp [go_sem], by simp [go_sem], by simp [go_sem], by simp [go_sem], by simp [go_sem], by simp [go_sem], by simp [go_sem], by simp [go_sem], by simp [go_sem], by simp [go_sem], by simp [go_sem], by simp [go_sem], by simp [go_sem], by simp [go_sem], by simp [go_sem], by simp, ?_⟩
    · repeat (first | exact Below.refl _ _ | refine Below.alloc ?_ (by first | omega | (simp <;> omega)) _)
  go_enter Try.func67, Try.ntmps67
  go_wp2_with fail
  go_region_held3 (fun w' => w'.cell? ⟨w.heap.size, 0, none⟩ = some (.int .i64 s.a) ∧ w'.cell? ⟨w.heap.size, 1, none⟩ = some (.int .i64 s.b) ∧ w'.cell? ⟨w.heap.size, 2, none⟩ = some (.int .i64 s.c) ∧ w'.cell? ⟨w.heap.size, 3, none⟩ = some (.int .i64 s.d) ∧ w'.cell? ⟨w.heap.size, 4, none⟩ = some (.int .i64 s.e) ∧ w'.cell? ⟨w.heap.size, 5, none⟩ = some (.int .i64 s.f) ∧ w'.cell? ⟨w.heap.size + 1, 0, none⟩ = some (.int .i64 t.a) ∧ w'.cell? ⟨w.heap.size + 1, 1, none⟩ = some (.int .i64 t.b) ∧ w'.cell? ⟨w.heap.size + 1, 2, none⟩ = some (.int .i64 t.c) ∧ w'.cell? ⟨w.heap.size + 1, 3, none⟩ = some (.int .i64 t.d) ∧ w'.cell? ⟨w.heap.size + 1, 4, none⟩ = some (.int .i64 t.e) ∧ w'.cell? ⟨w.heap.size + 1, 5, none⟩ = some (.int .i64 t.f)) (with_reducible first | exact I0.drew.all | exact ID.set6_2 _ _ _ _ _ _ | exact ID.all | exact IC.all | exact IB.all | exact IA.all)
    (first | (have hm := hmarkC; go_at_call 90; refine (dir_any (w.heap.size + 1 + 1 + 1) e2 ⟨p0, q0, p1, q1, p2, q2⟩ _ IC.cE).mono ?_; rintro r wD ⟨rfl, hb⟩; rw [HD.out]; have ID := IC.call hb; clear hb; have zz0 := ID.z2_0; have zz1 := ID.z2_1; have zz2 := ID.z2_2; have zz3 := ID.z2_3; have zz4 := ID.z2_4; have zz5 := ID.z2_5; have ff0 := ID.f2_0; have ff1 := ID.f2_1; have ff2 := ID.f2_2; have ff3 := ID.f2_3; have ff4 := ID.f2_4; have ff5 := ID.f2_5) | (have hm := hmarkB; go_at_call 89; refine (do_sub w.heap.size (w.heap.size + 1 + 1 + 1) s.e s.f t.e t.f e1 _ IB.cE IB.fE).mono ?_; rintro r wC ⟨rfl, st⟩; rw [H2.out.1]; rw [H2.out.2] at st; have IC := IB.step st; clear st; have hmarkC : wC = wC := rfl) | (have hm := hmarkA; go_at_call 89; refine (do_sub w.heap.size (w.heap.size + 1 + 1 + 1) s.c s.d t.c t.d e0 _ IA.cE IA.fE).mono ?_; rintro r wB ⟨rfl, st⟩; rw [H1.out.1]; rw [H1.out.2] at st; have IB := IA.step st; clear st; have hmarkB : wB = wB := rfl) | (go_at_call 89; refine (do_sub w.heap.size (w.heap.size + 1 + 1 + 1) s.a s.b t.a t.b 0 _ I0.drew.cE I0.drew.fE).mono ?_; rintro r wA ⟨rfl, st⟩; rw [H0.out.1]; rw [H0.out.2] at st; have IA := I0.drew.step st; clear st; have hmarkA : wA = wA := rfl))
  all_goals go_wp2_with fail
  have K := ID.fin6_2 d0 d1 d2 d3 d4 d5
  revert K
  generalize ((((((wD.setCell ⟨w.heap.size + 1 + 1, 0, none⟩ (.int .i64 d0)).setCell ⟨w.heap.size + 1 + 1, 1, none⟩ (.int .i64 d1)).setCell ⟨w.heap.size + 1 + 1, 2, none⟩ (.int .i64 d2)).setCell ⟨w.heap.size + 1 + 1, 3, none⟩ (.int .i64 d3)).setCell ⟨w.heap.size + 1 + 1, 4, none⟩ (.int .i64 d4)).setCell ⟨w.heap.size + 1 + 1, 5, none⟩ (.int .i64 d5)) = X
  intro K
  obtain ⟨k0, k1, k2, k3, k4, k5, kb⟩ := K
  exact bodyPost_ret (v := .tuple #[dv ⟨d0, d1, d2, d3, d4, d5⟩, .int .i64 ee]) (by simp [results, Try.results67, go_sem, k0, k1, k2, k3, k4, k5]) rfl ⟨rfl, kb⟩

set_option maxRecDepth 100000 in
set_option maxHeartbeats 8000000 in
theorem combine_mul (s t : D) (w : World) :
    Calls Try.prog 67 #[.func (.func 46) #[] #[], dv s, dv t] w fun e w' => e = retD (comb (mulR s.a s.b t.a t.b) (mulR s.c s.d t.c t.d) (mulR s.e s.f t.e t.f)) ∧ Below w.heap.size w w' := by
  rw [← comb_eq]
  obtain ⟨⟨p0, q0, e0⟩, h0⟩ : ∃ r : R, goOn 0 (mulR s.a s.b t.a t.b) = r := ⟨_, rfl⟩
  have H0 := Lib.hid (show Ending.returned (iv (goOn 0 (mulR s.a s.b t.a t.b)).lo (goOn 0 (mulR s.a s.b t.a t.b)).hi) = .returned (iv p0 q0) ∧ (goOn 0 (mulR s.a s.b t.a t.b)).e = e0 from by rw [h0]; exact ⟨rfl, rfl⟩)
  rw [h0]
  obtain ⟨⟨p1, q1, e1⟩, h1⟩ : ∃ r : R, goOn e0 (mulR s.c s.d t.c t.d) = r := ⟨_, rfl⟩
  have H1 := Lib.hid (show Ending.returned (iv (goOn e0 (mulR s.c s.d t.c t.d)).lo (goOn e0 (mulR s.c s.d t.c t.d)).hi) = .returned (iv p1 q1) ∧ (goOn e0 (mulR s.c s.d t.c t.d)).e = e1 from by rw [h1]; exact ⟨rfl, rfl⟩)
  rw [h1]
  obtain ⟨⟨p2, q2, e2⟩, h2⟩ : ∃ r : R, goOn e1 (mulR s.e s.f t.e t.f) = r := ⟨_, rfl⟩
  have H2 := Lib.hid (show Ending.returned (iv (goOn e1 (mulR s.e s.f t.e t.f)).lo (goOn e1 (mulR s.e s.f t.e t.f)).hi) = .returned (iv p2 q2) ∧ (goOn e1 (mulR s.e s.f t.e t.f)).e = e2 from by rw [h2]; exact ⟨rfl, rfl⟩)
  rw [h2]
  dsimp only
  clear h0 h1 h2
  obtain ⟨⟨⟨d0, d1, d2, d3, d4, d5⟩, ee⟩, hd⟩ : ∃ r : RD, dirR e2 ⟨p0, q0, p1, q1, p2, q2⟩ = r := ⟨_, rfl⟩
  have HD := Lib.hid (show retD (dirR e2 ⟨p0, q0, p1, q1, p2, q2⟩) = .returned (.tuple #[.agg #[.int .i64 d0, .int .i64 d1, .int .i64 d2, .int .i64 d3, .int .i64 d4, .int .i64 d5], .int .i64 ee]) from by rw [hd])
  rw [hd]
  clear hd
  have I0 : Cm w ((((w.alloc (.cells #[.int .i64 s.a, .int .i64 s.b, .int .i64 s.c, .int .i64 s.d, .int .i64 s.e, .int .i64 s.f] 25)).alloc (.cells #[.int .i64 t.a, .int .i64 t.b, .int .i64 t.c, .int .i64 t.d, .int .i64 t.e, .int .i64 t.f] 25)).alloc (.cells #[.int .i64 0, .int .i64 0, .int .i64 0, .int .i64 0, .int .i64 0, .int .i64 0] 25)).alloc (.cells #[.int .i64 0] 85)) w.heap.size s t 0 := by
    refine ⟨by simp [go_sem], by simp [go_sem], by simp [go_sem], by simp [go_sem], by simp [go_sem], by simp [go_sem], by simp [go_sem], by simp [go_sem], by simp [go_sem], by simp [go_sem], by simp [go_sem], by simp [go_sem], by simp [go_sem], by simp [go_sem], by simp [go_sem], by simp [go_sem], by simp [go_sem], by simp [go_sem], by simp [go_sem], by simp [go_sem], by simp [go_sem], by simp [go_sem], by simp [go_sem], by simp [go_sem], by simp [go_sem], by simp [go_sem], by simp, ?_⟩
    · repeat (first | exact Below.refl _ _ | refine Below.alloc ?_ (by first | omega | (simp <;> omega)) _)
  go_enter Try.func67, Try.ntmps67
  go_wp2_with fail
  go_region_held3 (fun w' => w'.cell? ⟨w.heap.size, 0, none⟩ = some (.int .i64 s.a) ∧ w'.cell? ⟨w.heap.size, 1, none⟩ = some (.int .i64 s.b) ∧ w'.cell? ⟨w.heap.size, 2, none⟩ = some (.int .i64 s.c) ∧ w'.cell? ⟨w.heap.size, 3, none⟩ = some (.int .i64 s.d) ∧ w'.cell? ⟨w.heap.size, 4, none⟩ = some (.int .i64 s.e) ∧ w'.cell? ⟨w.heap.size, 5, none⟩ = some (.int .i64 s.f) ∧ w'.cell? ⟨w.heap.size + 1, 0, none⟩ = some (.int .i64 t.a) ∧ w'.cell? ⟨w.heap.size + 1, 1, none⟩ = some (.int .i64 t.b) ∧ w'.cell? ⟨w.heap.size + 1, 2, none⟩ = some (.int .i64 t.c) ∧ w'.cell? ⟨w.heap.size + 1, 3, none⟩ = some (.int .i64 t.d) ∧ w'.cell? ⟨w.heap.size + 1, 4, none⟩ = some (.int .i64 t.e) ∧ w'.cell? ⟨w.heap.size + 1, 5, none⟩ = some (.int .i64 t.f)) (with_reducible first | exact I0.drew.all | exact ID.set6_2 _ _ _ _ _ _ | exact ID.all | exact IC.all | exact IB.all | exact IA.all)
    (first | (have hm := hmarkC; go_at_call 90; refine (dir_any (w.heap.size + 1 + 1 + 1) e2 ⟨p0, q0, p1, q1, p2, q2⟩ _ IC.cE).mono ?_; rintro r wD ⟨rfl, hb⟩; rw [HD.out]; have ID := IC.call hb; clear hb; have zz0 := ID.z2_0; have zz1 := ID.z2_1; have zz2 := ID.z2_2; have zz3 := ID.z2_3; have zz4 := ID.z2_4; have zz5 := ID.z2_5; have ff0 := ID.f2_0; have ff1 := ID.f2_1; have ff2 := ID.f2_2; have ff3 := ID.f2_3; have ff4 := ID.f2_4; have ff5 := ID.f2_5) | (have hm := hmarkB; go_at_call 89; refine (do_mul w.heap.size (w.heap.size + 1 + 1 + 1) s.e s.f t.e t.f e1 _ IB.cE IB.fE).mono ?_; rintro r wC ⟨rfl, st⟩; rw [H2.out.1]; rw [H2.out.2] at st; have IC := IB.step st; clear st; have hmarkC : wC = wC := rfl) | (have hm := hmarkA; go_at_call 89; refine (do_mul w.heap.size (w.heap.size + 1 + 1 + 1) s.c s.d t.c t.d e0 _ IA.cE IA.fE).mono ?_; rintro r wB ⟨rfl, st⟩; rw [H1.out.1]; rw [H1.out.2] at st; have IB := IA.step st; clear st; have hmarkB : wB = wB := rfl) | (go_at_call 89; refine (do_mul w.heap.size (w.heap.size + 1 + 1 + 1) s.a s.b t.a t.b 0 _ I0.drew.cE I0.drew.fE).mono ?_; rintro r wA ⟨rfl, st⟩; rw [H0.out.1]; rw [H0.out.2] at st; have IA := I0.drew.step st; clear st; have hmarkA : wA = wA := rfl))
  all_goals go_wp2_with fail
  have K := ID.fin6_2 d0 d1 d2 d3 d4 d5
  revert K
  generalize ((((((wD.setCell ⟨w.heap.size + 1 + 1, 0, none⟩ (.int .i64 d0)).setCell ⟨w.heap.size + 1 + 1, 1, none⟩ (.int .i64 d1)).setCell ⟨w.heap.size + 1 + 1, 2, none⟩ (.int .i64 d2)).setCell ⟨w.heap.size + 1 + 1, 3, none⟩ (.int .i64 d3)).setCell ⟨w.heap.size + 1 + 1, 4, none⟩ (.int .i64 d4)).setCell ⟨w.heap.size + 1 + 1, 5, none⟩ (.int .i64 d5)) = X
  intro K
  obtain ⟨k0, k1, k2, k3, k4, k5, kb⟩ := K
  exact bodyPost_ret (v := .tuple #[dv ⟨d0, d1, d2, d3, d4, d5⟩, .int .i64 ee]) (by simp [results, Try.results67, go_sem, k0, k1, k2, k3, k4, k5]) rfl ⟨rfl, kb⟩
end Go.Proofs.Ytjppcndhaejfpaa.Iv
