/- RefractionTotal: what Hits tells, Refract bears out; given that the example holds. -/
import Derived.Test.YtjppcndhaejfpaaDra
import Derived.Test.YtjppcndhaejfpaaDr8
import Derived.Test.YtjppcndhaejfpaaDru
namespace Go.Proofs.Ytjppcndhaejfpaa.Iv
open Go.RowKit

structure G3 (w0 W : World) (n : Nat) (s t : D) (a b : Int) : Prop where
  r0_0 : W.cell? ⟨n, 0, none⟩ = some (.int .i64 s.a)
  r0_1 : W.cell? ⟨n, 1, none⟩ = some (.int .i64 s.b)
  r0_2 : W.cell? ⟨n, 2, none⟩ = some (.int .i64 s.c)
  r0_3 : W.cell? ⟨n, 3, none⟩ = some (.int .i64 s.d)
  r0_4 : W.cell? ⟨n, 4, none⟩ = some (.int .i64 s.e)
  r0_5 : W.cell? ⟨n, 5, none⟩ = some (.int .i64 s.f)
  r1_0 : W.cell? ⟨n + 1, 0, none⟩ = some (.int .i64 t.a)
  r1_1 : W.cell? ⟨n + 1, 1, none⟩ = some (.int .i64 t.b)
  r1_2 : W.cell? ⟨n + 1, 2, none⟩ = some (.int .i64 t.c)
  r1_3 : W.cell? ⟨n + 1, 3, none⟩ = some (.int .i64 t.d)
  r1_4 : W.cell? ⟨n + 1, 4, none⟩ = some (.int .i64 t.e)
  r1_5 : W.cell? ⟨n + 1, 5, none⟩ = some (.int .i64 t.f)
  r2_0 : W.cell? ⟨n + 1 + 1, 0, none⟩ = some (.int .i64 a)
  r2_1 : W.cell? ⟨n + 1 + 1, 1, none⟩ = some (.int .i64 b)
  size : n + 1 + 1 < W.heap.size
  below : Below n w0 W
theorem G3.drew {w0 W : World} {n : Nat} {s t : D} {a b : Int} (h : G3 w0 W n s t a b) : G3 w0 W.drew n s t a b :=
  ⟨h.r0_0, h.r0_1, h.r0_2, h.r0_3, h.r0_4, h.r0_5, h.r1_0, h.r1_1, h.r1_2, h.r1_3, h.r1_4, h.r1_5, h.r2_0, h.r2_1, h.size, h.below.drew⟩
theorem G3.call {w0 W : World} {n : Nat} {s t : D} {a b : Int} {W' : World} (h : G3 w0 W n s t a b) (hb : Below W.heap.size W W') : G3 w0 W' n s t a b := by
  have z := h.size
  have z' := hb.size
  have hc : ∀ b o, b < W.heap.size → W'.cell? ⟨b, o, none⟩ = W.cell? ⟨b, o, none⟩ := fun b o h => hb.cell (p := ⟨b, o, none⟩) h
  have hf : ∀ b o, b < W.heap.size → W'.frozen? ⟨b, o, none⟩ = W.frozen? ⟨b, o, none⟩ := fun b o h => hb.frozen (p := ⟨b, o, none⟩) h
  have l0 : n < W.heap.size := by omega
  have l1 : n + 1 < W.heap.size := by omega
  have l2 : n + 1 + 1 < W.heap.size := by omega
  exact ⟨(hc _ _ l0).trans h.r0_0, (hc _ _ l0).trans h.r0_1, (hc _ _ l0).trans h.r0_2, (hc _ _ l0).trans h.r0_3, (hc _ _ l0).trans h.r0_4, (hc _ _ l0).trans h.r0_5, (hc _ _ l1).trans h.r1_0, (hc _ _ l1).trans h.r1_1, (hc _ _ l1).trans h.r1_2, (hc _ _ l1).trans h.r1_3, (hc _ _ l1).trans h.r1_4, (hc _ _ l1).trans h.r1_5, (hc _ _ l2).trans h.r2_0, (hc _ _ l2).trans h.r2_1, by omega, h.below.trans (hb.mono (by omega))⟩
theorem G3.all {w0 W : World} {n : Nat} {s t : D} {a b : Int} (h : G3 w0 W n s t a b) : W.cell? ⟨n, 0, none⟩ = some (.int .i64 s.a) ∧ W.cell? ⟨n, 1, none⟩ = some (.int .i64 s.b) ∧ W.cell? ⟨n, 2, none⟩ = some (.int .i64 s.c) ∧ W.cell? ⟨n, 3, none⟩ = some (.int .i64 s.d) ∧ W.cell? ⟨n, 4, none⟩ = some (.int .i64 s.e) ∧ W.cell? ⟨n, 5, none⟩ = some (.int .i64 s.f) ∧ W.cell? ⟨n + 1, 0, none⟩ = some (.int .i64 t.a) ∧ W.cell? ⟨n + 1, 1, none⟩ = some (.int .i64 t.b) ∧ W.cell? ⟨n + 1, 2, none⟩ = some (.int .i64 t.c) ∧ W.cell? ⟨n + 1, 3, none⟩ = some (.int .i64 t.d) ∧ W.cell? ⟨n + 1, 4, none⟩ = some (.int .i64 t.e) ∧ W.cell? ⟨n + 1, 5, none⟩ = some (.int .i64 t.f) ∧ W.cell? ⟨n + 1 + 1, 0, none⟩ = some (.int .i64 a) ∧ W.cell? ⟨n + 1 + 1, 1, none⟩ = some (.int .i64 b) :=
  ⟨h.r0_0, h.r0_1, h.r0_2, h.r0_3, h.r0_4, h.r0_5, h.r1_0, h.r1_1, h.r1_2, h.r1_3, h.r1_4, h.r1_5, h.r2_0, h.r2_1⟩

set_option maxRecDepth 100000 in
set_option maxHeartbeats 8000000 in
theorem total_any (HA : ∀ w, Calls Try.prog 8 #[] w fun e w' => e = .returned (.bool true) ∧ Below w.heap.size w w') (s t : D) (a b : Int) (w : World) :
    Calls Try.prog 5 #[dv s, dv t, iv a b] w fun e w' => e = .returned (.bool true) ∧ Below w.heap.size w w' := by
  have I0 : G3 w (((w.alloc (.cells #[.int .i64 s.a, .int .i64 s.b, .int .i64 s.c, .int .i64 s.d, .int .i64 s.e, .int .i64 s.f] 25)).alloc (.cells #[.int .i64 t.a, .int .i64 t.b, .int .i64 t.c, .int .i64 t.d, .int .i64 t.e, .int .i64 t.f] 25)).alloc (.cells #[.int .i64 a, .int .i64 b] 23)) w.heap.size s t a b := by
    refine ⟨by simp [go_sem], by simp [go_sem], by simp [go_sem], by simp [go_sem], by simp [go_sem], by simp [go_sem], by simp [go_sem], by simp [go_sem], by simp [go_sem], by simp [go_sem], by simp [go_sem], by simp [go_sem], by simp [go_sem], by simp [go_sem], by simp, ?_⟩
    · repeat (first | exact Below.refl _ _ | refine Below.alloc ?_ (by first | omega | (simp <;> omega)) _)
  obtain ⟨⟨k, eh⟩, hh⟩ : ∃ r : RI, hitsR s t a b = r := ⟨_, rfl⟩
  obtain ⟨⟨⟨d0, d1, d2, d3, d4, d5⟩, p, q, u, v, er⟩, hr⟩ : ∃ f : RF, refrR s t a b = f := ⟨_, rfl⟩
  have TC := total_cases s t a b
  rw [hh, hr] at TC
  dsimp only at TC
  have HH := Lib.hid hh
  have HR := Lib.hid hr
  clear hh hr
  go_enter Try.func5, Try.ntmps5
  go_wp2_with fail
  refine (HA _).mono ?_
  rintro e w1 ⟨rfl, hb⟩
  have I1 := I0.call hb
  clear hb
  have r0_0_1 := I1.r0_0
  have r0_1_1 := I1.r0_1
  have r0_2_1 := I1.r0_2
  have r0_3_1 := I1.r0_3
  have r0_4_1 := I1.r0_4
  have r0_5_1 := I1.r0_5
  have r1_0_1 := I1.r1_0
  have r1_1_1 := I1.r1_1
  have r1_2_1 := I1.r1_2
  have r1_3_1 := I1.r1_3
  have r1_4_1 := I1.r1_4
  have r1_5_1 := I1.r1_5
  have r2_0_1 := I1.r2_0
  have r2_1_1 := I1.r2_1
  have sz_1 := I1.size
  go_wp2_with fail
  refine (hits_any s t a b _).mono ?_
  rintro e w2 ⟨rfl, hb⟩
  rw [HH.out]
  have I2 := I1.call hb
  clear hb
  clear r0_0_1 r0_1_1 r0_2_1 r0_3_1 r0_4_1 r0_5_1 r1_0_1 r1_1_1 r1_2_1 r1_3_1 r1_4_1 r1_5_1 r2_0_1 r2_1_1 sz_1
  have r0_0_2 := I2.r0_0
  have r0_1_2 := I2.r0_1
  have r0_2_2 := I2.r0_2
  have r0_3_2 := I2.r0_3
  have r0_4_2 := I2.r0_4
  have r0_5_2 := I2.r0_5
  have r1_0_2 := I2.r1_0
  have r1_1_2 := I2.r1_1
  have r1_2_2 := I2.r1_2
  have r1_3_2 := I2.r1_3
  have r1_4_2 := I2.r1_4
  have r1_5_2 := I2.r1_5
  have r2_0_2 := I2.r2_0
  have r2_1_2 := I2.r2_1
  have sz_2 := I2.size
  go_wp2_with fail
  refine (refr_any s t a b _).mono ?_
  rintro e w3 ⟨rfl, hb⟩
  rw [HR.out]
  unfold retF
  have hw3 := (I2.call hb).below
  have sz3 := (I2.call hb).size
  clear hb
  clear r0_0_2 r0_1_2 r0_2_2 r0_3_2 r0_4_2 r0_5_2 r1_0_2 r1_1_2 r1_2_2 r1_3_2 r1_4_2 r1_5_2 r2_0_2 r2_1_2 
  dsimp only
  rcases TC with h1 | ⟨rfl, h2, h3⟩
  · have h1' : (eh == 0) = false := by simpa using h1
    (go_wp2_with fail; go_ret; exact ⟨rfl, by repeat (first | exact hw3 | refine Below.drew ?_ | refine Below.setCell ?_ (by first | omega | (simp <;> omega)) _ | refine Below.alloc ?_ (by first | omega | (simp <;> omega)) _)⟩)
  · have h2' : (k == 0) = false := by simpa using h2
    have h2'' : (k != 0) = true := by simpa using h2
    rcases h3 with rfl | rfl | ⟨rfl, rfl⟩ | ⟨rfl, rfl⟩ | ⟨rfl, rfl⟩ | ⟨rfl, rfl⟩
    · (go_wp2_with fail; go_ret; exact ⟨by first | rfl | (simp [h2'']), by repeat (first | exact hw3 | refine Below.drew ?_ | refine Below.setCell ?_ (by first | omega | (simp <;> omega)) _ | refine Below.alloc ?_ (by first | omega | (simp <;> omega)) _)⟩)
    · (go_wp2_with fail; go_ret; exact ⟨by first | rfl | (simp [h2'']), by repeat (first | exact hw3 | refine Below.drew ?_ | refine Below.setCell ?_ (by first | omega | (simp <;> omega)) _ | refine Below.alloc ?_ (by first | omega | (simp <;> omega)) _)⟩)
    · (go_wp2_with fail; go_ret; exact ⟨by first | rfl | (simp [h2'']), by repeat (first | exact hw3 | refine Below.drew ?_ | refine Below.setCell ?_ (by first | omega | (simp <;> omega)) _ | refine Below.alloc ?_ (by first | omega | (simp <;> omega)) _)⟩)
    · (go_wp2_with fail; go_ret; exact ⟨by first | rfl | (simp [h2'']), by repeat (first | exact hw3 | refine Below.drew ?_ | refine Below.setCell ?_ (by first | omega | (simp <;> omega)) _ | refine Below.alloc ?_ (by first | omega | (simp <;> omega)) _)⟩)
    · (go_wp2_with fail; go_ret; exact ⟨by first | rfl | (simp [h2'']), by repeat (first | exact hw3 | refine Below.drew ?_ | refine Below.setCell ?_ (by first | omega | (simp <;> omega)) _ | refine Below.alloc ?_ (by first | omega | (simp <;> omega)) _)⟩)
    · (go_wp2_with fail; go_ret; exact ⟨by first | rfl | (simp [h2'']), by repeat (first | exact hw3 | refine Below.drew ?_ | refine Below.setCell ?_ (by first | omega | (simp <;> omega)) _ | refine Below.alloc ?_ (by first | omega | (simp <;> omega)) _)⟩)
end Go.Proofs.Ytjppcndhaejfpaa.Iv
