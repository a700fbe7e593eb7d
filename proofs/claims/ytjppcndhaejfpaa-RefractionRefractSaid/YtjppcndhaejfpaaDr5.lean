/- Contracts of package direction's scalar product: sum, number, Dot. -/
import Derived.Test.YtjppcndhaejfpaaDr4
namespace Go.Proofs.Ytjppcndhaejfpaa.Iv
open Go.RowKit

theorem Step.then {B c : Nat} {E E' : Int} {w w1 w2 : World} (h : Step B w c E w1) (k : Step B w1 c E' w2) : Step B w c E' w2 :=
  ⟨k.cell, fun b o hb hn => (k.other b o (Nat.lt_of_lt_of_le hb h.size) hn).trans (h.other b o hb hn), fun b o hb => (k.frozen b o (Nat.lt_of_lt_of_le hb h.size)).trans (h.frozen b o hb), Nat.le_trans h.size k.size, fun h1 h2 => (h.below h1 h2).trans (k.below h1 (Nat.le_trans h2 h.size))⟩
/-- new blocks, and stores into them, ahead of a step -/
theorem Step.start {B c : Nat} {E : Int} {w w1 : World} (hb : Below w.heap.size w w1) (hc : w.cell? ⟨c, 0, none⟩ = some (.int .i64 E)) : Step B w c E w1 := by
  have hlt : c < w.heap.size := World.block_lt_of_cell? w _ hc
  exact ⟨(hb.cell (p := ⟨c, 0, none⟩) hlt).trans hc, fun b o h _ => hb.cell (p := ⟨b, o, none⟩) h, fun b o h => hb.frozen (p := ⟨b, o, none⟩) h, hb.size, fun _ h2 => hb.mono h2⟩
theorem Step.more {B c : Nat} {E : Int} {w w1 w2 : World} (h : Step B w c E w1) (hc : c < w.heap.size) (hb : Below w.heap.size w1 w2) : Step B w c E w2 :=
  ⟨(hb.cell (p := ⟨c, 0, none⟩) hc).trans h.cell, fun b o h1 h2 => (hb.cell (p := ⟨b, o, none⟩) h1).trans (h.other b o h1 h2), fun b o h1 => (hb.frozen (p := ⟨b, o, none⟩) h1).trans (h.frozen b o h1), Nat.le_trans h.size hb.size, fun h1 h2 => (h.below h1 h2).trans (hb.mono h2)⟩

set_option maxRecDepth 100000 in
theorem dnumber_any (c : Nat) (e a b : Int) (w : World) (hc : w.cell? ⟨c, 0, none⟩ = some (.int .i64 e)) :
    Calls Try.prog 80 #[.pointer (some ⟨c, 0, none⟩), iv a b] w fun r w' => r = retR (if e = 0 then ⟨a, b, 0⟩ else ⟨0, 0, e⟩) ∧ Below w.heap.size w w' := by
  have hlt : c < w.heap.size := World.block_lt_of_cell? w _ hc
  have q1 : c < w.heap.size + 1 := by omega
  have q2 : c < w.heap.size + 1 + 1 := by omega
  have n1 : ¬ (c = w.heap.size) := by omega
  have n2 : ¬ (c = w.heap.size + 1) := by omega
  by_cases he : e = 0
  · subst he
    rw [if_pos rfl]
    go_enter Try.func80, Try.ntmps80
    go_wp2_with fail
    exact bodyPost_ret (v := .tuple #[iv a b, .int .i64 0]) (by simp [results, Try.results80, go_sem, *]) rfl ⟨rfl, (by repeat (first | exact Below.refl _ _ | refine Below.drew ?_ | refine below_drewN ?_ _ | refine Below.setCell ?_ (by first | omega | (simp <;> omega)) _ | refine Below.alloc ?_ (by first | omega | (simp <;> omega)) _))⟩
  · rw [if_neg he]
    have he' : (e == 0) = false := by simpa using he
    go_enter Try.func80, Try.ntmps80
    go_wp2_with fail
    go_region
    all_goals go_wp2_with fail
    all_goals exact bodyPost_ret (v := .tuple #[iv 0 0, .int .i64 e]) (by simp [results, Try.results80, go_sem, *]) rfl ⟨rfl, (by repeat (first | exact Below.refl _ _ | refine Below.drew ?_ | refine below_drewN ?_ _ | refine Below.setCell ?_ (by first | omega | (simp <;> omega)) _ | refine Below.alloc ?_ (by first | omega | (simp <;> omega)) _))⟩

/-- the sum of a box's coordinates, behind an error -/
def sumG (e : Int) (s : D) : R := goOn (goOn e (addR s.a s.b s.c s.d)).e (addR (goOn e (addR s.a s.b s.c s.d)).lo (goOn e (addR s.a s.b s.c s.d)).hi s.e s.f)
structure Sm (w0 W : World) (s : D) (B c : Nat) (E : Int) : Prop where
  r0 : W.cell? ⟨w0.heap.size, 0, none⟩ = some (.int .i64 s.a)
  r1 : W.cell? ⟨w0.heap.size, 1, none⟩ = some (.int .i64 s.b)
  r2 : W.cell? ⟨w0.heap.size, 2, none⟩ = some (.int .i64 s.c)
  r3 : W.cell? ⟨w0.heap.size, 3, none⟩ = some (.int .i64 s.d)
  r4 : W.cell? ⟨w0.heap.size, 4, none⟩ = some (.int .i64 s.e)
  r5 : W.cell? ⟨w0.heap.size, 5, none⟩ = some (.int .i64 s.f)
  z0 : W.cell? ⟨w0.heap.size + 1, 0, none⟩ = some (.int .i64 0)
  f0 : W.frozen? ⟨w0.heap.size + 1, 0, none⟩ = false
  z1 : W.cell? ⟨w0.heap.size + 1, 1, none⟩ = some (.int .i64 0)
  f1 : W.frozen? ⟨w0.heap.size + 1, 1, none⟩ = false
  fE : W.frozen? ⟨c, 0, none⟩ = false
  lt : c < w0.heap.size
  size : w0.heap.size + 1 < W.heap.size
  st : Step B w0 c E W
theorem Sm.drew {w0 W : World} {s : D} {B c : Nat} {E : Int} (h : Sm w0 W s B c E) : Sm w0 W.drew s B c E :=
  ⟨h.r0, h.r1, h.r2, h.r3, h.r4, h.r5, h.z0, h.f0, h.z1, h.f1, h.fE, h.lt, h.size, h.st.more h.lt (Below.refl _ _).drew⟩
theorem Sm.step {w0 W W' : World} {s : D} {B c : Nat} {E E' : Int} (h : Sm w0 W s B c E) (k : Step B W c E' W') : Sm w0 W' s B c E' := by
  have a := h.size
  have b := h.lt
  have d := k.size
  have l0 : w0.heap.size < W.heap.size := by omega
  have l1 : w0.heap.size + 1 < W.heap.size := by omega
  have n0 : ¬ (w0.heap.size = c) := by omega
  have n1 : ¬ (w0.heap.size + 1 = c) := by omega
  exact ⟨(k.other _ _ l0 n0).trans h.r0, (k.other _ _ l0 n0).trans h.r1, (k.other _ _ l0 n0).trans h.r2, (k.other _ _ l0 n0).trans h.r3, (k.other _ _ l0 n0).trans h.r4, (k.other _ _ l0 n0).trans h.r5, (k.other _ _ l1 n1).trans h.z0, (k.frozen _ _ l1).trans h.f0, (k.other _ _ l1 n1).trans h.z1, (k.frozen _ _ l1).trans h.f1, (k.frozen _ _ (by omega)).trans h.fE, h.lt, by omega, h.st.then k⟩
theorem Sm.all {w0 W : World} {s : D} {B c : Nat} {E : Int} (h : Sm w0 W s B c E) : W.cell? ⟨w0.heap.size, 0, none⟩ = some (.int .i64 s.a) ∧ W.cell? ⟨w0.heap.size, 1, none⟩ = some (.int .i64 s.b) ∧ W.cell? ⟨w0.heap.size, 2, none⟩ = some (.int .i64 s.c) ∧ W.cell? ⟨w0.heap.size, 3, none⟩ = some (.int .i64 s.d) ∧ W.cell? ⟨w0.heap.size, 4, none⟩ = some (.int .i64 s.e) ∧ W.cell? ⟨w0.heap.size, 5, none⟩ = some (.int .i64 s.f) := ⟨h.r0, h.r1, h.r2, h.r3, h.r4, h.r5⟩
theorem Sm.set {w0 W : World} {s : D} {B c : Nat} {E : Int} (h : Sm w0 W s B c E) (u0 u1 : Value) : ((W.setCell ⟨w0.heap.size + 1, 0, none⟩ u0).setCell ⟨w0.heap.size + 1, 1, none⟩ u1).cell? ⟨w0.heap.size, 0, none⟩ = some (.int .i64 s.a) ∧ ((W.setCell ⟨w0.heap.size + 1, 0, none⟩ u0).setCell ⟨w0.heap.size + 1, 1, none⟩ u1).cell? ⟨w0.heap.size, 1, none⟩ = some (.int .i64 s.b) ∧ ((W.setCell ⟨w0.heap.size + 1, 0, none⟩ u0).setCell ⟨w0.heap.size + 1, 1, none⟩ u1).cell? ⟨w0.heap.size, 2, none⟩ = some (.int .i64 s.c) ∧ ((W.setCell ⟨w0.heap.size + 1, 0, none⟩ u0).setCell ⟨w0.heap.size + 1, 1, none⟩ u1).cell? ⟨w0.heap.size, 3, none⟩ = some (.int .i64 s.d) ∧ ((W.setCell ⟨w0.heap.size + 1, 0, none⟩ u0).setCell ⟨w0.heap.size + 1, 1, none⟩ u1).cell? ⟨w0.heap.size, 4, none⟩ = some (.int .i64 s.e) ∧ ((W.setCell ⟨w0.heap.size + 1, 0, none⟩ u0).setCell ⟨w0.heap.size + 1, 1, none⟩ u1).cell? ⟨w0.heap.size, 5, none⟩ = some (.int .i64 s.f) := by
  have n : ¬ (w0.heap.size = w0.heap.size + 1) := by omega
  exact ⟨fset (fset h.r0 n) n, fset (fset h.r1 n) n, fset (fset h.r2 n) n, fset (fset h.r3 n) n, fset (fset h.r4 n) n, fset (fset h.r5 n) n⟩
theorem Sm.fin {w0 W : World} {s : D} {B c : Nat} {E : Int} (h : Sm w0 W s B c E) (u0 u1 : Int) : ((W.setCell ⟨w0.heap.size + 1, 0, none⟩ (.int .i64 u0)).setCell ⟨w0.heap.size + 1, 1, none⟩ (.int .i64 u1)).cell? ⟨w0.heap.size + 1, 0, none⟩ = some (.int .i64 u0) ∧ ((W.setCell ⟨w0.heap.size + 1, 0, none⟩ (.int .i64 u0)).setCell ⟨w0.heap.size + 1, 1, none⟩ (.int .i64 u1)).cell? ⟨w0.heap.size + 1, 1, none⟩ = some (.int .i64 u1) ∧ Step B w0 c E ((W.setCell ⟨w0.heap.size + 1, 0, none⟩ (.int .i64 u0)).setCell ⟨w0.heap.size + 1, 1, none⟩ (.int .i64 u1)) := by
  have z0 := h.z0
  have z1 := h.z1
  have st := h.st
  have lt := h.lt
  clear h
  refine ⟨by simp [go_sem, *], by simp [go_sem, *], st.more lt (((Below.refl _ _).setCell (by dsimp only; omega) _).setCell (by dsimp only; omega) _)⟩
set_option maxRecDepth 100000 in
set_option maxHeartbeats 8000000 in
theorem dsum_any (B c : Nat) (e : Int) (s : D) (w : World) (hc : w.cell? ⟨c, 0, none⟩ = some (.int .i64 e)) (hf : w.frozen? ⟨c, 0, none⟩ = false) :
    Calls Try.prog 81 #[.pointer (some ⟨c, 0, none⟩), dv s] w fun r w' => r = .returned (iv (sumG e s).lo (sumG e s).hi) ∧ Step B w c (sumG e s).e w' := by
  have hlt : c < w.heap.size := World.block_lt_of_cell? w _ hc
  have n1 : ¬ (c = w.heap.size) := by omega
  have n2 : ¬ (c = w.heap.size + 1) := by omega
  have q1 : c < w.heap.size + 1 := by omega
  have hbel : Below w.heap.size w ((w.alloc (.cells #[.int .i64 s.a, .int .i64 s.b, .int .i64 s.c, .int .i64 s.d, .int .i64 s.e, .int .i64 s.f] 25)).alloc (.cells #[.int .i64 0, .int .i64 0] 23)) := ((Below.refl _ _).alloc (Nat.le_refl _) _).alloc (by simp) _
  have I0 : Sm w ((w.alloc (.cells #[.int .i64 s.a, .int .i64 s.b, .int .i64 s.c, .int .i64 s.d, .int .i64 s.e, .int .i64 s.f] 25)).alloc (.cells #[.int .i64 0, .int .i64 0] 23)) s B c e := by
    refine ⟨by simp [go_sem], by simp [go_sem], by simp [go_sem], by simp [go_sem], by simp [go_sem], by simp [go_sem], by simp [go_sem], by simp [go_sem], by simp [go_sem], by simp [go_sem], by simp [go_sem, *], hlt, by simp, Step.start hbel hc⟩
  clear hbel
  unfold sumG
  obtain ⟨⟨p0, q0, e0⟩, h0⟩ : ∃ r : R, goOn e (addR s.a s.b s.c s.d) = r := ⟨_, rfl⟩
  have H0 := Lib.hid (show Ending.returned (iv (goOn e (addR s.a s.b s.c s.d)).lo (goOn e (addR s.a s.b s.c s.d)).hi) = .returned (iv p0 q0) ∧ (goOn e (addR s.a s.b s.c s.d)).e = e0 from by rw [h0]; exact ⟨rfl, rfl⟩)
  rw [h0]
  dsimp only
  obtain ⟨⟨p1, q1', e1⟩, h1⟩ : ∃ r : R, goOn e0 (addR p0 q0 s.e s.f) = r := ⟨_, rfl⟩
  have H1 := Lib.hid (show Ending.returned (iv (goOn e0 (addR p0 q0 s.e s.f)).lo (goOn e0 (addR p0 q0 s.e s.f)).hi) = .returned (iv p1 q1') ∧ (goOn e0 (addR p0 q0 s.e s.f)).e = e1 from by rw [h1]; exact ⟨rfl, rfl⟩)
  rw [h1]
  dsimp only
  clear h0 h1
  go_enter Try.func81, Try.ntmps81
  go_wp2_with fail
  go_region_held3 (fun w' => w'.cell? ⟨w.heap.size, 0, none⟩ = some (.int .i64 s.a) ∧ w'.cell? ⟨w.heap.size, 1, none⟩ = some (.int .i64 s.b) ∧ w'.cell? ⟨w.heap.size, 2, none⟩ = some (.int .i64 s.c) ∧ w'.cell? ⟨w.heap.size, 3, none⟩ = some (.int .i64 s.d) ∧ w'.cell? ⟨w.heap.size, 4, none⟩ = some (.int .i64 s.e) ∧ w'.cell? ⟨w.heap.size, 5, none⟩ = some (.int .i64 s.f)) (with_reducible first | exact I0.drew.all | exact IB.set _ _ | exact IB.all | exact IA.all)
    (first | (have hm := hmarkA; go_at_call 89; refine (do_add B c p0 q0 s.e s.f e0 wA IA.st.cell IA.fE).mono ?_; rintro r wB ⟨rfl, st⟩; rw [H1.out.1]; rw [H1.out.2] at st; have IB := IA.step st; clear st; have zz0 := IB.z0; have zz1 := IB.z1; have ff0 := IB.f0; have ff1 := IB.f1) | (go_at_call 89; refine (do_add B c s.a s.b s.c s.d e _ I0.drew.st.cell I0.drew.fE).mono ?_; rintro r wA ⟨rfl, st⟩; rw [H0.out.1]; rw [H0.out.2] at st; have IA := I0.drew.step st; clear st; have hmarkA : wA = wA := rfl))
  all_goals go_wp2_with fail
  have K := IB.fin p1 q1'
  revert K
  generalize ((wB.setCell ⟨w.heap.size + 1, 0, none⟩ (.int .i64 p1)).setCell ⟨w.heap.size + 1, 1, none⟩ (.int .i64 q1')) = X
  intro K
  obtain ⟨k0, k1, kb⟩ := K
  exact bodyPost_ret (v := iv p1 q1') (by simp [results, Try.results81, go_sem, k0, k1]) rfl ⟨rfl, kb⟩
structure D2 (w0 W : World) (n : Nat) (s t : D) : Prop where
  r0_0 : W.cell? ⟨n, 0, none⟩ = some (.int .i64 s.a)
  r0_1 : W.cell? ⟨n, 1, none⟩ = some (.int .i64 s.b)
  r0_2 : W.cell? ⟨n, 2, none⟩ = some (.int .i64 s.c)
  r0_3 : W.cell? ⟨n, 3, none⟩ = some (.int .i64 s.d)
  r0_4 : W.cell? ⟨n, 4, none⟩ = some (.int .i64 s.e)
  r0_5 : W.cell? ⟨n, 5, none⟩ = some (.int .i64 s.f)
  r1_0 : W.cell? ⟨n + 1, 0, none⟩ = some (.int .i64 t.a)
  r1_1 : W.cell? ⟨n + 1, 1, none⟩ = some (.int .i64 t.b)
  r1_2 : W.cell? ⟨n + 1, 2, none⟩ = some (.int .i64 t.c)
  r1_3 : W.cell? ⟨n + 1, 3, none⟩ = some (.int .i64 t.d)
  r1_4 : W.cell? ⟨n + 1, 4, none⟩ = some (.int .i64 t.e)
  r1_5 : W.cell? ⟨n + 1, 5, none⟩ = some (.int .i64 t.f)
  z2_0 : W.cell? ⟨n + 1 + 1, 0, none⟩ = some (.int .i64 0)
  f2_0 : W.frozen? ⟨n + 1 + 1, 0, none⟩ = false
  z2_1 : W.cell? ⟨n + 1 + 1, 1, none⟩ = some (.int .i64 0)
  f2_1 : W.frozen? ⟨n + 1 + 1, 1, none⟩ = false
  size : n + 1 + 1 < W.heap.size
  below : Below n w0 W
theorem D2.drew {w0 W : World} {n : Nat} {s t : D} (h : D2 w0 W n s t) : D2 w0 W.drew n s t :=
  ⟨h.r0_0, h.r0_1, h.r0_2, h.r0_3, h.r0_4, h.r0_5, h.r1_0, h.r1_1, h.r1_2, h.r1_3, h.r1_4, h.r1_5, h.z2_0, h.f2_0, h.z2_1, h.f2_1, h.size, h.below.drew⟩
theorem D2.call {w0 W : World} {n : Nat} {s t : D} {W' : World} (h : D2 w0 W n s t) (hb : Below W.heap.size W W') : D2 w0 W' n s t := by
  have z := h.size
  have z' := hb.size
  have hc : ∀ b o, b < W.heap.size → W'.cell? ⟨b, o, none⟩ = W.cell? ⟨b, o, none⟩ := fun b o h => hb.cell (p := ⟨b, o, none⟩) h
  have hf : ∀ b o, b < W.heap.size → W'.frozen? ⟨b, o, none⟩ = W.frozen? ⟨b, o, none⟩ := fun b o h => hb.frozen (p := ⟨b, o, none⟩) h
  have l0 : n < W.heap.size := by omega
  have l1 : n + 1 < W.heap.size := by omega
  have l2 : n + 1 + 1 < W.heap.size := by omega
  exact ⟨(hc _ _ l0).trans h.r0_0, (hc _ _ l0).trans h.r0_1, (hc _ _ l0).trans h.r0_2, (hc _ _ l0).trans h.r0_3, (hc _ _ l0).trans h.r0_4, (hc _ _ l0).trans h.r0_5, (hc _ _ l1).trans h.r1_0, (hc _ _ l1).trans h.r1_1, (hc _ _ l1).trans h.r1_2, (hc _ _ l1).trans h.r1_3, (hc _ _ l1).trans h.r1_4, (hc _ _ l1).trans h.r1_5, (hc _ _ l2).trans h.z2_0, (hf _ _ l2).trans h.f2_0, (hc _ _ l2).trans h.z2_1, (hf _ _ l2).trans h.f2_1, by omega, h.below.trans (hb.mono (by omega))⟩
theorem D2.all {w0 W : World} {n : Nat} {s t : D} (h : D2 w0 W n s t) : W.cell? ⟨n, 0, none⟩ = some (.int .i64 s.a) ∧ W.cell? ⟨n, 1, none⟩ = some (.int .i64 s.b) ∧ W.cell? ⟨n, 2, none⟩ = some (.int .i64 s.c) ∧ W.cell? ⟨n, 3, none⟩ = some (.int .i64 s.d) ∧ W.cell? ⟨n, 4, none⟩ = some (.int .i64 s.e) ∧ W.cell? ⟨n, 5, none⟩ = some (.int .i64 s.f) ∧ W.cell? ⟨n + 1, 0, none⟩ = some (.int .i64 t.a) ∧ W.cell? ⟨n + 1, 1, none⟩ = some (.int .i64 t.b) ∧ W.cell? ⟨n + 1, 2, none⟩ = some (.int .i64 t.c) ∧ W.cell? ⟨n + 1, 3, none⟩ = some (.int .i64 t.d) ∧ W.cell? ⟨n + 1, 4, none⟩ = some (.int .i64 t.e) ∧ W.cell? ⟨n + 1, 5, none⟩ = some (.int .i64 t.f) :=
  ⟨h.r0_0, h.r0_1, h.r0_2, h.r0_3, h.r0_4, h.r0_5, h.r1_0, h.r1_1, h.r1_2, h.r1_3, h.r1_4, h.r1_5⟩
theorem D2.set2_2 {w0 W : World} {n : Nat} {s t : D} (h : D2 w0 W n s t) (u0 u1 : Value) : ((W.setCell ⟨n + 1 + 1, 0, none⟩ u0).setCell ⟨n + 1 + 1, 1, none⟩ u1).cell? ⟨n, 0, none⟩ = some (.int .i64 s.a) ∧ ((W.setCell ⟨n + 1 + 1, 0, none⟩ u0).setCell ⟨n + 1 + 1, 1, none⟩ u1).cell? ⟨n, 1, none⟩ = some (.int .i64 s.b) ∧ ((W.setCell ⟨n + 1 + 1, 0, none⟩ u0).setCell ⟨n + 1 + 1, 1, none⟩ u1).cell? ⟨n, 2, none⟩ = some (.int .i64 s.c) ∧ ((W.setCell ⟨n + 1 + 1, 0, none⟩ u0).setCell ⟨n + 1 + 1, 1, none⟩ u1).cell? ⟨n, 3, none⟩ = some (.int .i64 s.d) ∧ ((W.setCell ⟨n + 1 + 1, 0, none⟩ u0).setCell ⟨n + 1 + 1, 1, none⟩ u1).cell? ⟨n, 4, none⟩ = some (.int .i64 s.e) ∧ ((W.setCell ⟨n + 1 + 1, 0, none⟩ u0).setCell ⟨n + 1 + 1, 1, none⟩ u1).cell? ⟨n, 5, none⟩ = some (.int .i64 s.f) ∧ ((W.setCell ⟨n + 1 + 1, 0, none⟩ u0).setCell ⟨n + 1 + 1, 1, none⟩ u1).cell? ⟨n + 1, 0, none⟩ = some (.int .i64 t.a) ∧ ((W.setCell ⟨n + 1 + 1, 0, none⟩ u0).setCell ⟨n + 1 + 1, 1, none⟩ u1).cell? ⟨n + 1, 1, none⟩ = some (.int .i64 t.b) ∧ ((W.setCell ⟨n + 1 + 1, 0, none⟩ u0).setCell ⟨n + 1 + 1, 1, none⟩ u1).cell? ⟨n + 1, 2, none⟩ = some (.int .i64 t.c) ∧ ((W.setCell ⟨n + 1 + 1, 0, none⟩ u0).setCell ⟨n + 1 + 1, 1, none⟩ u1).cell? ⟨n + 1, 3, none⟩ = some (.int .i64 t.d) ∧ ((W.setCell ⟨n + 1 + 1, 0, none⟩ u0).setCell ⟨n + 1 + 1, 1, none⟩ u1).cell? ⟨n + 1, 4, none⟩ = some (.int .i64 t.e) ∧ ((W.setCell ⟨n + 1 + 1, 0, none⟩ u0).setCell ⟨n + 1 + 1, 1, none⟩ u1).cell? ⟨n + 1, 5, none⟩ = some (.int .i64 t.f) := by
  have n0 : ¬ (n = n + 1 + 1) := by omega
  have n1 : ¬ (n + 1 = n + 1 + 1) := by omega
  exact ⟨(fset (fset h.r0_0 n0) n0), (fset (fset h.r0_1 n0) n0), (fset (fset h.r0_2 n0) n0), (fset (fset h.r0_3 n0) n0), (fset (fset h.r0_4 n0) n0), (fset (fset h.r0_5 n0) n0), (fset (fset h.r1_0 n1) n1), (fset (fset h.r1_1 n1) n1), (fset (fset h.r1_2 n1) n1), (fset (fset h.r1_3 n1) n1), (fset (fset h.r1_4 n1) n1), (fset (fset h.r1_5 n1) n1)⟩
theorem D2.fin2_2 {w0 W : World} {n : Nat} {s t : D} (h : D2 w0 W n s t) (u0 u1 : Int) : ((W.setCell ⟨n + 1 + 1, 0, none⟩ (.int .i64 u0)).setCell ⟨n + 1 + 1, 1, none⟩ (.int .i64 u1)).cell? ⟨n + 1 + 1, 0, none⟩ = some (.int .i64 u0) ∧ ((W.setCell ⟨n + 1 + 1, 0, none⟩ (.int .i64 u0)).setCell ⟨n + 1 + 1, 1, none⟩ (.int .i64 u1)).cell? ⟨n + 1 + 1, 1, none⟩ = some (.int .i64 u1) ∧ Below n w0 ((W.setCell ⟨n + 1 + 1, 0, none⟩ (.int .i64 u0)).setCell ⟨n + 1 + 1, 1, none⟩ (.int .i64 u1)) := by
  have b := h.below
  have z0 := h.z2_0
  have z1 := h.z2_1
  clear h
  refine ⟨?_, ?_, ((b.setCell (by dsimp only; omega) _).setCell (by dsimp only; omega) _)⟩ <;> simp [go_sem, *]
def prodD (s t : D) : RD := comb (mulR s.a s.b t.a t.b) (mulR s.c s.d t.c t.d) (mulR s.e s.f t.e t.f)
def onlyR (r : R) : R := if r.e = 0 then ⟨r.lo, r.hi, 0⟩ else ⟨0, 0, r.e⟩
def dotR (s t : D) : R := if vD s = true ∧ vD t = true then onlyR (sumG (prodD s t).e (prodD s t).d) else ⟨0, 0, 1⟩
set_option maxRecDepth 100000 in
set_option maxHeartbeats 2000000 in
theorem ddot_any (s t : D) (w : World) :
    Calls Try.prog 52 #[dv s, dv t] w fun e w' => e = retR (dotR s t) ∧ Below w.heap.size w w' := by
  have I0 : D2 w (((w.alloc (.cells #[.int .i64 s.a, .int .i64 s.b, .int .i64 s.c, .int .i64 s.d, .int .i64 s.e, .int .i64 s.f] 25)).alloc (.cells #[.int .i64 t.a, .int .i64 t.b, .int .i64 t.c, .int .i64 t.d, .int .i64 t.e, .int .i64 t.f] 25)).alloc (.cells #[.int .i64 0, .int .i64 0] 23)) w.heap.size s t := by
    refine ⟨by simp [go_sem], by simp [go_sem], by simp [go_sem], by simp [go_sem], by simp [go_sem], by simp [go_sem], by simp [go_sem], by simp [go_sem], by simp [go_sem], by simp [go_sem], by simp [go_sem], by simp [go_sem], by simp [go_sem], by simp [go_sem], by simp [go_sem], by simp [go_sem], by simp, ?_⟩
    · repeat (first | exact Below.refl _ _ | refine Below.alloc ?_ (by first | omega | (simp <;> omega)) _)
  cases hs : vD s
  · rw [show dotR s t = ⟨0, 0, 1⟩ from if_neg (by rw [hs]; simp)]
    have HS := Lib.hid hs
    clear hs
    go_enter Try.func52, Try.ntmps52
    go_wp2_with fail
    refine (dvalid_any s _).mono ?_
    rintro e w1 ⟨rfl, hb⟩
    rw [HS.out]
    have I1 := I0.call hb
    clear hb
    have r0_0_1 := I1.r0_0
    have r0_1_1 := I1.r0_1
    have r0_2_1 := I1.r0_2
    have r0_3_1 := I1.r0_3
    have r0_4_1 := I1.r0_4
    have r0_5_1 := I1.r0_5
    have r1_0_1 := I1.r1_0
    have r1_1_1 := I1.r1_1
    have r1_2_1 := I1.r1_2
    have r1_3_1 := I1.r1_3
    have r1_4_1 := I1.r1_4
    have r1_5_1 := I1.r1_5
    have z2_0_1 := I1.z2_0
    have f2_0_1 := I1.f2_0
    have z2_1_1 := I1.z2_1
    have f2_1_1 := I1.f2_1
    have sz_1 := I1.size
    go_wp2_with fail
    have K := I1.fin2_2 (0) (0)
    revert K
    generalize ((w1.setCell ⟨w.heap.size + 1 + 1, 0, none⟩ (.int .i64 0)).setCell ⟨w.heap.size + 1 + 1, 1, none⟩ (.int .i64 0)) = X
    intro K
    obtain ⟨k0, k1, kb⟩ := K
    exact bodyPost_ret (v := .tuple #[iv 0 0, .int .i64 1]) (by simp [results, Try.results52, go_sem, k0, k1]) rfl ⟨rfl, kb⟩
  · cases ht : vD t
    · rw [show dotR s t = ⟨0, 0, 1⟩ from if_neg (by rw [ht]; simp)]
      have HS := Lib.hid hs
      have HT := Lib.hid ht
      clear hs ht
      go_enter Try.func52, Try.ntmps52
      go_wp2_with fail
      refine (dvalid_any s _).mono ?_
      rintro e w1 ⟨rfl, hb⟩
      rw [HS.out]
      have I1 := I0.call hb
      clear hb
      have r0_0_1 := I1.r0_0
      have r0_1_1 := I1.r0_1
      have r0_2_1 := I1.r0_2
      have r0_3_1 := I1.r0_3
      have r0_4_1 := I1.r0_4
      have r0_5_1 := I1.r0_5
      have r1_0_1 := I1.r1_0
      have r1_1_1 := I1.r1_1
      have r1_2_1 := I1.r1_2
      have r1_3_1 := I1.r1_3
      have r1_4_1 := I1.r1_4
      have r1_5_1 := I1.r1_5
      have z2_0_1 := I1.z2_0
      have f2_0_1 := I1.f2_0
      have z2_1_1 := I1.z2_1
      have f2_1_1 := I1.f2_1
      have sz_1 := I1.size
      go_wp2_with fail
      refine (dvalid_any t _).mono ?_
      rintro e w2 ⟨rfl, hb⟩
      rw [HT.out]
      have I2 := I1.call hb
      clear hb
      clear r0_0_1 r0_1_1 r0_2_1 r0_3_1 r0_4_1 r0_5_1 r1_0_1 r1_1_1 r1_2_1 r1_3_1 r1_4_1 r1_5_1 z2_0_1 f2_0_1 z2_1_1 f2_1_1 sz_1
      have r0_0_2 := I2.r0_0
      have r0_1_2 := I2.r0_1
      have r0_2_2 := I2.r0_2
      have r0_3_2 := I2.r0_3
      have r0_4_2 := I2.r0_4
      have r0_5_2 := I2.r0_5
      have r1_0_2 := I2.r1_0
      have r1_1_2 := I2.r1_1
      have r1_2_2 := I2.r1_2
      have r1_3_2 := I2.r1_3
      have r1_4_2 := I2.r1_4
      have r1_5_2 := I2.r1_5
      have z2_0_2 := I2.z2_0
      have f2_0_2 := I2.f2_0
      have z2_1_2 := I2.z2_1
      have f2_1_2 := I2.f2_1
      have sz_2 := I2.size
      go_wp2_with fail
      have K := I2.fin2_2 (0) (0)
      revert K
      generalize ((w2.setCell ⟨w.heap.size + 1 + 1, 0, none⟩ (.int .i64 0)).setCell ⟨w.heap.size + 1 + 1, 1, none⟩ (.int .i64 0)) = X
      intro K
      obtain ⟨k0, k1, kb⟩ := K
      exact bodyPost_ret (v := .tuple #[iv 0 0, .int .i64 1]) (by simp [results, Try.results52, go_sem, k0, k1]) rfl ⟨rfl, kb⟩
    · rw [show dotR s t = onlyR (sumG (prodD s t).e (prodD s t).d) from if_pos ⟨hs, ht⟩]
      obtain ⟨⟨⟨d0, d1, d2, d3, d4, d5⟩, ee⟩, hd⟩ : ∃ r : RD, prodD s t = r := ⟨_, rfl⟩
      have HD := Lib.hid (show retD (prodD s t) = .returned (.tuple #[.agg #[.int .i64 d0, .int .i64 d1, .int .i64 d2, .int .i64 d3, .int .i64 d4, .int .i64 d5], .int .i64 ee]) from by rw [hd])
      rw [hd]
      clear hd
      dsimp only
      obtain ⟨⟨g0, g1, g2⟩, hg⟩ : ∃ r : R, sumG ee ⟨d0, d1, d2, d3, d4, d5⟩ = r := ⟨_, rfl⟩
      have HG := Lib.hid (show Ending.returned (iv (sumG ee ⟨d0, d1, d2, d3, d4, d5⟩).lo (sumG ee ⟨d0, d1, d2, d3, d4, d5⟩).hi) = .returned (iv g0 g1) ∧ (sumG ee ⟨d0, d1, d2, d3, d4, d5⟩).e = g2 from by rw [hg]; exact ⟨rfl, rfl⟩)
      rw [hg]
      clear hg
      obtain ⟨⟨o0, o1, o2⟩, ho⟩ : ∃ r : R, onlyR ⟨g0, g1, g2⟩ = r := ⟨_, rfl⟩
      have HO := Lib.hid (show retR (if g2 = 0 then ⟨g0, g1, 0⟩ else ⟨0, 0, g2⟩) = .returned (.tuple #[iv o0 o1, .int .i64 o2]) from by rw [show (if g2 = 0 then (⟨g0, g1, 0⟩ : R) else ⟨0, 0, g2⟩) = onlyR ⟨g0, g1, g2⟩ from rfl, ho])
      rw [ho]
      clear ho
      have HS := Lib.hid hs
      have HT := Lib.hid ht
      clear hs ht
      go_enter Try.func52, Try.ntmps52
      go_wp2_with fail
      refine (dvalid_any s _).mono ?_
      rintro e w1 ⟨rfl, hb⟩
      rw [HS.out]
      have I1 := I0.call hb
      clear hb
      have r0_0_1 := I1.r0_0
      have r0_1_1 := I1.r0_1
      have r0_2_1 := I1.r0_2
      have r0_3_1 := I1.r0_3
      have r0_4_1 := I1.r0_4
      have r0_5_1 := I1.r0_5
      have r1_0_1 := I1.r1_0
      have r1_1_1 := I1.r1_1
      have r1_2_1 := I1.r1_2
      have r1_3_1 := I1.r1_3
      have r1_4_1 := I1.r1_4
      have r1_5_1 := I1.r1_5
      have z2_0_1 := I1.z2_0
      have f2_0_1 := I1.f2_0
      have z2_1_1 := I1.z2_1
      have f2_1_1 := I1.f2_1
      have sz_1 := I1.size
      go_wp2_with fail
      refine (dvalid_any t _).mono ?_
      rintro e w2 ⟨rfl, hb⟩
      rw [HT.out]
      have I2 := I1.call hb
      clear hb
      clear r0_0_1 r0_1_1 r0_2_1 r0_3_1 r0_4_1 r0_5_1 r1_0_1 r1_1_1 r1_2_1 r1_3_1 r1_4_1 r1_5_1 z2_0_1 f2_0_1 z2_1_1 f2_1_1 sz_1
      have r0_0_2 := I2.r0_0
      have r0_1_2 := I2.r0_1
      have r0_2_2 := I2.r0_2
      have r0_3_2 := I2.r0_3
      have r0_4_2 := I2.r0_4
      have r0_5_2 := I2.r0_5
      have r1_0_2 := I2.r1_0
      have r1_1_2 := I2.r1_1
      have r1_2_2 := I2.r1_2
      have r1_3_2 := I2.r1_3
      have r1_4_2 := I2.r1_4
      have r1_5_2 := I2.r1_5
      have z2_0_2 := I2.z2_0
      have f2_0_2 := I2.f2_0
      have z2_1_2 := I2.z2_1
      have f2_1_2 := I2.f2_1
      have sz_2 := I2.size
      have HC := Lib.hid (fun w => combine_mul s t w)
      go_wp2_with fail
      refine (HC.out _).mono ?_
      rintro e w3 ⟨rfl, hb⟩
      rw [show comb (mulR s.a s.b t.a t.b) (mulR s.c s.d t.c t.d) (mulR s.e s.f t.e t.f) = prodD s t from rfl, HD.out]
      have I3 := I2.call hb
      clear hb
      clear r0_0_2 r0_1_2 r0_2_2 r0_3_2 r0_4_2 r0_5_2 r1_0_2 r1_1_2 r1_2_2 r1_3_2 r1_4_2 r1_5_2 z2_0_2 f2_0_2 z2_1_2 f2_1_2 sz_2
      have r0_0_3 := I3.r0_0
      have r0_1_3 := I3.r0_1
      have r0_2_3 := I3.r0_2
      have r0_3_3 := I3.r0_3
      have r0_4_3 := I3.r0_4
      have r0_5_3 := I3.r0_5
      have r1_0_3 := I3.r1_0
      have r1_1_3 := I3.r1_1
      have r1_2_3 := I3.r1_2
      have r1_3_3 := I3.r1_3
      have r1_4_3 := I3.r1_4
      have r1_5_3 := I3.r1_5
      have z2_0_3 := I3.z2_0
      have f2_0_3 := I3.f2_0
      have z2_1_3 := I3.z2_1
      have f2_1_3 := I3.f2_1
      have sz_3 := I3.size
      have m1 : ¬ (w.heap.size + 1 + 1 = w3.heap.size) := by omega
      have m2 : ¬ (w3.heap.size = w.heap.size + 1 + 1) := by omega
      have m3 : w.heap.size + 1 + 1 < w3.heap.size + 1 := by omega
      go_wp2_with fail
      refine (dsum_any w3.heap.size (w3.heap.size + 1) ee ⟨d0, d1, d2, d3, d4, d5⟩ _ (by simp [go_sem]) (by simp [go_sem])).mono ?_
      rintro e w4 ⟨rfl, st⟩
      rw [HG.out.1]
      rw [HG.out.2] at st
      have hb : Below w3.heap.size w3 w4 := (((Below.refl _ _).alloc (Nat.le_refl _) _).alloc (by simp) _).trans (st.below (by omega) (by simp; omega))
      have ce := st.cell
      clear st
      have I4 := I3.call hb
      clear r0_0_3 r0_1_3 r0_2_3 r0_3_3 r0_4_3 r0_5_3 r1_0_3 r1_1_3 r1_2_3 r1_3_3 r1_4_3 r1_5_3 z2_0_3 f2_0_3 z2_1_3 f2_1_3 sz_3
      have r0_0_4 := I4.r0_0
      have r0_1_4 := I4.r0_1
      have r0_2_4 := I4.r0_2
      have r0_3_4 := I4.r0_3
      have r0_4_4 := I4.r0_4
      have r0_5_4 := I4.r0_5
      have r1_0_4 := I4.r1_0
      have r1_1_4 := I4.r1_1
      have r1_2_4 := I4.r1_2
      have r1_3_4 := I4.r1_3
      have r1_4_4 := I4.r1_4
      have r1_5_4 := I4.r1_5
      have z2_0_4 := I4.z2_0
      have f2_0_4 := I4.f2_0
      have z2_1_4 := I4.z2_1
      have f2_1_4 := I4.f2_1
      have sz_4 := I4.size
      have z4 := hb.size
      go_wp2_with fail
      refine (dnumber_any (w3.heap.size + 1) g2 g0 g1 _ ce).mono ?_
      rintro e w5 ⟨rfl, hb5⟩
      rw [HO.out]
      have I5 := I4.call hb5
      clear hb5
      clear r0_0_4 r0_1_4 r0_2_4 r0_3_4 r0_4_4 r0_5_4 r1_0_4 r1_1_4 r1_2_4 r1_3_4 r1_4_4 r1_5_4 z2_0_4 f2_0_4 z2_1_4 f2_1_4 sz_4
      have r0_0_5 := I5.r0_0
      have r0_1_5 := I5.r0_1
      have r0_2_5 := I5.r0_2
      have r0_3_5 := I5.r0_3
      have r0_4_5 := I5.r0_4
      have r0_5_5 := I5.r0_5
      have r1_0_5 := I5.r1_0
      have r1_1_5 := I5.r1_1
      have r1_2_5 := I5.r1_2
      have r1_3_5 := I5.r1_3
      have r1_4_5 := I5.r1_4
      have r1_5_5 := I5.r1_5
      have z2_0_5 := I5.z2_0
      have f2_0_5 := I5.f2_0
      have z2_1_5 := I5.z2_1
      have f2_1_5 := I5.f2_1
      have sz_5 := I5.size
      go_wp2_with fail
      have K := I5.fin2_2 (o0) (o1)
      revert K
      generalize ((w5.setCell ⟨w.heap.size + 1 + 1, 0, none⟩ (.int .i64 o0)).setCell ⟨w.heap.size + 1 + 1, 1, none⟩ (.int .i64 o1)) = X
      intro K
      obtain ⟨k0, k1, kb⟩ := K
      exact bodyPost_ret (v := .tuple #[iv o0 o1, .int .i64 o2]) (by simp [results, Try.results52, go_sem, k0, k1]) rfl ⟨rfl, kb⟩
end Go.Proofs.Ytjppcndhaejfpaa.Iv
