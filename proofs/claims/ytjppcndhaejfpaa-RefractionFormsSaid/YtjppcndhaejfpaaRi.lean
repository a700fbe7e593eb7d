/- RefractionForms: the program returns what the reference does. -/
import Derived.Test.YtjppcndhaejfpaaDrd
import Derived.Test.YtjppcndhaejfpaaRg1
import Derived.Test.YtjppcndhaejfpaaRh
namespace Go.Proofs.Ytjppcndhaejfpaa.Iv
open Go.RowKit

structure Fm (s t : D) (a b d0 d1 d2 d3 d4 d5 e1 : Int) (nb cb : Nat) (w0 w : World) (l0 l1 l2 l3 l4 l5 l6 l7 l8 l9 l10 : Bool) (v0 v1 v2 v3 v4 v5 v6 v7 v8 v10 : Value) (b8 : Nat) : Prop where
  g : Ho w0 w (nb + 1 + 1 + 1) [(nb + 1 + 1, [.int .i64 a, .int .i64 b]), (nb + 1, [.int .i64 t.a, .int .i64 t.b, .int .i64 t.c, .int .i64 t.d, .int .i64 t.e, .int .i64 t.f]), (nb, [.int .i64 s.a, .int .i64 s.b, .int .i64 s.c, .int .i64 s.d, .int .i64 s.e, .int .i64 s.f])]
  sz : (cb + 1) ≤ w.heap.size
  mn : (nb + 1 + 1 + 1) ≤ (cb + 1)
  u0 : Bx w cb [.int .i64 d0, .int .i64 d1, .int .i64 d2, .int .i64 d3, .int .i64 d4, .int .i64 d5]
  un0 : cb < (cb + 1)
  ev0 : l0 = true → v0 = (dv s)
  ev1 : l1 = true → v1 = (dv s)
  ev2 : l2 = true → v2 = (dv t)
  ev3 : l3 = true → v3 = (dv t)
  ev4 : l4 = true → v4 = .tuple #[(dv ⟨d0, d1, d2, d3, d4, d5⟩), .int .i64 e1]
  ev5 : l5 = true → v5 = .tuple #[(dv ⟨d0, d1, d2, d3, d4, d5⟩), .int .i64 e1]
  ev6 : l6 = true → v6 = (dv ⟨d0, d1, d2, d3, d4, d5⟩)
  ev7 : l7 = true → v7 = .int .i64 e1
  ev8 : l8 = true → v8 = .pointer (some ⟨b8, 0, none⟩)
  ev10 : l10 = true → v10 = .int .i64 e1
  g8 : l8 = true → (cb + 1) ≤ b8
  t8 : l8 = true → b8 < w.heap.size
  o8 : l9 = true → l8 = true
  z8 : l8 = true → l9 = false → Bx w b8 [.int .i64 0, .int .i64 0, .int .i64 0, .int .i64 0, .int .i64 0, .int .i64 0]
  s8 : l9 = true → Bx w b8 [.int .i64 d0, .int .i64 d1, .int .i64 d2, .int .i64 d3, .int .i64 d4, .int .i64 d5]
theorem Fm.kept {s t : D} {a b d0 d1 d2 d3 d4 d5 e1 : Int} {nb cb : Nat} {w0 w : World} {l0 l1 l2 l3 l4 l5 l6 l7 l8 l9 l10 : Bool} {v0 v1 v2 v3 v4 v5 v6 v7 v8 v10 : Value} {b8 : Nat} {w' : World} (h : Fm s t a b d0 d1 d2 d3 d4 d5 e1 nb cb w0 w l0 l1 l2 l3 l4 l5 l6 l7 l8 l9 l10 v0 v1 v2 v3 v4 v5 v6 v7 v8 v10 b8) (hb : Below w.heap.size w w') : Fm s t a b d0 d1 d2 d3 d4 d5 e1 nb cb w0 w' l0 l1 l2 l3 l4 l5 l6 l7 l8 l9 l10 v0 v1 v2 v3 v4 v5 v6 v7 v8 v10 b8 :=
  { h with g := h.g.call hb, sz := Nat.le_trans h.sz hb.size, u0 := h.u0.kept hb, t8 := fun p => Nat.lt_of_lt_of_le (h.t8 p) hb.size, z8 := fun p q => (h.z8 p q).kept hb, s8 := fun p => (h.s8 p).kept hb }
def Fm.I (s t : D) (a b d0 d1 d2 d3 d4 d5 e1 : Int) (nb cb : Nat) (w0 : World) : Act → Array Bool → Act → World → Prop := fun aO LX aX w => ∃ (l0 l1 l2 l3 l4 l5 l6 l7 l8 l9 l10 : Bool) (v0 v1 v2 v3 v4 v5 v6 v7 v8 v10 : Value) (b8 : Nat), LX = #[l0, l1, l2, l3, l4, l5, l6, l7, l8, l9, l10] ∧ aX = ((((((((((aO.put (some 26) v0).put (some 27) v1).put (some 28) v2).put (some 29) v3).put (some 30) v4).put (some 25) v5).put (some 31) v6).put (some 32) v7).put (some 9) v8).put (some 10) v10) ∧ Fm s t a b d0 d1 d2 d3 d4 d5 e1 nb cb w0 w l0 l1 l2 l3 l4 l5 l6 l7 l8 l9 l10 v0 v1 v2 v3 v4 v5 v6 v7 v8 v10 b8
set_option maxRecDepth 100000 in
set_option maxHeartbeats 16000000 in
theorem forms_any (s t : D) (a b : Int) (w : World) :
    Calls Try.prog 3 #[dv s, dv t, iv a b] w fun e w' => e = .returned (.bool true) ∧ Below w.heap.size w w' := by
  obtain ⟨⟨⟨d0, d1, d2, d3, d4, d5⟩, e1⟩, h1⟩ : ∃ r : RD, reflR s t = r := ⟨_, rfl⟩
  obtain ⟨⟨p1, q1, e2⟩, h2⟩ : ∃ r : R, radR s.a s.b a b = r := ⟨_, rfl⟩
  obtain ⟨⟨kk, e3⟩, h3⟩ : ∃ r : RI, hitsR s t a b = r := ⟨_, rfl⟩
  obtain ⟨⟨p2, q2, e4⟩, h4⟩ : ∃ r : R, critR a b = r := ⟨_, rfl⟩
  obtain ⟨dd, h5⟩ : ∃ r : Int, decI a b = r := ⟨_, rfl⟩
  have X1 := Lib.hid h1
  have X2 := Lib.hid h2
  have X3 := Lib.hid h3
  have X4 := Lib.hid h4
  have X5 := Lib.hid h5
  clear h1 h2 h3 h4 h5
  have H0 := ((((Ho.nil w).bx [.int .i64 s.a, .int .i64 s.b, .int .i64 s.c, .int .i64 s.d, .int .i64 s.e, .int .i64 s.f] 25 (w.heap.size) (by simp)).bx [.int .i64 t.a, .int .i64 t.b, .int .i64 t.c, .int .i64 t.d, .int .i64 t.e, .int .i64 t.f] 25 (w.heap.size + 1) (by simp)).bx [.int .i64 a, .int .i64 b] 23 (w.heap.size + 1 + 1) (by simp))
  go_enter Try.func3, Try.ntmps3
  go_wp2_with fail
  refine (awake29_any _).mono ?_
  rintro r w1 ⟨rfl, hb⟩
  have H1 : Ho w w1 (w.heap.size + 1 + 1 + 1) [(w.heap.size + 1 + 1, [.int .i64 a, .int .i64 b]), (w.heap.size + 1, [.int .i64 t.a, .int .i64 t.b, .int .i64 t.c, .int .i64 t.d, .int .i64 t.e, .int .i64 t.f]), (w.heap.size, [.int .i64 s.a, .int .i64 s.b, .int .i64 s.c, .int .i64 s.d, .int .i64 s.e, .int .i64 s.f])] := Ho.call (by
    (repeat (first | with_reducible exact H0 | with_reducible refine Ho.alc ?_ _ | with_reducible refine Ho.drew ?_ | with_reducible refine Ho.put ?_ (by omega)))) hb
  have hs1 := H1.size
  have hz1 := hb.size
  (try simp at hz1)
  clear hb
  have h0_1 := (H1.at 2 rfl).c
  have h1_1 := (H1.at 1 rfl).c
  have h2_1 := (H1.at 0 rfl).c
  have q1_0 : ¬ (w.heap.size = w1.heap.size) := by omega
  have q1_1 : ¬ (w1.heap.size = w.heap.size) := by omega
  have q1_2 : w.heap.size < w1.heap.size := by omega
  have q1_3 : w.heap.size < w1.heap.size + 1 := by omega
  have q1_4 : ¬ (w.heap.size + 1 = w1.heap.size) := by omega
  have q1_5 : ¬ (w1.heap.size = w.heap.size + 1) := by omega
  have q1_6 : w.heap.size + 1 < w1.heap.size := by omega
  have q1_7 : w.heap.size + 1 < w1.heap.size + 1 := by omega
  have q1_8 : ¬ (w.heap.size + 1 + 1 = w1.heap.size) := by omega
  have q1_9 : ¬ (w1.heap.size = w.heap.size + 1 + 1) := by omega
  have q1_10 : w.heap.size + 1 + 1 < w1.heap.size := by omega
  have q1_11 : w.heap.size + 1 + 1 < w1.heap.size + 1 := by omega
  go_wp2_with fail
  refine (reflect_any s t _).mono ?_
  rintro r w2 ⟨rfl, hb⟩
  rw [X1.out]
  have H2 : Ho w w2 (w.heap.size + 1 + 1 + 1) [(w.heap.size + 1 + 1, [.int .i64 a, .int .i64 b]), (w.heap.size + 1, [.int .i64 t.a, .int .i64 t.b, .int .i64 t.c, .int .i64 t.d, .int .i64 t.e, .int .i64 t.f]), (w.heap.size, [.int .i64 s.a, .int .i64 s.b, .int .i64 s.c, .int .i64 s.d, .int .i64 s.e, .int .i64 s.f])] := Ho.call (by
    (repeat (first | with_reducible exact H1 | with_reducible refine Ho.alc ?_ _ | with_reducible refine Ho.drew ?_ | with_reducible refine Ho.put ?_ (by omega)))) hb
  clear h0_1 h1_1 h2_1 q1_0 q1_1 q1_2 q1_3 q1_4 q1_5 q1_6 q1_7 q1_8 q1_9 q1_10 q1_11
  have hs2 := H2.size
  have hz2 := hb.size
  (try simp at hz2)
  clear hb
  have h0_2 := (H2.at 2 rfl).c
  have h1_2 := (H2.at 1 rfl).c
  have h2_2 := (H2.at 0 rfl).c
  have q2_0 : ¬ (w.heap.size = w2.heap.size) := by omega
  have q2_1 : ¬ (w2.heap.size = w.heap.size) := by omega
  have q2_2 : w.heap.size < w2.heap.size := by omega
  have q2_3 : w.heap.size < w2.heap.size + 1 := by omega
  have q2_4 : ¬ (w.heap.size + 1 = w2.heap.size) := by omega
  have q2_5 : ¬ (w2.heap.size = w.heap.size + 1) := by omega
  have q2_6 : w.heap.size + 1 < w2.heap.size := by omega
  have q2_7 : w.heap.size + 1 < w2.heap.size + 1 := by omega
  have q2_8 : ¬ (w.heap.size + 1 + 1 = w2.heap.size) := by omega
  have q2_9 : ¬ (w2.heap.size = w.heap.size + 1 + 1) := by omega
  have q2_10 : w.heap.size + 1 + 1 < w2.heap.size := by omega
  have q2_11 : w.heap.size + 1 + 1 < w2.heap.size + 1 := by omega
  go_upto_region 4 with fail
  refine region_sets (Fm.I s t a b d0 d1 d2 d3 d4 d5 e1 w.heap.size w2.heap.size w) (by kernel_rfl) ?_ ?_ ?_
  · refine ⟨false, false, false, false, false, false, false, false, false, false, false, undef, undef, undef, undef, undef, undef, undef, undef, undef, undef, 0, rfl, by simp only [Act.put, List.setIfInBounds_toArray, List.set_cons_zero, List.set_cons_succ], ?_⟩
    constructor
    · (repeat (first | with_reducible exact H2 | with_reducible refine Ho.alc ?_ _ | with_reducible refine Ho.drew ?_ | with_reducible refine Ho.put ?_ (by omega)))
    · (first | (simp; done) | (simp; omega))
    · (omega)
    · (repeat (first | with_reducible exact Bx.new (by simp) | with_reducible apply Bx.put6 | with_reducible apply Bx.put2 | with_reducible apply Bx.put1 | with_reducible refine Bx.set ?_ (by omega) | with_reducible refine Bx.alc ?_ _ | with_reducible refine Bx.drew ?_))
    · (omega)
    all_goals (intro h; cases h)
  · intro L a' w' hI i hi
    obtain ⟨l0, l1, l2, l3, l4, l5, l6, l7, l8, l9, l10, v0, v1, v2, v3, v4, v5, v6, v7, v8, v10, b8, rfl, rfl, h⟩ := hI
    have hlt := ready_lt hi
    match i, hi, hlt with
    | 0, hi, _ =>
      have l' : l0 = false := (ready_op (o := _) rfl hi).1
      subst l'
      clear hi hlt
      have c := (h.g.at 2 rfl).c
      have H := Lib.hid h
      clear h
      refine wpOp_shut rfl (fun K hK => ?_)
      try simp only [Act.put, List.setIfInBounds_toArray, List.set_cons_zero, List.set_cons_succ]
      go_simp
      refine hK.out _ _ ?_
      unfold Fm.I
      refine ⟨true, l1, l2, l3, l4, l5, l6, l7, l8, l9, l10, ((dv s)), v1, v2, v3, v4, v5, v6, v7, v8, v10, b8, rfl, ?_, ?_⟩
      · simp only [Act.put, List.setIfInBounds_toArray, List.set_cons_zero, List.set_cons_succ]
      · exact { H.out with ev0 := fun _ => rfl }
    | 1, hi, _ =>
      have l' : l1 = false := (ready_op (o := _) rfl hi).1
      subst l'
      have k0 : l0 = true := (ready_op (o := _) rfl hi).2 { on := 0, ground := .data } (by simp) rfl
      clear hi hlt
      subst k0
      obtain rfl := h.ev0 rfl
      have H := Lib.hid h
      clear h
      refine wpOp_shut rfl (fun K hK => ?_)
      try simp only [Act.put, List.setIfInBounds_toArray, List.set_cons_zero, List.set_cons_succ]
      go_simp
      refine (theirs_any s _).mono ?_
      rintro e wY ⟨rfl, hb⟩
      try go_simp
      refine hK.out _ _ ?_
      unfold Fm.I
      refine ⟨true, true, l2, l3, l4, l5, l6, l7, l8, l9, l10, ((dv s)), ((dv s)), v2, v3, v4, v5, v6, v7, v8, v10, b8, rfl, ?_, ?_⟩
      · simp only [Act.put, List.setIfInBounds_toArray, List.set_cons_zero, List.set_cons_succ]
      · exact { (H.out.kept hb) with ev1 := fun _ => rfl }
    | 2, hi, _ =>
      have l' : l2 = false := (ready_op (o := _) rfl hi).1
      subst l'
      clear hi hlt
      have c := (h.g.at 1 rfl).c
      have H := Lib.hid h
      clear h
      refine wpOp_shut rfl (fun K hK => ?_)
      try simp only [Act.put, List.setIfInBounds_toArray, List.set_cons_zero, List.set_cons_succ]
      go_simp
      refine hK.out _ _ ?_
      unfold Fm.I
      refine ⟨l0, l1, true, l3, l4, l5, l6, l7, l8, l9, l10, v0, v1, ((dv t)), v3, v4, v5, v6, v7, v8, v10, b8, rfl, ?_, ?_⟩
      · simp only [Act.put, List.setIfInBounds_toArray, List.set_cons_zero, List.set_cons_succ]
      · exact { H.out with ev2 := fun _ => rfl }
    | 3, hi, _ =>
      have l' : l3 = false := (ready_op (o := _) rfl hi).1
      subst l'
      have k2 : l2 = true := (ready_op (o := _) rfl hi).2 { on := 2, ground := .data } (by simp) rfl
      have k1 : l1 = true := (ready_op (o := _) rfl hi).2 { on := 1, ground := .chain } (by simp) rfl
      clear hi hlt
      subst k2
      subst k1
      obtain rfl := h.ev2 rfl
      obtain rfl := h.ev1 rfl
      have H := Lib.hid h
      clear h
      refine wpOp_shut rfl (fun K hK => ?_)
      try simp only [Act.put, List.setIfInBounds_toArray, List.set_cons_zero, List.set_cons_succ]
      go_simp
      refine (theirs_any t _).mono ?_
      rintro e wY ⟨rfl, hb⟩
      try go_simp
      refine hK.out _ _ ?_
      unfold Fm.I
      refine ⟨l0, true, true, true, l4, l5, l6, l7, l8, l9, l10, v0, ((dv s)), ((dv t)), ((dv t)), v4, v5, v6, v7, v8, v10, b8, rfl, ?_, ?_⟩
      · simp only [Act.put, List.setIfInBounds_toArray, List.set_cons_zero, List.set_cons_succ]
      · exact { (H.out.kept hb) with ev3 := fun _ => rfl }
    | 4, hi, _ =>
      have l' : l4 = false := (ready_op (o := _) rfl hi).1
      subst l'
      have k1 : l1 = true := (ready_op (o := _) rfl hi).2 { on := 1, ground := .data } (by simp) rfl
      have k3 : l3 = true := (ready_op (o := _) rfl hi).2 { on := 3, ground := .chain } (by simp) rfl
      clear hi hlt
      subst k1
      subst k3
      obtain rfl := h.ev1 rfl
      obtain rfl := h.ev3 rfl
      have H := Lib.hid h
      clear h
      refine wpOp_shut rfl (fun K hK => ?_)
      try simp only [Act.put, List.setIfInBounds_toArray, List.set_cons_zero, List.set_cons_succ]
      go_simp
      refine (rfrefl_any s t _).mono ?_
      rintro e wY ⟨rfl, hb⟩
      rw [X1.out]
      try go_simp
      refine hK.out _ _ ?_
      unfold Fm.I
      refine ⟨l0, true, l2, true, true, l5, l6, l7, l8, l9, l10, v0, ((dv s)), v2, ((dv t)), (.tuple #[(dv ⟨d0, d1, d2, d3, d4, d5⟩), .int .i64 e1]), v5, v6, v7, v8, v10, b8, rfl, ?_, ?_⟩
      · simp only [Act.put, List.setIfInBounds_toArray, List.set_cons_zero, List.set_cons_succ]
      · exact { (H.out.kept hb) with ev4 := fun _ => rfl }
    | 5, hi, _ =>
      have l' : l5 = false := (ready_op (o := _) rfl hi).1
      subst l'
      have k4 : l4 = true := (ready_op (o := _) rfl hi).2 { on := 4, ground := .data } (by simp) rfl
      clear hi hlt
      subst k4
      obtain rfl := h.ev4 rfl
      have H := Lib.hid h
      clear h
      refine wpOp_shut rfl (fun K hK => ?_)
      try simp only [Act.put, List.setIfInBounds_toArray, List.set_cons_zero, List.set_cons_succ]
      go_simp
      refine hK.out _ _ ?_
      unfold Fm.I
      refine ⟨l0, l1, l2, l3, true, true, l6, l7, l8, l9, l10, v0, v1, v2, v3, (.tuple #[(dv ⟨d0, d1, d2, d3, d4, d5⟩), .int .i64 e1]), (.tuple #[(dv ⟨d0, d1, d2, d3, d4, d5⟩), .int .i64 e1]), v6, v7, v8, v10, b8, rfl, ?_, ?_⟩
      · simp only [Act.put, List.setIfInBounds_toArray, List.set_cons_zero, List.set_cons_succ]
      · exact { H.out with ev5 := fun _ => rfl }
    | 6, hi, _ =>
      have l' : l6 = false := (ready_op (o := _) rfl hi).1
      subst l'
      have k5 : l5 = true := (ready_op (o := _) rfl hi).2 { on := 5, ground := .data } (by simp) rfl
      clear hi hlt
      subst k5
      obtain rfl := h.ev5 rfl
      have H := Lib.hid h
      clear h
      refine wpOp_shut rfl (fun K hK => ?_)
      try simp only [Act.put, List.setIfInBounds_toArray, List.set_cons_zero, List.set_cons_succ]
      go_simp
      refine hK.out _ _ ?_
      unfold Fm.I
      refine ⟨l0, l1, l2, l3, l4, true, true, l7, l8, l9, l10, v0, v1, v2, v3, v4, (.tuple #[(dv ⟨d0, d1, d2, d3, d4, d5⟩), .int .i64 e1]), ((dv ⟨d0, d1, d2, d3, d4, d5⟩)), v7, v8, v10, b8, rfl, ?_, ?_⟩
      · simp only [Act.put, List.setIfInBounds_toArray, List.set_cons_zero, List.set_cons_succ]
      · exact { H.out with ev6 := fun _ => rfl }
    | 7, hi, _ =>
      have l' : l7 = false := (ready_op (o := _) rfl hi).1
      subst l'
      have k5 : l5 = true := (ready_op (o := _) rfl hi).2 { on := 5, ground := .data } (by simp) rfl
      clear hi hlt
      subst k5
      obtain rfl := h.ev5 rfl
      have H := Lib.hid h
      clear h
      refine wpOp_shut rfl (fun K hK => ?_)
      try simp only [Act.put, List.setIfInBounds_toArray, List.set_cons_zero, List.set_cons_succ]
      go_simp
      refine hK.out _ _ ?_
      unfold Fm.I
      refine ⟨l0, l1, l2, l3, l4, true, l6, true, l8, l9, l10, v0, v1, v2, v3, v4, (.tuple #[(dv ⟨d0, d1, d2, d3, d4, d5⟩), .int .i64 e1]), v6, (.int .i64 e1), v8, v10, b8, rfl, ?_, ?_⟩
      · simp only [Act.put, List.setIfInBounds_toArray, List.set_cons_zero, List.set_cons_succ]
      · exact { H.out with ev7 := fun _ => rfl }
    | 8, hi, _ =>
      have l' : l8 = false := (ready_op (o := _) rfl hi).1
      subst l'
      clear hi hlt
      have H := Lib.hid h
      clear h
      refine wpOp_shut rfl (fun K hK => ?_)
      try simp only [Act.put, List.setIfInBounds_toArray, List.set_cons_zero, List.set_cons_succ]
      go_simp
      refine hK.out _ _ ?_
      unfold Fm.I
      refine ⟨l0, l1, l2, l3, l4, l5, l6, l7, true, l9, l10, v0, v1, v2, v3, v4, v5, v6, v7, (.pointer (some ⟨w'.heap.size, 0, none⟩)), v10, w'.heap.size, rfl, ?_, ?_⟩
      · simp only [Act.put, List.setIfInBounds_toArray, List.set_cons_zero, List.set_cons_succ]
      · have h := H.out
        have h2 := h.kept ((Below.refl _ _).alloc (Nat.le_refl _) (.cells (List.toArray [.int .i64 0, .int .i64 0, .int .i64 0, .int .i64 0, .int .i64 0, .int .i64 0]) 30))
        exact { h2 with ev8 := fun _ => rfl, g8 := fun _ => h.sz, t8 := fun _ => by simp, o8 := fun p => rfl, z8 := fun _ _ => Bx.new rfl, s8 := fun p => (nomatch (h.o8 p)) }
    | 9, hi, _ =>
      have l' : l9 = false := (ready_op (o := _) rfl hi).1
      subst l'
      have k8 : l8 = true := (ready_op (o := _) rfl hi).2 { on := 8, ground := .phase } (by simp) rfl
      have k6 : l6 = true := (ready_op (o := _) rfl hi).2 { on := 6, ground := .phase } (by simp) rfl
      have k4 : l4 = true := (ready_op (o := _) rfl hi).2 { on := 4, ground := .phase } (by simp) rfl
      have k0 : l0 = true := (ready_op (o := _) rfl hi).2 { on := 0, ground := .phase } (by simp) rfl
      have k1 : l1 = true := (ready_op (o := _) rfl hi).2 { on := 1, ground := .phase } (by simp) rfl
      have k2 : l2 = true := (ready_op (o := _) rfl hi).2 { on := 2, ground := .phase } (by simp) rfl
      have k3 : l3 = true := (ready_op (o := _) rfl hi).2 { on := 3, ground := .phase } (by simp) rfl
      have k5 : l5 = true := (ready_op (o := _) rfl hi).2 { on := 5, ground := .phase } (by simp) rfl
      clear hi hlt
      subst k8
      subst k6
      subst k4
      subst k0
      subst k1
      subst k2
      subst k3
      subst k5
      obtain rfl := h.ev8 rfl
      obtain rfl := h.ev6 rfl
      obtain rfl := h.ev4 rfl
      obtain rfl := h.ev0 rfl
      obtain rfl := h.ev1 rfl
      obtain rfl := h.ev2 rfl
      obtain rfl := h.ev3 rfl
      obtain rfl := h.ev5 rfl
      have bz := h.z8 rfl rfl
      have c := bz.c
      have f := bz.f
      clear bz
      have H := Lib.hid h
      clear h
      refine wpOp_shut rfl (fun K hK => ?_)
      try simp only [Act.put, List.setIfInBounds_toArray, List.set_cons_zero, List.set_cons_succ]
      go_simp
      refine hK.out _ _ ?_
      unfold Fm.I
      refine ⟨true, true, true, true, true, true, true, l7, true, true, l10, ((dv s)), ((dv s)), ((dv t)), ((dv t)), (.tuple #[(dv ⟨d0, d1, d2, d3, d4, d5⟩), .int .i64 e1]), (.tuple #[(dv ⟨d0, d1, d2, d3, d4, d5⟩), .int .i64 e1]), ((dv ⟨d0, d1, d2, d3, d4, d5⟩)), v7, (.pointer (some ⟨b8, 0, none⟩)), v10, b8, rfl, ?_, ?_⟩
      · simp only [Act.put, List.setIfInBounds_toArray, List.set_cons_zero, List.set_cons_succ]
      · have h := H.out
        have gb := h.g8 rfl
        have gm := Nat.le_trans h.mn gb
        exact { h with g := ((((((h.g.put gm).put gm).put gm).put gm).put gm).put gm), sz := by simpa using h.sz, o8 := fun _ => rfl, z8 := fun _ p => (nomatch p), s8 := fun _ => (((((((h.z8 rfl rfl).put).put).put).put).put).put), t8 := fun p => by simpa using h.t8 p, u0 := ((((((h.u0.set (Nat.ne_of_lt (Nat.lt_of_lt_of_le h.un0 gb))).set (Nat.ne_of_lt (Nat.lt_of_lt_of_le h.un0 gb))).set (Nat.ne_of_lt (Nat.lt_of_lt_of_le h.un0 gb))).set (Nat.ne_of_lt (Nat.lt_of_lt_of_le h.un0 gb))).set (Nat.ne_of_lt (Nat.lt_of_lt_of_le h.un0 gb))).set (Nat.ne_of_lt (Nat.lt_of_lt_of_le h.un0 gb))) }
    | 10, hi, _ =>
      have l' : l10 = false := (ready_op (o := _) rfl hi).1
      subst l'
      have k7 : l7 = true := (ready_op (o := _) rfl hi).2 { on := 7, ground := .phase } (by simp) rfl
      have k9 : l9 = true := (ready_op (o := _) rfl hi).2 { on := 9, ground := .phase } (by simp) rfl
      have k0 : l0 = true := (ready_op (o := _) rfl hi).2 { on := 0, ground := .phase } (by simp) rfl
      have k1 : l1 = true := (ready_op (o := _) rfl hi).2 { on := 1, ground := .phase } (by simp) rfl
      have k2 : l2 = true := (ready_op (o := _) rfl hi).2 { on := 2, ground := .phase } (by simp) rfl
      have k3 : l3 = true := (ready_op (o := _) rfl hi).2 { on := 3, ground := .phase } (by simp) rfl
      have k4 : l4 = true := (ready_op (o := _) rfl hi).2 { on := 4, ground := .phase } (by simp) rfl
      have k5 : l5 = true := (ready_op (o := _) rfl hi).2 { on := 5, ground := .phase } (by simp) rfl
      have k6 : l6 = true := (ready_op (o := _) rfl hi).2 { on := 6, ground := .phase } (by simp) rfl
      have k8 : l8 = true := (ready_op (o := _) rfl hi).2 { on := 8, ground := .phase } (by simp) rfl
      clear hi hlt
      subst k7
      subst k9
      subst k0
      subst k1
      subst k2
      subst k3
      subst k4
      subst k5
      subst k6
      subst k8
      obtain rfl := h.ev7 rfl
      obtain rfl := h.ev0 rfl
      obtain rfl := h.ev1 rfl
      obtain rfl := h.ev2 rfl
      obtain rfl := h.ev3 rfl
      obtain rfl := h.ev4 rfl
      obtain rfl := h.ev5 rfl
      obtain rfl := h.ev6 rfl
      obtain rfl := h.ev8 rfl
      have H := Lib.hid h
      clear h
      refine wpOp_shut rfl (fun K hK => ?_)
      try simp only [Act.put, List.setIfInBounds_toArray, List.set_cons_zero, List.set_cons_succ]
      go_simp
      refine hK.out _ _ ?_
      unfold Fm.I
      refine ⟨true, true, true, true, true, true, true, true, true, true, true, ((dv s)), ((dv s)), ((dv t)), ((dv t)), (.tuple #[(dv ⟨d0, d1, d2, d3, d4, d5⟩), .int .i64 e1]), (.tuple #[(dv ⟨d0, d1, d2, d3, d4, d5⟩), .int .i64 e1]), ((dv ⟨d0, d1, d2, d3, d4, d5⟩)), (.int .i64 e1), (.pointer (some ⟨b8, 0, none⟩)), (.int .i64 e1), b8, rfl, ?_, ?_⟩
      · simp only [Act.put, List.setIfInBounds_toArray, List.set_cons_zero, List.set_cons_succ]
      · exact { H.out with ev10 := fun _ => rfl }
    | i + 11, _, hlt => exact absurd hlt (by simp)
  · intro L a' w' hI hn
    obtain ⟨l0, l1, l2, l3, l4, l5, l6, l7, l8, l9, l10, v0, v1, v2, v3, v4, v5, v6, v7, v8, v10, b8, rfl, rfl, h⟩ := hI
    have k0 : l0 = true := not_ready (i := 0) (o := _) rfl hn (by simp [Region.binds])
    subst k0
    have k1 : l1 = true := not_ready (i := 1) (o := _) rfl hn (by simp [Region.binds])
    subst k1
    have k2 : l2 = true := not_ready (i := 2) (o := _) rfl hn (by simp [Region.binds])
    subst k2
    have k3 : l3 = true := not_ready (i := 3) (o := _) rfl hn (by simp [Region.binds])
    subst k3
    have k4 : l4 = true := not_ready (i := 4) (o := _) rfl hn (by simp [Region.binds])
    subst k4
    have k5 : l5 = true := not_ready (i := 5) (o := _) rfl hn (by simp [Region.binds])
    subst k5
    have k6 : l6 = true := not_ready (i := 6) (o := _) rfl hn (by simp [Region.binds])
    subst k6
    have k7 : l7 = true := not_ready (i := 7) (o := _) rfl hn (by simp [Region.binds])
    subst k7
    have k8 : l8 = true := not_ready (i := 8) (o := _) rfl hn (by simp [Region.binds])
    subst k8
    have k9 : l9 = true := not_ready (i := 9) (o := _) rfl hn (by simp [Region.binds])
    subst k9
    have k10 : l10 = true := not_ready (i := 10) (o := _) rfl hn (by simp [Region.binds])
    subst k10
    clear hn
    obtain rfl := h.ev0 rfl
    obtain rfl := h.ev1 rfl
    obtain rfl := h.ev2 rfl
    obtain rfl := h.ev3 rfl
    obtain rfl := h.ev4 rfl
    obtain rfl := h.ev5 rfl
    obtain rfl := h.ev6 rfl
    obtain rfl := h.ev7 rfl
    obtain rfl := h.ev8 rfl
    obtain rfl := h.ev10 rfl
    simp only [Act.put, List.setIfInBounds_toArray, List.set_cons_zero, List.set_cons_succ]
    have G := h.g
    have XA := h.u0.rd
    have XB := h.s8 rfl
    clear h
    clear h0_2 h1_2 h2_2 q2_0 q2_1 q2_2 q2_3 q2_4 q2_5 q2_6 q2_7 q2_8 q2_9 q2_10 q2_11
    have H5 := (G.cons XA).cons XB.rd
    have lg := G.size
    have l8 := XB.lt
    have l2 := XA.lt
    clear G XA XB
    obtain ⟨w5, hw5⟩ : ∃ x, x = w' := ⟨_, rfl⟩
    rw [← hw5] at H5 lg l8 l2 ⊢
    clear hw5
    have hs5 := H5.size
    have i2 := (H5.at 2 rfl).c
    have i4 := (H5.at 4 rfl).c
    go_wp2_with fail
    refine (radicand_any s.a s.b a b _).mono ?_
    rintro r w6 ⟨rfl, hb⟩
    rw [X2.out]
    have H6 : Ho w w6 (w5.heap.size) [(b8, [.int .i64 d0, .int .i64 d1, .int .i64 d2, .int .i64 d3, .int .i64 d4, .int .i64 d5]), (w2.heap.size, [.int .i64 d0, .int .i64 d1, .int .i64 d2, .int .i64 d3, .int .i64 d4, .int .i64 d5]), (w.heap.size + 1 + 1, [.int .i64 a, .int .i64 b]), (w.heap.size + 1, [.int .i64 t.a, .int .i64 t.b, .int .i64 t.c, .int .i64 t.d, .int .i64 t.e, .int .i64 t.f]), (w.heap.size, [.int .i64 s.a, .int .i64 s.b, .int .i64 s.c, .int .i64 s.d, .int .i64 s.e, .int .i64 s.f])] := Ho.call (by
      (repeat (first | with_reducible exact H5 | with_reducible refine Ho.alc ?_ _ | with_reducible refine Ho.drew ?_ | with_reducible refine Ho.put ?_ (by omega)))) hb
    clear i2 i4
    have hs6 := H6.size
    have hz6 := hb.size
    (try simp at hz6)
    clear hb
    have h2_6 := (H6.at 2 rfl).c
    have h4_6 := (H6.at 4 rfl).c
    have q6_0 : ¬ (b8 = w6.heap.size) := by omega
    have q6_1 : ¬ (w6.heap.size = b8) := by omega
    have q6_2 : b8 < w6.heap.size := by omega
    have q6_3 : b8 < w6.heap.size + 1 := by omega
    have q6_4 : ¬ (w2.heap.size = w6.heap.size) := by omega
    have q6_5 : ¬ (w6.heap.size = w2.heap.size) := by omega
    have q6_6 : w2.heap.size < w6.heap.size := by omega
    have q6_7 : w2.heap.size < w6.heap.size + 1 := by omega
    have q6_8 : ¬ (w.heap.size + 1 + 1 = w6.heap.size) := by omega
    have q6_9 : ¬ (w6.heap.size = w.heap.size + 1 + 1) := by omega
    have q6_10 : w.heap.size + 1 + 1 < w6.heap.size := by omega
    have q6_11 : w.heap.size + 1 + 1 < w6.heap.size + 1 := by omega
    have q6_12 : ¬ (w.heap.size + 1 = w6.heap.size) := by omega
    have q6_13 : ¬ (w6.heap.size = w.heap.size + 1) := by omega
    have q6_14 : w.heap.size + 1 < w6.heap.size := by omega
    have q6_15 : w.heap.size + 1 < w6.heap.size + 1 := by omega
    have q6_16 : ¬ (w.heap.size = w6.heap.size) := by omega
    have q6_17 : ¬ (w6.heap.size = w.heap.size) := by omega
    have q6_18 : w.heap.size < w6.heap.size := by omega
    have q6_19 : w.heap.size < w6.heap.size + 1 := by omega
    go_wp2_with fail
    refine (rfrad_any s.a s.b a b _).mono ?_
    rintro r w7 ⟨rfl, hb⟩
    rw [X2.out]
    have H7 : Ho w w7 (w5.heap.size) [(b8, [.int .i64 d0, .int .i64 d1, .int .i64 d2, .int .i64 d3, .int .i64 d4, .int .i64 d5]), (w2.heap.size, [.int .i64 d0, .int .i64 d1, .int .i64 d2, .int .i64 d3, .int .i64 d4, .int .i64 d5]), (w.heap.size + 1 + 1, [.int .i64 a, .int .i64 b]), (w.heap.size + 1, [.int .i64 t.a, .int .i64 t.b, .int .i64 t.c, .int .i64 t.d, .int .i64 t.e, .int .i64 t.f]), (w.heap.size, [.int .i64 s.a, .int .i64 s.b, .int .i64 s.c, .int .i64 s.d, .int .i64 s.e, .int .i64 s.f])] := Ho.call (by
      (repeat (first | with_reducible exact H6 | with_reducible refine Ho.alc ?_ _ | with_reducible refine Ho.drew ?_ | with_reducible refine Ho.put ?_ (by omega)))) hb
    have P_7 : Bx w7 (w6.heap.size) [.int .i64 p1, .int .i64 q1] := Bx.kept (by
      (repeat (first | with_reducible exact Bx.new (by simp) | with_reducible apply Bx.put6 | with_reducible apply Bx.put2 | with_reducible apply Bx.put1 | with_reducible refine Bx.set ?_ (by omega) | with_reducible refine Bx.alc ?_ _ | with_reducible refine Bx.drew ?_))) hb
    clear h2_6 h4_6 q6_0 q6_1 q6_2 q6_3 q6_4 q6_5 q6_6 q6_7 q6_8 q6_9 q6_10 q6_11 q6_12 q6_13 q6_14 q6_15 q6_16 q6_17 q6_18 q6_19
    have hs7 := H7.size
    have hz7 := hb.size
    (try simp at hz7)
    clear hb
    have h0_7 := (H7.at 0 rfl).c
    have h1_7 := (H7.at 1 rfl).c
    have h2_7 := (H7.at 2 rfl).c
    have P_7c := P_7.c
    have P_7f := P_7.f
    have P_7l := P_7.lt
    have q7_0 : ¬ (w6.heap.size = w7.heap.size) := by omega
    have q7_1 : ¬ (w7.heap.size = w6.heap.size) := by omega
    have q7_2 : w6.heap.size < w7.heap.size := by omega
    have q7_3 : w6.heap.size < w7.heap.size + 1 := by omega
    have q7_4 : ¬ (b8 = w7.heap.size) := by omega
    have q7_5 : ¬ (w7.heap.size = b8) := by omega
    have q7_6 : b8 < w7.heap.size := by omega
    have q7_7 : b8 < w7.heap.size + 1 := by omega
    have q7_8 : ¬ (w2.heap.size = w7.heap.size) := by omega
    have q7_9 : ¬ (w7.heap.size = w2.heap.size) := by omega
    have q7_10 : w2.heap.size < w7.heap.size := by omega
    have q7_11 : w2.heap.size < w7.heap.size + 1 := by omega
    have q7_12 : ¬ (w.heap.size + 1 + 1 = w7.heap.size) := by omega
    have q7_13 : ¬ (w7.heap.size = w.heap.size + 1 + 1) := by omega
    have q7_14 : w.heap.size + 1 + 1 < w7.heap.size := by omega
    have q7_15 : w.heap.size + 1 + 1 < w7.heap.size + 1 := by omega
    have q7_16 : ¬ (w.heap.size + 1 = w7.heap.size) := by omega
    have q7_17 : ¬ (w7.heap.size = w.heap.size + 1) := by omega
    have q7_18 : w.heap.size + 1 < w7.heap.size := by omega
    have q7_19 : w.heap.size + 1 < w7.heap.size + 1 := by omega
    have q7_20 : ¬ (w.heap.size = w7.heap.size) := by omega
    have q7_21 : ¬ (w7.heap.size = w.heap.size) := by omega
    have q7_22 : w.heap.size < w7.heap.size := by omega
    have q7_23 : w.heap.size < w7.heap.size + 1 := by omega
    have q7_24 : ¬ (w6.heap.size = b8) := by omega
    have q7_25 : ¬ (b8 = w6.heap.size) := by omega
    have q7_26 : ¬ (w6.heap.size = w2.heap.size) := by omega
    have q7_27 : ¬ (w2.heap.size = w6.heap.size) := by omega
    have q7_28 : ¬ (w6.heap.size = w.heap.size + 1 + 1) := by omega
    have q7_29 : ¬ (w.heap.size + 1 + 1 = w6.heap.size) := by omega
    have q7_30 : ¬ (w6.heap.size = w.heap.size + 1) := by omega
    have q7_31 : ¬ (w.heap.size + 1 = w6.heap.size) := by omega
    have q7_32 : ¬ (w6.heap.size = w.heap.size) := by omega
    have q7_33 : ¬ (w.heap.size = w6.heap.size) := by omega
    go_upto_region 7 with fail
    have HX : Ho w (w7.alloc (.cells (List.toArray [.int .i64 p1, .int .i64 q1]) 23)).drew (w5.heap.size) [(b8, [.int .i64 d0, .int .i64 d1, .int .i64 d2, .int .i64 d3, .int .i64 d4, .int .i64 d5]), (w2.heap.size, [.int .i64 d0, .int .i64 d1, .int .i64 d2, .int .i64 d3, .int .i64 d4, .int .i64 d5]), (w.heap.size + 1 + 1, [.int .i64 a, .int .i64 b]), (w.heap.size + 1, [.int .i64 t.a, .int .i64 t.b, .int .i64 t.c, .int .i64 t.d, .int .i64 t.e, .int .i64 t.f]), (w.heap.size, [.int .i64 s.a, .int .i64 s.b, .int .i64 s.c, .int .i64 s.d, .int .i64 s.e, .int .i64 s.f])] := by
      (repeat (first | with_reducible exact H7 | with_reducible refine Ho.alc ?_ _ | with_reducible refine Ho.drew ?_ | with_reducible refine Ho.put ?_ (by omega)))
    have PX : Bx (w7.alloc (.cells (List.toArray [.int .i64 p1, .int .i64 q1]) 23)).drew (w6.heap.size) [.int .i64 p1, .int .i64 q1] := by
      (repeat (first | with_reducible exact P_7 | with_reducible refine Bx.alc ?_ _ | with_reducible refine Bx.drew ?_ | with_reducible refine Bx.set ?_ (by omega)))
    have QX : Bx (w7.alloc (.cells (List.toArray [.int .i64 p1, .int .i64 q1]) 23)).drew (w7.heap.size) [.int .i64 p1, .int .i64 q1] := by
      (refine Bx.drew ?_; exact Bx.new rfl)
    go_region_held3 (fun X => (∀ j, X.cell? ⟨w2.heap.size, j, none⟩ = [.int .i64 d0, .int .i64 d1, .int .i64 d2, .int .i64 d3, .int .i64 d4, .int .i64 d5][j]?) ∧ (∀ j, X.cell? ⟨b8, j, none⟩ = [.int .i64 d0, .int .i64 d1, .int .i64 d2, .int .i64 d3, .int .i64 d4, .int .i64 d5][j]?) ∧ (∀ j, X.cell? ⟨w6.heap.size, j, none⟩ = [.int .i64 p1, .int .i64 q1][j]?) ∧ (∀ j, X.cell? ⟨w7.heap.size, j, none⟩ = [.int .i64 p1, .int .i64 q1][j]?) ∧ (∀ j, X.cell? ⟨w.heap.size + 1 + 1, j, none⟩ = [.int .i64 a, .int .i64 b][j]?)) (with_reducible first | exact ⟨(HX.at 1 rfl).c, (HX.at 0 rfl).c, PX.c, QX.c, (HX.at 2 rfl).c⟩ | exact ⟨(HA.at 1 rfl).c, (HA.at 0 rfl).c, PA.c, QA.c, (HA.at 2 rfl).c⟩ | exact ⟨(HB.at 1 rfl).c, (HB.at 0 rfl).c, PB.c, QB.c, (HB.at 2 rfl).c⟩ | exact ⟨(HC.at 1 rfl).c, (HC.at 0 rfl).c, PC.c, QC.c, (HC.at 2 rfl).c⟩)
      (first
        | (have hm := hmarkB; go_at_call 15; refine (rfdec_any a b _).mono ?_; rintro e wC ⟨rfl, hb⟩; rw [X5.out]; have HC := HB.call hb; have PC := PB.kept hb; have QC := QB.kept hb; have hmarkC : wC = wC := rfl)
        | (have hm := hmarkA; go_at_call 14; refine (decide_any a b _).mono ?_; rintro e wB ⟨rfl, hb⟩; rw [X5.out]; have HB := HA.call hb; have PB := PA.kept hb; have QB := QA.kept hb; have hmarkB : wB = wB := rfl)
        | (go_at_call 11; refine (theirs_any ⟨d0, d1, d2, d3, d4, d5⟩ _).mono ?_; rintro e wA ⟨rfl, hb⟩; have HA := HX.call hb; have PA := PX.kept hb; have QA := QX.kept hb; have hmarkA : wA = wA := rfl))
    have H10 := HC
    have P_10 := PC
    have Q_10 := QC
    have hs10 := H10.size
    have P_10l := P_10.lt
    have Q_10l := Q_10.lt
    clear h0_7 h1_7 h2_7 P_7c P_7f q7_0 q7_1 q7_2 q7_3 q7_4 q7_5 q7_6 q7_7 q7_8 q7_9 q7_10 q7_11 q7_12 q7_13 q7_14 q7_15 q7_16 q7_17 q7_18 q7_19 q7_20 q7_21 q7_22 q7_23 q7_24 q7_25 q7_26 q7_27 q7_28 q7_29 q7_30 q7_31 q7_32 q7_33 HX PX QX HA PA QA HB PB QB
    have h2_10 := (H10.at 2 rfl).c
    have h3_10 := (H10.at 3 rfl).c
    have h4_10 := (H10.at 4 rfl).c
    go_wp2_with fail
    refine (hits_any s t a b _).mono ?_
    rintro r w11 ⟨rfl, hb⟩
    rw [X3.out]
    have H11 : Ho w w11 (w5.heap.size) [(b8, [.int .i64 d0, .int .i64 d1, .int .i64 d2, .int .i64 d3, .int .i64 d4, .int .i64 d5]), (w2.heap.size, [.int .i64 d0, .int .i64 d1, .int .i64 d2, .int .i64 d3, .int .i64 d4, .int .i64 d5]), (w.heap.size + 1 + 1, [.int .i64 a, .int .i64 b]), (w.heap.size + 1, [.int .i64 t.a, .int .i64 t.b, .int .i64 t.c, .int .i64 t.d, .int .i64 t.e, .int .i64 t.f]), (w.heap.size, [.int .i64 s.a, .int .i64 s.b, .int .i64 s.c, .int .i64 s.d, .int .i64 s.e, .int .i64 s.f])] := Ho.call (by
      (repeat (first | with_reducible exact H10 | with_reducible refine Ho.alc ?_ _ | with_reducible refine Ho.drew ?_ | with_reducible refine Ho.put ?_ (by omega)))) hb
    have P_11 : Bx w11 (w6.heap.size) [.int .i64 p1, .int .i64 q1] := Bx.kept (by
      (repeat (first | with_reducible exact P_10 | with_reducible refine Bx.alc ?_ _ | with_reducible refine Bx.drew ?_ | with_reducible refine Bx.set ?_ (by omega)))) hb
    have Q_11 : Bx w11 (w7.heap.size) [.int .i64 p1, .int .i64 q1] := Bx.kept (by
      (repeat (first | with_reducible exact Q_10 | with_reducible refine Bx.alc ?_ _ | with_reducible refine Bx.drew ?_ | with_reducible refine Bx.set ?_ (by omega)))) hb
    clear h2_10 h3_10 h4_10
    have hs11 := H11.size
    have hz11 := hb.size
    (try simp at hz11)
    clear hb
    have h2_11 := (H11.at 2 rfl).c
    have h3_11 := (H11.at 3 rfl).c
    have h4_11 := (H11.at 4 rfl).c
    have P_11c := P_11.c
    have P_11f := P_11.f
    have P_11l := P_11.lt
    have Q_11c := Q_11.c
    have Q_11f := Q_11.f
    have Q_11l := Q_11.lt
    have q11_0 : ¬ (w6.heap.size = w11.heap.size) := by omega
    have q11_1 : ¬ (w11.heap.size = w6.heap.size) := by omega
    have q11_2 : w6.heap.size < w11.heap.size := by omega
    have q11_3 : w6.heap.size < w11.heap.size + 1 := by omega
    have q11_4 : ¬ (w7.heap.size = w11.heap.size) := by omega
    have q11_5 : ¬ (w11.heap.size = w7.heap.size) := by omega
    have q11_6 : w7.heap.size < w11.heap.size := by omega
    have q11_7 : w7.heap.size < w11.heap.size + 1 := by omega
    have q11_8 : ¬ (b8 = w11.heap.size) := by omega
    have q11_9 : ¬ (w11.heap.size = b8) := by omega
    have q11_10 : b8 < w11.heap.size := by omega
    have q11_11 : b8 < w11.heap.size + 1 := by omega
    have q11_12 : ¬ (w2.heap.size = w11.heap.size) := by omega
    have q11_13 : ¬ (w11.heap.size = w2.heap.size) := by omega
    have q11_14 : w2.heap.size < w11.heap.size := by omega
    have q11_15 : w2.heap.size < w11.heap.size + 1 := by omega
    have q11_16 : ¬ (w.heap.size + 1 + 1 = w11.heap.size) := by omega
    have q11_17 : ¬ (w11.heap.size = w.heap.size + 1 + 1) := by omega
    have q11_18 : w.heap.size + 1 + 1 < w11.heap.size := by omega
    have q11_19 : w.heap.size + 1 + 1 < w11.heap.size + 1 := by omega
    have q11_20 : ¬ (w.heap.size + 1 = w11.heap.size) := by omega
    have q11_21 : ¬ (w11.heap.size = w.heap.size + 1) := by omega
    have q11_22 : w.heap.size + 1 < w11.heap.size := by omega
    have q11_23 : w.heap.size + 1 < w11.heap.size + 1 := by omega
    have q11_24 : ¬ (w.heap.size = w11.heap.size) := by omega
    have q11_25 : ¬ (w11.heap.size = w.heap.size) := by omega
    have q11_26 : w.heap.size < w11.heap.size := by omega
    have q11_27 : w.heap.size < w11.heap.size + 1 := by omega
    have q11_28 : ¬ (w6.heap.size = w7.heap.size) := by omega
    have q11_29 : ¬ (w7.heap.size = w6.heap.size) := by omega
    have q11_30 : ¬ (w6.heap.size = b8) := by omega
    have q11_31 : ¬ (b8 = w6.heap.size) := by omega
    have q11_32 : ¬ (w6.heap.size = w2.heap.size) := by omega
    have q11_33 : ¬ (w2.heap.size = w6.heap.size) := by omega
    have q11_34 : ¬ (w6.heap.size = w.heap.size + 1 + 1) := by omega
    have q11_35 : ¬ (w.heap.size + 1 + 1 = w6.heap.size) := by omega
    have q11_36 : ¬ (w6.heap.size = w.heap.size + 1) := by omega
    have q11_37 : ¬ (w.heap.size + 1 = w6.heap.size) := by omega
    have q11_38 : ¬ (w6.heap.size = w.heap.size) := by omega
    have q11_39 : ¬ (w.heap.size = w6.heap.size) := by omega
    have q11_40 : ¬ (w7.heap.size = b8) := by omega
    have q11_41 : ¬ (b8 = w7.heap.size) := by omega
    have q11_42 : ¬ (w7.heap.size = w2.heap.size) := by omega
    have q11_43 : ¬ (w2.heap.size = w7.heap.size) := by omega
    have q11_44 : ¬ (w7.heap.size = w.heap.size + 1 + 1) := by omega
    have q11_45 : ¬ (w.heap.size + 1 + 1 = w7.heap.size) := by omega
    have q11_46 : ¬ (w7.heap.size = w.heap.size + 1) := by omega
    have q11_47 : ¬ (w.heap.size + 1 = w7.heap.size) := by omega
    have q11_48 : ¬ (w7.heap.size = w.heap.size) := by omega
    have q11_49 : ¬ (w.heap.size = w7.heap.size) := by omega
    go_upto_region 10 with fail
    have HX := H11.drew
    have PX := P_11.drew
    have QX := Q_11.drew
    clear H10 HC PC QC P_10 Q_10
    go_region_held3 (fun X => (∀ j, X.cell? ⟨w.heap.size, j, none⟩ = [.int .i64 s.a, .int .i64 s.b, .int .i64 s.c, .int .i64 s.d, .int .i64 s.e, .int .i64 s.f][j]?) ∧ (∀ j, X.cell? ⟨w.heap.size + 1, j, none⟩ = [.int .i64 t.a, .int .i64 t.b, .int .i64 t.c, .int .i64 t.d, .int .i64 t.e, .int .i64 t.f][j]?) ∧ (∀ j, X.cell? ⟨w.heap.size + 1 + 1, j, none⟩ = [.int .i64 a, .int .i64 b][j]?)) (with_reducible first | exact ⟨(HX.at 4 rfl).c, (HX.at 3 rfl).c, (HX.at 2 rfl).c⟩ | exact ⟨(HD.at 4 rfl).c, (HD.at 3 rfl).c, (HD.at 2 rfl).c⟩ | exact ⟨(HE.at 4 rfl).c, (HE.at 3 rfl).c, (HE.at 2 rfl).c⟩ | exact ⟨(HF.at 4 rfl).c, (HF.at 3 rfl).c, (HF.at 2 rfl).c⟩)
      (first
        | (have hm := hmarkE; go_at_call 17; refine (rfhits_any s t a b _).mono ?_; rintro e wF ⟨rfl, hb⟩; rw [X3.out]; have HF := HE.call hb; have PF := PE.kept hb; have QF := QE.kept hb; have hmarkF : wF = wF := rfl)
        | (have hm := hmarkD; go_at_call 11; refine (theirs_any t _).mono ?_; rintro e wE ⟨rfl, hb⟩; have HE := HD.call hb; have PE := PD.kept hb; have QE := QD.kept hb; have hmarkE : wE = wE := rfl)
        | (go_at_call 11; refine (theirs_any s _).mono ?_; rintro e wD ⟨rfl, hb⟩; have HD := HX.call hb; have PD := PX.kept hb; have QD := QX.kept hb; have hmarkD : wD = wD := rfl))
    have H14 := HF
    have P_14 := PF
    have Q_14 := QF
    have hs14 := H14.size
    have P_14l := P_14.lt
    have Q_14l := Q_14.lt
    have hz14 : w7.heap.size < wF.heap.size := Q_14.lt
    clear h2_11 h3_11 h4_11 P_11c P_11f Q_11c Q_11f q11_0 q11_1 q11_2 q11_3 q11_4 q11_5 q11_6 q11_7 q11_8 q11_9 q11_10 q11_11 q11_12 q11_13 q11_14 q11_15 q11_16 q11_17 q11_18 q11_19 q11_20 q11_21 q11_22 q11_23 q11_24 q11_25 q11_26 q11_27 q11_28 q11_29 q11_30 q11_31 q11_32 q11_33 q11_34 q11_35 q11_36 q11_37 q11_38 q11_39 q11_40 q11_41 q11_42 q11_43 q11_44 q11_45 q11_46 q11_47 q11_48 q11_49 HX PX QX HD PD QD HE PE QE HF PF QF
    have h2_14 := (H14.at 2 rfl).c
    have P_14c := P_14.c
    have P_14f := P_14.f
    have Q_14c := Q_14.c
    have Q_14f := Q_14.f
    go_wp2_with fail
    refine (crit_any a b _).mono ?_
    rintro r w15 ⟨rfl, hb⟩
    rw [X4.out]
    have H15 : Ho w w15 (w5.heap.size) [(b8, [.int .i64 d0, .int .i64 d1, .int .i64 d2, .int .i64 d3, .int .i64 d4, .int .i64 d5]), (w2.heap.size, [.int .i64 d0, .int .i64 d1, .int .i64 d2, .int .i64 d3, .int .i64 d4, .int .i64 d5]), (w.heap.size + 1 + 1, [.int .i64 a, .int .i64 b]), (w.heap.size + 1, [.int .i64 t.a, .int .i64 t.b, .int .i64 t.c, .int .i64 t.d, .int .i64 t.e, .int .i64 t.f]), (w.heap.size, [.int .i64 s.a, .int .i64 s.b, .int .i64 s.c, .int .i64 s.d, .int .i64 s.e, .int .i64 s.f])] := Ho.call (by
      (repeat (first | with_reducible exact H14 | with_reducible refine Ho.alc ?_ _ | with_reducible refine Ho.drew ?_ | with_reducible refine Ho.put ?_ (by omega)))) hb
    have P_15 : Bx w15 (w6.heap.size) [.int .i64 p1, .int .i64 q1] := Bx.kept (by
      (repeat (first | with_reducible exact P_14 | with_reducible refine Bx.alc ?_ _ | with_reducible refine Bx.drew ?_ | with_reducible refine Bx.set ?_ (by omega)))) hb
    have Q_15 : Bx w15 (w7.heap.size) [.int .i64 p1, .int .i64 q1] := Bx.kept (by
      (repeat (first | with_reducible exact Q_14 | with_reducible refine Bx.alc ?_ _ | with_reducible refine Bx.drew ?_ | with_reducible refine Bx.set ?_ (by omega)))) hb
    clear h2_14 P_14c P_14f Q_14c Q_14f
    have hs15 := H15.size
    have hz15 := hb.size
    (try simp at hz15)
    clear hb
    have h2_15 := (H15.at 2 rfl).c
    have P_15c := P_15.c
    have P_15f := P_15.f
    have P_15l := P_15.lt
    have Q_15c := Q_15.c
    have Q_15f := Q_15.f
    have Q_15l := Q_15.lt
    have q15_0 : ¬ (w6.heap.size = w15.heap.size) := by omega
    have q15_1 : ¬ (w15.heap.size = w6.heap.size) := by omega
    have q15_2 : w6.heap.size < w15.heap.size := by omega
    have q15_3 : w6.heap.size < w15.heap.size + 1 := by omega
    have q15_4 : ¬ (w7.heap.size = w15.heap.size) := by omega
    have q15_5 : ¬ (w15.heap.size = w7.heap.size) := by omega
    have q15_6 : w7.heap.size < w15.heap.size := by omega
    have q15_7 : w7.heap.size < w15.heap.size + 1 := by omega
    have q15_8 : ¬ (b8 = w15.heap.size) := by omega
    have q15_9 : ¬ (w15.heap.size = b8) := by omega
    have q15_10 : b8 < w15.heap.size := by omega
    have q15_11 : b8 < w15.heap.size + 1 := by omega
    have q15_12 : ¬ (w2.heap.size = w15.heap.size) := by omega
    have q15_13 : ¬ (w15.heap.size = w2.heap.size) := by omega
    have q15_14 : w2.heap.size < w15.heap.size := by omega
    have q15_15 : w2.heap.size < w15.heap.size + 1 := by omega
    have q15_16 : ¬ (w.heap.size + 1 + 1 = w15.heap.size) := by omega
    have q15_17 : ¬ (w15.heap.size = w.heap.size + 1 + 1) := by omega
    have q15_18 : w.heap.size + 1 + 1 < w15.heap.size := by omega
    have q15_19 : w.heap.size + 1 + 1 < w15.heap.size + 1 := by omega
    have q15_20 : ¬ (w.heap.size + 1 = w15.heap.size) := by omega
    have q15_21 : ¬ (w15.heap.size = w.heap.size + 1) := by omega
    have q15_22 : w.heap.size + 1 < w15.heap.size := by omega
    have q15_23 : w.heap.size + 1 < w15.heap.size + 1 := by omega
    have q15_24 : ¬ (w.heap.size = w15.heap.size) := by omega
    have q15_25 : ¬ (w15.heap.size = w.heap.size) := by omega
    have q15_26 : w.heap.size < w15.heap.size := by omega
    have q15_27 : w.heap.size < w15.heap.size + 1 := by omega
    have q15_28 : ¬ (w6.heap.size = w7.heap.size) := by omega
    have q15_29 : ¬ (w7.heap.size = w6.heap.size) := by omega
    have q15_30 : ¬ (w6.heap.size = b8) := by omega
    have q15_31 : ¬ (b8 = w6.heap.size) := by omega
    have q15_32 : ¬ (w6.heap.size = w2.heap.size) := by omega
    have q15_33 : ¬ (w2.heap.size = w6.heap.size) := by omega
    have q15_34 : ¬ (w6.heap.size = w.heap.size + 1 + 1) := by omega
    have q15_35 : ¬ (w.heap.size + 1 + 1 = w6.heap.size) := by omega
    have q15_36 : ¬ (w6.heap.size = w.heap.size + 1) := by omega
    have q15_37 : ¬ (w.heap.size + 1 = w6.heap.size) := by omega
    have q15_38 : ¬ (w6.heap.size = w.heap.size) := by omega
    have q15_39 : ¬ (w.heap.size = w6.heap.size) := by omega
    have q15_40 : ¬ (w7.heap.size = b8) := by omega
    have q15_41 : ¬ (b8 = w7.heap.size) := by omega
    have q15_42 : ¬ (w7.heap.size = w2.heap.size) := by omega
    have q15_43 : ¬ (w2.heap.size = w7.heap.size) := by omega
    have q15_44 : ¬ (w7.heap.size = w.heap.size + 1 + 1) := by omega
    have q15_45 : ¬ (w.heap.size + 1 + 1 = w7.heap.size) := by omega
    have q15_46 : ¬ (w7.heap.size = w.heap.size + 1) := by omega
    have q15_47 : ¬ (w.heap.size + 1 = w7.heap.size) := by omega
    have q15_48 : ¬ (w7.heap.size = w.heap.size) := by omega
    have q15_49 : ¬ (w.heap.size = w7.heap.size) := by omega
    go_wp2_with fail
    refine (rfcrit_any a b _).mono ?_
    rintro r w16 ⟨rfl, hb⟩
    rw [X4.out]
    have H16 : Ho w w16 (w5.heap.size) [(b8, [.int .i64 d0, .int .i64 d1, .int .i64 d2, .int .i64 d3, .int .i64 d4, .int .i64 d5]), (w2.heap.size, [.int .i64 d0, .int .i64 d1, .int .i64 d2, .int .i64 d3, .int .i64 d4, .int .i64 d5]), (w.heap.size + 1 + 1, [.int .i64 a, .int .i64 b]), (w.heap.size + 1, [.int .i64 t.a, .int .i64 t.b, .int .i64 t.c, .int .i64 t.d, .int .i64 t.e, .int .i64 t.f]), (w.heap.size, [.int .i64 s.a, .int .i64 s.b, .int .i64 s.c, .int .i64 s.d, .int .i64 s.e, .int .i64 s.f])] := Ho.call (by
      (repeat (first | with_reducible exact H15 | with_reducible refine Ho.alc ?_ _ | with_reducible refine Ho.drew ?_ | with_reducible refine Ho.put ?_ (by omega)))) hb
    have P_16 : Bx w16 (w6.heap.size) [.int .i64 p2, .int .i64 q2] := Bx.kept (by
      (repeat (first | with_reducible exact P_15 | with_reducible apply Bx.put2))) hb
    have Q_16 : Bx w16 (w7.heap.size) [.int .i64 p1, .int .i64 q1] := Bx.kept (by
      (repeat (first | with_reducible exact Q_15 | with_reducible refine Bx.alc ?_ _ | with_reducible refine Bx.drew ?_ | with_reducible refine Bx.set ?_ (by omega)))) hb
    clear hb h2_15 P_15c P_15f Q_15c Q_15f q15_0 q15_1 q15_2 q15_3 q15_4 q15_5 q15_6 q15_7 q15_8 q15_9 q15_10 q15_11 q15_12 q15_13 q15_14 q15_15 q15_16 q15_17 q15_18 q15_19 q15_20 q15_21 q15_22 q15_23 q15_24 q15_25 q15_26 q15_27 q15_28 q15_29 q15_30 q15_31 q15_32 q15_33 q15_34 q15_35 q15_36 q15_37 q15_38 q15_39 q15_40 q15_41 q15_42 q15_43 q15_44 q15_45 q15_46 q15_47 q15_48 q15_49
    have P_16c := P_16.c
    have Q_16c := Q_16.c
    have Q_16f := Q_16.f
    have n1 : ¬ (w6.heap.size = w7.heap.size) := by omega
    have n2 : ¬ (w7.heap.size = w6.heap.size) := by omega
    go_wp2_with fail
    go_ret
    exact ⟨by first | rfl | simp, by
      refine Ho.below (n := w5.heap.size) (l := [(b8, [.int .i64 d0, .int .i64 d1, .int .i64 d2, .int .i64 d3, .int .i64 d4, .int .i64 d5]), (w2.heap.size, [.int .i64 d0, .int .i64 d1, .int .i64 d2, .int .i64 d3, .int .i64 d4, .int .i64 d5]), (w.heap.size + 1 + 1, [.int .i64 a, .int .i64 b]), (w.heap.size + 1, [.int .i64 t.a, .int .i64 t.b, .int .i64 t.c, .int .i64 t.d, .int .i64 t.e, .int .i64 t.f]), (w.heap.size, [.int .i64 s.a, .int .i64 s.b, .int .i64 s.c, .int .i64 s.d, .int .i64 s.e, .int .i64 s.f])]) ?_
      (repeat (first | with_reducible exact H16 | with_reducible refine Ho.alc ?_ _ | with_reducible refine Ho.drew ?_ | with_reducible refine Ho.put ?_ (by omega)))⟩
end Go.Proofs.Ytjppcndhaejfpaa.Iv
