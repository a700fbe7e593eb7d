/- RefractionRefract: Refract returns what the reference does. -/
import Derived.Test.YtjppcndhaejfpaaDrd
import Derived.Test.YtjppcndhaejfpaaRj
namespace Go.Proofs.Ytjppcndhaejfpaa.Iv
open Go.RowKit

structure Ry (s t : D) (a b d0 d1 d2 d3 d4 d5 p q u v er : Int) (nb cb : Nat) (w0 w : World) (l0 l1 l2 l3 l4 l5 l6 l7 l8 l9 l10 l11 l12 l13 l14 l15 l16 l17 : Bool) (v0 v1 v2 v3 v4 v5 v6 v7 v8 v9 v10 v11 v12 v13 v17 : Value) (b11 b12 b13 : Nat) : Prop where
  g : Ho w0 w (nb + 1 + 1 + 1) [(nb + 1 + 1, [.int .i64 a, .int .i64 b]), (nb + 1, [.int .i64 t.a, .int .i64 t.b, .int .i64 t.c, .int .i64 t.d, .int .i64 t.e, .int .i64 t.f]), (nb, [.int .i64 s.a, .int .i64 s.b, .int .i64 s.c, .int .i64 s.d, .int .i64 s.e, .int .i64 s.f])]
  sz : (cb + 1 + 1 + 1) ≤ w.heap.size
  mn : (nb + 1 + 1 + 1) ≤ (cb + 1 + 1 + 1)
  u0 : Bx w cb [.int .i64 d0, .int .i64 d1, .int .i64 d2, .int .i64 d3, .int .i64 d4, .int .i64 d5]
  un0 : cb < (cb + 1 + 1 + 1)
  u1 : Bx w (cb + 1) [.int .i64 p, .int .i64 q]
  un1 : (cb + 1) < (cb + 1 + 1 + 1)
  u2 : Bx w (cb + 1 + 1) [.int .i64 u, .int .i64 v]
  un2 : (cb + 1 + 1) < (cb + 1 + 1 + 1)
  ev0 : l0 = true → v0 = (dv s)
  ev1 : l1 = true → v1 = (dv s)
  ev2 : l2 = true → v2 = (dv t)
  ev3 : l3 = true → v3 = (dv t)
  ev4 : l4 = true → v4 = (iv a b)
  ev5 : l5 = true → v5 = .tuple #[(dv ⟨d0, d1, d2, d3, d4, d5⟩), (iv p q), (iv u v), .int .i64 er]
  ev6 : l6 = true → v6 = .tuple #[(dv ⟨d0, d1, d2, d3, d4, d5⟩), (iv p q), (iv u v), .int .i64 er]
  ev7 : l7 = true → v7 = (dv ⟨d0, d1, d2, d3, d4, d5⟩)
  ev8 : l8 = true → v8 = (iv p q)
  ev9 : l9 = true → v9 = (iv u v)
  ev10 : l10 = true → v10 = .int .i64 er
  ev11 : l11 = true → v11 = .pointer (some ⟨b11, 0, none⟩)
  ev12 : l12 = true → v12 = .pointer (some ⟨b12, 0, none⟩)
  ev13 : l13 = true → v13 = .pointer (some ⟨b13, 0, none⟩)
  ev17 : l17 = true → v17 = .int .i64 er
  g11 : l11 = true → (cb + 1 + 1 + 1) ≤ b11
  t11 : l11 = true → b11 < w.heap.size
  o11 : l14 = true → l11 = true
  z11 : l11 = true → l14 = false → Bx w b11 [.int .i64 0, .int .i64 0, .int .i64 0, .int .i64 0, .int .i64 0, .int .i64 0]
  s11 : l14 = true → Bx w b11 [.int .i64 d0, .int .i64 d1, .int .i64 d2, .int .i64 d3, .int .i64 d4, .int .i64 d5]
  g12 : l12 = true → (cb + 1 + 1 + 1) ≤ b12
  t12 : l12 = true → b12 < w.heap.size
  o12 : l15 = true → l12 = true
  z12 : l12 = true → l15 = false → Bx w b12 [.int .i64 0, .int .i64 0]
  s12 : l15 = true → Bx w b12 [.int .i64 p, .int .i64 q]
  g13 : l13 = true → (cb + 1 + 1 + 1) ≤ b13
  t13 : l13 = true → b13 < w.heap.size
  o13 : l16 = true → l13 = true
  z13 : l13 = true → l16 = false → Bx w b13 [.int .i64 0, .int .i64 0]
  s13 : l16 = true → Bx w b13 [.int .i64 u, .int .i64 v]
  d11_12 : l11 = true → l12 = true → ¬ (b11 = b12)
  d11_13 : l11 = true → l13 = true → ¬ (b11 = b13)
  d12_13 : l12 = true → l13 = true → ¬ (b12 = b13)
theorem Ry.kept {s t : D} {a b d0 d1 d2 d3 d4 d5 p q u v er : Int} {nb cb : Nat} {w0 w : World} {l0 l1 l2 l3 l4 l5 l6 l7 l8 l9 l10 l11 l12 l13 l14 l15 l16 l17 : Bool} {v0 v1 v2 v3 v4 v5 v6 v7 v8 v9 v10 v11 v12 v13 v17 : Value} {b11 b12 b13 : Nat} {w' : World} (h : Ry s t a b d0 d1 d2 d3 d4 d5 p q u v er nb cb w0 w l0 l1 l2 l3 l4 l5 l6 l7 l8 l9 l10 l11 l12 l13 l14 l15 l16 l17 v0 v1 v2 v3 v4 v5 v6 v7 v8 v9 v10 v11 v12 v13 v17 b11 b12 b13) (hb : Below w.heap.size w w') : Ry s t a b d0 d1 d2 d3 d4 d5 p q u v er nb cb w0 w' l0 l1 l2 l3 l4 l5 l6 l7 l8 l9 l10 l11 l12 l13 l14 l15 l16 l17 v0 v1 v2 v3 v4 v5 v6 v7 v8 v9 v10 v11 v12 v13 v17 b11 b12 b13 :=
  { h with g := h.g.call hb, sz := Nat.le_trans h.sz hb.size, u0 := h.u0.kept hb, u1 := h.u1.kept hb, u2 := h.u2.kept hb, t11 := fun p => Nat.lt_of_lt_of_le (h.t11 p) hb.size, z11 := fun p q => (h.z11 p q).kept hb, s11 := fun p => (h.s11 p).kept hb, t12 := fun p => Nat.lt_of_lt_of_le (h.t12 p) hb.size, z12 := fun p q => (h.z12 p q).kept hb, s12 := fun p => (h.s12 p).kept hb, t13 := fun p => Nat.lt_of_lt_of_le (h.t13 p) hb.size, z13 := fun p q => (h.z13 p q).kept hb, s13 := fun p => (h.s13 p).kept hb }
def Ry.I (s t : D) (a b d0 d1 d2 d3 d4 d5 p q u v er : Int) (nb cb : Nat) (w0 : World) : Act → Array Bool → Act → World → Prop := fun aO LX aX w => ∃ (l0 l1 l2 l3 l4 l5 l6 l7 l8 l9 l10 l11 l12 l13 l14 l15 l16 l17 : Bool) (v0 v1 v2 v3 v4 v5 v6 v7 v8 v9 v10 v11 v12 v13 v17 : Value) (b11 b12 b13 : Nat), LX = #[l0, l1, l2, l3, l4, l5, l6, l7, l8, l9, l10, l11, l12, l13, l14, l15, l16, l17] ∧ aX = (((((((((((((((aO.put (some 27) v0).put (some 28) v1).put (some 29) v2).put (some 30) v3).put (some 31) v4).put (some 32) v5).put (some 26) v6).put (some 33) v7).put (some 34) v8).put (some 35) v9).put (some 36) v10).put (some 11) v11).put (some 12) v12).put (some 13) v13).put (some 14) v17) ∧ Ry s t a b d0 d1 d2 d3 d4 d5 p q u v er nb cb w0 w l0 l1 l2 l3 l4 l5 l6 l7 l8 l9 l10 l11 l12 l13 l14 l15 l16 l17 v0 v1 v2 v3 v4 v5 v6 v7 v8 v9 v10 v11 v12 v13 v17 b11 b12 b13
set_option maxRecDepth 100000 in
set_option maxHeartbeats 16000000 in
theorem refract29_any (s t : D) (a b : Int) (w : World) :
    Calls Try.prog 4 #[dv s, dv t, iv a b] w fun e w' => e = .returned (.bool true) ∧ Below w.heap.size w w' := by
  obtain ⟨⟨⟨d0, d1, d2, d3, d4, d5⟩, p, q, u, v, er⟩, hr⟩ : ∃ f : RF, refrR s t a b = f := ⟨_, rfl⟩
  have XR := Lib.hid hr
  clear hr
  have H0 := ((((Ho.nil w).bx [.int .i64 s.a, .int .i64 s.b, .int .i64 s.c, .int .i64 s.d, .int .i64 s.e, .int .i64 s.f] 25 (w.heap.size) (by simp)).bx [.int .i64 t.a, .int .i64 t.b, .int .i64 t.c, .int .i64 t.d, .int .i64 t.e, .int .i64 t.f] 25 (w.heap.size + 1) (by simp)).bx [.int .i64 a, .int .i64 b] 23 (w.heap.size + 1 + 1) (by simp))
  go_enter Try.func4, Try.ntmps4
  go_wp2_with fail
  refine (awake29_any _).mono ?_
  rintro r w1 ⟨rfl, hb⟩
  have H1 : Ho w w1 (w.heap.size + 1 + 1 + 1) [(w.heap.size + 1 + 1, [.int .i64 a, .int .i64 b]), (w.heap.size + 1, [.int .i64 t.a, .int .i64 t.b, .int .i64 t.c, .int .i64 t.d, .int .i64 t.e, .int .i64 t.f]), (w.heap.size, [.int .i64 s.a, .int .i64 s.b, .int .i64 s.c, .int .i64 s.d, .int .i64 s.e, .int .i64 s.f])] := Ho.call (by
    (repeat (first | with_reducible exact H0 | with_reducible refine Ho.alc ?_ _ | with_reducible refine Ho.drew ?_ | with_reducible refine Ho.put ?_ (by omega)))) hb
  have hs1 := H1.size
  have hz1 := hb.size
  (try simp at hz1)
  clear hb
  have h0_1 := (H1.at 2 rfl).c
  have h1_1 := (H1.at 1 rfl).c
  have h2_1 := (H1.at 0 rfl).c
  have q1_0 : ¬ (w.heap.size = w1.heap.size) := by omega
  have q1_1 : ¬ (w1.heap.size = w.heap.size) := by omega
  have q1_2 : w.heap.size < w1.heap.size := by omega
  have q1_3 : w.heap.size < w1.heap.size + 1 := by omega
  have q1_4 : ¬ (w.heap.size + 1 = w1.heap.size) := by omega
  have q1_5 : ¬ (w1.heap.size = w.heap.size + 1) := by omega
  have q1_6 : w.heap.size + 1 < w1.heap.size := by omega
  have q1_7 : w.heap.size + 1 < w1.heap.size + 1 := by omega
  have q1_8 : ¬ (w.heap.size + 1 + 1 = w1.heap.size) := by omega
  have q1_9 : ¬ (w1.heap.size = w.heap.size + 1 + 1) := by omega
  have q1_10 : w.heap.size + 1 + 1 < w1.heap.size := by omega
  have q1_11 : w.heap.size + 1 + 1 < w1.heap.size + 1 := by omega
  go_wp2_with fail
  refine (refr_any s t a b _).mono ?_
  rintro r w2 ⟨rfl, hb⟩
  rw [XR.out]
  unfold retF
  dsimp only
  have H2 : Ho w w2 (w.heap.size + 1 + 1 + 1) [(w.heap.size + 1 + 1, [.int .i64 a, .int .i64 b]), (w.heap.size + 1, [.int .i64 t.a, .int .i64 t.b, .int .i64 t.c, .int .i64 t.d, .int .i64 t.e, .int .i64 t.f]), (w.heap.size, [.int .i64 s.a, .int .i64 s.b, .int .i64 s.c, .int .i64 s.d, .int .i64 s.e, .int .i64 s.f])] := Ho.call (by
    (repeat (first | with_reducible exact H1 | with_reducible refine Ho.alc ?_ _ | with_reducible refine Ho.drew ?_ | with_reducible refine Ho.put ?_ (by omega)))) hb
  clear h0_1 h1_1 h2_1 q1_0 q1_1 q1_2 q1_3 q1_4 q1_5 q1_6 q1_7 q1_8 q1_9 q1_10 q1_11
  have hs2 := H2.size
  have hz2 := hb.size
  (try simp at hz2)
  clear hb
  have h0_2 := (H2.at 2 rfl).c
  have h1_2 := (H2.at 1 rfl).c
  have h2_2 := (H2.at 0 rfl).c
  have q2_0 : ¬ (w.heap.size = w2.heap.size) := by omega
  have q2_1 : ¬ (w2.heap.size = w.heap.size) := by omega
  have q2_2 : w.heap.size < w2.heap.size := by omega
  have q2_3 : w.heap.size < w2.heap.size + 1 := by omega
  have q2_4 : ¬ (w.heap.size + 1 = w2.heap.size) := by omega
  have q2_5 : ¬ (w2.heap.size = w.heap.size + 1) := by omega
  have q2_6 : w.heap.size + 1 < w2.heap.size := by omega
  have q2_7 : w.heap.size + 1 < w2.heap.size + 1 := by omega
  have q2_8 : ¬ (w.heap.size + 1 + 1 = w2.heap.size) := by omega
  have q2_9 : ¬ (w2.heap.size = w.heap.size + 1 + 1) := by omega
  have q2_10 : w.heap.size + 1 + 1 < w2.heap.size := by omega
  have q2_11 : w.heap.size + 1 + 1 < w2.heap.size + 1 := by omega
  go_upto_region 4 with fail
  refine region_sets (Ry.I s t a b d0 d1 d2 d3 d4 d5 p q u v er w.heap.size w2.heap.size w) (by kernel_rfl) ?_ ?_ ?_
  · refine ⟨false, false, false, false, false, false, false, false, false, false, false, false, false, false, false, false, false, false, undef, undef, undef, undef, undef, undef, undef, undef, undef, undef, undef, undef, undef, undef, undef, 0, 0, 0, rfl, by simp only [Act.put, List.setIfInBounds_toArray, List.set_cons_zero, List.set_cons_succ], ?_⟩
    constructor
    · (repeat (first | with_reducible exact H2 | with_reducible refine Ho.alc ?_ _ | with_reducible refine Ho.drew ?_ | with_reducible refine Ho.put ?_ (by omega)))
    · (first | (simp; done) | (simp; omega))
    · (omega)
    · (repeat (first | (with_reducible refine Bx.new ?_; (· (simp; done))) | with_reducible apply Bx.put6 | with_reducible apply Bx.put2 | with_reducible apply Bx.put1 | with_reducible refine Bx.set ?_ (by omega) | with_reducible refine Bx.alc ?_ _ | with_reducible refine Bx.drew ?_))
    · (omega)
    · (repeat (first | (with_reducible refine Bx.new ?_; (· (simp; done))) | with_reducible apply Bx.put6 | with_reducible apply Bx.put2 | with_reducible apply Bx.put1 | with_reducible refine Bx.set ?_ (by omega) | with_reducible refine Bx.alc ?_ _ | with_reducible refine Bx.drew ?_))
    · (omega)
    · (repeat (first | (with_reducible refine Bx.new ?_; (· (simp; done))) | with_reducible apply Bx.put6 | with_reducible apply Bx.put2 | with_reducible apply Bx.put1 | with_reducible refine Bx.set ?_ (by omega) | with_reducible refine Bx.alc ?_ _ | with_reducible refine Bx.drew ?_))
    · (omega)
    all_goals (intro h; cases h)
  · intro L a' w' hI i hi
    obtain ⟨l0, l1, l2, l3, l4, l5, l6, l7, l8, l9, l10, l11, l12, l13, l14, l15, l16, l17, v0, v1, v2, v3, v4, v5, v6, v7, v8, v9, v10, v11, v12, v13, v17, b11, b12, b13, rfl, rfl, h⟩ := hI
    have hlt := ready_lt hi
    match i, hi, hlt with
    | 0, hi, _ =>
      have l' : l0 = false := (ready_op (o := _) rfl hi).1
      subst l'
      clear hi hlt
      have c := (h.g.at 2 rfl).c
      have H := Lib.hid h
      clear h
      refine wpOp_shut rfl (fun K hK => ?_)
      try simp only [Act.put, List.setIfInBounds_toArray, List.set_cons_zero, List.set_cons_succ]
      go_simp
      refine hK.out _ _ ?_
      unfold Ry.I
      refine ⟨true, l1, l2, l3, l4, l5, l6, l7, l8, l9, l10, l11, l12, l13, l14, l15, l16, l17, ((dv s)), v1, v2, v3, v4, v5, v6, v7, v8, v9, v10, v11, v12, v13, v17, b11, b12, b13, rfl, ?_, ?_⟩
      · simp only [Act.put, List.setIfInBounds_toArray, List.set_cons_zero, List.set_cons_succ]
      · exact { H.out with ev0 := fun _ => rfl }
    | 1, hi, _ =>
      have l' : l1 = false := (ready_op (o := _) rfl hi).1
      subst l'
      have k0 : l0 = true := (ready_op (o := _) rfl hi).2 { on := 0, ground := .data } (by simp) rfl
      clear hi hlt
      subst k0
      obtain rfl := h.ev0 rfl
      have H := Lib.hid h
      clear h
      refine wpOp_shut rfl (fun K hK => ?_)
      try simp only [Act.put, List.setIfInBounds_toArray, List.set_cons_zero, List.set_cons_succ]
      go_simp
      refine (theirs_any s _).mono ?_
      rintro e wY ⟨rfl, hb⟩
      try go_simp
      refine hK.out _ _ ?_
      unfold Ry.I
      refine ⟨true, true, l2, l3, l4, l5, l6, l7, l8, l9, l10, l11, l12, l13, l14, l15, l16, l17, ((dv s)), ((dv s)), v2, v3, v4, v5, v6, v7, v8, v9, v10, v11, v12, v13, v17, b11, b12, b13, rfl, ?_, ?_⟩
      · simp only [Act.put, List.setIfInBounds_toArray, List.set_cons_zero, List.set_cons_succ]
      · exact { (H.out.kept hb) with ev1 := fun _ => rfl }
    | 2, hi, _ =>
      have l' : l2 = false := (ready_op (o := _) rfl hi).1
      subst l'
      clear hi hlt
      have c := (h.g.at 1 rfl).c
      have H := Lib.hid h
      clear h
      refine wpOp_shut rfl (fun K hK => ?_)
      try simp only [Act.put, List.setIfInBounds_toArray, List.set_cons_zero, List.set_cons_succ]
      go_simp
      refine hK.out _ _ ?_
      unfold Ry.I
      refine ⟨l0, l1, true, l3, l4, l5, l6, l7, l8, l9, l10, l11, l12, l13, l14, l15, l16, l17, v0, v1, ((dv t)), v3, v4, v5, v6, v7, v8, v9, v10, v11, v12, v13, v17, b11, b12, b13, rfl, ?_, ?_⟩
      · simp only [Act.put, List.setIfInBounds_toArray, List.set_cons_zero, List.set_cons_succ]
      · exact { H.out with ev2 := fun _ => rfl }
    | 3, hi, _ =>
      have l' : l3 = false := (ready_op (o := _) rfl hi).1
      subst l'
      have k2 : l2 = true := (ready_op (o := _) rfl hi).2 { on := 2, ground := .data } (by simp) rfl
      have k1 : l1 = true := (ready_op (o := _) rfl hi).2 { on := 1, ground := .chain } (by simp) rfl
      clear hi hlt
      subst k2
      subst k1
      obtain rfl := h.ev2 rfl
      obtain rfl := h.ev1 rfl
      have H := Lib.hid h
      clear h
      refine wpOp_shut rfl (fun K hK => ?_)
      try simp only [Act.put, List.setIfInBounds_toArray, List.set_cons_zero, List.set_cons_succ]
      go_simp
      refine (theirs_any t _).mono ?_
      rintro e wY ⟨rfl, hb⟩
      try go_simp
      refine hK.out _ _ ?_
      unfold Ry.I
      refine ⟨l0, true, true, true, l4, l5, l6, l7, l8, l9, l10, l11, l12, l13, l14, l15, l16, l17, v0, ((dv s)), ((dv t)), ((dv t)), v4, v5, v6, v7, v8, v9, v10, v11, v12, v13, v17, b11, b12, b13, rfl, ?_, ?_⟩
      · simp only [Act.put, List.setIfInBounds_toArray, List.set_cons_zero, List.set_cons_succ]
      · exact { (H.out.kept hb) with ev3 := fun _ => rfl }
    | 4, hi, _ =>
      have l' : l4 = false := (ready_op (o := _) rfl hi).1
      subst l'
      clear hi hlt
      have c := (h.g.at 0 rfl).c
      have H := Lib.hid h
      clear h
      refine wpOp_shut rfl (fun K hK => ?_)
      try simp only [Act.put, List.setIfInBounds_toArray, List.set_cons_zero, List.set_cons_succ]
      go_simp
      refine hK.out _ _ ?_
      unfold Ry.I
      refine ⟨l0, l1, l2, l3, true, l5, l6, l7, l8, l9, l10, l11, l12, l13, l14, l15, l16, l17, v0, v1, v2, v3, ((iv a b)), v5, v6, v7, v8, v9, v10, v11, v12, v13, v17, b11, b12, b13, rfl, ?_, ?_⟩
      · simp only [Act.put, List.setIfInBounds_toArray, List.set_cons_zero, List.set_cons_succ]
      · exact { H.out with ev4 := fun _ => rfl }
    | 5, hi, _ =>
      have l' : l5 = false := (ready_op (o := _) rfl hi).1
      subst l'
      have k1 : l1 = true := (ready_op (o := _) rfl hi).2 { on := 1, ground := .data } (by simp) rfl
      have k3 : l3 = true := (ready_op (o := _) rfl hi).2 { on := 3, ground := .chain } (by simp) rfl
      have k4 : l4 = true := (ready_op (o := _) rfl hi).2 { on := 4, ground := .data } (by simp) rfl
      clear hi hlt
      subst k1
      subst k3
      subst k4
      obtain rfl := h.ev1 rfl
      obtain rfl := h.ev3 rfl
      obtain rfl := h.ev4 rfl
      have H := Lib.hid h
      clear h
      refine wpOp_shut rfl (fun K hK => ?_)
      try simp only [Act.put, List.setIfInBounds_toArray, List.set_cons_zero, List.set_cons_succ]
      go_simp
      refine (rfrefr_any s t a b _).mono ?_
      rintro e wY ⟨rfl, hb⟩
      rw [XR.out]
      unfold retF
      dsimp only
      try go_simp
      refine hK.out _ _ ?_
      unfold Ry.I
      refine ⟨l0, true, l2, true, true, true, l6, l7, l8, l9, l10, l11, l12, l13, l14, l15, l16, l17, v0, ((dv s)), v2, ((dv t)), ((iv a b)), (.tuple #[(dv ⟨d0, d1, d2, d3, d4, d5⟩), (iv p q), (iv u v), .int .i64 er]), v6, v7, v8, v9, v10, v11, v12, v13, v17, b11, b12, b13, rfl, ?_, ?_⟩
      · simp only [Act.put, List.setIfInBounds_toArray, List.set_cons_zero, List.set_cons_succ]
      · exact { (H.out.kept hb) with ev5 := fun _ => rfl }
    | 6, hi, _ =>
      have l' : l6 = false := (ready_op (o := _) rfl hi).1
      subst l'
      have k5 : l5 = true := (ready_op (o := _) rfl hi).2 { on := 5, ground := .data } (by simp) rfl
      clear hi hlt
      subst k5
      obtain rfl := h.ev5 rfl
      have H := Lib.hid h
      clear h
      refine wpOp_shut rfl (fun K hK => ?_)
      try simp only [Act.put, List.setIfInBounds_toArray, List.set_cons_zero, List.set_cons_succ]
      go_simp
      refine hK.out _ _ ?_
      unfold Ry.I
      refine ⟨l0, l1, l2, l3, l4, true, true, l7, l8, l9, l10, l11, l12, l13, l14, l15, l16, l17, v0, v1, v2, v3, v4, (.tuple #[(dv ⟨d0, d1, d2, d3, d4, d5⟩), (iv p q), (iv u v), .int .i64 er]), (.tuple #[(dv ⟨d0, d1, d2, d3, d4, d5⟩), (iv p q), (iv u v), .int .i64 er]), v7, v8, v9, v10, v11, v12, v13, v17, b11, b12, b13, rfl, ?_, ?_⟩
      · simp only [Act.put, List.setIfInBounds_toArray, List.set_cons_zero, List.set_cons_succ]
      · exact { H.out with ev6 := fun _ => rfl }
    | 7, hi, _ =>
      have l' : l7 = false := (ready_op (o := _) rfl hi).1
      subst l'
      have k6 : l6 = true := (ready_op (o := _) rfl hi).2 { on := 6, ground := .data } (by simp) rfl
      clear hi hlt
      subst k6
      obtain rfl := h.ev6 rfl
      have H := Lib.hid h
      clear h
      refine wpOp_shut rfl (fun K hK => ?_)
      try simp only [Act.put, List.setIfInBounds_toArray, List.set_cons_zero, List.set_cons_succ]
      go_simp
      refine hK.out _ _ ?_
      unfold Ry.I
      refine ⟨l0, l1, l2, l3, l4, l5, true, true, l8, l9, l10, l11, l12, l13, l14, l15, l16, l17, v0, v1, v2, v3, v4, v5, (.tuple #[(dv ⟨d0, d1, d2, d3, d4, d5⟩), (iv p q), (iv u v), .int .i64 er]), ((dv ⟨d0, d1, d2, d3, d4, d5⟩)), v8, v9, v10, v11, v12, v13, v17, b11, b12, b13, rfl, ?_, ?_⟩
      · simp only [Act.put, List.setIfInBounds_toArray, List.set_cons_zero, List.set_cons_succ]
      · exact { H.out with ev7 := fun _ => rfl }
    | 8, hi, _ =>
      have l' : l8 = false := (ready_op (o := _) rfl hi).1
      subst l'
      have k6 : l6 = true := (ready_op (o := _) rfl hi).2 { on := 6, ground := .data } (by simp) rfl
      clear hi hlt
      subst k6
      obtain rfl := h.ev6 rfl
      have H := Lib.hid h
      clear h
      refine wpOp_shut rfl (fun K hK => ?_)
      try simp only [Act.put, List.setIfInBounds_toArray, List.set_cons_zero, List.set_cons_succ]
      go_simp
      refine hK.out _ _ ?_
      unfold Ry.I
      refine ⟨l0, l1, l2, l3, l4, l5, true, l7, true, l9, l10, l11, l12, l13, l14, l15, l16, l17, v0, v1, v2, v3, v4, v5, (.tuple #[(dv ⟨d0, d1, d2, d3, d4, d5⟩), (iv p q), (iv u v), .int .i64 er]), v7, ((iv p q)), v9, v10, v11, v12, v13, v17, b11, b12, b13, rfl, ?_, ?_⟩
      · simp only [Act.put, List.setIfInBounds_toArray, List.set_cons_zero, List.set_cons_succ]
      · exact { H.out with ev8 := fun _ => rfl }
    | 9, hi, _ =>
      have l' : l9 = false := (ready_op (o := _) rfl hi).1
      subst l'
      have k6 : l6 = true := (ready_op (o := _) rfl hi).2 { on := 6, ground := .data } (by simp) rfl
      clear hi hlt
      subst k6
      obtain rfl := h.ev6 rfl
      have H := Lib.hid h
      clear h
      refine wpOp_shut rfl (fun K hK => ?_)
      try simp only [Act.put, List.setIfInBounds_toArray, List.set_cons_zero, List.set_cons_succ]
      go_simp
      refine hK.out _ _ ?_
      unfold Ry.I
      refine ⟨l0, l1, l2, l3, l4, l5, true, l7, l8, true, l10, l11, l12, l13, l14, l15, l16, l17, v0, v1, v2, v3, v4, v5, (.tuple #[(dv ⟨d0, d1, d2, d3, d4, d5⟩), (iv p q), (iv u v), .int .i64 er]), v7, v8, ((iv u v)), v10, v11, v12, v13, v17, b11, b12, b13, rfl, ?_, ?_⟩
      · simp only [Act.put, List.setIfInBounds_toArray, List.set_cons_zero, List.set_cons_succ]
      · exact { H.out with ev9 := fun _ => rfl }
    | 10, hi, _ =>
      have l' : l10 = false := (ready_op (o := _) rfl hi).1
      subst l'
      have k6 : l6 = true := (ready_op (o := _) rfl hi).2 { on := 6, ground := .data } (by simp) rfl
      clear hi hlt
      subst k6
      obtain rfl := h.ev6 rfl
      have H := Lib.hid h
      clear h
      refine wpOp_shut rfl (fun K hK => ?_)
      try simp only [Act.put, List.setIfInBounds_toArray, List.set_cons_zero, List.set_cons_succ]
      go_simp
      refine hK.out _ _ ?_
      unfold Ry.I
      refine ⟨l0, l1, l2, l3, l4, l5, true, l7, l8, l9, true, l11, l12, l13, l14, l15, l16, l17, v0, v1, v2, v3, v4, v5, (.tuple #[(dv ⟨d0, d1, d2, d3, d4, d5⟩), (iv p q), (iv u v), .int .i64 er]), v7, v8, v9, (.int .i64 er), v11, v12, v13, v17, b11, b12, b13, rfl, ?_, ?_⟩
      · simp only [Act.put, List.setIfInBounds_toArray, List.set_cons_zero, List.set_cons_succ]
      · exact { H.out with ev10 := fun _ => rfl }
    | 11, hi, _ =>
      have l' : l11 = false := (ready_op (o := _) rfl hi).1
      subst l'
      clear hi hlt
      have H := Lib.hid h
      clear h
      refine wpOp_shut rfl (fun K hK => ?_)
      try simp only [Act.put, List.setIfInBounds_toArray, List.set_cons_zero, List.set_cons_succ]
      go_simp
      refine hK.out _ _ ?_
      unfold Ry.I
      refine ⟨l0, l1, l2, l3, l4, l5, l6, l7, l8, l9, l10, true, l12, l13, l14, l15, l16, l17, v0, v1, v2, v3, v4, v5, v6, v7, v8, v9, v10, (.pointer (some ⟨w'.heap.size, 0, none⟩)), v12, v13, v17, w'.heap.size, b12, b13, rfl, ?_, ?_⟩
      · simp only [Act.put, List.setIfInBounds_toArray, List.set_cons_zero, List.set_cons_succ]
      · have h := H.out
        have h2 := h.kept ((Below.refl _ _).alloc (Nat.le_refl _) (.cells (List.toArray [.int .i64 0, .int .i64 0, .int .i64 0, .int .i64 0, .int .i64 0, .int .i64 0]) 30))
        exact { h2 with ev11 := fun _ => rfl, g11 := fun _ => h.sz, t11 := fun _ => by simp, o11 := fun p => rfl, z11 := fun _ _ => Bx.new rfl, s11 := fun p => (nomatch (h.o11 p)), d11_12 := fun _ p => Nat.ne_of_gt (h.t12 p), d11_13 := fun _ p => Nat.ne_of_gt (h.t13 p) }
    | 12, hi, _ =>
      have l' : l12 = false := (ready_op (o := _) rfl hi).1
      subst l'
      clear hi hlt
      have H := Lib.hid h
      clear h
      refine wpOp_shut rfl (fun K hK => ?_)
      try simp only [Act.put, List.setIfInBounds_toArray, List.set_cons_zero, List.set_cons_succ]
      go_simp
      refine hK.out _ _ ?_
      unfold Ry.I
      refine ⟨l0, l1, l2, l3, l4, l5, l6, l7, l8, l9, l10, l11, true, l13, l14, l15, l16, l17, v0, v1, v2, v3, v4, v5, v6, v7, v8, v9, v10, v11, (.pointer (some ⟨w'.heap.size, 0, none⟩)), v13, v17, b11, w'.heap.size, b13, rfl, ?_, ?_⟩
      · simp only [Act.put, List.setIfInBounds_toArray, List.set_cons_zero, List.set_cons_succ]
      · have h := H.out
        have h2 := h.kept ((Below.refl _ _).alloc (Nat.le_refl _) (.cells (List.toArray [.int .i64 0, .int .i64 0]) 23))
        exact { h2 with ev12 := fun _ => rfl, g12 := fun _ => h.sz, t12 := fun _ => by simp, o12 := fun p => rfl, z12 := fun _ _ => Bx.new rfl, s12 := fun p => (nomatch (h.o12 p)), d11_12 := fun p _ => Nat.ne_of_lt (h.t11 p), d12_13 := fun _ p => Nat.ne_of_gt (h.t13 p) }
    | 13, hi, _ =>
      have l' : l13 = false := (ready_op (o := _) rfl hi).1
      subst l'
      clear hi hlt
      have H := Lib.hid h
      clear h
      refine wpOp_shut rfl (fun K hK => ?_)
      try simp only [Act.put, List.setIfInBounds_toArray, List.set_cons_zero, List.set_cons_succ]
      go_simp
      refine hK.out _ _ ?_
      unfold Ry.I
      refine ⟨l0, l1, l2, l3, l4, l5, l6, l7, l8, l9, l10, l11, l12, true, l14, l15, l16, l17, v0, v1, v2, v3, v4, v5, v6, v7, v8, v9, v10, v11, v12, (.pointer (some ⟨w'.heap.size, 0, none⟩)), v17, b11, b12, w'.heap.size, rfl, ?_, ?_⟩
      · simp only [Act.put, List.setIfInBounds_toArray, List.set_cons_zero, List.set_cons_succ]
      · have h := H.out
        have h2 := h.kept ((Below.refl _ _).alloc (Nat.le_refl _) (.cells (List.toArray [.int .i64 0, .int .i64 0]) 23))
        exact { h2 with ev13 := fun _ => rfl, g13 := fun _ => h.sz, t13 := fun _ => by simp, o13 := fun p => rfl, z13 := fun _ _ => Bx.new rfl, s13 := fun p => (nomatch (h.o13 p)), d11_13 := fun p _ => Nat.ne_of_lt (h.t11 p), d12_13 := fun p _ => Nat.ne_of_lt (h.t12 p) }
    | 14, hi, _ =>
      have l' : l14 = false := (ready_op (o := _) rfl hi).1
      subst l'
      have k11 : l11 = true := (ready_op (o := _) rfl hi).2 { on := 11, ground := .phase } (by simp) rfl
      have k7 : l7 = true := (ready_op (o := _) rfl hi).2 { on := 7, ground := .phase } (by simp) rfl
      have k5 : l5 = true := (ready_op (o := _) rfl hi).2 { on := 5, ground := .phase } (by simp) rfl
      have k0 : l0 = true := (ready_op (o := _) rfl hi).2 { on := 0, ground := .phase } (by simp) rfl
      have k1 : l1 = true := (ready_op (o := _) rfl hi).2 { on := 1, ground := .phase } (by simp) rfl
      have k2 : l2 = true := (ready_op (o := _) rfl hi).2 { on := 2, ground := .phase } (by simp) rfl
      have k3 : l3 = true := (ready_op (o := _) rfl hi).2 { on := 3, ground := .phase } (by simp) rfl
      have k4 : l4 = true := (ready_op (o := _) rfl hi).2 { on := 4, ground := .phase } (by simp) rfl
      have k6 : l6 = true := (ready_op (o := _) rfl hi).2 { on := 6, ground := .phase } (by simp) rfl
      have k12 : l12 = true := (ready_op (o := _) rfl hi).2 { on := 12, ground := .phase } (by simp) rfl
      have k13 : l13 = true := (ready_op (o := _) rfl hi).2 { on := 13, ground := .phase } (by simp) rfl
      clear hi hlt
      subst k11
      subst k7
      subst k5
      subst k0
      subst k1
      subst k2
      subst k3
      subst k4
      subst k6
      subst k12
      subst k13
      obtain rfl := h.ev11 rfl
      obtain rfl := h.ev7 rfl
      obtain rfl := h.ev5 rfl
      obtain rfl := h.ev0 rfl
      obtain rfl := h.ev1 rfl
      obtain rfl := h.ev2 rfl
      obtain rfl := h.ev3 rfl
      obtain rfl := h.ev4 rfl
      obtain rfl := h.ev6 rfl
      obtain rfl := h.ev12 rfl
      obtain rfl := h.ev13 rfl
      have bz := h.z11 rfl rfl
      have c := bz.c
      have f := bz.f
      clear bz
      have H := Lib.hid h
      clear h
      refine wpOp_shut rfl (fun K hK => ?_)
      try simp only [Act.put, List.setIfInBounds_toArray, List.set_cons_zero, List.set_cons_succ]
      go_simp
      refine hK.out _ _ ?_
      unfold Ry.I
      refine ⟨true, true, true, true, true, true, true, true, l8, l9, l10, true, true, true, true, l15, l16, l17, ((dv s)), ((dv s)), ((dv t)), ((dv t)), ((iv a b)), (.tuple #[(dv ⟨d0, d1, d2, d3, d4, d5⟩), (iv p q), (iv u v), .int .i64 er]), (.tuple #[(dv ⟨d0, d1, d2, d3, d4, d5⟩), (iv p q), (iv u v), .int .i64 er]), ((dv ⟨d0, d1, d2, d3, d4, d5⟩)), v8, v9, v10, (.pointer (some ⟨b11, 0, none⟩)), (.pointer (some ⟨b12, 0, none⟩)), (.pointer (some ⟨b13, 0, none⟩)), v17, b11, b12, b13, rfl, ?_, ?_⟩
      · simp only [Act.put, List.setIfInBounds_toArray, List.set_cons_zero, List.set_cons_succ]
      · have h := H.out
        have gb := h.g11 rfl
        have gm := Nat.le_trans h.mn gb
        exact { h with g := ((((((h.g.put gm).put gm).put gm).put gm).put gm).put gm), sz := by simpa using h.sz, o11 := fun _ => rfl, z11 := fun _ p => (nomatch p), s11 := fun _ => (((((((h.z11 rfl rfl).put).put).put).put).put).put), t11 := fun p => by simpa using h.t11 p, u0 := ((((((h.u0.set (Nat.ne_of_lt (Nat.lt_of_lt_of_le h.un0 gb))).set (Nat.ne_of_lt (Nat.lt_of_lt_of_le h.un0 gb))).set (Nat.ne_of_lt (Nat.lt_of_lt_of_le h.un0 gb))).set (Nat.ne_of_lt (Nat.lt_of_lt_of_le h.un0 gb))).set (Nat.ne_of_lt (Nat.lt_of_lt_of_le h.un0 gb))).set (Nat.ne_of_lt (Nat.lt_of_lt_of_le h.un0 gb))), u1 := ((((((h.u1.set (Nat.ne_of_lt (Nat.lt_of_lt_of_le h.un1 gb))).set (Nat.ne_of_lt (Nat.lt_of_lt_of_le h.un1 gb))).set (Nat.ne_of_lt (Nat.lt_of_lt_of_le h.un1 gb))).set (Nat.ne_of_lt (Nat.lt_of_lt_of_le h.un1 gb))).set (Nat.ne_of_lt (Nat.lt_of_lt_of_le h.un1 gb))).set (Nat.ne_of_lt (Nat.lt_of_lt_of_le h.un1 gb))), u2 := ((((((h.u2.set (Nat.ne_of_lt (Nat.lt_of_lt_of_le h.un2 gb))).set (Nat.ne_of_lt (Nat.lt_of_lt_of_le h.un2 gb))).set (Nat.ne_of_lt (Nat.lt_of_lt_of_le h.un2 gb))).set (Nat.ne_of_lt (Nat.lt_of_lt_of_le h.un2 gb))).set (Nat.ne_of_lt (Nat.lt_of_lt_of_le h.un2 gb))).set (Nat.ne_of_lt (Nat.lt_of_lt_of_le h.un2 gb))), t12 := fun p => by simpa using h.t12 p, z12 := fun p r => (((((((h.z12 p r).set (fun q => (h.d11_12 rfl p) q.symm)).set (fun q => (h.d11_12 rfl p) q.symm)).set (fun q => (h.d11_12 rfl p) q.symm)).set (fun q => (h.d11_12 rfl p) q.symm)).set (fun q => (h.d11_12 rfl p) q.symm)).set (fun q => (h.d11_12 rfl p) q.symm)), s12 := fun p => (((((((h.s12 p).set (fun q => (h.d11_12 rfl (h.o12 p)) q.symm)).set (fun q => (h.d11_12 rfl (h.o12 p)) q.symm)).set (fun q => (h.d11_12 rfl (h.o12 p)) q.symm)).set (fun q => (h.d11_12 rfl (h.o12 p)) q.symm)).set (fun q => (h.d11_12 rfl (h.o12 p)) q.symm)).set (fun q => (h.d11_12 rfl (h.o12 p)) q.symm)), t13 := fun p => by simpa using h.t13 p, z13 := fun p r => (((((((h.z13 p r).set (fun q => (h.d11_13 rfl p) q.symm)).set (fun q => (h.d11_13 rfl p) q.symm)).set (fun q => (h.d11_13 rfl p) q.symm)).set (fun q => (h.d11_13 rfl p) q.symm)).set (fun q => (h.d11_13 rfl p) q.symm)).set (fun q => (h.d11_13 rfl p) q.symm)), s13 := fun p => (((((((h.s13 p).set (fun q => (h.d11_13 rfl (h.o13 p)) q.symm)).set (fun q => (h.d11_13 rfl (h.o13 p)) q.symm)).set (fun q => (h.d11_13 rfl (h.o13 p)) q.symm)).set (fun q => (h.d11_13 rfl (h.o13 p)) q.symm)).set (fun q => (h.d11_13 rfl (h.o13 p)) q.symm)).set (fun q => (h.d11_13 rfl (h.o13 p)) q.symm)) }
    | 15, hi, _ =>
      have l' : l15 = false := (ready_op (o := _) rfl hi).1
      subst l'
      have k12 : l12 = true := (ready_op (o := _) rfl hi).2 { on := 12, ground := .phase } (by simp) rfl
      have k8 : l8 = true := (ready_op (o := _) rfl hi).2 { on := 8, ground := .phase } (by simp) rfl
      have k14 : l14 = true := (ready_op (o := _) rfl hi).2 { on := 14, ground := .phase } (by simp) rfl
      have k0 : l0 = true := (ready_op (o := _) rfl hi).2 { on := 0, ground := .phase } (by simp) rfl
      have k1 : l1 = true := (ready_op (o := _) rfl hi).2 { on := 1, ground := .phase } (by simp) rfl
      have k2 : l2 = true := (ready_op (o := _) rfl hi).2 { on := 2, ground := .phase } (by simp) rfl
      have k3 : l3 = true := (ready_op (o := _) rfl hi).2 { on := 3, ground := .phase } (by simp) rfl
      have k4 : l4 = true := (ready_op (o := _) rfl hi).2 { on := 4, ground := .phase } (by simp) rfl
      have k5 : l5 = true := (ready_op (o := _) rfl hi).2 { on := 5, ground := .phase } (by simp) rfl
      have k6 : l6 = true := (ready_op (o := _) rfl hi).2 { on := 6, ground := .phase } (by simp) rfl
      have k7 : l7 = true := (ready_op (o := _) rfl hi).2 { on := 7, ground := .phase } (by simp) rfl
      have k11 : l11 = true := (ready_op (o := _) rfl hi).2 { on := 11, ground := .phase } (by simp) rfl
      have k13 : l13 = true := (ready_op (o := _) rfl hi).2 { on := 13, ground := .phase } (by simp) rfl
      clear hi hlt
      subst k12
      subst k8
      subst k14
      subst k0
      subst k1
      subst k2
      subst k3
      subst k4
      subst k5
      subst k6
      subst k7
      subst k11
      subst k13
      obtain rfl := h.ev12 rfl
      obtain rfl := h.ev8 rfl
      obtain rfl := h.ev0 rfl
      obtain rfl := h.ev1 rfl
      obtain rfl := h.ev2 rfl
      obtain rfl := h.ev3 rfl
      obtain rfl := h.ev4 rfl
      obtain rfl := h.ev5 rfl
      obtain rfl := h.ev6 rfl
      obtain rfl := h.ev7 rfl
      obtain rfl := h.ev11 rfl
      obtain rfl := h.ev13 rfl
      have bz := h.z12 rfl rfl
      have c := bz.c
      have f := bz.f
      clear bz
      have H := Lib.hid h
      clear h
      refine wpOp_shut rfl (fun K hK => ?_)
      try simp only [Act.put, List.setIfInBounds_toArray, List.set_cons_zero, List.set_cons_succ]
      go_simp
      refine hK.out _ _ ?_
      unfold Ry.I
      refine ⟨true, true, true, true, true, true, true, true, true, l9, l10, true, true, true, true, true, l16, l17, ((dv s)), ((dv s)), ((dv t)), ((dv t)), ((iv a b)), (.tuple #[(dv ⟨d0, d1, d2, d3, d4, d5⟩), (iv p q), (iv u v), .int .i64 er]), (.tuple #[(dv ⟨d0, d1, d2, d3, d4, d5⟩), (iv p q), (iv u v), .int .i64 er]), ((dv ⟨d0, d1, d2, d3, d4, d5⟩)), ((iv p q)), v9, v10, (.pointer (some ⟨b11, 0, none⟩)), (.pointer (some ⟨b12, 0, none⟩)), (.pointer (some ⟨b13, 0, none⟩)), v17, b11, b12, b13, rfl, ?_, ?_⟩
      · simp only [Act.put, List.setIfInBounds_toArray, List.set_cons_zero, List.set_cons_succ]
      · have h := H.out
        have gb := h.g12 rfl
        have gm := Nat.le_trans h.mn gb
        exact { h with g := ((h.g.put gm).put gm), sz := by simpa using h.sz, o12 := fun _ => rfl, z12 := fun _ p => (nomatch p), s12 := fun _ => (((h.z12 rfl rfl).put).put), t12 := fun p => by simpa using h.t12 p, u0 := ((h.u0.set (Nat.ne_of_lt (Nat.lt_of_lt_of_le h.un0 gb))).set (Nat.ne_of_lt (Nat.lt_of_lt_of_le h.un0 gb))), u1 := ((h.u1.set (Nat.ne_of_lt (Nat.lt_of_lt_of_le h.un1 gb))).set (Nat.ne_of_lt (Nat.lt_of_lt_of_le h.un1 gb))), u2 := ((h.u2.set (Nat.ne_of_lt (Nat.lt_of_lt_of_le h.un2 gb))).set (Nat.ne_of_lt (Nat.lt_of_lt_of_le h.un2 gb))), t11 := fun p => by simpa using h.t11 p, z11 := fun p r => (((h.z11 p r).set (fun q => (h.d11_12 p rfl) q)).set (fun q => (h.d11_12 p rfl) q)), s11 := fun p => (((h.s11 p).set (fun q => (h.d11_12 (h.o11 p) rfl) q)).set (fun q => (h.d11_12 (h.o11 p) rfl) q)), t13 := fun p => by simpa using h.t13 p, z13 := fun p r => (((h.z13 p r).set (fun q => (h.d12_13 rfl p) q.symm)).set (fun q => (h.d12_13 rfl p) q.symm)), s13 := fun p => (((h.s13 p).set (fun q => (h.d12_13 rfl (h.o13 p)) q.symm)).set (fun q => (h.d12_13 rfl (h.o13 p)) q.symm)) }
    | 16, hi, _ =>
      have l' : l16 = false := (ready_op (o := _) rfl hi).1
      subst l'
      have k13 : l13 = true := (ready_op (o := _) rfl hi).2 { on := 13, ground := .phase } (by simp) rfl
      have k9 : l9 = true := (ready_op (o := _) rfl hi).2 { on := 9, ground := .phase } (by simp) rfl
      have k15 : l15 = true := (ready_op (o := _) rfl hi).2 { on := 15, ground := .phase } (by simp) rfl
      have k0 : l0 = true := (ready_op (o := _) rfl hi).2 { on := 0, ground := .phase } (by simp) rfl
      have k1 : l1 = true := (ready_op (o := _) rfl hi).2 { on := 1, ground := .phase } (by simp) rfl
      have k2 : l2 = true := (ready_op (o := _) rfl hi).2 { on := 2, ground := .phase } (by simp) rfl
      have k3 : l3 = true := (ready_op (o := _) rfl hi).2 { on := 3, ground := .phase } (by simp) rfl
      have k4 : l4 = true := (ready_op (o := _) rfl hi).2 { on := 4, ground := .phase } (by simp) rfl
      have k5 : l5 = true := (ready_op (o := _) rfl hi).2 { on := 5, ground := .phase } (by simp) rfl
      have k6 : l6 = true := (ready_op (o := _) rfl hi).2 { on := 6, ground := .phase } (by simp) rfl
      have k7 : l7 = true := (ready_op (o := _) rfl hi).2 { on := 7, ground := .phase } (by simp) rfl
      have k8 : l8 = true := (ready_op (o := _) rfl hi).2 { on := 8, ground := .phase } (by simp) rfl
      have k11 : l11 = true := (ready_op (o := _) rfl hi).2 { on := 11, ground := .phase } (by simp) rfl
      have k12 : l12 = true := (ready_op (o := _) rfl hi).2 { on := 12, ground := .phase } (by simp) rfl
      have k14 : l14 = true := (ready_op (o := _) rfl hi).2 { on := 14, ground := .phase } (by simp) rfl
      clear hi hlt
      subst k13
      subst k9
      subst k15
      subst k0
      subst k1
      subst k2
      subst k3
      subst k4
      subst k5
      subst k6
      subst k7
      subst k8
      subst k11
      subst k12
      subst k14
      obtain rfl := h.ev13 rfl
      obtain rfl := h.ev9 rfl
      obtain rfl := h.ev0 rfl
      obtain rfl := h.ev1 rfl
      obtain rfl := h.ev2 rfl
      obtain rfl := h.ev3 rfl
      obtain rfl := h.ev4 rfl
      obtain rfl := h.ev5 rfl
      obtain rfl := h.ev6 rfl
      obtain rfl := h.ev7 rfl
      obtain rfl := h.ev8 rfl
      obtain rfl := h.ev11 rfl
      obtain rfl := h.ev12 rfl
      have bz := h.z13 rfl rfl
      have c := bz.c
      have f := bz.f
      clear bz
      have H := Lib.hid h
      clear h
      refine wpOp_shut rfl (fun K hK => ?_)
      try simp only [Act.put, List.setIfInBounds_toArray, List.set_cons_zero, List.set_cons_succ]
      go_simp
      refine hK.out _ _ ?_
      unfold Ry.I
      refine ⟨true, true, true, true, true, true, true, true, true, true, l10, true, true, true, true, true, true, l17, ((dv s)), ((dv s)), ((dv t)), ((dv t)), ((iv a b)), (.tuple #[(dv ⟨d0, d1, d2, d3, d4, d5⟩), (iv p q), (iv u v), .int .i64 er]), (.tuple #[(dv ⟨d0, d1, d2, d3, d4, d5⟩), (iv p q), (iv u v), .int .i64 er]), ((dv ⟨d0, d1, d2, d3, d4, d5⟩)), ((iv p q)), ((iv u v)), v10, (.pointer (some ⟨b11, 0, none⟩)), (.pointer (some ⟨b12, 0, none⟩)), (.pointer (some ⟨b13, 0, none⟩)), v17, b11, b12, b13, rfl, ?_, ?_⟩
      · simp only [Act.put, List.setIfInBounds_toArray, List.set_cons_zero, List.set_cons_succ]
      · have h := H.out
        have gb := h.g13 rfl
        have gm := Nat.le_trans h.mn gb
        exact { h with g := ((h.g.put gm).put gm), sz := by simpa using h.sz, o13 := fun _ => rfl, z13 := fun _ p => (nomatch p), s13 := fun _ => (((h.z13 rfl rfl).put).put), t13 := fun p => by simpa using h.t13 p, u0 := ((h.u0.set (Nat.ne_of_lt (Nat.lt_of_lt_of_le h.un0 gb))).set (Nat.ne_of_lt (Nat.lt_of_lt_of_le h.un0 gb))), u1 := ((h.u1.set (Nat.ne_of_lt (Nat.lt_of_lt_of_le h.un1 gb))).set (Nat.ne_of_lt (Nat.lt_of_lt_of_le h.un1 gb))), u2 := ((h.u2.set (Nat.ne_of_lt (Nat.lt_of_lt_of_le h.un2 gb))).set (Nat.ne_of_lt (Nat.lt_of_lt_of_le h.un2 gb))), t11 := fun p => by simpa using h.t11 p, z11 := fun p r => (((h.z11 p r).set (fun q => (h.d11_13 p rfl) q)).set (fun q => (h.d11_13 p rfl) q)), s11 := fun p => (((h.s11 p).set (fun q => (h.d11_13 (h.o11 p) rfl) q)).set (fun q => (h.d11_13 (h.o11 p) rfl) q)), t12 := fun p => by simpa using h.t12 p, z12 := fun p r => (((h.z12 p r).set (fun q => (h.d12_13 p rfl) q)).set (fun q => (h.d12_13 p rfl) q)), s12 := fun p => (((h.s12 p).set (fun q => (h.d12_13 (h.o12 p) rfl) q)).set (fun q => (h.d12_13 (h.o12 p) rfl) q)) }
    | 17, hi, _ =>
      have l' : l17 = false := (ready_op (o := _) rfl hi).1
      subst l'
      have k10 : l10 = true := (ready_op (o := _) rfl hi).2 { on := 10, ground := .phase } (by simp) rfl
      have k16 : l16 = true := (ready_op (o := _) rfl hi).2 { on := 16, ground := .phase } (by simp) rfl
      have k0 : l0 = true := (ready_op (o := _) rfl hi).2 { on := 0, ground := .phase } (by simp) rfl
      have k1 : l1 = true := (ready_op (o := _) rfl hi).2 { on := 1, ground := .phase } (by simp) rfl
      have k2 : l2 = true := (ready_op (o := _) rfl hi).2 { on := 2, ground := .phase } (by simp) rfl
      have k3 : l3 = true := (ready_op (o := _) rfl hi).2 { on := 3, ground := .phase } (by simp) rfl
      have k4 : l4 = true := (ready_op (o := _) rfl hi).2 { on := 4, ground := .phase } (by simp) rfl
      have k5 : l5 = true := (ready_op (o := _) rfl hi).2 { on := 5, ground := .phase } (by simp) rfl
      have k6 : l6 = true := (ready_op (o := _) rfl hi).2 { on := 6, ground := .phase } (by simp) rfl
      have k7 : l7 = true := (ready_op (o := _) rfl hi).2 { on := 7, ground := .phase } (by simp) rfl
      have k8 : l8 = true := (ready_op (o := _) rfl hi).2 { on := 8, ground := .phase } (by simp) rfl
      have k9 : l9 = true := (ready_op (o := _) rfl hi).2 { on := 9, ground := .phase } (by simp) rfl
      have k11 : l11 = true := (ready_op (o := _) rfl hi).2 { on := 11, ground := .phase } (by simp) rfl
      have k12 : l12 = true := (ready_op (o := _) rfl hi).2 { on := 12, ground := .phase } (by simp) rfl
      have k13 : l13 = true := (ready_op (o := _) rfl hi).2 { on := 13, ground := .phase } (by simp) rfl
      have k14 : l14 = true := (ready_op (o := _) rfl hi).2 { on := 14, ground := .phase } (by simp) rfl
      have k15 : l15 = true := (ready_op (o := _) rfl hi).2 { on := 15, ground := .phase } (by simp) rfl
      clear hi hlt
      subst k10
      subst k16
      subst k0
      subst k1
      subst k2
      subst k3
      subst k4
      subst k5
      subst k6
      subst k7
      subst k8
      subst k9
      subst k11
      subst k12
      subst k13
      subst k14
      subst k15
      obtain rfl := h.ev10 rfl
      obtain rfl := h.ev0 rfl
      obtain rfl := h.ev1 rfl
      obtain rfl := h.ev2 rfl
      obtain rfl := h.ev3 rfl
      obtain rfl := h.ev4 rfl
      obtain rfl := h.ev5 rfl
      obtain rfl := h.ev6 rfl
      obtain rfl := h.ev7 rfl
      obtain rfl := h.ev8 rfl
      obtain rfl := h.ev9 rfl
      obtain rfl := h.ev11 rfl
      obtain rfl := h.ev12 rfl
      obtain rfl := h.ev13 rfl
      have H := Lib.hid h
      clear h
      refine wpOp_shut rfl (fun K hK => ?_)
      try simp only [Act.put, List.setIfInBounds_toArray, List.set_cons_zero, List.set_cons_succ]
      go_simp
      refine hK.out _ _ ?_
      unfold Ry.I
      refine ⟨true, true, true, true, true, true, true, true, true, true, true, true, true, true, true, true, true, true, ((dv s)), ((dv s)), ((dv t)), ((dv t)), ((iv a b)), (.tuple #[(dv ⟨d0, d1, d2, d3, d4, d5⟩), (iv p q), (iv u v), .int .i64 er]), (.tuple #[(dv ⟨d0, d1, d2, d3, d4, d5⟩), (iv p q), (iv u v), .int .i64 er]), ((dv ⟨d0, d1, d2, d3, d4, d5⟩)), ((iv p q)), ((iv u v)), (.int .i64 er), (.pointer (some ⟨b11, 0, none⟩)), (.pointer (some ⟨b12, 0, none⟩)), (.pointer (some ⟨b13, 0, none⟩)), (.int .i64 er), b11, b12, b13, rfl, ?_, ?_⟩
      · simp only [Act.put, List.setIfInBounds_toArray, List.set_cons_zero, List.set_cons_succ]
      · exact { H.out with ev17 := fun _ => rfl }
    | i + 18, _, hlt => exact absurd hlt (by simp)
  · intro L a' w' hI hn
    obtain ⟨l0, l1, l2, l3, l4, l5, l6, l7, l8, l9, l10, l11, l12, l13, l14, l15, l16, l17, v0, v1, v2, v3, v4, v5, v6, v7, v8, v9, v10, v11, v12, v13, v17, b11, b12, b13, rfl, rfl, h⟩ := hI
    have k0 : l0 = true := not_ready (i := 0) (o := _) rfl hn (by simp [Region.binds])
    subst k0
    have k1 : l1 = true := not_ready (i := 1) (o := _) rfl hn (by simp [Region.binds])
    subst k1
    have k2 : l2 = true := not_ready (i := 2) (o := _) rfl hn (by simp [Region.binds])
    subst k2
    have k3 : l3 = true := not_ready (i := 3) (o := _) rfl hn (by simp [Region.binds])
    subst k3
    have k4 : l4 = true := not_ready (i := 4) (o := _) rfl hn (by simp [Region.binds])
    subst k4
    have k5 : l5 = true := not_ready (i := 5) (o := _) rfl hn (by simp [Region.binds])
    subst k5
    have k6 : l6 = true := not_ready (i := 6) (o := _) rfl hn (by simp [Region.binds])
    subst k6
    have k7 : l7 = true := not_ready (i := 7) (o := _) rfl hn (by simp [Region.binds])
    subst k7
    have k8 : l8 = true := not_ready (i := 8) (o := _) rfl hn (by simp [Region.binds])
    subst k8
    have k9 : l9 = true := not_ready (i := 9) (o := _) rfl hn (by simp [Region.binds])
    subst k9
    have k10 : l10 = true := not_ready (i := 10) (o := _) rfl hn (by simp [Region.binds])
    subst k10
    have k11 : l11 = true := not_ready (i := 11) (o := _) rfl hn (by simp [Region.binds])
    subst k11
    have k12 : l12 = true := not_ready (i := 12) (o := _) rfl hn (by simp [Region.binds])
    subst k12
    have k13 : l13 = true := not_ready (i := 13) (o := _) rfl hn (by simp [Region.binds])
    subst k13
    have k14 : l14 = true := not_ready (i := 14) (o := _) rfl hn (by simp [Region.binds])
    subst k14
    have k15 : l15 = true := not_ready (i := 15) (o := _) rfl hn (by simp [Region.binds])
    subst k15
    have k16 : l16 = true := not_ready (i := 16) (o := _) rfl hn (by simp [Region.binds])
    subst k16
    have k17 : l17 = true := not_ready (i := 17) (o := _) rfl hn (by simp [Region.binds])
    subst k17
    clear hn
    obtain rfl := h.ev0 rfl
    obtain rfl := h.ev1 rfl
    obtain rfl := h.ev2 rfl
    obtain rfl := h.ev3 rfl
    obtain rfl := h.ev4 rfl
    obtain rfl := h.ev5 rfl
    obtain rfl := h.ev6 rfl
    obtain rfl := h.ev7 rfl
    obtain rfl := h.ev8 rfl
    obtain rfl := h.ev9 rfl
    obtain rfl := h.ev10 rfl
    obtain rfl := h.ev11 rfl
    obtain rfl := h.ev12 rfl
    obtain rfl := h.ev13 rfl
    obtain rfl := h.ev17 rfl
    simp only [Act.put, List.setIfInBounds_toArray, List.set_cons_zero, List.set_cons_succ]
    have H5 := h.g
    have A := h.u0.drew
    have B := h.u1.drew
    have C := h.u2.drew
    have F := (h.s11 rfl).drew
    have G := (h.s12 rfl).drew
    have K := (h.s13 rfl).drew
    have HX := h.g.drew
    clear h
    clear h0_2 h1_2 h2_2 q2_0 q2_1 q2_2 q2_3 q2_4 q2_5 q2_6 q2_7 q2_8 q2_9 q2_10 q2_11
    go_upto_region 5 with fail
    go_region_held3 (fun X => (∀ j, X.cell? ⟨w2.heap.size, j, none⟩ = [.int .i64 d0, .int .i64 d1, .int .i64 d2, .int .i64 d3, .int .i64 d4, .int .i64 d5][j]?) ∧ (∀ j, X.cell? ⟨b11, j, none⟩ = [.int .i64 d0, .int .i64 d1, .int .i64 d2, .int .i64 d3, .int .i64 d4, .int .i64 d5][j]?) ∧ (∀ j, X.cell? ⟨w2.heap.size + 1, j, none⟩ = [.int .i64 p, .int .i64 q][j]?) ∧ (∀ j, X.cell? ⟨b12, j, none⟩ = [.int .i64 p, .int .i64 q][j]?) ∧ (∀ j, X.cell? ⟨w2.heap.size + 1 + 1, j, none⟩ = [.int .i64 u, .int .i64 v][j]?) ∧ (∀ j, X.cell? ⟨b13, j, none⟩ = [.int .i64 u, .int .i64 v][j]?)) (with_reducible first | exact ⟨A.c, F.c, B.c, G.c, C.c, K.c⟩ | exact ⟨(A.kept hb).c, (F.kept hb).c, (B.kept hb).c, (G.kept hb).c, (C.kept hb).c, (K.kept hb).c⟩)
    (first | (go_at_call 11; refine (theirs_any ⟨d0, d1, d2, d3, d4, d5⟩ _).mono ?_; rintro e wA ⟨rfl, hb⟩; have HA := HX.call hb))
    all_goals go_wp2_with fail
    all_goals go_ret
    all_goals exact ⟨by first | rfl | simp, HA.below⟩
end Go.Proofs.Ytjppcndhaejfpaa.Iv
