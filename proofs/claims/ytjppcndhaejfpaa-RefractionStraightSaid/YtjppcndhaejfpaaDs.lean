/- RefractionStraight: with the ratio 1, the box of the refracted ray contains that of the ray. -/
import Derived.Test.YtjppcndhaejfpaaDrd
import Derived.Test.YtjppcndhaejfpaaRg
import Derived.Test.YtjppcndhaejfpaaDsM
namespace Go.Proofs.Ytjppcndhaejfpaa.Iv
open Go.RowKit

set_option maxRecDepth 100000 in
theorem dinside_any (s t : D) (w : World) :
    Calls Try.prog 25 #[dv s, dv t] w fun e w' => e = .returned (.bool (insD s t)) ∧ Below w.heap.size w w' := by
  have H0 := ((Ho.nil w).bx [.int .i64 s.a, .int .i64 s.b, .int .i64 s.c, .int .i64 s.d, .int .i64 s.e, .int .i64 s.f] 25 w.heap.size rfl).bx [.int .i64 t.a, .int .i64 t.b, .int .i64 t.c, .int .i64 t.d, .int .i64 t.e, .int .i64 t.f] 25 (w.heap.size + 1) (by simp)
  cases h1 : insB s.a s.b t.a t.b
  · rw [show insD s t = false from by simp [insD, h1]]
    have E1 := Lib.hid h1
    clear h1
    go_enter Try.func25, Try.ntmps25
    go_wp2_with fail
    refine (inside_any s.a s.b t.a t.b _).mono ?_
    rintro e w1 ⟨rfl, hb⟩
    rw [E1.out]
    have H1 := H0.call hb
    clear hb
    have x1 := (H1.at 1 rfl).c
    have y1 := (H1.at 0 rfl).c
    go_wp2_with fail
    go_ret
    exact ⟨rfl, H1.below⟩
  · cases h2 : insB s.c s.d t.c t.d
    · rw [show insD s t = false from by simp [insD, h2]]
      have E1 := Lib.hid h1
      have E2 := Lib.hid h2
      clear h1 h2
      go_enter Try.func25, Try.ntmps25
      go_wp2_with fail
      refine (inside_any s.a s.b t.a t.b _).mono ?_
      rintro e w1 ⟨rfl, hb⟩
      rw [E1.out]
      have H1 := H0.call hb
      clear hb
      have x1 := (H1.at 1 rfl).c
      have y1 := (H1.at 0 rfl).c
      go_wp2_with fail
      refine (inside_any s.c s.d t.c t.d _).mono ?_
      rintro e w2 ⟨rfl, hb⟩
      rw [E2.out]
      have H2 := H1.call hb
      clear hb
      have x2 := (H2.at 1 rfl).c
      have y2 := (H2.at 0 rfl).c
      go_wp2_with fail
      go_ret
      exact ⟨rfl, H2.below⟩
    · rw [show insD s t = insB s.e s.f t.e t.f from by simp [insD, h1, h2]]
      have E1 := Lib.hid h1
      have E2 := Lib.hid h2
      clear h1 h2
      go_enter Try.func25, Try.ntmps25
      go_wp2_with fail
      refine (inside_any s.a s.b t.a t.b _).mono ?_
      rintro e w1 ⟨rfl, hb⟩
      rw [E1.out]
      have H1 := H0.call hb
      clear hb
      have x1 := (H1.at 1 rfl).c
      have y1 := (H1.at 0 rfl).c
      go_wp2_with fail
      refine (inside_any s.c s.d t.c t.d _).mono ?_
      rintro e w2 ⟨rfl, hb⟩
      rw [E2.out]
      have H2 := H1.call hb
      clear hb
      have x2 := (H2.at 1 rfl).c
      have y2 := (H2.at 0 rfl).c
      go_wp2_with fail
      refine (inside_any s.e s.f t.e t.f _).mono ?_
      rintro e w3 ⟨rfl, hb⟩
      have H3 := H2.call hb
      clear hb
      have x3 := (H3.at 1 rfl).c
      have y3 := (H3.at 0 rfl).c
      go_wp2_with fail
      go_ret
      exact ⟨rfl, H3.below⟩
theorem met_any (a b c d : Int) (w : World) :
    Calls Try.prog 28 #[iv a b, iv c d] w fun e w' => e = .returned (.bool (metB a b c d)) ∧ Below w.heap.size w w' := by
  by_cases h1 : a ≤ d
  · have e1 : metB a b c d = decide (c ≤ b) := by simp [metB, h1]
    rw [e1]; clear e1
    go_enter Try.func28, Try.ntmps28
    go_wp2_with fail
    go_ret
    exact ⟨rfl, (by repeat (first | exact Below.refl _ _ | refine Below.drew ?_ | refine below_drewN ?_ _ | refine Below.setCell ?_ (by first | omega | (simp <;> omega)) _ | refine Below.alloc ?_ (by first | omega | (simp <;> omega)) _))⟩
  · have e1 : metB a b c d = false := by simp [metB, h1]
    rw [e1]; clear e1
    go_enter Try.func28, Try.ntmps28
    go_wp2_with fail
    go_ret
    exact ⟨rfl, (by repeat (first | exact Below.refl _ _ | refine Below.drew ?_ | refine below_drewN ?_ _ | refine Below.setCell ?_ (by first | omega | (simp <;> omega)) _ | refine Below.alloc ?_ (by first | omega | (simp <;> omega)) _))⟩
structure S7 (s t : D) (d0 d1 d2 d3 d4 d5 p q u v er : Int) (b0 b1 n0 : Nat) (w0 w : World) (l0 l1 l2 l3 l4 l5 l6 l7 l8 l9 l10 l11 l12 l13 l14 l15 : Bool) (v0 v1 v2 v3 v4 v5 v6 v7 v8 v9 v10 v11 v15 : Value) (b9 b10 b11 : Nat) : Prop where
  g : Ho w0 w n0 [(b1, [.int .i64 t.a, .int .i64 t.b, .int .i64 t.c, .int .i64 t.d, .int .i64 t.e, .int .i64 t.f]), (b0, [.int .i64 s.a, .int .i64 s.b, .int .i64 s.c, .int .i64 s.d, .int .i64 s.e, .int .i64 s.f])]
  e0 : l0 = true → v0 = dv s
  e1 : l1 = true → v1 = dv t
  e2 : l2 = true → v2 = (iv 16777216 16777216)
  e3 : l3 = true → v3 = .tuple #[dv ⟨d0, d1, d2, d3, d4, d5⟩, (iv p q), (iv u v), .int .i64 er]
  e4 : l4 = true → v4 = .tuple #[dv ⟨d0, d1, d2, d3, d4, d5⟩, (iv p q), (iv u v), .int .i64 er]
  e5 : l5 = true → v5 = dv ⟨d0, d1, d2, d3, d4, d5⟩
  e6 : l6 = true → v6 = (iv p q)
  e7 : l7 = true → v7 = (iv u v)
  e8 : l8 = true → v8 = .int .i64 er
  e9 : l9 = true → v9 = .pointer (some ⟨b9, 0, none⟩)
  e10 : l10 = true → v10 = .pointer (some ⟨b10, 0, none⟩)
  e11 : l11 = true → v11 = .pointer (some ⟨b11, 0, none⟩)
  e15 : l15 = true → v15 = .int .i64 er
  g9 : l9 = true → n0 ≤ b9
  t9 : l9 = true → b9 < w.heap.size
  o9 : l12 = true → l9 = true
  z9 : l9 = true → l12 = false → Bx w b9 [.int .i64 0, .int .i64 0, .int .i64 0, .int .i64 0, .int .i64 0, .int .i64 0]
  s9 : l12 = true → Bx w b9 [.int .i64 d0, .int .i64 d1, .int .i64 d2, .int .i64 d3, .int .i64 d4, .int .i64 d5]
  g10 : l10 = true → n0 ≤ b10
  t10 : l10 = true → b10 < w.heap.size
  o10 : l13 = true → l10 = true
  z10 : l10 = true → l13 = false → Bx w b10 [.int .i64 0, .int .i64 0]
  s10 : l13 = true → Bx w b10 [.int .i64 p, .int .i64 q]
  g11 : l11 = true → n0 ≤ b11
  t11 : l11 = true → b11 < w.heap.size
  o11 : l14 = true → l11 = true
  z11 : l11 = true → l14 = false → Bx w b11 [.int .i64 0, .int .i64 0]
  s11 : l14 = true → Bx w b11 [.int .i64 u, .int .i64 v]
  d9_10 : l9 = true → l10 = true → ¬ (b9 = b10)
  d9_11 : l9 = true → l11 = true → ¬ (b9 = b11)
  d10_11 : l10 = true → l11 = true → ¬ (b10 = b11)
theorem S7.kept {s t : D} {d0 d1 d2 d3 d4 d5 p q u v er : Int} {b0 b1 n0 : Nat} {w0 w : World} {l0 l1 l2 l3 l4 l5 l6 l7 l8 l9 l10 l11 l12 l13 l14 l15 : Bool} {v0 v1 v2 v3 v4 v5 v6 v7 v8 v9 v10 v11 v15 : Value} {b9 b10 b11 : Nat} {w' : World} (h : S7 s t d0 d1 d2 d3 d4 d5 p q u v er b0 b1 n0 w0 w l0 l1 l2 l3 l4 l5 l6 l7 l8 l9 l10 l11 l12 l13 l14 l15 v0 v1 v2 v3 v4 v5 v6 v7 v8 v9 v10 v11 v15 b9 b10 b11) (hb : Below w.heap.size w w') : S7 s t d0 d1 d2 d3 d4 d5 p q u v er b0 b1 n0 w0 w' l0 l1 l2 l3 l4 l5 l6 l7 l8 l9 l10 l11 l12 l13 l14 l15 v0 v1 v2 v3 v4 v5 v6 v7 v8 v9 v10 v11 v15 b9 b10 b11 :=
  { h with g := h.g.call hb, t9 := fun p => Nat.lt_of_lt_of_le (h.t9 p) hb.size, z9 := fun p q => (h.z9 p q).kept hb, s9 := fun p => (h.s9 p).kept hb, t10 := fun p => Nat.lt_of_lt_of_le (h.t10 p) hb.size, z10 := fun p q => (h.z10 p q).kept hb, s10 := fun p => (h.s10 p).kept hb, t11 := fun p => Nat.lt_of_lt_of_le (h.t11 p) hb.size, z11 := fun p q => (h.z11 p q).kept hb, s11 := fun p => (h.s11 p).kept hb }
def S7.I (s t : D) (d0 d1 d2 d3 d4 d5 p q u v er : Int) (b0 b1 n0 : Nat) (w0 : World) : Act → Array Bool → Act → World → Prop := fun a0 L a w => ∃ (l0 l1 l2 l3 l4 l5 l6 l7 l8 l9 l10 l11 l12 l13 l14 l15 : Bool) (v0 v1 v2 v3 v4 v5 v6 v7 v8 v9 v10 v11 v15 : Value) (b9 b10 b11 : Nat), L = #[l0, l1, l2, l3, l4, l5, l6, l7, l8, l9, l10, l11, l12, l13, l14, l15] ∧ a = (((((((((((((a0.put (some 12) v0).put (some 13) v1).put (some 14) v2).put (some 15) v3).put (some 11) v4).put (some 16) v5).put (some 17) v6).put (some 18) v7).put (some 19) v8).put (some 5) v9).put (some 6) v10).put (some 7) v11).put (some 8) v15) ∧ S7 s t d0 d1 d2 d3 d4 d5 p q u v er b0 b1 n0 w0 w l0 l1 l2 l3 l4 l5 l6 l7 l8 l9 l10 l11 l12 l13 l14 l15 v0 v1 v2 v3 v4 v5 v6 v7 v8 v9 v10 v11 v15 b9 b10 b11
set_option maxRecDepth 100000 in
set_option maxHeartbeats 8000000 in
theorem straight_any (s t : D) (w : World) :
    Calls Try.prog 7 #[dv s, dv t] w fun e w' => e = .returned (.bool true) ∧ Below w.heap.size w w' := by
  have H0 := ((Ho.nil w).bx [.int .i64 s.a, .int .i64 s.b, .int .i64 s.c, .int .i64 s.d, .int .i64 s.e, .int .i64 s.f] 25 w.heap.size rfl).bx [.int .i64 t.a, .int .i64 t.b, .int .i64 t.c, .int .i64 t.d, .int .i64 t.e, .int .i64 t.f] 25 (w.heap.size + 1) (by simp)
  obtain ⟨⟨⟨d0, d1, d2, d3, d4, d5⟩, p, q, u, v, er⟩, hr⟩ : ∃ f : RF, refrR s t 16777216 16777216 = f := ⟨_, rfl⟩
  have ST : er = 0 → insD s ⟨d0, d1, d2, d3, d4, d5⟩ = true ∧ metB p q u v = true := fun h => straight (by rw [hr, h])
  have HR := Lib.hid hr
  clear hr
  go_enter Try.func7, Try.ntmps7
  go_wp2_with fail
  refine (awake29_any _).mono ?_
  rintro e w1 ⟨rfl, hb⟩
  have H1 := H0.call hb
  clear hb H0
  have HS := Lib.hid ST
  clear ST
  go_upto_region 3 with fail
  refine region_sets (S7.I s t d0 d1 d2 d3 d4 d5 p q u v er w.heap.size (w.heap.size + 1) (w.heap.size + 1 + 1) w) (by kernel_rfl) ?_ ?_ ?_
  · refine ⟨false, false, false, false, false, false, false, false, false, false, false, false, false, false, false, false, undef, undef, undef, undef, undef, undef, undef, undef, undef, undef, undef, undef, undef, 0, 0, 0, rfl, by simp only [Act.put, List.setIfInBounds_toArray, List.set_cons_zero, List.set_cons_succ], ?_⟩
    constructor
    · exact H1.drew
    all_goals (intro h; cases h)
  · intro L a' w' hI i hi
    obtain ⟨l0, l1, l2, l3, l4, l5, l6, l7, l8, l9, l10, l11, l12, l13, l14, l15, v0, v1, v2, v3, v4, v5, v6, v7, v8, v9, v10, v11, v15, b9, b10, b11, rfl, rfl, h⟩ := hI
    have hlt := ready_lt hi
    match i, hi, hlt with
    | 0, hi, _ =>
      have l := (ready_op (o := _) rfl hi).1
      have l' : l0 = false := l
      subst l'
      clear l
      clear hi hlt
      have c := (h.g.at 1 rfl).c
      have H := Lib.hid h
      clear h
      refine wpOp_shut rfl (fun K hK => ?_)
      try simp only [Act.put, List.setIfInBounds_toArray, List.set_cons_zero, List.set_cons_succ]
      go_simp
      refine hK.out _ _ ?_
      unfold S7.I
      refine ⟨true, l1, l2, l3, l4, l5, l6, l7, l8, l9, l10, l11, l12, l13, l14, l15, (dv s), v1, v2, v3, v4, v5, v6, v7, v8, v9, v10, v11, v15, b9, b10, b11, rfl, ?_, ?_⟩
      · simp only [Act.put, List.setIfInBounds_toArray, List.set_cons_zero, List.set_cons_succ]
      · exact { H.out with e0 := fun _ => rfl }
    | 1, hi, _ =>
      have l := (ready_op (o := _) rfl hi).1
      have l' : l1 = false := l
      subst l'
      clear l
      clear hi hlt
      have c := (h.g.at 0 rfl).c
      have H := Lib.hid h
      clear h
      refine wpOp_shut rfl (fun K hK => ?_)
      try simp only [Act.put, List.setIfInBounds_toArray, List.set_cons_zero, List.set_cons_succ]
      go_simp
      refine hK.out _ _ ?_
      unfold S7.I
      refine ⟨l0, true, l2, l3, l4, l5, l6, l7, l8, l9, l10, l11, l12, l13, l14, l15, v0, (dv t), v2, v3, v4, v5, v6, v7, v8, v9, v10, v11, v15, b9, b10, b11, rfl, ?_, ?_⟩
      · simp only [Act.put, List.setIfInBounds_toArray, List.set_cons_zero, List.set_cons_succ]
      · exact { H.out with e1 := fun _ => rfl }
    | 2, hi, _ =>
      have l := (ready_op (o := _) rfl hi).1
      have l' : l2 = false := l
      subst l'
      clear l
      clear hi hlt
      have H := Lib.hid h
      clear h
      refine wpOp_shut rfl (fun K hK => ?_)
      try simp only [Act.put, List.setIfInBounds_toArray, List.set_cons_zero, List.set_cons_succ]
      go_simp
      refine (one_any _).mono ?_
      rintro e w1 ⟨rfl, hb⟩
      try go_simp
      refine hK.out _ _ ?_
      unfold S7.I
      refine ⟨l0, l1, true, l3, l4, l5, l6, l7, l8, l9, l10, l11, l12, l13, l14, l15, v0, v1, ((iv 16777216 16777216)), v3, v4, v5, v6, v7, v8, v9, v10, v11, v15, b9, b10, b11, rfl, ?_, ?_⟩
      · simp only [Act.put, List.setIfInBounds_toArray, List.set_cons_zero, List.set_cons_succ]
      · exact { (H.out.kept hb) with e2 := fun _ => rfl }
    | 3, hi, _ =>
      have l := (ready_op (o := _) rfl hi).1
      have l' : l3 = false := l
      subst l'
      clear l
      have k0 : l0 = true := (ready_op (o := _) rfl hi).2 { on := 0, ground := .data } (by simp) rfl
      have k1 : l1 = true := (ready_op (o := _) rfl hi).2 { on := 1, ground := .data } (by simp) rfl
      have k2 : l2 = true := (ready_op (o := _) rfl hi).2 { on := 2, ground := .chain } (by simp) rfl
      clear hi hlt
      subst k0
      subst k1
      subst k2
      obtain rfl := h.e0 rfl
      obtain rfl := h.e1 rfl
      obtain rfl := h.e2 rfl
      have H := Lib.hid h
      clear h
      refine wpOp_shut rfl (fun K hK => ?_)
      try simp only [Act.put, List.setIfInBounds_toArray, List.set_cons_zero, List.set_cons_succ]
      go_simp
      refine (refr_any s t 16777216 16777216 _).mono ?_
      rintro e w1 ⟨rfl, hb⟩
      rw [HR.out]
      unfold retF
      dsimp only
      try go_simp
      refine hK.out _ _ ?_
      unfold S7.I
      refine ⟨true, true, true, true, l4, l5, l6, l7, l8, l9, l10, l11, l12, l13, l14, l15, (dv s), (dv t), ((iv 16777216 16777216)), (.tuple #[dv ⟨d0, d1, d2, d3, d4, d5⟩, (iv p q), (iv u v), .int .i64 er]), v4, v5, v6, v7, v8, v9, v10, v11, v15, b9, b10, b11, rfl, ?_, ?_⟩
      · simp only [Act.put, List.setIfInBounds_toArray, List.set_cons_zero, List.set_cons_succ]
      · exact { (H.out.kept hb) with e3 := fun _ => rfl }
    | 4, hi, _ =>
      have l := (ready_op (o := _) rfl hi).1
      have l' : l4 = false := l
      subst l'
      clear l
      have k3 : l3 = true := (ready_op (o := _) rfl hi).2 { on := 3, ground := .data } (by simp) rfl
      clear hi hlt
      subst k3
      obtain rfl := h.e3 rfl
      have H := Lib.hid h
      clear h
      refine wpOp_shut rfl (fun K hK => ?_)
      try simp only [Act.put, List.setIfInBounds_toArray, List.set_cons_zero, List.set_cons_succ]
      go_simp
      refine hK.out _ _ ?_
      unfold S7.I
      refine ⟨l0, l1, l2, true, true, l5, l6, l7, l8, l9, l10, l11, l12, l13, l14, l15, v0, v1, v2, (.tuple #[dv ⟨d0, d1, d2, d3, d4, d5⟩, (iv p q), (iv u v), .int .i64 er]), (.tuple #[dv ⟨d0, d1, d2, d3, d4, d5⟩, (iv p q), (iv u v), .int .i64 er]), v5, v6, v7, v8, v9, v10, v11, v15, b9, b10, b11, rfl, ?_, ?_⟩
      · simp only [Act.put, List.setIfInBounds_toArray, List.set_cons_zero, List.set_cons_succ]
      · exact { H.out with e4 := fun _ => rfl }
    | 5, hi, _ =>
      have l := (ready_op (o := _) rfl hi).1
      have l' : l5 = false := l
      subst l'
      clear l
      have k4 : l4 = true := (ready_op (o := _) rfl hi).2 { on := 4, ground := .data } (by simp) rfl
      clear hi hlt
      subst k4
      obtain rfl := h.e4 rfl
      have H := Lib.hid h
      clear h
      refine wpOp_shut rfl (fun K hK => ?_)
      try simp only [Act.put, List.setIfInBounds_toArray, List.set_cons_zero, List.set_cons_succ]
      go_simp
      refine hK.out _ _ ?_
      unfold S7.I
      refine ⟨l0, l1, l2, l3, true, true, l6, l7, l8, l9, l10, l11, l12, l13, l14, l15, v0, v1, v2, v3, (.tuple #[dv ⟨d0, d1, d2, d3, d4, d5⟩, (iv p q), (iv u v), .int .i64 er]), (dv ⟨d0, d1, d2, d3, d4, d5⟩), v6, v7, v8, v9, v10, v11, v15, b9, b10, b11, rfl, ?_, ?_⟩
      · simp only [Act.put, List.setIfInBounds_toArray, List.set_cons_zero, List.set_cons_succ]
      · exact { H.out with e5 := fun _ => rfl }
    | 6, hi, _ =>
      have l := (ready_op (o := _) rfl hi).1
      have l' : l6 = false := l
      subst l'
      clear l
      have k4 : l4 = true := (ready_op (o := _) rfl hi).2 { on := 4, ground := .data } (by simp) rfl
      clear hi hlt
      subst k4
      obtain rfl := h.e4 rfl
      have H := Lib.hid h
      clear h
      refine wpOp_shut rfl (fun K hK => ?_)
      try simp only [Act.put, List.setIfInBounds_toArray, List.set_cons_zero, List.set_cons_succ]
      go_simp
      refine hK.out _ _ ?_
      unfold S7.I
      refine ⟨l0, l1, l2, l3, true, l5, true, l7, l8, l9, l10, l11, l12, l13, l14, l15, v0, v1, v2, v3, (.tuple #[dv ⟨d0, d1, d2, d3, d4, d5⟩, (iv p q), (iv u v), .int .i64 er]), v5, ((iv p q)), v7, v8, v9, v10, v11, v15, b9, b10, b11, rfl, ?_, ?_⟩
      · simp only [Act.put, List.setIfInBounds_toArray, List.set_cons_zero, List.set_cons_succ]
      · exact { H.out with e6 := fun _ => rfl }
    | 7, hi, _ =>
      have l := (ready_op (o := _) rfl hi).1
      have l' : l7 = false := l
      subst l'
      clear l
      have k4 : l4 = true := (ready_op (o := _) rfl hi).2 { on := 4, ground := .data } (by simp) rfl
      clear hi hlt
      subst k4
      obtain rfl := h.e4 rfl
      have H := Lib.hid h
      clear h
      refine wpOp_shut rfl (fun K hK => ?_)
      try simp only [Act.put, List.setIfInBounds_toArray, List.set_cons_zero, List.set_cons_succ]
      go_simp
      refine hK.out _ _ ?_
      unfold S7.I
      refine ⟨l0, l1, l2, l3, true, l5, l6, true, l8, l9, l10, l11, l12, l13, l14, l15, v0, v1, v2, v3, (.tuple #[dv ⟨d0, d1, d2, d3, d4, d5⟩, (iv p q), (iv u v), .int .i64 er]), v5, v6, ((iv u v)), v8, v9, v10, v11, v15, b9, b10, b11, rfl, ?_, ?_⟩
      · simp only [Act.put, List.setIfInBounds_toArray, List.set_cons_zero, List.set_cons_succ]
      · exact { H.out with e7 := fun _ => rfl }
    | 8, hi, _ =>
      have l := (ready_op (o := _) rfl hi).1
      have l' : l8 = false := l
      subst l'
      clear l
      have k4 : l4 = true := (ready_op (o := _) rfl hi).2 { on := 4, ground := .data } (by simp) rfl
      clear hi hlt
      subst k4
      obtain rfl := h.e4 rfl
      have H := Lib.hid h
      clear h
      refine wpOp_shut rfl (fun K hK => ?_)
      try simp only [Act.put, List.setIfInBounds_toArray, List.set_cons_zero, List.set_cons_succ]
      go_simp
      refine hK.out _ _ ?_
      unfold S7.I
      refine ⟨l0, l1, l2, l3, true, l5, l6, l7, true, l9, l10, l11, l12, l13, l14, l15, v0, v1, v2, v3, (.tuple #[dv ⟨d0, d1, d2, d3, d4, d5⟩, (iv p q), (iv u v), .int .i64 er]), v5, v6, v7, (.int .i64 er), v9, v10, v11, v15, b9, b10, b11, rfl, ?_, ?_⟩
      · simp only [Act.put, List.setIfInBounds_toArray, List.set_cons_zero, List.set_cons_succ]
      · exact { H.out with e8 := fun _ => rfl }
    | 9, hi, _ =>
      have l := (ready_op (o := _) rfl hi).1
      have l' : l9 = false := l
      subst l'
      clear l
      clear hi hlt
      have H := Lib.hid h
      clear h
      refine wpOp_shut rfl (fun K hK => ?_)
      try simp only [Act.put, List.setIfInBounds_toArray, List.set_cons_zero, List.set_cons_succ]
      go_simp
      refine hK.out _ _ ?_
      unfold S7.I
      refine ⟨l0, l1, l2, l3, l4, l5, l6, l7, l8, true, l10, l11, l12, l13, l14, l15, v0, v1, v2, v3, v4, v5, v6, v7, v8, (.pointer (some ⟨w'.heap.size, 0, none⟩)), v10, v11, v15, w'.heap.size, b10, b11, rfl, ?_, ?_⟩
      · simp only [Act.put, List.setIfInBounds_toArray, List.set_cons_zero, List.set_cons_succ]
      · have h := H.out
        have h2 := h.kept ((Below.refl _ _).alloc (Nat.le_refl _) (.cells (List.toArray [.int .i64 0, .int .i64 0, .int .i64 0, .int .i64 0, .int .i64 0, .int .i64 0]) 25))
        exact { h2 with e9 := fun _ => rfl, g9 := fun _ => h.g.size, t9 := fun _ => by simp, o9 := fun p => rfl, z9 := fun _ _ => Bx.new rfl, s9 := fun p => (nomatch (h.o9 p)), d9_10 := fun _ p => Nat.ne_of_gt (h.t10 p), d9_11 := fun _ p => Nat.ne_of_gt (h.t11 p) }
    | 10, hi, _ =>
      have l := (ready_op (o := _) rfl hi).1
      have l' : l10 = false := l
      subst l'
      clear l
      clear hi hlt
      have H := Lib.hid h
      clear h
      refine wpOp_shut rfl (fun K hK => ?_)
      try simp only [Act.put, List.setIfInBounds_toArray, List.set_cons_zero, List.set_cons_succ]
      go_simp
      refine hK.out _ _ ?_
      unfold S7.I
      refine ⟨l0, l1, l2, l3, l4, l5, l6, l7, l8, l9, true, l11, l12, l13, l14, l15, v0, v1, v2, v3, v4, v5, v6, v7, v8, v9, (.pointer (some ⟨w'.heap.size, 0, none⟩)), v11, v15, b9, w'.heap.size, b11, rfl, ?_, ?_⟩
      · simp only [Act.put, List.setIfInBounds_toArray, List.set_cons_zero, List.set_cons_succ]
      · have h := H.out
        have h2 := h.kept ((Below.refl _ _).alloc (Nat.le_refl _) (.cells (List.toArray [.int .i64 0, .int .i64 0]) 23))
        exact { h2 with e10 := fun _ => rfl, g10 := fun _ => h.g.size, t10 := fun _ => by simp, o10 := fun p => rfl, z10 := fun _ _ => Bx.new rfl, s10 := fun p => (nomatch (h.o10 p)), d9_10 := fun p _ => Nat.ne_of_lt (h.t9 p), d10_11 := fun _ p => Nat.ne_of_gt (h.t11 p) }
    | 11, hi, _ =>
      have l := (ready_op (o := _) rfl hi).1
      have l' : l11 = false := l
      subst l'
      clear l
      clear hi hlt
      have H := Lib.hid h
      clear h
      refine wpOp_shut rfl (fun K hK => ?_)
      try simp only [Act.put, List.setIfInBounds_toArray, List.set_cons_zero, List.set_cons_succ]
      go_simp
      refine hK.out _ _ ?_
      unfold S7.I
      refine ⟨l0, l1, l2, l3, l4, l5, l6, l7, l8, l9, l10, true, l12, l13, l14, l15, v0, v1, v2, v3, v4, v5, v6, v7, v8, v9, v10, (.pointer (some ⟨w'.heap.size, 0, none⟩)), v15, b9, b10, w'.heap.size, rfl, ?_, ?_⟩
      · simp only [Act.put, List.setIfInBounds_toArray, List.set_cons_zero, List.set_cons_succ]
      · have h := H.out
        have h2 := h.kept ((Below.refl _ _).alloc (Nat.le_refl _) (.cells (List.toArray [.int .i64 0, .int .i64 0]) 23))
        exact { h2 with e11 := fun _ => rfl, g11 := fun _ => h.g.size, t11 := fun _ => by simp, o11 := fun p => rfl, z11 := fun _ _ => Bx.new rfl, s11 := fun p => (nomatch (h.o11 p)), d9_11 := fun p _ => Nat.ne_of_lt (h.t9 p), d10_11 := fun p _ => Nat.ne_of_lt (h.t10 p) }
    | 12, hi, _ =>
      have l := (ready_op (o := _) rfl hi).1
      have l' : l12 = false := l
      subst l'
      clear l
      have k9 : l9 = true := (ready_op (o := _) rfl hi).2 { on := 9, ground := .phase } (by simp) rfl
      have k5 : l5 = true := (ready_op (o := _) rfl hi).2 { on := 5, ground := .phase } (by simp) rfl
      have k3 : l3 = true := (ready_op (o := _) rfl hi).2 { on := 3, ground := .phase } (by simp) rfl
      have k0 : l0 = true := (ready_op (o := _) rfl hi).2 { on := 0, ground := .phase } (by simp) rfl
      have k1 : l1 = true := (ready_op (o := _) rfl hi).2 { on := 1, ground := .phase } (by simp) rfl
      have k2 : l2 = true := (ready_op (o := _) rfl hi).2 { on := 2, ground := .phase } (by simp) rfl
      have k4 : l4 = true := (ready_op (o := _) rfl hi).2 { on := 4, ground := .phase } (by simp) rfl
      have k10 : l10 = true := (ready_op (o := _) rfl hi).2 { on := 10, ground := .phase } (by simp) rfl
      have k11 : l11 = true := (ready_op (o := _) rfl hi).2 { on := 11, ground := .phase } (by simp) rfl
      clear hi hlt
      subst k9
      subst k5
      subst k3
      subst k0
      subst k1
      subst k2
      subst k4
      subst k10
      subst k11
      obtain rfl := h.e9 rfl
      obtain rfl := h.e5 rfl
      obtain rfl := h.e3 rfl
      obtain rfl := h.e0 rfl
      obtain rfl := h.e1 rfl
      obtain rfl := h.e2 rfl
      obtain rfl := h.e4 rfl
      obtain rfl := h.e10 rfl
      obtain rfl := h.e11 rfl
      have bz := h.z9 rfl rfl
      have c := bz.c
      have f := bz.f
      clear bz
      have H := Lib.hid h
      clear h
      refine wpOp_shut rfl (fun K hK => ?_)
      try simp only [Act.put, List.setIfInBounds_toArray, List.set_cons_zero, List.set_cons_succ]
      go_simp
      refine hK.out _ _ ?_
      unfold S7.I
      refine ⟨true, true, true, true, true, true, l6, l7, l8, true, true, true, true, l13, l14, l15, (dv s), (dv t), ((iv 16777216 16777216)), (.tuple #[dv ⟨d0, d1, d2, d3, d4, d5⟩, (iv p q), (iv u v), .int .i64 er]), (.tuple #[dv ⟨d0, d1, d2, d3, d4, d5⟩, (iv p q), (iv u v), .int .i64 er]), (dv ⟨d0, d1, d2, d3, d4, d5⟩), v6, v7, v8, (.pointer (some ⟨b9, 0, none⟩)), (.pointer (some ⟨b10, 0, none⟩)), (.pointer (some ⟨b11, 0, none⟩)), v15, b9, b10, b11, rfl, ?_, ?_⟩
      · simp only [Act.put, List.setIfInBounds_toArray, List.set_cons_zero, List.set_cons_succ]
      · have h := H.out
        have gb := h.g9 rfl
        exact { h with g := ((((((h.g.put gb).put gb).put gb).put gb).put gb).put gb), o9 := fun _ => rfl, z9 := fun _ p => (nomatch p), s9 := fun _ => (((((((h.z9 rfl rfl).put).put).put).put).put).put), t9 := fun p => by simpa using h.t9 p, t10 := fun p => by simpa using h.t10 p, z10 := fun p r => (((((((h.z10 p r).set (fun q => (h.d9_10 rfl p) q.symm)).set (fun q => (h.d9_10 rfl p) q.symm)).set (fun q => (h.d9_10 rfl p) q.symm)).set (fun q => (h.d9_10 rfl p) q.symm)).set (fun q => (h.d9_10 rfl p) q.symm)).set (fun q => (h.d9_10 rfl p) q.symm)), s10 := fun p => (((((((h.s10 p).set (fun q => (h.d9_10 rfl (h.o10 p)) q.symm)).set (fun q => (h.d9_10 rfl (h.o10 p)) q.symm)).set (fun q => (h.d9_10 rfl (h.o10 p)) q.symm)).set (fun q => (h.d9_10 rfl (h.o10 p)) q.symm)).set (fun q => (h.d9_10 rfl (h.o10 p)) q.symm)).set (fun q => (h.d9_10 rfl (h.o10 p)) q.symm)), t11 := fun p => by simpa using h.t11 p, z11 := fun p r => (((((((h.z11 p r).set (fun q => (h.d9_11 rfl p) q.symm)).set (fun q => (h.d9_11 rfl p) q.symm)).set (fun q => (h.d9_11 rfl p) q.symm)).set (fun q => (h.d9_11 rfl p) q.symm)).set (fun q => (h.d9_11 rfl p) q.symm)).set (fun q => (h.d9_11 rfl p) q.symm)), s11 := fun p => (((((((h.s11 p).set (fun q => (h.d9_11 rfl (h.o11 p)) q.symm)).set (fun q => (h.d9_11 rfl (h.o11 p)) q.symm)).set (fun q => (h.d9_11 rfl (h.o11 p)) q.symm)).set (fun q => (h.d9_11 rfl (h.o11 p)) q.symm)).set (fun q => (h.d9_11 rfl (h.o11 p)) q.symm)).set (fun q => (h.d9_11 rfl (h.o11 p)) q.symm)) }
    | 13, hi, _ =>
      have l := (ready_op (o := _) rfl hi).1
      have l' : l13 = false := l
      subst l'
      clear l
      have k10 : l10 = true := (ready_op (o := _) rfl hi).2 { on := 10, ground := .phase } (by simp) rfl
      have k6 : l6 = true := (ready_op (o := _) rfl hi).2 { on := 6, ground := .phase } (by simp) rfl
      have k12 : l12 = true := (ready_op (o := _) rfl hi).2 { on := 12, ground := .phase } (by simp) rfl
      have k0 : l0 = true := (ready_op (o := _) rfl hi).2 { on := 0, ground := .phase } (by simp) rfl
      have k1 : l1 = true := (ready_op (o := _) rfl hi).2 { on := 1, ground := .phase } (by simp) rfl
      have k2 : l2 = true := (ready_op (o := _) rfl hi).2 { on := 2, ground := .phase } (by simp) rfl
      have k3 : l3 = true := (ready_op (o := _) rfl hi).2 { on := 3, ground := .phase } (by simp) rfl
      have k4 : l4 = true := (ready_op (o := _) rfl hi).2 { on := 4, ground := .phase } (by simp) rfl
      have k5 : l5 = true := (ready_op (o := _) rfl hi).2 { on := 5, ground := .phase } (by simp) rfl
      have k9 : l9 = true := (ready_op (o := _) rfl hi).2 { on := 9, ground := .phase } (by simp) rfl
      have k11 : l11 = true := (ready_op (o := _) rfl hi).2 { on := 11, ground := .phase } (by simp) rfl
      clear hi hlt
      subst k10
      subst k6
      subst k12
      subst k0
      subst k1
      subst k2
      subst k3
      subst k4
      subst k5
      subst k9
      subst k11
      obtain rfl := h.e10 rfl
      obtain rfl := h.e6 rfl
      obtain rfl := h.e0 rfl
      obtain rfl := h.e1 rfl
      obtain rfl := h.e2 rfl
      obtain rfl := h.e3 rfl
      obtain rfl := h.e4 rfl
      obtain rfl := h.e5 rfl
      obtain rfl := h.e9 rfl
      obtain rfl := h.e11 rfl
      have bz := h.z10 rfl rfl
      have c := bz.c
      have f := bz.f
      clear bz
      have H := Lib.hid h
      clear h
      refine wpOp_shut rfl (fun K hK => ?_)
      try simp only [Act.put, List.setIfInBounds_toArray, List.set_cons_zero, List.set_cons_succ]
      go_simp
      refine hK.out _ _ ?_
      unfold S7.I
      refine ⟨true, true, true, true, true, true, true, l7, l8, true, true, true, true, true, l14, l15, (dv s), (dv t), ((iv 16777216 16777216)), (.tuple #[dv ⟨d0, d1, d2, d3, d4, d5⟩, (iv p q), (iv u v), .int .i64 er]), (.tuple #[dv ⟨d0, d1, d2, d3, d4, d5⟩, (iv p q), (iv u v), .int .i64 er]), (dv ⟨d0, d1, d2, d3, d4, d5⟩), ((iv p q)), v7, v8, (.pointer (some ⟨b9, 0, none⟩)), (.pointer (some ⟨b10, 0, none⟩)), (.pointer (some ⟨b11, 0, none⟩)), v15, b9, b10, b11, rfl, ?_, ?_⟩
      · simp only [Act.put, List.setIfInBounds_toArray, List.set_cons_zero, List.set_cons_succ]
      · have h := H.out
        have gb := h.g10 rfl
        exact { h with g := ((h.g.put gb).put gb), o10 := fun _ => rfl, z10 := fun _ p => (nomatch p), s10 := fun _ => (((h.z10 rfl rfl).put).put), t10 := fun p => by simpa using h.t10 p, t9 := fun p => by simpa using h.t9 p, z9 := fun p r => (((h.z9 p r).set (fun q => (h.d9_10 p rfl) q)).set (fun q => (h.d9_10 p rfl) q)), s9 := fun p => (((h.s9 p).set (fun q => (h.d9_10 (h.o9 p) rfl) q)).set (fun q => (h.d9_10 (h.o9 p) rfl) q)), t11 := fun p => by simpa using h.t11 p, z11 := fun p r => (((h.z11 p r).set (fun q => (h.d10_11 rfl p) q.symm)).set (fun q => (h.d10_11 rfl p) q.symm)), s11 := fun p => (((h.s11 p).set (fun q => (h.d10_11 rfl (h.o11 p)) q.symm)).set (fun q => (h.d10_11 rfl (h.o11 p)) q.symm)) }
    | 14, hi, _ =>
      have l := (ready_op (o := _) rfl hi).1
      have l' : l14 = false := l
      subst l'
      clear l
      have k11 : l11 = true := (ready_op (o := _) rfl hi).2 { on := 11, ground := .phase } (by simp) rfl
      have k7 : l7 = true := (ready_op (o := _) rfl hi).2 { on := 7, ground := .phase } (by simp) rfl
      have k13 : l13 = true := (ready_op (o := _) rfl hi).2 { on := 13, ground := .phase } (by simp) rfl
      have k0 : l0 = true := (ready_op (o := _) rfl hi).2 { on := 0, ground := .phase } (by simp) rfl
      have k1 : l1 = true := (ready_op (o := _) rfl hi).2 { on := 1, ground := .phase } (by simp) rfl
      have k2 : l2 = true := (ready_op (o := _) rfl hi).2 { on := 2, ground := .phase } (by simp) rfl
      have k3 : l3 = true := (ready_op (o := _) rfl hi).2 { on := 3, ground := .phase } (by simp) rfl
      have k4 : l4 = true := (ready_op (o := _) rfl hi).2 { on := 4, ground := .phase } (by simp) rfl
      have k5 : l5 = true := (ready_op (o := _) rfl hi).2 { on := 5, ground := .phase } (by simp) rfl
      have k6 : l6 = true := (ready_op (o := _) rfl hi).2 { on := 6, ground := .phase } (by simp) rfl
      have k9 : l9 = true := (ready_op (o := _) rfl hi).2 { on := 9, ground := .phase } (by simp) rfl
      have k10 : l10 = true := (ready_op (o := _) rfl hi).2 { on := 10, ground := .phase } (by simp) rfl
      have k12 : l12 = true := (ready_op (o := _) rfl hi).2 { on := 12, ground := .phase } (by simp) rfl
      clear hi hlt
      subst k11
      subst k7
      subst k13
      subst k0
      subst k1
      subst k2
      subst k3
      subst k4
      subst k5
      subst k6
      subst k9
      subst k10
      subst k12
      obtain rfl := h.e11 rfl
      obtain rfl := h.e7 rfl
      obtain rfl := h.e0 rfl
      obtain rfl := h.e1 rfl
      obtain rfl := h.e2 rfl
      obtain rfl := h.e3 rfl
      obtain rfl := h.e4 rfl
      obtain rfl := h.e5 rfl
      obtain rfl := h.e6 rfl
      obtain rfl := h.e9 rfl
      obtain rfl := h.e10 rfl
      have bz := h.z11 rfl rfl
      have c := bz.c
      have f := bz.f
      clear bz
      have H := Lib.hid h
      clear h
      refine wpOp_shut rfl (fun K hK => ?_)
      try simp only [Act.put, List.setIfInBounds_toArray, List.set_cons_zero, List.set_cons_succ]
      go_simp
      refine hK.out _ _ ?_
      unfold S7.I
      refine ⟨true, true, true, true, true, true, true, true, l8, true, true, true, true, true, true, l15, (dv s), (dv t), ((iv 16777216 16777216)), (.tuple #[dv ⟨d0, d1, d2, d3, d4, d5⟩, (iv p q), (iv u v), .int .i64 er]), (.tuple #[dv ⟨d0, d1, d2, d3, d4, d5⟩, (iv p q), (iv u v), .int .i64 er]), (dv ⟨d0, d1, d2, d3, d4, d5⟩), ((iv p q)), ((iv u v)), v8, (.pointer (some ⟨b9, 0, none⟩)), (.pointer (some ⟨b10, 0, none⟩)), (.pointer (some ⟨b11, 0, none⟩)), v15, b9, b10, b11, rfl, ?_, ?_⟩
      · simp only [Act.put, List.setIfInBounds_toArray, List.set_cons_zero, List.set_cons_succ]
      · have h := H.out
        have gb := h.g11 rfl
        exact { h with g := ((h.g.put gb).put gb), o11 := fun _ => rfl, z11 := fun _ p => (nomatch p), s11 := fun _ => (((h.z11 rfl rfl).put).put), t11 := fun p => by simpa using h.t11 p, t9 := fun p => by simpa using h.t9 p, z9 := fun p r => (((h.z9 p r).set (fun q => (h.d9_11 p rfl) q)).set (fun q => (h.d9_11 p rfl) q)), s9 := fun p => (((h.s9 p).set (fun q => (h.d9_11 (h.o9 p) rfl) q)).set (fun q => (h.d9_11 (h.o9 p) rfl) q)), t10 := fun p => by simpa using h.t10 p, z10 := fun p r => (((h.z10 p r).set (fun q => (h.d10_11 p rfl) q)).set (fun q => (h.d10_11 p rfl) q)), s10 := fun p => (((h.s10 p).set (fun q => (h.d10_11 (h.o10 p) rfl) q)).set (fun q => (h.d10_11 (h.o10 p) rfl) q)) }
    | 15, hi, _ =>
      have l := (ready_op (o := _) rfl hi).1
      have l' : l15 = false := l
      subst l'
      clear l
      have k8 : l8 = true := (ready_op (o := _) rfl hi).2 { on := 8, ground := .phase } (by simp) rfl
      have k14 : l14 = true := (ready_op (o := _) rfl hi).2 { on := 14, ground := .phase } (by simp) rfl
      have k0 : l0 = true := (ready_op (o := _) rfl hi).2 { on := 0, ground := .phase } (by simp) rfl
      have k1 : l1 = true := (ready_op (o := _) rfl hi).2 { on := 1, ground := .phase } (by simp) rfl
      have k2 : l2 = true := (ready_op (o := _) rfl hi).2 { on := 2, ground := .phase } (by simp) rfl
      have k3 : l3 = true := (ready_op (o := _) rfl hi).2 { on := 3, ground := .phase } (by simp) rfl
      have k4 : l4 = true := (ready_op (o := _) rfl hi).2 { on := 4, ground := .phase } (by simp) rfl
      have k5 : l5 = true := (ready_op (o := _) rfl hi).2 { on := 5, ground := .phase } (by simp) rfl
      have k6 : l6 = true := (ready_op (o := _) rfl hi).2 { on := 6, ground := .phase } (by simp) rfl
      have k7 : l7 = true := (ready_op (o := _) rfl hi).2 { on := 7, ground := .phase } (by simp) rfl
      have k9 : l9 = true := (ready_op (o := _) rfl hi).2 { on := 9, ground := .phase } (by simp) rfl
      have k10 : l10 = true := (ready_op (o := _) rfl hi).2 { on := 10, ground := .phase } (by simp) rfl
      have k11 : l11 = true := (ready_op (o := _) rfl hi).2 { on := 11, ground := .phase } (by simp) rfl
      have k12 : l12 = true := (ready_op (o := _) rfl hi).2 { on := 12, ground := .phase } (by simp) rfl
      have k13 : l13 = true := (ready_op (o := _) rfl hi).2 { on := 13, ground := .phase } (by simp) rfl
      clear hi hlt
      subst k8
      subst k14
      subst k0
      subst k1
      subst k2
      subst k3
      subst k4
      subst k5
      subst k6
      subst k7
      subst k9
      subst k10
      subst k11
      subst k12
      subst k13
      obtain rfl := h.e8 rfl
      obtain rfl := h.e0 rfl
      obtain rfl := h.e1 rfl
      obtain rfl := h.e2 rfl
      obtain rfl := h.e3 rfl
      obtain rfl := h.e4 rfl
      obtain rfl := h.e5 rfl
      obtain rfl := h.e6 rfl
      obtain rfl := h.e7 rfl
      obtain rfl := h.e9 rfl
      obtain rfl := h.e10 rfl
      obtain rfl := h.e11 rfl
      have H := Lib.hid h
      clear h
      refine wpOp_shut rfl (fun K hK => ?_)
      try simp only [Act.put, List.setIfInBounds_toArray, List.set_cons_zero, List.set_cons_succ]
      go_simp
      refine hK.out _ _ ?_
      unfold S7.I
      refine ⟨true, true, true, true, true, true, true, true, true, true, true, true, true, true, true, true, (dv s), (dv t), ((iv 16777216 16777216)), (.tuple #[dv ⟨d0, d1, d2, d3, d4, d5⟩, (iv p q), (iv u v), .int .i64 er]), (.tuple #[dv ⟨d0, d1, d2, d3, d4, d5⟩, (iv p q), (iv u v), .int .i64 er]), (dv ⟨d0, d1, d2, d3, d4, d5⟩), ((iv p q)), ((iv u v)), (.int .i64 er), (.pointer (some ⟨b9, 0, none⟩)), (.pointer (some ⟨b10, 0, none⟩)), (.pointer (some ⟨b11, 0, none⟩)), (.int .i64 er), b9, b10, b11, rfl, ?_, ?_⟩
      · simp only [Act.put, List.setIfInBounds_toArray, List.set_cons_zero, List.set_cons_succ]
      · exact { H.out with e15 := fun _ => rfl }
    | i + 16, _, hlt => exact absurd hlt (by simp)
  · intro L a' w' hI hn
    obtain ⟨l0, l1, l2, l3, l4, l5, l6, l7, l8, l9, l10, l11, l12, l13, l14, l15, v0, v1, v2, v3, v4, v5, v6, v7, v8, v9, v10, v11, v15, b9, b10, b11, rfl, rfl, h⟩ := hI
    have k0 : l0 = true := not_ready (i := 0) (o := _) rfl hn (by simp [Region.binds])
    subst k0
    have k1 : l1 = true := not_ready (i := 1) (o := _) rfl hn (by simp [Region.binds])
    subst k1
    have k2 : l2 = true := not_ready (i := 2) (o := _) rfl hn (by simp [Region.binds])
    subst k2
    have k3 : l3 = true := not_ready (i := 3) (o := _) rfl hn (by simp [Region.binds])
    subst k3
    have k4 : l4 = true := not_ready (i := 4) (o := _) rfl hn (by simp [Region.binds])
    subst k4
    have k5 : l5 = true := not_ready (i := 5) (o := _) rfl hn (by simp [Region.binds])
    subst k5
    have k6 : l6 = true := not_ready (i := 6) (o := _) rfl hn (by simp [Region.binds])
    subst k6
    have k7 : l7 = true := not_ready (i := 7) (o := _) rfl hn (by simp [Region.binds])
    subst k7
    have k8 : l8 = true := not_ready (i := 8) (o := _) rfl hn (by simp [Region.binds])
    subst k8
    have k9 : l9 = true := not_ready (i := 9) (o := _) rfl hn (by simp [Region.binds])
    subst k9
    have k10 : l10 = true := not_ready (i := 10) (o := _) rfl hn (by simp [Region.binds])
    subst k10
    have k11 : l11 = true := not_ready (i := 11) (o := _) rfl hn (by simp [Region.binds])
    subst k11
    have k12 : l12 = true := not_ready (i := 12) (o := _) rfl hn (by simp [Region.binds])
    subst k12
    have k13 : l13 = true := not_ready (i := 13) (o := _) rfl hn (by simp [Region.binds])
    subst k13
    have k14 : l14 = true := not_ready (i := 14) (o := _) rfl hn (by simp [Region.binds])
    subst k14
    have k15 : l15 = true := not_ready (i := 15) (o := _) rfl hn (by simp [Region.binds])
    subst k15
    clear hn
    obtain rfl := h.e0 rfl
    obtain rfl := h.e1 rfl
    obtain rfl := h.e2 rfl
    obtain rfl := h.e3 rfl
    obtain rfl := h.e4 rfl
    obtain rfl := h.e5 rfl
    obtain rfl := h.e6 rfl
    obtain rfl := h.e7 rfl
    obtain rfl := h.e8 rfl
    obtain rfl := h.e9 rfl
    obtain rfl := h.e10 rfl
    obtain rfl := h.e11 rfl
    obtain rfl := h.e15 rfl
    simp only [Act.put, List.setIfInBounds_toArray, List.set_cons_zero, List.set_cons_succ]
    have G := h.g
    have X5 := (h.s9 rfl).rd
    have X6 := (h.s10 rfl).rd
    have X7 := (h.s11 rfl).rd
    clear h
    have G1 := ((G.cons X7).cons X6).cons X5
    clear G X5 X6 X7
    by_cases he : er = 0
    · subst he
      obtain ⟨T1, T2⟩ := HS.out rfl
      have E1 := Lib.hid T1
      have E2 := Lib.hid T2
      clear T1 T2
      have c := (G1.at 0 rfl).c
      have x := (G1.at 4 rfl).c
      go_wp2_with fail
      refine (dinside_any s ⟨d0, d1, d2, d3, d4, d5⟩ _).mono ?_
      rintro e w5 ⟨rfl, hb⟩
      rw [E1.out]
      have G2 := G1.call hb
      clear hb c x
      have c := (G2.at 1 rfl).c
      have x := (G2.at 2 rfl).c
      go_wp2_with fail
      refine (met_any p q u v _).mono ?_
      rintro e w6 ⟨rfl, hb⟩
      rw [E2.out]
      have G3 := G2.call hb
      clear hb c x
      go_wp2_with fail
      go_ret
      exact ⟨rfl, G3.below⟩
    · have he' : (er == 0) = false := by simpa using he
      have he2 : (er != 0) = true := by simpa using he
      go_wp2_with fail
      go_ret
      exact ⟨rfl, G1.below⟩
end Go.Proofs.Ytjppcndhaejfpaa.Iv
