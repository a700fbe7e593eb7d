/- The example holds. -/
import Derived.Test.YtjppcndhaejfpaaDra
import Derived.Test.YtjppcndhaejfpaaDrb
import Derived.Test.YtjppcndhaejfpaaDrc
import Derived.Test.YtjppcndhaejfpaaRg
namespace Go.Proofs.Ytjppcndhaejfpaa.Iv
open Go.RowKit

structure Z6 (W : World) (b : Nat) : Prop where
  z0 : W.cell? ⟨b, 0, none⟩ = some (.int .i64 0)
  f0 : W.frozen? ⟨b, 0, none⟩ = false
  z1 : W.cell? ⟨b, 1, none⟩ = some (.int .i64 0)
  f1 : W.frozen? ⟨b, 1, none⟩ = false
  z2 : W.cell? ⟨b, 2, none⟩ = some (.int .i64 0)
  f2 : W.frozen? ⟨b, 2, none⟩ = false
  z3 : W.cell? ⟨b, 3, none⟩ = some (.int .i64 0)
  f3 : W.frozen? ⟨b, 3, none⟩ = false
  z4 : W.cell? ⟨b, 4, none⟩ = some (.int .i64 0)
  f4 : W.frozen? ⟨b, 4, none⟩ = false
  z5 : W.cell? ⟨b, 5, none⟩ = some (.int .i64 0)
  f5 : W.frozen? ⟨b, 5, none⟩ = false
  lt : b < W.heap.size
theorem Z6.new {W : World} {b : Nat} {t : TypeId} (hb : b = W.heap.size) : Z6 (W.alloc (.cells #[.int .i64 0, .int .i64 0, .int .i64 0, .int .i64 0, .int .i64 0, .int .i64 0] t)) b := by
  subst hb
  constructor <;> simp [go_sem]
theorem Z6.kept {W W' : World} {b : Nat} (h : Z6 W b) (hb : Below W.heap.size W W') : Z6 W' b :=
  ⟨(hb.cell (p := ⟨b, 0, none⟩) h.lt).trans h.z0, (hb.frozen (p := ⟨b, 0, none⟩) h.lt).trans h.f0, (hb.cell (p := ⟨b, 1, none⟩) h.lt).trans h.z1, (hb.frozen (p := ⟨b, 1, none⟩) h.lt).trans h.f1, (hb.cell (p := ⟨b, 2, none⟩) h.lt).trans h.z2, (hb.frozen (p := ⟨b, 2, none⟩) h.lt).trans h.f2, (hb.cell (p := ⟨b, 3, none⟩) h.lt).trans h.z3, (hb.frozen (p := ⟨b, 3, none⟩) h.lt).trans h.f3, (hb.cell (p := ⟨b, 4, none⟩) h.lt).trans h.z4, (hb.frozen (p := ⟨b, 4, none⟩) h.lt).trans h.f4, (hb.cell (p := ⟨b, 5, none⟩) h.lt).trans h.z5, (hb.frozen (p := ⟨b, 5, none⟩) h.lt).trans h.f5, Nat.lt_of_lt_of_le h.lt hb.size⟩
theorem Z6.fin {W : World} {b : Nat} (h : Z6 W b) (p q r s t u : Value) : At ((((((W.setCell ⟨b, 0, none⟩ p).setCell ⟨b, 1, none⟩ q).setCell ⟨b, 2, none⟩ r).setCell ⟨b, 3, none⟩ s).setCell ⟨b, 4, none⟩ t).setCell ⟨b, 5, none⟩ u) b [p, q, r, s, t, u] := by
  have z0 := h.z0
  have z1 := h.z1
  have z2 := h.z2
  have z3 := h.z3
  have z4 := h.z4
  have z5 := h.z5
  have lt := h.lt
  refine ⟨by simpa using lt, fun j v hv => ?_⟩
  rcases j with _ | _ | _ | _ | _ | _ | j
  all_goals (simp at hv)
  all_goals (subst hv; simp [go_sem, *])
theorem Z6.alc {W : World} {b : Nat} (h : Z6 W b) (o : Obj) : Z6 (W.alloc o) b := h.kept ((Below.refl _ _).alloc (Nat.le_refl _) o)
theorem Z6.drew {W : World} {b : Nat} (h : Z6 W b) : Z6 W.drew b := h.kept (Below.refl _ _).drew
theorem Zn.alc {W : World} {b : Nat} (h : Zn W b) (o : Obj) : Zn (W.alloc o) b := h.kept ((Below.refl _ _).alloc (Nat.le_refl _) o)
theorem Zn.drew {W : World} {b : Nat} (h : Zn W b) : Zn W.drew b := h.kept (Below.refl _ _).drew
structure Ga (w0 W : World) (b1 : Nat) : Prop where
  T : At W b1 [.int .i64 33554432, .int .i64 33554432]
  ge : w0.heap.size ≤ b1
  below : Below w0.heap.size w0 W
theorem Ga.call {w0 W W' : World} {b1 : Nat} (h : Ga w0 W b1) (hb : Below W.heap.size W W') : Ga w0 W' b1 := ⟨h.T.kept hb, h.ge, h.below.trans (hb.mono (by have := h.T.1; have := h.ge; omega))⟩
theorem Ga.alc {w0 W : World} {b1 : Nat} (h : Ga w0 W b1) (o : Obj) : Ga w0 (W.alloc o) b1 := h.call ((Below.refl _ _).alloc (Nat.le_refl _) o)
theorem Ga.drew {w0 W : World} {b1 : Nat} (h : Ga w0 W b1) : Ga w0 W.drew b1 := h.call (Below.refl _ _).drew
theorem Ga.put {w0 W : World} {b1 d i : Nat} {u : Value} (h : Ga w0 W b1) (lt : b1 < d) : Ga w0 (W.setCell ⟨d, i, none⟩ u) b1 := ⟨h.T.set (Nat.ne_of_lt lt), h.ge, h.below.setCell (by have := h.ge; dsimp only; omega) _⟩
theorem Ga.two {w0 W : World} {b1 : Nat} (h : Ga w0 W b1) : W.cell? ⟨b1, 0, none⟩ = some (.int .i64 33554432) ∧ W.cell? ⟨b1, 1, none⟩ = some (.int .i64 33554432) := ⟨h.T.c0, h.T.c1⟩
structure S3 (b1 : Nat) (w0 w : World) (l0 l1 l2 l3 l4 l5 l6 l7 l8 l9 l10 l11 l12 l13 l14 l15 : Bool) (v0 v1 v2 v3 v4 v5 v6 v7 v8 v9 v10 v11 v15 : Value) (b9 b10 b11 : Nat) : Prop where
  g : Ga w0 w b1
  e0 : l0 = true → v0 = (dv upD)
  e1 : l1 = true → v1 = (dv upD)
  e2 : l2 = true → v2 = iv 33554432 33554432
  e3 : l3 = true → v3 = .tuple #[dv upD, (iv 16777216 16777216), (iv 16777216 16777216), .int .i64 0]
  e4 : l4 = true → v4 = .tuple #[dv upD, (iv 16777216 16777216), (iv 16777216 16777216), .int .i64 0]
  e5 : l5 = true → v5 = dv upD
  e6 : l6 = true → v6 = (iv 16777216 16777216)
  e7 : l7 = true → v7 = (iv 16777216 16777216)
  e8 : l8 = true → v8 = .int .i64 0
  e9 : l9 = true → v9 = .pointer (some ⟨b9, 0, none⟩)
  e10 : l10 = true → v10 = .pointer (some ⟨b10, 0, none⟩)
  e11 : l11 = true → v11 = .pointer (some ⟨b11, 0, none⟩)
  e15 : l15 = true → v15 = .int .i64 0
  g9 : l9 = true → b1 + 1 ≤ b9
  t9 : l9 = true → b9 < w.heap.size
  o9 : l12 = true → l9 = true
  z9 : l9 = true → l12 = false → Bx w b9 [.int .i64 0, .int .i64 0, .int .i64 0, .int .i64 0, .int .i64 0, .int .i64 0]
  s9 : l12 = true → Bx w b9 [.int .i64 0, .int .i64 0, .int .i64 0, .int .i64 0, .int .i64 16777216, .int .i64 16777216]
  g10 : l10 = true → b1 + 1 ≤ b10
  t10 : l10 = true → b10 < w.heap.size
  o10 : l13 = true → l10 = true
  z10 : l10 = true → l13 = false → Bx w b10 [.int .i64 0, .int .i64 0]
  s10 : l13 = true → Bx w b10 [.int .i64 16777216, .int .i64 16777216]
  g11 : l11 = true → b1 + 1 ≤ b11
  t11 : l11 = true → b11 < w.heap.size
  o11 : l14 = true → l11 = true
  z11 : l11 = true → l14 = false → Bx w b11 [.int .i64 0, .int .i64 0]
  s11 : l14 = true → Bx w b11 [.int .i64 16777216, .int .i64 16777216]
  d9_10 : l9 = true → l10 = true → ¬ (b9 = b10)
  d9_11 : l9 = true → l11 = true → ¬ (b9 = b11)
  d10_11 : l10 = true → l11 = true → ¬ (b10 = b11)
theorem S3.kept {b1 : Nat} {w0 w : World} {l0 l1 l2 l3 l4 l5 l6 l7 l8 l9 l10 l11 l12 l13 l14 l15 : Bool} {v0 v1 v2 v3 v4 v5 v6 v7 v8 v9 v10 v11 v15 : Value} {b9 b10 b11 : Nat} {w' : World} (h : S3 b1 w0 w l0 l1 l2 l3 l4 l5 l6 l7 l8 l9 l10 l11 l12 l13 l14 l15 v0 v1 v2 v3 v4 v5 v6 v7 v8 v9 v10 v11 v15 b9 b10 b11) (hb : Below w.heap.size w w') : S3 b1 w0 w' l0 l1 l2 l3 l4 l5 l6 l7 l8 l9 l10 l11 l12 l13 l14 l15 v0 v1 v2 v3 v4 v5 v6 v7 v8 v9 v10 v11 v15 b9 b10 b11 :=
  { h with g := h.g.call hb, t9 := fun p => Nat.lt_of_lt_of_le (h.t9 p) hb.size, z9 := fun p q => (h.z9 p q).kept hb, s9 := fun p => (h.s9 p).kept hb, t10 := fun p => Nat.lt_of_lt_of_le (h.t10 p) hb.size, z10 := fun p q => (h.z10 p q).kept hb, s10 := fun p => (h.s10 p).kept hb, t11 := fun p => Nat.lt_of_lt_of_le (h.t11 p) hb.size, z11 := fun p q => (h.z11 p q).kept hb, s11 := fun p => (h.s11 p).kept hb }
def S3.I (b1 : Nat) (w0 : World) : Act → Array Bool → Act → World → Prop := fun a0 L a w => ∃ (l0 l1 l2 l3 l4 l5 l6 l7 l8 l9 l10 l11 l12 l13 l14 l15 : Bool) (v0 v1 v2 v3 v4 v5 v6 v7 v8 v9 v10 v11 v15 : Value) (b9 b10 b11 : Nat), L = #[l0, l1, l2, l3, l4, l5, l6, l7, l8, l9, l10, l11, l12, l13, l14, l15] ∧ a = (((((((((((((a0.put (some 23) v0).put (some 24) v1).put (some 25) v2).put (some 26) v3).put (some 22) v4).put (some 27) v5).put (some 28) v6).put (some 29) v7).put (some 30) v8).put (some 5) v9).put (some 6) v10).put (some 7) v11).put (some 8) v15) ∧ S3 b1 w0 w l0 l1 l2 l3 l4 l5 l6 l7 l8 l9 l10 l11 l12 l13 l14 l15 v0 v1 v2 v3 v4 v5 v6 v7 v8 v9 v10 v11 v15 b9 b10 b11
theorem le_alc {n : Nat} {W : World} {o : Obj} (h : n ≤ W.heap.size) : n ≤ (W.alloc o).heap.size := by simp; omega
set_option maxRecDepth 100000 in
set_option maxHeartbeats 80000000 in
theorem awake29_any (w : World) : Calls Try.prog 8 #[] w fun e w' => e = .returned (.bool true) ∧ Below w.heap.size w w' := by
  have EH := Lib.hid hits_up
  have ER := Lib.hid refr_up
  go_enter Try.func8, Try.ntmps8
  go_wp2_with fail
  refine (of_two _).mono ?_
  rintro e w1 ⟨rfl, hb⟩
  have z1 := hb.size
  try simp at z1
  go_upto_region 2 with fail
  obtain ⟨W2, hW2⟩ : ∃ W2, W2 = w1.alloc (.cells #[.int .i64 33554432, .int .i64 33554432] 23) := ⟨_, rfl⟩
  have T2 : At W2 w1.heap.size [.int .i64 33554432, .int .i64 33554432] := by rw [hW2]; exact At.new2 rfl
  have hw2 : Below w.heap.size w W2 := by rw [hW2]; exact hb.alloc z1 _
  rw [← hW2]
  clear hW2 hb
  have TD := T2.drew
  have hwD := hw2.drew
  have hsD : w.heap.size ≤ W2.drew.heap.size := hw2.size
  go_region_held3 (fun w' => w'.cell? ⟨w1.heap.size, 0, none⟩ = some (.int .i64 33554432) ∧ w'.cell? ⟨w1.heap.size, 1, none⟩ = some (.int .i64 33554432)) (with_reducible first | exact ⟨TD.c0, TD.c1⟩ | exact ⟨TA.c0, TA.c1⟩ | exact ⟨TB.c0, TB.c1⟩ | exact ⟨TC.c0, TC.c1⟩)
    (first | (have hm := hmarkB; go_at_call 16; refine (hits_any upD upD 33554432 33554432 _).mono ?_; rintro r wC ⟨rfl, hb⟩; rw [EH.out]; have TC : At wC (w1.heap.size) [.int .i64 33554432, .int .i64 33554432] := (by with_reducible first | exact TB.kept hb); have nTC : ¬ ((w1.heap.size) = wC.heap.size) := Nat.ne_of_lt TC.1; have hwC : Below w.heap.size w wC := (by with_reducible first | exact hwB.trans (hb.mono hsB)); have hsC : w.heap.size ≤ wC.heap.size := hwC.size; have hmarkC : wC = wC := rfl) | (have hm := hmarkA; go_at_call 30; refine (upD_any _).mono ?_; rintro r wB ⟨rfl, hb⟩; have TB : At wB (w1.heap.size) [.int .i64 33554432, .int .i64 33554432] := (by with_reducible first | exact TA.kept hb); have nTB : ¬ ((w1.heap.size) = wB.heap.size) := Nat.ne_of_lt TB.1; have hwB : Below w.heap.size w wB := (by with_reducible first | exact hwA.trans (hb.mono hsA)); have hsB : w.heap.size ≤ wB.heap.size := hwB.size; have hmarkB : wB = wB := rfl) | (go_at_call 30; refine (upD_any _).mono ?_; rintro r wA ⟨rfl, hb⟩; have TA : At wA (w1.heap.size) [.int .i64 33554432, .int .i64 33554432] := (by with_reducible first | exact TD.kept hb); have nTA : ¬ ((w1.heap.size) = wA.heap.size) := Nat.ne_of_lt TA.1; have hwA : Below w.heap.size w wA := (by with_reducible first | exact hwD.trans (hb.mono hsD)); have hsA : w.heap.size ≤ wA.heap.size := hwA.size; have hmarkA : wA = wA := rfl))
  have Ge := Ga.mk (w0 := w) TC z1 hwC
  clear TD hwD hsD TA TB hwA hwB hsA hsB TC hwC hsC T2 hw2 nTA nTB nTC
  go_upto_region 3 with fail
  obtain ⟨Wr, hWr⟩ : ∃ Wr, Wr = wC := ⟨_, rfl⟩
  rw [← hWr] at Ge ⊢
  clear hWr
  have lr := Ge.T.1
  refine region_sets (S3.I w1.heap.size w) (by kernel_rfl) ?_ ?_ ?_
  · refine ⟨false, false, false, false, false, false, false, false, false, false, false, false, false, false, false, false, undef, undef, undef, undef, undef, undef, undef, undef, undef, undef, undef, undef, undef, 0, 0, 0, rfl, by simp only [Act.put, List.setIfInBounds_toArray, List.set_cons_zero, List.set_cons_succ], ?_⟩
    constructor
    · exact Ge.drew
    all_goals (intro h; cases h)
  · intro L a' w' hI i hi
    obtain ⟨l0, l1, l2, l3, l4, l5, l6, l7, l8, l9, l10, l11, l12, l13, l14, l15, v0, v1, v2, v3, v4, v5, v6, v7, v8, v9, v10, v11, v15, b9, b10, b11, rfl, rfl, h⟩ := hI
    have hlt := ready_lt hi
    match i, hi, hlt with
    | 0, hi, _ =>
      have l := (ready_op (o := _) rfl hi).1
      have l' : l0 = false := l
      subst l'
      clear l
      clear hi hlt
      have H := Lib.hid h
      clear h
      refine wpOp_shut rfl (fun K hK => ?_)
      try simp only [Act.put, List.setIfInBounds_toArray, List.set_cons_zero, List.set_cons_succ]
      go_simp
      refine (upD_any _).mono ?_
      rintro e w1 ⟨rfl, hb⟩
      try go_simp
      refine hK.out _ _ ?_
      unfold S3.I
      refine ⟨true, l1, l2, l3, l4, l5, l6, l7, l8, l9, l10, l11, l12, l13, l14, l15, ((dv upD)), v1, v2, v3, v4, v5, v6, v7, v8, v9, v10, v11, v15, b9, b10, b11, rfl, ?_, ?_⟩
      · simp only [Act.put, List.setIfInBounds_toArray, List.set_cons_zero, List.set_cons_succ]
      · exact { (H.out.kept hb) with e0 := fun _ => rfl }
    | 1, hi, _ =>
      have l := (ready_op (o := _) rfl hi).1
      have l' : l1 = false := l
      subst l'
      clear l
      have k0 : l0 = true := (ready_op (o := _) rfl hi).2 { on := 0, ground := .chain } (by simp) rfl
      clear hi hlt
      subst k0
      obtain rfl := h.e0 rfl
      have H := Lib.hid h
      clear h
      refine wpOp_shut rfl (fun K hK => ?_)
      try simp only [Act.put, List.setIfInBounds_toArray, List.set_cons_zero, List.set_cons_succ]
      go_simp
      refine (upD_any _).mono ?_
      rintro e w1 ⟨rfl, hb⟩
      try go_simp
      refine hK.out _ _ ?_
      unfold S3.I
      refine ⟨true, true, l2, l3, l4, l5, l6, l7, l8, l9, l10, l11, l12, l13, l14, l15, ((dv upD)), ((dv upD)), v2, v3, v4, v5, v6, v7, v8, v9, v10, v11, v15, b9, b10, b11, rfl, ?_, ?_⟩
      · simp only [Act.put, List.setIfInBounds_toArray, List.set_cons_zero, List.set_cons_succ]
      · exact { (H.out.kept hb) with e1 := fun _ => rfl }
    | 2, hi, _ =>
      have l := (ready_op (o := _) rfl hi).1
      have l' : l2 = false := l
      subst l'
      clear l
      clear hi hlt
      have c0 := h.g.T.c0
      have c1 := h.g.T.c1
      have H := Lib.hid h
      clear h
      refine wpOp_shut rfl (fun K hK => ?_)
      try simp only [Act.put, List.setIfInBounds_toArray, List.set_cons_zero, List.set_cons_succ]
      go_simp
      refine hK.out _ _ ?_
      unfold S3.I
      refine ⟨l0, l1, true, l3, l4, l5, l6, l7, l8, l9, l10, l11, l12, l13, l14, l15, v0, v1, (iv 33554432 33554432), v3, v4, v5, v6, v7, v8, v9, v10, v11, v15, b9, b10, b11, rfl, ?_, ?_⟩
      · simp only [Act.put, List.setIfInBounds_toArray, List.set_cons_zero, List.set_cons_succ]
      · exact { H.out with e2 := fun _ => rfl }
    | 3, hi, _ =>
      have l := (ready_op (o := _) rfl hi).1
      have l' : l3 = false := l
      subst l'
      clear l
      have k0 : l0 = true := (ready_op (o := _) rfl hi).2 { on := 0, ground := .data } (by simp) rfl
      have k1 : l1 = true := (ready_op (o := _) rfl hi).2 { on := 1, ground := .chain } (by simp) rfl
      have k2 : l2 = true := (ready_op (o := _) rfl hi).2 { on := 2, ground := .data } (by simp) rfl
      clear hi hlt
      subst k0
      subst k1
      subst k2
      obtain rfl := h.e0 rfl
      obtain rfl := h.e1 rfl
      obtain rfl := h.e2 rfl
      have H := Lib.hid h
      clear h
      refine wpOp_shut rfl (fun K hK => ?_)
      try simp only [Act.put, List.setIfInBounds_toArray, List.set_cons_zero, List.set_cons_succ]
      go_simp
      refine (refr_any upD upD 33554432 33554432 _).mono ?_
      rintro e w1 ⟨rfl, hb⟩
      rw [ER.out]
      unfold retF
      dsimp only
      try go_simp
      refine hK.out _ _ ?_
      unfold S3.I
      refine ⟨true, true, true, true, l4, l5, l6, l7, l8, l9, l10, l11, l12, l13, l14, l15, ((dv upD)), ((dv upD)), (iv 33554432 33554432), (.tuple #[dv upD, (iv 16777216 16777216), (iv 16777216 16777216), .int .i64 0]), v4, v5, v6, v7, v8, v9, v10, v11, v15, b9, b10, b11, rfl, ?_, ?_⟩
      · simp only [Act.put, List.setIfInBounds_toArray, List.set_cons_zero, List.set_cons_succ]
      · exact { (H.out.kept hb) with e3 := fun _ => rfl }
    | 4, hi, _ =>
      have l := (ready_op (o := _) rfl hi).1
      have l' : l4 = false := l
      subst l'
      clear l
      have k3 : l3 = true := (ready_op (o := _) rfl hi).2 { on := 3, ground := .data } (by simp) rfl
      clear hi hlt
      subst k3
      obtain rfl := h.e3 rfl
      have H := Lib.hid h
      clear h
      refine wpOp_shut rfl (fun K hK => ?_)
      try simp only [Act.put, List.setIfInBounds_toArray, List.set_cons_zero, List.set_cons_succ]
      go_simp
      refine hK.out _ _ ?_
      unfold S3.I
      refine ⟨l0, l1, l2, true, true, l5, l6, l7, l8, l9, l10, l11, l12, l13, l14, l15, v0, v1, v2, (.tuple #[dv upD, (iv 16777216 16777216), (iv 16777216 16777216), .int .i64 0]), (.tuple #[dv upD, (iv 16777216 16777216), (iv 16777216 16777216), .int .i64 0]), v5, v6, v7, v8, v9, v10, v11, v15, b9, b10, b11, rfl, ?_, ?_⟩
      · simp only [Act.put, List.setIfInBounds_toArray, List.set_cons_zero, List.set_cons_succ]
      · exact { H.out with e4 := fun _ => rfl }
    | 5, hi, _ =>
      have l := (ready_op (o := _) rfl hi).1
      have l' : l5 = false := l
      subst l'
      clear l
      have k4 : l4 = true := (ready_op (o := _) rfl hi).2 { on := 4, ground := .data } (by simp) rfl
      clear hi hlt
      subst k4
      obtain rfl := h.e4 rfl
      have H := Lib.hid h
      clear h
      refine wpOp_shut rfl (fun K hK => ?_)
      try simp only [Act.put, List.setIfInBounds_toArray, List.set_cons_zero, List.set_cons_succ]
      go_simp
      refine hK.out _ _ ?_
      unfold S3.I
      refine ⟨l0, l1, l2, l3, true, true, l6, l7, l8, l9, l10, l11, l12, l13, l14, l15, v0, v1, v2, v3, (.tuple #[dv upD, (iv 16777216 16777216), (iv 16777216 16777216), .int .i64 0]), (dv upD), v6, v7, v8, v9, v10, v11, v15, b9, b10, b11, rfl, ?_, ?_⟩
      · simp only [Act.put, List.setIfInBounds_toArray, List.set_cons_zero, List.set_cons_succ]
      · exact { H.out with e5 := fun _ => rfl }
    | 6, hi, _ =>
      have l := (ready_op (o := _) rfl hi).1
      have l' : l6 = false := l
      subst l'
      clear l
      have k4 : l4 = true := (ready_op (o := _) rfl hi).2 { on := 4, ground := .data } (by simp) rfl
      clear hi hlt
      subst k4
      obtain rfl := h.e4 rfl
      have H := Lib.hid h
      clear h
      refine wpOp_shut rfl (fun K hK => ?_)
      try simp only [Act.put, List.setIfInBounds_toArray, List.set_cons_zero, List.set_cons_succ]
      go_simp
      refine hK.out _ _ ?_
      unfold S3.I
      refine ⟨l0, l1, l2, l3, true, l5, true, l7, l8, l9, l10, l11, l12, l13, l14, l15, v0, v1, v2, v3, (.tuple #[dv upD, (iv 16777216 16777216), (iv 16777216 16777216), .int .i64 0]), v5, ((iv 16777216 16777216)), v7, v8, v9, v10, v11, v15, b9, b10, b11, rfl, ?_, ?_⟩
      · simp only [Act.put, List.setIfInBounds_toArray, List.set_cons_zero, List.set_cons_succ]
      · exact { H.out with e6 := fun _ => rfl }
    | 7, hi, _ =>
      have l := (ready_op (o := _) rfl hi).1
      have l' : l7 = false := l
      subst l'
      clear l
      have k4 : l4 = true := (ready_op (o := _) rfl hi).2 { on := 4, ground := .data } (by simp) rfl
      clear hi hlt
      subst k4
      obtain rfl := h.e4 rfl
      have H := Lib.hid h
      clear h
      refine wpOp_shut rfl (fun K hK => ?_)
      try simp only [Act.put, List.setIfInBounds_toArray, List.set_cons_zero, List.set_cons_succ]
      go_simp
      refine hK.out _ _ ?_
      unfold S3.I
      refine ⟨l0, l1, l2, l3, true, l5, l6, true, l8, l9, l10, l11, l12, l13, l14, l15, v0, v1, v2, v3, (.tuple #[dv upD, (iv 16777216 16777216), (iv 16777216 16777216), .int .i64 0]), v5, v6, ((iv 16777216 16777216)), v8, v9, v10, v11, v15, b9, b10, b11, rfl, ?_, ?_⟩
      · simp only [Act.put, List.setIfInBounds_toArray, List.set_cons_zero, List.set_cons_succ]
      · exact { H.out with e7 := fun _ => rfl }
    | 8, hi, _ =>
      have l := (ready_op (o := _) rfl hi).1
      have l' : l8 = false := l
      subst l'
      clear l
      have k4 : l4 = true := (ready_op (o := _) rfl hi).2 { on := 4, ground := .data } (by simp) rfl
      clear hi hlt
      subst k4
      obtain rfl := h.e4 rfl
      have H := Lib.hid h
      clear h
      refine wpOp_shut rfl (fun K hK => ?_)
      try simp only [Act.put, List.setIfInBounds_toArray, List.set_cons_zero, List.set_cons_succ]
      go_simp
      refine hK.out _ _ ?_
      unfold S3.I
      refine ⟨l0, l1, l2, l3, true, l5, l6, l7, true, l9, l10, l11, l12, l13, l14, l15, v0, v1, v2, v3, (.tuple #[dv upD, (iv 16777216 16777216), (iv 16777216 16777216), .int .i64 0]), v5, v6, v7, (.int .i64 0), v9, v10, v11, v15, b9, b10, b11, rfl, ?_, ?_⟩
      · simp only [Act.put, List.setIfInBounds_toArray, List.set_cons_zero, List.set_cons_succ]
      · exact { H.out with e8 := fun _ => rfl }
    | 9, hi, _ =>
      have l := (ready_op (o := _) rfl hi).1
      have l' : l9 = false := l
      subst l'
      clear l
      clear hi hlt
      have H := Lib.hid h
      clear h
      refine wpOp_shut rfl (fun K hK => ?_)
      try simp only [Act.put, List.setIfInBounds_toArray, List.set_cons_zero, List.set_cons_succ]
      go_simp
      refine hK.out _ _ ?_
      unfold S3.I
      refine ⟨l0, l1, l2, l3, l4, l5, l6, l7, l8, true, l10, l11, l12, l13, l14, l15, v0, v1, v2, v3, v4, v5, v6, v7, v8, (.pointer (some ⟨w'.heap.size, 0, none⟩)), v10, v11, v15, w'.heap.size, b10, b11, rfl, ?_, ?_⟩
      · simp only [Act.put, List.setIfInBounds_toArray, List.set_cons_zero, List.set_cons_succ]
      · have h := H.out
        have h2 := h.kept ((Below.refl _ _).alloc (Nat.le_refl _) (.cells (List.toArray [.int .i64 0, .int .i64 0, .int .i64 0, .int .i64 0, .int .i64 0, .int .i64 0]) 25))
        exact { h2 with e9 := fun _ => rfl, g9 := fun _ => h.g.T.1, t9 := fun _ => by simp, o9 := fun p => rfl, z9 := fun _ _ => Bx.new rfl, s9 := fun p => (nomatch (h.o9 p)), d9_10 := fun _ p => Nat.ne_of_gt (h.t10 p), d9_11 := fun _ p => Nat.ne_of_gt (h.t11 p) }
    | 10, hi, _ =>
      have l := (ready_op (o := _) rfl hi).1
      have l' : l10 = false := l
      subst l'
      clear l
      clear hi hlt
      have H := Lib.hid h
      clear h
      refine wpOp_shut rfl (fun K hK => ?_)
      try simp only [Act.put, List.setIfInBounds_toArray, List.set_cons_zero, List.set_cons_succ]
      go_simp
      refine hK.out _ _ ?_
      unfold S3.I
      refine ⟨l0, l1, l2, l3, l4, l5, l6, l7, l8, l9, true, l11, l12, l13, l14, l15, v0, v1, v2, v3, v4, v5, v6, v7, v8, v9, (.pointer (some ⟨w'.heap.size, 0, none⟩)), v11, v15, b9, w'.heap.size, b11, rfl, ?_, ?_⟩
      · simp only [Act.put, List.setIfInBounds_toArray, List.set_cons_zero, List.set_cons_succ]
      · have h := H.out
        have h2 := h.kept ((Below.refl _ _).alloc (Nat.le_refl _) (.cells (List.toArray [.int .i64 0, .int .i64 0]) 23))
        exact { h2 with e10 := fun _ => rfl, g10 := fun _ => h.g.T.1, t10 := fun _ => by simp, o10 := fun p => rfl, z10 := fun _ _ => Bx.new rfl, s10 := fun p => (nomatch (h.o10 p)), d9_10 := fun p _ => Nat.ne_of_lt (h.t9 p), d10_11 := fun _ p => Nat.ne_of_gt (h.t11 p) }
    | 11, hi, _ =>
      have l := (ready_op (o := _) rfl hi).1
      have l' : l11 = false := l
      subst l'
      clear l
      clear hi hlt
      have H := Lib.hid h
      clear h
      refine wpOp_shut rfl (fun K hK => ?_)
      try simp only [Act.put, List.setIfInBounds_toArray, List.set_cons_zero, List.set_cons_succ]
      go_simp
      refine hK.out _ _ ?_
      unfold S3.I
      refine ⟨l0, l1, l2, l3, l4, l5, l6, l7, l8, l9, l10, true, l12, l13, l14, l15, v0, v1, v2, v3, v4, v5, v6, v7, v8, v9, v10, (.pointer (some ⟨w'.heap.size, 0, none⟩)), v15, b9, b10, w'.heap.size, rfl, ?_, ?_⟩
      · simp only [Act.put, List.setIfInBounds_toArray, List.set_cons_zero, List.set_cons_succ]
      · have h := H.out
        have h2 := h.kept ((Below.refl _ _).alloc (Nat.le_refl _) (.cells (List.toArray [.int .i64 0, .int .i64 0]) 23))
        exact { h2 with e11 := fun _ => rfl, g11 := fun _ => h.g.T.1, t11 := fun _ => by simp, o11 := fun p => rfl, z11 := fun _ _ => Bx.new rfl, s11 := fun p => (nomatch (h.o11 p)), d9_11 := fun p _ => Nat.ne_of_lt (h.t9 p), d10_11 := fun p _ => Nat.ne_of_lt (h.t10 p) }
    | 12, hi, _ =>
      have l := (ready_op (o := _) rfl hi).1
      have l' : l12 = false := l
      subst l'
      clear l
      have k9 : l9 = true := (ready_op (o := _) rfl hi).2 { on := 9, ground := .phase } (by simp) rfl
      have k5 : l5 = true := (ready_op (o := _) rfl hi).2 { on := 5, ground := .phase } (by simp) rfl
      have k3 : l3 = true := (ready_op (o := _) rfl hi).2 { on := 3, ground := .phase } (by simp) rfl
      have k0 : l0 = true := (ready_op (o := _) rfl hi).2 { on := 0, ground := .phase } (by simp) rfl
      have k1 : l1 = true := (ready_op (o := _) rfl hi).2 { on := 1, ground := .phase } (by simp) rfl
      have k2 : l2 = true := (ready_op (o := _) rfl hi).2 { on := 2, ground := .phase } (by simp) rfl
      have k4 : l4 = true := (ready_op (o := _) rfl hi).2 { on := 4, ground := .phase } (by simp) rfl
      have k10 : l10 = true := (ready_op (o := _) rfl hi).2 { on := 10, ground := .phase } (by simp) rfl
      have k11 : l11 = true := (ready_op (o := _) rfl hi).2 { on := 11, ground := .phase } (by simp) rfl
      clear hi hlt
      subst k9
      subst k5
      subst k3
      subst k0
      subst k1
      subst k2
      subst k4
      subst k10
      subst k11
      obtain rfl := h.e9 rfl
      obtain rfl := h.e5 rfl
      obtain rfl := h.e3 rfl
      obtain rfl := h.e0 rfl
      obtain rfl := h.e1 rfl
      obtain rfl := h.e2 rfl
      obtain rfl := h.e4 rfl
      obtain rfl := h.e10 rfl
      obtain rfl := h.e11 rfl
      have bz := h.z9 rfl rfl
      have c := bz.c
      have f := bz.f
      clear bz
      have H := Lib.hid h
      clear h
      refine wpOp_shut rfl (fun K hK => ?_)
      try simp only [Act.put, List.setIfInBounds_toArray, List.set_cons_zero, List.set_cons_succ]
      go_simp
      refine hK.out _ _ ?_
      unfold S3.I
      refine ⟨true, true, true, true, true, true, l6, l7, l8, true, true, true, true, l13, l14, l15, ((dv upD)), ((dv upD)), (iv 33554432 33554432), (.tuple #[dv upD, (iv 16777216 16777216), (iv 16777216 16777216), .int .i64 0]), (.tuple #[dv upD, (iv 16777216 16777216), (iv 16777216 16777216), .int .i64 0]), (dv upD), v6, v7, v8, (.pointer (some ⟨b9, 0, none⟩)), (.pointer (some ⟨b10, 0, none⟩)), (.pointer (some ⟨b11, 0, none⟩)), v15, b9, b10, b11, rfl, ?_, ?_⟩
      · simp only [Act.put, List.setIfInBounds_toArray, List.set_cons_zero, List.set_cons_succ]
      · have h := H.out
        have gb := h.g9 rfl
        exact { h with g := ((((((h.g.put gb).put gb).put gb).put gb).put gb).put gb), o9 := fun _ => rfl, z9 := fun _ p => (nomatch p), s9 := fun _ => (((((((h.z9 rfl rfl).put).put).put).put).put).put), t9 := fun p => by simpa using h.t9 p, t10 := fun p => by simpa using h.t10 p, z10 := fun p r => (((((((h.z10 p r).set (fun q => (h.d9_10 rfl p) q.symm)).set (fun q => (h.d9_10 rfl p) q.symm)).set (fun q => (h.d9_10 rfl p) q.symm)).set (fun q => (h.d9_10 rfl p) q.symm)).set (fun q => (h.d9_10 rfl p) q.symm)).set (fun q => (h.d9_10 rfl p) q.symm)), s10 := fun p => (((((((h.s10 p).set (fun q => (h.d9_10 rfl (h.o10 p)) q.symm)).set (fun q => (h.d9_10 rfl (h.o10 p)) q.symm)).set (fun q => (h.d9_10 rfl (h.o10 p)) q.symm)).set (fun q => (h.d9_10 rfl (h.o10 p)) q.symm)).set (fun q => (h.d9_10 rfl (h.o10 p)) q.symm)).set (fun q => (h.d9_10 rfl (h.o10 p)) q.symm)), t11 := fun p => by simpa using h.t11 p, z11 := fun p r => (((((((h.z11 p r).set (fun q => (h.d9_11 rfl p) q.symm)).set (fun q => (h.d9_11 rfl p) q.symm)).set (fun q => (h.d9_11 rfl p) q.symm)).set (fun q => (h.d9_11 rfl p) q.symm)).set (fun q => (h.d9_11 rfl p) q.symm)).set (fun q => (h.d9_11 rfl p) q.symm)), s11 := fun p => (((((((h.s11 p).set (fun q => (h.d9_11 rfl (h.o11 p)) q.symm)).set (fun q => (h.d9_11 rfl (h.o11 p)) q.symm)).set (fun q => (h.d9_11 rfl (h.o11 p)) q.symm)).set (fun q => (h.d9_11 rfl (h.o11 p)) q.symm)).set (fun q => (h.d9_11 rfl (h.o11 p)) q.symm)).set (fun q => (h.d9_11 rfl (h.o11 p)) q.symm)) }
    | 13, hi, _ =>
      have l := (ready_op (o := _) rfl hi).1
      have l' : l13 = false := l
      subst l'
      clear l
      have k10 : l10 = true := (ready_op (o := _) rfl hi).2 { on := 10, ground := .phase } (by simp) rfl
      have k6 : l6 = true := (ready_op (o := _) rfl hi).2 { on := 6, ground := .phase } (by simp) rfl
      have k12 : l12 = true := (ready_op (o := _) rfl hi).2 { on := 12, ground := .phase } (by simp) rfl
      have k0 : l0 = true := (ready_op (o := _) rfl hi).2 { on := 0, ground := .phase } (by simp) rfl
      have k1 : l1 = true := (ready_op (o := _) rfl hi).2 { on := 1, ground := .phase } (by simp) rfl
      have k2 : l2 = true := (ready_op (o := _) rfl hi).2 { on := 2, ground := .phase } (by simp) rfl
      have k3 : l3 = true := (ready_op (o := _) rfl hi).2 { on := 3, ground := .phase } (by simp) rfl
      have k4 : l4 = true := (ready_op (o := _) rfl hi).2 { on := 4, ground := .phase } (by simp) rfl
      have k5 : l5 = true := (ready_op (o := _) rfl hi).2 { on := 5, ground := .phase } (by simp) rfl
      have k9 : l9 = true := (ready_op (o := _) rfl hi).2 { on := 9, ground := .phase } (by simp) rfl
      have k11 : l11 = true := (ready_op (o := _) rfl hi).2 { on := 11, ground := .phase } (by simp) rfl
      clear hi hlt
      subst k10
      subst k6
      subst k12
      subst k0
      subst k1
      subst k2
      subst k3
      subst k4
      subst k5
      subst k9
      subst k11
      obtain rfl := h.e10 rfl
      obtain rfl := h.e6 rfl
      obtain rfl := h.e0 rfl
      obtain rfl := h.e1 rfl
      obtain rfl := h.e2 rfl
      obtain rfl := h.e3 rfl
      obtain rfl := h.e4 rfl
      obtain rfl := h.e5 rfl
      obtain rfl := h.e9 rfl
      obtain rfl := h.e11 rfl
      have bz := h.z10 rfl rfl
      have c := bz.c
      have f := bz.f
      clear bz
      have H := Lib.hid h
      clear h
      refine wpOp_shut rfl (fun K hK => ?_)
      try simp only [Act.put, List.setIfInBounds_toArray, List.set_cons_zero, List.set_cons_succ]
      go_simp
      refine hK.out _ _ ?_
      unfold S3.I
      refine ⟨true, true, true, true, true, true, true, l7, l8, true, true, true, true, true, l14, l15, ((dv upD)), ((dv upD)), (iv 33554432 33554432), (.tuple #[dv upD, (iv 16777216 16777216), (iv 16777216 16777216), .int .i64 0]), (.tuple #[dv upD, (iv 16777216 16777216), (iv 16777216 16777216), .int .i64 0]), (dv upD), ((iv 16777216 16777216)), v7, v8, (.pointer (some ⟨b9, 0, none⟩)), (.pointer (some ⟨b10, 0, none⟩)), (.pointer (some ⟨b11, 0, none⟩)), v15, b9, b10, b11, rfl, ?_, ?_⟩
      · simp only [Act.put, List.setIfInBounds_toArray, List.set_cons_zero, List.set_cons_succ]
      · have h := H.out
        have gb := h.g10 rfl
        exact { h with g := ((h.g.put gb).put gb), o10 := fun _ => rfl, z10 := fun _ p => (nomatch p), s10 := fun _ => (((h.z10 rfl rfl).put).put), t10 := fun p => by simpa using h.t10 p, t9 := fun p => by simpa using h.t9 p, z9 := fun p r => (((h.z9 p r).set (fun q => (h.d9_10 p rfl) q)).set (fun q => (h.d9_10 p rfl) q)), s9 := fun p => (((h.s9 p).set (fun q => (h.d9_10 (h.o9 p) rfl) q)).set (fun q => (h.d9_10 (h.o9 p) rfl) q)), t11 := fun p => by simpa using h.t11 p, z11 := fun p r => (((h.z11 p r).set (fun q => (h.d10_11 rfl p) q.symm)).set (fun q => (h.d10_11 rfl p) q.symm)), s11 := fun p => (((h.s11 p).set (fun q => (h.d10_11 rfl (h.o11 p)) q.symm)).set (fun q => (h.d10_11 rfl (h.o11 p)) q.symm)) }
    | 14, hi, _ =>
      have l := (ready_op (o := _) rfl hi).1
      have l' : l14 = false := l
      subst l'
      clear l
      have k11 : l11 = true := (ready_op (o := _) rfl hi).2 { on := 11, ground := .phase } (by simp) rfl
      have k7 : l7 = true := (ready_op (o := _) rfl hi).2 { on := 7, ground := .phase } (by simp) rfl
      have k13 : l13 = true := (ready_op (o := _) rfl hi).2 { on := 13, ground := .phase } (by simp) rfl
      have k0 : l0 = true := (ready_op (o := _) rfl hi).2 { on := 0, ground := .phase } (by simp) rfl
      have k1 : l1 = true := (ready_op (o := _) rfl hi).2 { on := 1, ground := .phase } (by simp) rfl
      have k2 : l2 = true := (ready_op (o := _) rfl hi).2 { on := 2, ground := .phase } (by simp) rfl
      have k3 : l3 = true := (ready_op (o := _) rfl hi).2 { on := 3, ground := .phase } (by simp) rfl
      have k4 : l4 = true := (ready_op (o := _) rfl hi).2 { on := 4, ground := .phase } (by simp) rfl
      have k5 : l5 = true := (ready_op (o := _) rfl hi).2 { on := 5, ground := .phase } (by simp) rfl
      have k6 : l6 = true := (ready_op (o := _) rfl hi).2 { on := 6, ground := .phase } (by simp) rfl
      have k9 : l9 = true := (ready_op (o := _) rfl hi).2 { on := 9, ground := .phase } (by simp) rfl
      have k10 : l10 = true := (ready_op (o := _) rfl hi).2 { on := 10, ground := .phase } (by simp) rfl
      have k12 : l12 = true := (ready_op (o := _) rfl hi).2 { on := 12, ground := .phase } (by simp) rfl
      clear hi hlt
      subst k11
      subst k7
      subst k13
      subst k0
      subst k1
      subst k2
      subst k3
      subst k4
      subst k5
      subst k6
      subst k9
      subst k10
      subst k12
      obtain rfl := h.e11 rfl
      obtain rfl := h.e7 rfl
      obtain rfl := h.e0 rfl
      obtain rfl := h.e1 rfl
      obtain rfl := h.e2 rfl
      obtain rfl := h.e3 rfl
      obtain rfl := h.e4 rfl
      obtain rfl := h.e5 rfl
      obtain rfl := h.e6 rfl
      obtain rfl := h.e9 rfl
      obtain rfl := h.e10 rfl
      have bz := h.z11 rfl rfl
      have c := bz.c
      have f := bz.f
      clear bz
      have H := Lib.hid h
      clear h
      refine wpOp_shut rfl (fun K hK => ?_)
      try simp only [Act.put, List.setIfInBounds_toArray, List.set_cons_zero, List.set_cons_succ]
      go_simp
      refine hK.out _ _ ?_
      unfold S3.I
      refine ⟨true, true, true, true, true, true, true, true, l8, true, true, true, true, true, true, l15, ((dv upD)), ((dv upD)), (iv 33554432 33554432), (.tuple #[dv upD, (iv 16777216 16777216), (iv 16777216 16777216), .int .i64 0]), (.tuple #[dv upD, (iv 16777216 16777216), (iv 16777216 16777216), .int .i64 0]), (dv upD), ((iv 16777216 16777216)), ((iv 16777216 16777216)), v8, (.pointer (some ⟨b9, 0, none⟩)), (.pointer (some ⟨b10, 0, none⟩)), (.pointer (some ⟨b11, 0, none⟩)), v15, b9, b10, b11, rfl, ?_, ?_⟩
      · simp only [Act.put, List.setIfInBounds_toArray, List.set_cons_zero, List.set_cons_succ]
      · have h := H.out
        have gb := h.g11 rfl
        exact { h with g := ((h.g.put gb).put gb), o11 := fun _ => rfl, z11 := fun _ p => (nomatch p), s11 := fun _ => (((h.z11 rfl rfl).put).put), t11 := fun p => by simpa using h.t11 p, t9 := fun p => by simpa using h.t9 p, z9 := fun p r => (((h.z9 p r).set (fun q => (h.d9_11 p rfl) q)).set (fun q => (h.d9_11 p rfl) q)), s9 := fun p => (((h.s9 p).set (fun q => (h.d9_11 (h.o9 p) rfl) q)).set (fun q => (h.d9_11 (h.o9 p) rfl) q)), t10 := fun p => by simpa using h.t10 p, z10 := fun p r => (((h.z10 p r).set (fun q => (h.d10_11 p rfl) q)).set (fun q => (h.d10_11 p rfl) q)), s10 := fun p => (((h.s10 p).set (fun q => (h.d10_11 (h.o10 p) rfl) q)).set (fun q => (h.d10_11 (h.o10 p) rfl) q)) }
    | 15, hi, _ =>
      have l := (ready_op (o := _) rfl hi).1
      have l' : l15 = false := l
      subst l'
      clear l
      have k8 : l8 = true := (ready_op (o := _) rfl hi).2 { on := 8, ground := .phase } (by simp) rfl
      have k14 : l14 = true := (ready_op (o := _) rfl hi).2 { on := 14, ground := .phase } (by simp) rfl
      have k0 : l0 = true := (ready_op (o := _) rfl hi).2 { on := 0, ground := .phase } (by simp) rfl
      have k1 : l1 = true := (ready_op (o := _) rfl hi).2 { on := 1, ground := .phase } (by simp) rfl
      have k2 : l2 = true := (ready_op (o := _) rfl hi).2 { on := 2, ground := .phase } (by simp) rfl
      have k3 : l3 = true := (ready_op (o := _) rfl hi).2 { on := 3, ground := .phase } (by simp) rfl
      have k4 : l4 = true := (ready_op (o := _) rfl hi).2 { on := 4, ground := .phase } (by simp) rfl
      have k5 : l5 = true := (ready_op (o := _) rfl hi).2 { on := 5, ground := .phase } (by simp) rfl
      have k6 : l6 = true := (ready_op (o := _) rfl hi).2 { on := 6, ground := .phase } (by simp) rfl
      have k7 : l7 = true := (ready_op (o := _) rfl hi).2 { on := 7, ground := .phase } (by simp) rfl
      have k9 : l9 = true := (ready_op (o := _) rfl hi).2 { on := 9, ground := .phase } (by simp) rfl
      have k10 : l10 = true := (ready_op (o := _) rfl hi).2 { on := 10, ground := .phase } (by simp) rfl
      have k11 : l11 = true := (ready_op (o := _) rfl hi).2 { on := 11, ground := .phase } (by simp) rfl
      have k12 : l12 = true := (ready_op (o := _) rfl hi).2 { on := 12, ground := .phase } (by simp) rfl
      have k13 : l13 = true := (ready_op (o := _) rfl hi).2 { on := 13, ground := .phase } (by simp) rfl
      clear hi hlt
      subst k8
      subst k14
      subst k0
      subst k1
      subst k2
      subst k3
      subst k4
      subst k5
      subst k6
      subst k7
      subst k9
      subst k10
      subst k11
      subst k12
      subst k13
      obtain rfl := h.e8 rfl
      obtain rfl := h.e0 rfl
      obtain rfl := h.e1 rfl
      obtain rfl := h.e2 rfl
      obtain rfl := h.e3 rfl
      obtain rfl := h.e4 rfl
      obtain rfl := h.e5 rfl
      obtain rfl := h.e6 rfl
      obtain rfl := h.e7 rfl
      obtain rfl := h.e9 rfl
      obtain rfl := h.e10 rfl
      obtain rfl := h.e11 rfl
      have H := Lib.hid h
      clear h
      refine wpOp_shut rfl (fun K hK => ?_)
      try simp only [Act.put, List.setIfInBounds_toArray, List.set_cons_zero, List.set_cons_succ]
      go_simp
      refine hK.out _ _ ?_
      unfold S3.I
      refine ⟨true, true, true, true, true, true, true, true, true, true, true, true, true, true, true, true, ((dv upD)), ((dv upD)), (iv 33554432 33554432), (.tuple #[dv upD, (iv 16777216 16777216), (iv 16777216 16777216), .int .i64 0]), (.tuple #[dv upD, (iv 16777216 16777216), (iv 16777216 16777216), .int .i64 0]), (dv upD), ((iv 16777216 16777216)), ((iv 16777216 16777216)), (.int .i64 0), (.pointer (some ⟨b9, 0, none⟩)), (.pointer (some ⟨b10, 0, none⟩)), (.pointer (some ⟨b11, 0, none⟩)), (.int .i64 0), b9, b10, b11, rfl, ?_, ?_⟩
      · simp only [Act.put, List.setIfInBounds_toArray, List.set_cons_zero, List.set_cons_succ]
      · exact { H.out with e15 := fun _ => rfl }
    | i + 16, _, hlt => exact absurd hlt (by simp)
  · intro L a' w' hI hn
    obtain ⟨l0, l1, l2, l3, l4, l5, l6, l7, l8, l9, l10, l11, l12, l13, l14, l15, v0, v1, v2, v3, v4, v5, v6, v7, v8, v9, v10, v11, v15, b9, b10, b11, rfl, rfl, h⟩ := hI
    have k0 : l0 = true := not_ready (i := 0) (o := _) rfl hn (by simp [Region.binds])
    subst k0
    have k1 : l1 = true := not_ready (i := 1) (o := _) rfl hn (by simp [Region.binds])
    subst k1
    have k2 : l2 = true := not_ready (i := 2) (o := _) rfl hn (by simp [Region.binds])
    subst k2
    have k3 : l3 = true := not_ready (i := 3) (o := _) rfl hn (by simp [Region.binds])
    subst k3
    have k4 : l4 = true := not_ready (i := 4) (o := _) rfl hn (by simp [Region.binds])
    subst k4
    have k5 : l5 = true := not_ready (i := 5) (o := _) rfl hn (by simp [Region.binds])
    subst k5
    have k6 : l6 = true := not_ready (i := 6) (o := _) rfl hn (by simp [Region.binds])
    subst k6
    have k7 : l7 = true := not_ready (i := 7) (o := _) rfl hn (by simp [Region.binds])
    subst k7
    have k8 : l8 = true := not_ready (i := 8) (o := _) rfl hn (by simp [Region.binds])
    subst k8
    have k9 : l9 = true := not_ready (i := 9) (o := _) rfl hn (by simp [Region.binds])
    subst k9
    have k10 : l10 = true := not_ready (i := 10) (o := _) rfl hn (by simp [Region.binds])
    subst k10
    have k11 : l11 = true := not_ready (i := 11) (o := _) rfl hn (by simp [Region.binds])
    subst k11
    have k12 : l12 = true := not_ready (i := 12) (o := _) rfl hn (by simp [Region.binds])
    subst k12
    have k13 : l13 = true := not_ready (i := 13) (o := _) rfl hn (by simp [Region.binds])
    subst k13
    have k14 : l14 = true := not_ready (i := 14) (o := _) rfl hn (by simp [Region.binds])
    subst k14
    have k15 : l15 = true := not_ready (i := 15) (o := _) rfl hn (by simp [Region.binds])
    subst k15
    clear hn
    obtain rfl := h.e0 rfl
    obtain rfl := h.e1 rfl
    obtain rfl := h.e2 rfl
    obtain rfl := h.e3 rfl
    obtain rfl := h.e4 rfl
    obtain rfl := h.e5 rfl
    obtain rfl := h.e6 rfl
    obtain rfl := h.e7 rfl
    obtain rfl := h.e8 rfl
    obtain rfl := h.e9 rfl
    obtain rfl := h.e10 rfl
    obtain rfl := h.e11 rfl
    obtain rfl := h.e15 rfl
    simp only [Act.put, List.setIfInBounds_toArray, List.set_cons_zero, List.set_cons_succ]
    have G4 := h.g
    have D4 : At w' b9 [.int .i64 0, .int .i64 0, .int .i64 0, .int .i64 0, .int .i64 16777216, .int .i64 16777216] := ⟨(h.s9 rfl).lt, fun j v hv => ((h.s9 rfl).c j).trans hv⟩
    clear h
    have t40 := G4.T.c0
    have t41 := G4.T.c1
    go_wp2_with fail
    refine (crit_two _).mono ?_
    rintro e w5 ⟨rfl, hb⟩
    have G5 := G4.call hb
    have D5 := D4.kept hb
    clear hb t40 t41 G4 D4 Ge
    go_upto_region 5 with fail
    have C6 : At (w5.alloc (.cells #[.int .i64 14529495, .int .i64 14529496] 23)) w5.heap.size [.int .i64 14529495, .int .i64 14529496] := At.new2 rfl
    have D6 := (D5.alc (.cells #[.int .i64 14529495, .int .i64 14529496] 23)).drew
    have C7 := C6.drew
    have G6 := (G5.alc (.cells #[.int .i64 14529495, .int .i64 14529496] 23)).drew
    clear D5 C6 G5
    go_region_held3 (fun w' => w'.cell? ⟨b9, 0, none⟩ = some (.int .i64 0) ∧ w'.cell? ⟨b9, 1, none⟩ = some (.int .i64 0) ∧ w'.cell? ⟨b9, 2, none⟩ = some (.int .i64 0) ∧ w'.cell? ⟨b9, 3, none⟩ = some (.int .i64 0) ∧ w'.cell? ⟨b9, 4, none⟩ = some (.int .i64 16777216) ∧ w'.cell? ⟨b9, 5, none⟩ = some (.int .i64 16777216) ∧ w'.cell? ⟨w5.heap.size, 0, none⟩ = some (.int .i64 14529495) ∧ w'.cell? ⟨w5.heap.size, 1, none⟩ = some (.int .i64 14529496)) (with_reducible first | exact ⟨D6.e0, D6.e1, D6.e2, D6.e3, D6.e4, D6.e5, C7.c0, C7.c1⟩ | exact ⟨DQ.e0, DQ.e1, DQ.e2, DQ.e3, DQ.e4, DQ.e5, CQ.c0, CQ.c1⟩)
      (first | (go_at_call 30; refine (upD_any _).mono ?_; rintro r wQ ⟨rfl, hb⟩; have GQ := G6.call hb; have DQ := D6.kept hb; have CQ := C7.kept hb))
    all_goals go_wp2_with fail
    all_goals go_ret
    all_goals exact ⟨rfl, GQ.below⟩
end Go.Proofs.Ytjppcndhaejfpaa.Iv
