/- Contract of the reference's operation with boxes: scale. -/
import Derived.Test.YtedfciddfpcifaaQd0

/- Contract of the reference's operation with boxes: scale. -/
namespace Go.Proofs.Ytedfciddfpcifaa.Iv
open Go.RowKit

structure Stscale (s : D) (a b : Int) (p0 q0 p1 q1 p2 q2 E1 E2 E3 : Int) (nb c : Nat) (w0 w : World) (l0 l1 l2 l3 l4 l5 l6 l7 l8 l9 l10 l11 l12 l13 l14 l15 l16 l17 l18 l19 l20 : Bool) (v0 v1 v2 v3 v4 v5 v6 v7 v8 v9 v10 v11 v12 v13 v14 v15 v16 v17 : Value) (b15 b16 b17 : Nat) : Prop where
  g : Ho w0 w (nb + 1 + 1) [(nb + 1, [.int .i64 a, .int .i64 b]), (nb, [.int .i64 s.a, .int .i64 s.b, .int .i64 s.c, .int .i64 s.d, .int .i64 s.e, .int .i64 s.f])]
  sz : (c + 1) ≤ w.heap.size
  mn : (nb + 1 + 1) ≤ (c + 1)
  u0 : Bx w (nb + 1 + 1) [.int .i64 0, .int .i64 0, .int .i64 0, .int .i64 0, .int .i64 0, .int .i64 0]
  un0 : (nb + 1 + 1) < (c + 1)
  uc0 : ¬ ((nb + 1 + 1) = c)
  mc : (nb + 1 + 1) ≤ c
  cn : c < (c + 1)
  q9 : l9 = true → l4 = true
  q14 : l14 = true → l9 = true
  k0 : l4 = false → Ce w c 0
  k1 : l4 = true → l9 = false → Ce w c E1
  k2 : l9 = true → l14 = false → Ce w c E2
  k3 : l14 = true → Ce w c E3
  e0 : l0 = true → v0 = .pointer (some ⟨c, 0, none⟩)
  e1 : l1 = true → v1 = .pointer (some ⟨nb, 0, none⟩)
  e2 : l2 = true → v2 = (iv s.a s.b)
  e3 : l3 = true → v3 = (iv a b)
  e4 : l4 = true → v4 = (iv p0 q0)
  e5 : l5 = true → v5 = .pointer (some ⟨c, 0, none⟩)
  e6 : l6 = true → v6 = .pointer (some ⟨nb, 2, none⟩)
  e7 : l7 = true → v7 = (iv s.c s.d)
  e8 : l8 = true → v8 = (iv a b)
  e9 : l9 = true → v9 = (iv p1 q1)
  e10 : l10 = true → v10 = .pointer (some ⟨c, 0, none⟩)
  e11 : l11 = true → v11 = .pointer (some ⟨nb, 4, none⟩)
  e12 : l12 = true → v12 = (iv s.e s.f)
  e13 : l13 = true → v13 = (iv a b)
  e14 : l14 = true → v14 = (iv p2 q2)
  e15 : l15 = true → v15 = .pointer (some ⟨b15, 0, none⟩)
  e16 : l16 = true → v16 = .pointer (some ⟨b16, 0, none⟩)
  e17 : l17 = true → v17 = .pointer (some ⟨b17, 0, none⟩)
  g15 : l15 = true → (c + 1) ≤ b15
  t15 : l15 = true → b15 < w.heap.size
  o15 : l18 = true → l15 = true
  z15 : l15 = true → l18 = false → Bx w b15 [.int .i64 0, .int .i64 0]
  s15 : l18 = true → Bx w b15 [.int .i64 p0, .int .i64 q0]
  g16 : l16 = true → (c + 1) ≤ b16
  t16 : l16 = true → b16 < w.heap.size
  o16 : l19 = true → l16 = true
  z16 : l16 = true → l19 = false → Bx w b16 [.int .i64 0, .int .i64 0]
  s16 : l19 = true → Bx w b16 [.int .i64 p1, .int .i64 q1]
  g17 : l17 = true → (c + 1) ≤ b17
  t17 : l17 = true → b17 < w.heap.size
  o17 : l20 = true → l17 = true
  z17 : l17 = true → l20 = false → Bx w b17 [.int .i64 0, .int .i64 0]
  s17 : l20 = true → Bx w b17 [.int .i64 p2, .int .i64 q2]
  d15_16 : l15 = true → l16 = true → ¬ (b15 = b16)
  d15_17 : l15 = true → l17 = true → ¬ (b15 = b17)
  d16_17 : l16 = true → l17 = true → ¬ (b16 = b17)
theorem Stscale.kept {s : D} {a b : Int} {p0 q0 p1 q1 p2 q2 E1 E2 E3 : Int} {nb c : Nat} {w0 w : World} {l0 l1 l2 l3 l4 l5 l6 l7 l8 l9 l10 l11 l12 l13 l14 l15 l16 l17 l18 l19 l20 : Bool} {v0 v1 v2 v3 v4 v5 v6 v7 v8 v9 v10 v11 v12 v13 v14 v15 v16 v17 : Value} {b15 b16 b17 : Nat} {w' : World} (h : Stscale s a b p0 q0 p1 q1 p2 q2 E1 E2 E3 nb c w0 w l0 l1 l2 l3 l4 l5 l6 l7 l8 l9 l10 l11 l12 l13 l14 l15 l16 l17 l18 l19 l20 v0 v1 v2 v3 v4 v5 v6 v7 v8 v9 v10 v11 v12 v13 v14 v15 v16 v17 b15 b16 b17) (hb : Below w.heap.size w w') : Stscale s a b p0 q0 p1 q1 p2 q2 E1 E2 E3 nb c w0 w' l0 l1 l2 l3 l4 l5 l6 l7 l8 l9 l10 l11 l12 l13 l14 l15 l16 l17 l18 l19 l20 v0 v1 v2 v3 v4 v5 v6 v7 v8 v9 v10 v11 v12 v13 v14 v15 v16 v17 b15 b16 b17 :=
  { h with g := h.g.call hb, sz := Nat.le_trans h.sz hb.size, u0 := h.u0.kept hb, k0 := fun p0 => (h.k0 p0).kept hb, k1 := fun p0 p1 => (h.k1 p0 p1).kept hb, k2 := fun p0 p1 => (h.k2 p0 p1).kept hb, k3 := fun p0 => (h.k3 p0).kept hb, t15 := fun p => Nat.lt_of_lt_of_le (h.t15 p) hb.size, z15 := fun p q => (h.z15 p q).kept hb, s15 := fun p => (h.s15 p).kept hb, t16 := fun p => Nat.lt_of_lt_of_le (h.t16 p) hb.size, z16 := fun p q => (h.z16 p q).kept hb, s16 := fun p => (h.s16 p).kept hb, t17 := fun p => Nat.lt_of_lt_of_le (h.t17 p) hb.size, z17 := fun p q => (h.z17 p q).kept hb, s17 := fun p => (h.s17 p).kept hb }
def Stscale.I (s : D) (a b : Int) (p0 q0 p1 q1 p2 q2 E1 E2 E3 : Int) (nb c : Nat) (w0 : World) : Act → Array Bool → Act → World → Prop := fun aO LX aX w => ∃ (l0 l1 l2 l3 l4 l5 l6 l7 l8 l9 l10 l11 l12 l13 l14 l15 l16 l17 l18 l19 l20 : Bool) (v0 v1 v2 v3 v4 v5 v6 v7 v8 v9 v10 v11 v12 v13 v14 v15 v16 v17 : Value) (b15 b16 b17 : Nat), LX = #[l0, l1, l2, l3, l4, l5, l6, l7, l8, l9, l10, l11, l12, l13, l14, l15, l16, l17, l18, l19, l20] ∧ aX = ((((((((((((((((((aO.put (some 21) v0).put (some 22) v1).put (some 23) v2).put (some 24) v3).put (some 25) v4).put (some 26) v5).put (some 27) v6).put (some 28) v7).put (some 29) v8).put (some 30) v9).put (some 31) v10).put (some 32) v11).put (some 33) v12).put (some 34) v13).put (some 35) v14).put (some 7) v15).put (some 8) v16).put (some 9) v17) ∧ Stscale s a b p0 q0 p1 q1 p2 q2 E1 E2 E3 nb c w0 w l0 l1 l2 l3 l4 l5 l6 l7 l8 l9 l10 l11 l12 l13 l14 l15 l16 l17 l18 l19 l20 v0 v1 v2 v3 v4 v5 v6 v7 v8 v9 v10 v11 v12 v13 v14 v15 v16 v17 b15 b16 b17
set_option maxRecDepth 100000 in
set_option maxHeartbeats 8000000 in
theorem rfscale_any (s : D) (a b : Int) (w : World) :
    Calls Try.prog 15 #[dv s, iv a b] w fun e w' => e = retD (scaleD s a b) ∧ Below w.heap.size w w' := by
  cases hs : vD s
  · rw [show scaleD s a b = ⟨zD, 1⟩ from if_neg (by rw [hs]; simp)]
    have VS := Lib.hid hs
    clear hs
    have H0 := (((Ho.nil w).bx [.int .i64 s.a, .int .i64 s.b, .int .i64 s.c, .int .i64 s.d, .int .i64 s.e, .int .i64 s.f] 32 (w.heap.size) (by simp)).bx [.int .i64 a, .int .i64 b] 24 (w.heap.size + 1) (by simp))
    have o_0 : Bx (((w.alloc (.cells (List.toArray [.int .i64 s.a, .int .i64 s.b, .int .i64 s.c, .int .i64 s.d, .int .i64 s.e, .int .i64 s.f]) 32)).alloc (.cells (List.toArray [.int .i64 a, .int .i64 b]) 24)).alloc (.cells (List.toArray [.int .i64 0, .int .i64 0, .int .i64 0, .int .i64 0, .int .i64 0, .int .i64 0]) 32)) (w.heap.size + 1 + 1) [.int .i64 0, .int .i64 0, .int .i64 0, .int .i64 0, .int .i64 0, .int .i64 0] := by
      (repeat (first | with_reducible exact Bx.new (by simp) | with_reducible apply Bx.put6 | with_reducible apply Bx.put2 | with_reducible apply Bx.put1 | with_reducible refine Bx.set ?_ (by omega) | with_reducible refine Bx.alc ?_ _ | with_reducible refine Bx.drew ?_))
    go_enter Try.func15, Try.ntmps15
    have o_0c := o_0.c
    have o_0f := o_0.f
    go_wp2_with fail
    refine (rdvalid_any s _).mono ?_
    rintro r w1 ⟨rfl, hb⟩
    rw [VS.out]
    have H1 : Ho w w1 (w.heap.size + 1 + 1) [(w.heap.size + 1, [.int .i64 a, .int .i64 b]), (w.heap.size, [.int .i64 s.a, .int .i64 s.b, .int .i64 s.c, .int .i64 s.d, .int .i64 s.e, .int .i64 s.f])] := Ho.call (by
      (repeat (first | with_reducible exact H0 | with_reducible refine Ho.alc ?_ _ | with_reducible refine Ho.drew ?_ | with_reducible refine Ho.put ?_ (by omega)))) hb
    have o_1 : Bx w1 (w.heap.size + 1 + 1) [.int .i64 0, .int .i64 0, .int .i64 0, .int .i64 0, .int .i64 0, .int .i64 0] := Bx.kept (by
      (repeat (first | with_reducible exact o_0 | with_reducible refine Bx.alc ?_ _ | with_reducible refine Bx.drew ?_ | with_reducible refine Bx.set ?_ (by omega)))) hb
    clear o_0c o_0f
    have hs1 := H1.size
    have hz1 := hb.size
    (try simp at hz1)
    clear hb
    have h0_1 := (H1.at 1 rfl).c
    have h1_1 := (H1.at 0 rfl).c
    have o_1c := o_1.c
    have o_1f := o_1.f
    have o_1l := o_1.lt
    have q1_0 : ¬ (w.heap.size + 1 + 1 = w1.heap.size) := by omega
    have q1_1 : ¬ (w1.heap.size = w.heap.size + 1 + 1) := by omega
    have q1_2 : w.heap.size + 1 + 1 < w1.heap.size := by omega
    have q1_3 : w.heap.size + 1 + 1 < w1.heap.size + 1 := by omega
    have q1_4 : ¬ (w.heap.size = w1.heap.size) := by omega
    have q1_5 : ¬ (w1.heap.size = w.heap.size) := by omega
    have q1_6 : w.heap.size < w1.heap.size := by omega
    have q1_7 : w.heap.size < w1.heap.size + 1 := by omega
    have q1_8 : ¬ (w.heap.size + 1 = w1.heap.size) := by omega
    have q1_9 : ¬ (w1.heap.size = w.heap.size + 1) := by omega
    have q1_10 : w.heap.size + 1 < w1.heap.size := by omega
    have q1_11 : w.heap.size + 1 < w1.heap.size + 1 := by omega
    have q1_12 : ¬ (w.heap.size + 1 + 1 = w.heap.size) := by omega
    have q1_13 : ¬ (w.heap.size = w.heap.size + 1 + 1) := by omega
    have q1_14 : ¬ (w.heap.size + 1 + 1 = w.heap.size + 1) := by omega
    have q1_15 : ¬ (w.heap.size + 1 = w.heap.size + 1 + 1) := by omega
    go_wp2_with fail
    refine bodyPost_box (b := w.heap.size + 1 + 1) (cs := [.int .i64 0, .int .i64 0, .int .i64 0, .int .i64 0, .int .i64 0, .int .i64 0]) (v := .tuple #[dv zD, .int .i64 1]) (by
      (repeat (first | with_reducible exact o_1 | with_reducible exact Bx.new (by simp) | with_reducible apply Bx.put6 | with_reducible apply Bx.put2 | with_reducible apply Bx.put1 | with_reducible refine Bx.set ?_ (by omega) | with_reducible refine Bx.alc ?_ _ | with_reducible refine Bx.drew ?_))) (fun X hX => by simp [results, Try.results15, go_sem, hX, zD]) rfl ⟨rfl, by
      refine Ho.below (n := w.heap.size + 1 + 1) (l := [(w.heap.size + 1, [.int .i64 a, .int .i64 b]), (w.heap.size, [.int .i64 s.a, .int .i64 s.b, .int .i64 s.c, .int .i64 s.d, .int .i64 s.e, .int .i64 s.f])]) ?_
      (repeat (first | with_reducible exact H1 | with_reducible refine Ho.alc ?_ _ | with_reducible refine Ho.drew ?_ | with_reducible refine Ho.put ?_ (by omega)))⟩
  · cases ht : vB a b
    · rw [show scaleD s a b = ⟨zD, 1⟩ from if_neg (by rw [ht]; simp)]
      have VS := Lib.hid hs
      have VT := Lib.hid ht
      clear hs ht
      have H0 := (((Ho.nil w).bx [.int .i64 s.a, .int .i64 s.b, .int .i64 s.c, .int .i64 s.d, .int .i64 s.e, .int .i64 s.f] 32 (w.heap.size) (by simp)).bx [.int .i64 a, .int .i64 b] 24 (w.heap.size + 1) (by simp))
      have o_0 : Bx (((w.alloc (.cells (List.toArray [.int .i64 s.a, .int .i64 s.b, .int .i64 s.c, .int .i64 s.d, .int .i64 s.e, .int .i64 s.f]) 32)).alloc (.cells (List.toArray [.int .i64 a, .int .i64 b]) 24)).alloc (.cells (List.toArray [.int .i64 0, .int .i64 0, .int .i64 0, .int .i64 0, .int .i64 0, .int .i64 0]) 32)) (w.heap.size + 1 + 1) [.int .i64 0, .int .i64 0, .int .i64 0, .int .i64 0, .int .i64 0, .int .i64 0] := by
        (repeat (first | with_reducible exact Bx.new (by simp) | with_reducible apply Bx.put6 | with_reducible apply Bx.put2 | with_reducible apply Bx.put1 | with_reducible refine Bx.set ?_ (by omega) | with_reducible refine Bx.alc ?_ _ | with_reducible refine Bx.drew ?_))
      go_enter Try.func15, Try.ntmps15
      have o_0c := o_0.c
      have o_0f := o_0.f
      go_wp2_with fail
      refine (rdvalid_any s _).mono ?_
      rintro r w1 ⟨rfl, hb⟩
      rw [VS.out]
      have H1 : Ho w w1 (w.heap.size + 1 + 1) [(w.heap.size + 1, [.int .i64 a, .int .i64 b]), (w.heap.size, [.int .i64 s.a, .int .i64 s.b, .int .i64 s.c, .int .i64 s.d, .int .i64 s.e, .int .i64 s.f])] := Ho.call (by
        (repeat (first | with_reducible exact H0 | with_reducible refine Ho.alc ?_ _ | with_reducible refine Ho.drew ?_ | with_reducible refine Ho.put ?_ (by omega)))) hb
      have o_1 : Bx w1 (w.heap.size + 1 + 1) [.int .i64 0, .int .i64 0, .int .i64 0, .int .i64 0, .int .i64 0, .int .i64 0] := Bx.kept (by
        (repeat (first | with_reducible exact o_0 | with_reducible refine Bx.alc ?_ _ | with_reducible refine Bx.drew ?_ | with_reducible refine Bx.set ?_ (by omega)))) hb
      clear o_0c o_0f
      have hs1 := H1.size
      have hz1 := hb.size
      (try simp at hz1)
      clear hb
      have h0_1 := (H1.at 1 rfl).c
      have h1_1 := (H1.at 0 rfl).c
      have o_1c := o_1.c
      have o_1f := o_1.f
      have o_1l := o_1.lt
      have q1_0 : ¬ (w.heap.size + 1 + 1 = w1.heap.size) := by omega
      have q1_1 : ¬ (w1.heap.size = w.heap.size + 1 + 1) := by omega
      have q1_2 : w.heap.size + 1 + 1 < w1.heap.size := by omega
      have q1_3 : w.heap.size + 1 + 1 < w1.heap.size + 1 := by omega
      have q1_4 : ¬ (w.heap.size = w1.heap.size) := by omega
      have q1_5 : ¬ (w1.heap.size = w.heap.size) := by omega
      have q1_6 : w.heap.size < w1.heap.size := by omega
      have q1_7 : w.heap.size < w1.heap.size + 1 := by omega
      have q1_8 : ¬ (w.heap.size + 1 = w1.heap.size) := by omega
      have q1_9 : ¬ (w1.heap.size = w.heap.size + 1) := by omega
      have q1_10 : w.heap.size + 1 < w1.heap.size := by omega
      have q1_11 : w.heap.size + 1 < w1.heap.size + 1 := by omega
      have q1_12 : ¬ (w.heap.size + 1 + 1 = w.heap.size) := by omega
      have q1_13 : ¬ (w.heap.size = w.heap.size + 1 + 1) := by omega
      have q1_14 : ¬ (w.heap.size + 1 + 1 = w.heap.size + 1) := by omega
      have q1_15 : ¬ (w.heap.size + 1 = w.heap.size + 1 + 1) := by omega
      go_wp2_with fail
      refine (rvalid_below a b _).mono ?_
      rintro r w2 ⟨rfl, hb⟩
      rw [VT.out]
      have H2 : Ho w w2 (w.heap.size + 1 + 1) [(w.heap.size + 1, [.int .i64 a, .int .i64 b]), (w.heap.size, [.int .i64 s.a, .int .i64 s.b, .int .i64 s.c, .int .i64 s.d, .int .i64 s.e, .int .i64 s.f])] := Ho.call (by
        (repeat (first | with_reducible exact H1 | with_reducible refine Ho.alc ?_ _ | with_reducible refine Ho.drew ?_ | with_reducible refine Ho.put ?_ (by omega)))) hb
      have o_2 : Bx w2 (w.heap.size + 1 + 1) [.int .i64 0, .int .i64 0, .int .i64 0, .int .i64 0, .int .i64 0, .int .i64 0] := Bx.kept (by
        (repeat (first | with_reducible exact o_1 | with_reducible refine Bx.alc ?_ _ | with_reducible refine Bx.drew ?_ | with_reducible refine Bx.set ?_ (by omega)))) hb
      clear h0_1 h1_1 o_1c o_1f q1_0 q1_1 q1_2 q1_3 q1_4 q1_5 q1_6 q1_7 q1_8 q1_9 q1_10 q1_11 q1_12 q1_13 q1_14 q1_15
      have hs2 := H2.size
      have hz2 := hb.size
      (try simp at hz2)
      clear hb
      have h0_2 := (H2.at 1 rfl).c
      have h1_2 := (H2.at 0 rfl).c
      have o_2c := o_2.c
      have o_2f := o_2.f
      have o_2l := o_2.lt
      have q2_0 : ¬ (w.heap.size + 1 + 1 = w2.heap.size) := by omega
      have q2_1 : ¬ (w2.heap.size = w.heap.size + 1 + 1) := by omega
      have q2_2 : w.heap.size + 1 + 1 < w2.heap.size := by omega
      have q2_3 : w.heap.size + 1 + 1 < w2.heap.size + 1 := by omega
      have q2_4 : ¬ (w.heap.size = w2.heap.size) := by omega
      have q2_5 : ¬ (w2.heap.size = w.heap.size) := by omega
      have q2_6 : w.heap.size < w2.heap.size := by omega
      have q2_7 : w.heap.size < w2.heap.size + 1 := by omega
      have q2_8 : ¬ (w.heap.size + 1 = w2.heap.size) := by omega
      have q2_9 : ¬ (w2.heap.size = w.heap.size + 1) := by omega
      have q2_10 : w.heap.size + 1 < w2.heap.size := by omega
      have q2_11 : w.heap.size + 1 < w2.heap.size + 1 := by omega
      have q2_12 : ¬ (w.heap.size + 1 + 1 = w.heap.size) := by omega
      have q2_13 : ¬ (w.heap.size = w.heap.size + 1 + 1) := by omega
      have q2_14 : ¬ (w.heap.size + 1 + 1 = w.heap.size + 1) := by omega
      have q2_15 : ¬ (w.heap.size + 1 = w.heap.size + 1 + 1) := by omega
      go_wp2_with fail
      refine bodyPost_box (b := w.heap.size + 1 + 1) (cs := [.int .i64 0, .int .i64 0, .int .i64 0, .int .i64 0, .int .i64 0, .int .i64 0]) (v := .tuple #[dv zD, .int .i64 1]) (by
        (repeat (first | with_reducible exact o_2 | with_reducible exact Bx.new (by simp) | with_reducible apply Bx.put6 | with_reducible apply Bx.put2 | with_reducible apply Bx.put1 | with_reducible refine Bx.set ?_ (by omega) | with_reducible refine Bx.alc ?_ _ | with_reducible refine Bx.drew ?_))) (fun X hX => by simp [results, Try.results15, go_sem, hX, zD]) rfl ⟨rfl, by
        refine Ho.below (n := w.heap.size + 1 + 1) (l := [(w.heap.size + 1, [.int .i64 a, .int .i64 b]), (w.heap.size, [.int .i64 s.a, .int .i64 s.b, .int .i64 s.c, .int .i64 s.d, .int .i64 s.e, .int .i64 s.f])]) ?_
        (repeat (first | with_reducible exact H2 | with_reducible refine Ho.alc ?_ _ | with_reducible refine Ho.drew ?_ | with_reducible refine Ho.put ?_ (by omega)))⟩
    · obtain ⟨⟨p0, q0, f0⟩, h0⟩ : ∃ r : R, mulR s.a s.b a b = r := ⟨_, rfl⟩
      obtain ⟨⟨p1, q1, f1⟩, h1⟩ : ∃ r : R, mulR s.c s.d a b = r := ⟨_, rfl⟩
      obtain ⟨⟨p2, q2, f2⟩, h2⟩ : ∃ r : R, mulR s.e s.f a b = r := ⟨_, rfl⟩
      obtain ⟨E1, k1⟩ : ∃ E, keepE 0 f0 = E := ⟨_, rfl⟩
      obtain ⟨E2, k2⟩ : ∃ E, keepE E1 f1 = E := ⟨_, rfl⟩
      obtain ⟨E3, k3⟩ : ∃ E, keepE E2 f2 = E := ⟨_, rfl⟩
      obtain ⟨⟨⟨d0, d1, d2, d3, d4, d5⟩, ee⟩, hd⟩ : ∃ r : RD, scaleD s a b = r := ⟨_, rfl⟩
      have hk : dirR E3 ⟨p0, q0, p1, q1, p2, q2⟩ = ⟨⟨d0, d1, d2, d3, d4, d5⟩, ee⟩ := by
        rw [← hd, show scaleD s a b = comb (mulR s.a s.b a b) (mulR s.c s.d a b) (mulR s.e s.f a b) from if_pos ⟨hs, ht⟩, ← keep_comb, h0, h1, h2]
        dsimp only
        rw [k1, k2, k3]
      have HD := Lib.hid (show retD (dirR E3 ⟨p0, q0, p1, q1, p2, q2⟩) = .returned (.tuple #[dv ⟨d0, d1, d2, d3, d4, d5⟩, .int .i64 ee]) from by rw [hk])
      rw [hd]
      clear hd hk
      have X0 := Lib.hid h0
      have Y1 := Lib.hid k1
      have X1 := Lib.hid h1
      have Y2 := Lib.hid k2
      have X2 := Lib.hid h2
      have Y3 := Lib.hid k3
      clear h0 h1 h2 k1 k2 k3
      have VS := Lib.hid hs
      have VT := Lib.hid ht
      clear hs ht
      have H0 := (((Ho.nil w).bx [.int .i64 s.a, .int .i64 s.b, .int .i64 s.c, .int .i64 s.d, .int .i64 s.e, .int .i64 s.f] 32 (w.heap.size) (by simp)).bx [.int .i64 a, .int .i64 b] 24 (w.heap.size + 1) (by simp))
      have o_0 : Bx (((w.alloc (.cells (List.toArray [.int .i64 s.a, .int .i64 s.b, .int .i64 s.c, .int .i64 s.d, .int .i64 s.e, .int .i64 s.f]) 32)).alloc (.cells (List.toArray [.int .i64 a, .int .i64 b]) 24)).alloc (.cells (List.toArray [.int .i64 0, .int .i64 0, .int .i64 0, .int .i64 0, .int .i64 0, .int .i64 0]) 32)) (w.heap.size + 1 + 1) [.int .i64 0, .int .i64 0, .int .i64 0, .int .i64 0, .int .i64 0, .int .i64 0] := by
        (repeat (first | with_reducible exact Bx.new (by simp) | with_reducible apply Bx.put6 | with_reducible apply Bx.put2 | with_reducible apply Bx.put1 | with_reducible refine Bx.set ?_ (by omega) | with_reducible refine Bx.alc ?_ _ | with_reducible refine Bx.drew ?_))
      go_enter Try.func15, Try.ntmps15
      have o_0c := o_0.c
      have o_0f := o_0.f
      go_wp2_with fail
      refine (rdvalid_any s _).mono ?_
      rintro r w1 ⟨rfl, hb⟩
      rw [VS.out]
      have H1 : Ho w w1 (w.heap.size + 1 + 1) [(w.heap.size + 1, [.int .i64 a, .int .i64 b]), (w.heap.size, [.int .i64 s.a, .int .i64 s.b, .int .i64 s.c, .int .i64 s.d, .int .i64 s.e, .int .i64 s.f])] := Ho.call (by
        (repeat (first | with_reducible exact H0 | with_reducible refine Ho.alc ?_ _ | with_reducible refine Ho.drew ?_ | with_reducible refine Ho.put ?_ (by omega)))) hb
      have o_1 : Bx w1 (w.heap.size + 1 + 1) [.int .i64 0, .int .i64 0, .int .i64 0, .int .i64 0, .int .i64 0, .int .i64 0] := Bx.kept (by
        (repeat (first | with_reducible exact o_0 | with_reducible refine Bx.alc ?_ _ | with_reducible refine Bx.drew ?_ | with_reducible refine Bx.set ?_ (by omega)))) hb
      clear o_0c o_0f
      have hs1 := H1.size
      have hz1 := hb.size
      (try simp at hz1)
      clear hb
      have h0_1 := (H1.at 1 rfl).c
      have h1_1 := (H1.at 0 rfl).c
      have o_1c := o_1.c
      have o_1f := o_1.f
      have o_1l := o_1.lt
      have q1_0 : ¬ (w.heap.size + 1 + 1 = w1.heap.size) := by omega
      have q1_1 : ¬ (w1.heap.size = w.heap.size + 1 + 1) := by omega
      have q1_2 : w.heap.size + 1 + 1 < w1.heap.size := by omega
      have q1_3 : w.heap.size + 1 + 1 < w1.heap.size + 1 := by omega
      have q1_4 : ¬ (w.heap.size = w1.heap.size) := by omega
      have q1_5 : ¬ (w1.heap.size = w.heap.size) := by omega
      have q1_6 : w.heap.size < w1.heap.size := by omega
      have q1_7 : w.heap.size < w1.heap.size + 1 := by omega
      have q1_8 : ¬ (w.heap.size + 1 = w1.heap.size) := by omega
      have q1_9 : ¬ (w1.heap.size = w.heap.size + 1) := by omega
      have q1_10 : w.heap.size + 1 < w1.heap.size := by omega
      have q1_11 : w.heap.size + 1 < w1.heap.size + 1 := by omega
      have q1_12 : ¬ (w.heap.size + 1 + 1 = w.heap.size) := by omega
      have q1_13 : ¬ (w.heap.size = w.heap.size + 1 + 1) := by omega
      have q1_14 : ¬ (w.heap.size + 1 + 1 = w.heap.size + 1) := by omega
      have q1_15 : ¬ (w.heap.size + 1 = w.heap.size + 1 + 1) := by omega
      go_wp2_with fail
      refine (rvalid_below a b _).mono ?_
      rintro r w2 ⟨rfl, hb⟩
      rw [VT.out]
      have H2 : Ho w w2 (w.heap.size + 1 + 1) [(w.heap.size + 1, [.int .i64 a, .int .i64 b]), (w.heap.size, [.int .i64 s.a, .int .i64 s.b, .int .i64 s.c, .int .i64 s.d, .int .i64 s.e, .int .i64 s.f])] := Ho.call (by
        (repeat (first | with_reducible exact H1 | with_reducible refine Ho.alc ?_ _ | with_reducible refine Ho.drew ?_ | with_reducible refine Ho.put ?_ (by omega)))) hb
      have o_2 : Bx w2 (w.heap.size + 1 + 1) [.int .i64 0, .int .i64 0, .int .i64 0, .int .i64 0, .int .i64 0, .int .i64 0] := Bx.kept (by
        (repeat (first | with_reducible exact o_1 | with_reducible refine Bx.alc ?_ _ | with_reducible refine Bx.drew ?_ | with_reducible refine Bx.set ?_ (by omega)))) hb
      clear h0_1 h1_1 o_1c o_1f q1_0 q1_1 q1_2 q1_3 q1_4 q1_5 q1_6 q1_7 q1_8 q1_9 q1_10 q1_11 q1_12 q1_13 q1_14 q1_15
      have hs2 := H2.size
      have hz2 := hb.size
      (try simp at hz2)
      clear hb
      have h0_2 := (H2.at 1 rfl).c
      have h1_2 := (H2.at 0 rfl).c
      have o_2c := o_2.c
      have o_2f := o_2.f
      have o_2l := o_2.lt
      have q2_0 : ¬ (w.heap.size + 1 + 1 = w2.heap.size) := by omega
      have q2_1 : ¬ (w2.heap.size = w.heap.size + 1 + 1) := by omega
      have q2_2 : w.heap.size + 1 + 1 < w2.heap.size := by omega
      have q2_3 : w.heap.size + 1 + 1 < w2.heap.size + 1 := by omega
      have q2_4 : ¬ (w.heap.size = w2.heap.size) := by omega
      have q2_5 : ¬ (w2.heap.size = w.heap.size) := by omega
      have q2_6 : w.heap.size < w2.heap.size := by omega
      have q2_7 : w.heap.size < w2.heap.size + 1 := by omega
      have q2_8 : ¬ (w.heap.size + 1 = w2.heap.size) := by omega
      have q2_9 : ¬ (w2.heap.size = w.heap.size + 1) := by omega
      have q2_10 : w.heap.size + 1 < w2.heap.size := by omega
      have q2_11 : w.heap.size + 1 < w2.heap.size + 1 := by omega
      have q2_12 : ¬ (w.heap.size + 1 + 1 = w.heap.size) := by omega
      have q2_13 : ¬ (w.heap.size = w.heap.size + 1 + 1) := by omega
      have q2_14 : ¬ (w.heap.size + 1 + 1 = w.heap.size + 1) := by omega
      have q2_15 : ¬ (w.heap.size + 1 = w.heap.size + 1 + 1) := by omega
      go_upto_region 4 with fail
      refine region_sets (Stscale.I s a b p0 q0 p1 q1 p2 q2 E1 E2 E3 w.heap.size w2.heap.size w) (by kernel_rfl) ?_ ?_ ?_
      · refine ⟨false, false, false, false, false, false, false, false, false, false, false, false, false, false, false, false, false, false, false, false, false, undef, undef, undef, undef, undef, undef, undef, undef, undef, undef, undef, undef, undef, undef, undef, undef, undef, undef, 0, 0, 0, rfl, by simp only [Act.put, List.setIfInBounds_toArray, List.set_cons_zero, List.set_cons_succ], ?_⟩
        constructor
        · (repeat (first | with_reducible exact H2 | with_reducible refine Ho.alc ?_ _ | with_reducible refine Ho.drew ?_ | with_reducible refine Ho.put ?_ (by omega)))
        · (first | (simp; done) | (simp; omega))
        · (omega)
        · (repeat (first | with_reducible exact o_2 | with_reducible refine Bx.alc ?_ _ | with_reducible refine Bx.drew ?_ | with_reducible refine Bx.set ?_ (by omega)))
        · (omega)
        · (omega)
        · (omega)
        · (omega)
        · (intro h; cases h)
        · (intro h; cases h)
        · (intro _; exact Bx.ce (by
          (repeat (first | with_reducible exact Bx.new (by simp) | with_reducible apply Bx.put6 | with_reducible apply Bx.put2 | with_reducible apply Bx.put1 | with_reducible refine Bx.set ?_ (by omega) | with_reducible refine Bx.alc ?_ _ | with_reducible refine Bx.drew ?_))))
        all_goals (intro h; cases h)
      · intro L a' w' hI i hi
        obtain ⟨l0, l1, l2, l3, l4, l5, l6, l7, l8, l9, l10, l11, l12, l13, l14, l15, l16, l17, l18, l19, l20, v0, v1, v2, v3, v4, v5, v6, v7, v8, v9, v10, v11, v12, v13, v14, v15, v16, v17, b15, b16, b17, rfl, rfl, h⟩ := hI
        have hlt := ready_lt hi
        match i, hi, hlt with
        | 0, hi, _ =>
          have l' : l0 = false := (ready_op (o := _) rfl hi).1
          subst l'
          clear hi hlt
          have H := Lib.hid h
          clear h
          refine wpOp_shut rfl (fun K hK => ?_)
          try simp only [Act.put, List.setIfInBounds_toArray, List.set_cons_zero, List.set_cons_succ]
          go_simp
          refine hK.out _ _ ?_
          unfold Stscale.I
          refine ⟨true, l1, l2, l3, l4, l5, l6, l7, l8, l9, l10, l11, l12, l13, l14, l15, l16, l17, l18, l19, l20, (.pointer (some ⟨w2.heap.size, 0, none⟩)), v1, v2, v3, v4, v5, v6, v7, v8, v9, v10, v11, v12, v13, v14, v15, v16, v17, b15, b16, b17, rfl, ?_, ?_⟩
          · simp only [Act.put, List.setIfInBounds_toArray, List.set_cons_zero, List.set_cons_succ]
          · exact { H.out with e0 := fun _ => rfl }
        | 1, hi, _ =>
          have l' : l1 = false := (ready_op (o := _) rfl hi).1
          subst l'
          clear hi hlt
          have H := Lib.hid h
          clear h
          refine wpOp_shut rfl (fun K hK => ?_)
          try simp only [Act.put, List.setIfInBounds_toArray, List.set_cons_zero, List.set_cons_succ]
          go_simp
          refine hK.out _ _ ?_
          unfold Stscale.I
          refine ⟨l0, true, l2, l3, l4, l5, l6, l7, l8, l9, l10, l11, l12, l13, l14, l15, l16, l17, l18, l19, l20, v0, (.pointer (some ⟨w.heap.size, 0, none⟩)), v2, v3, v4, v5, v6, v7, v8, v9, v10, v11, v12, v13, v14, v15, v16, v17, b15, b16, b17, rfl, ?_, ?_⟩
          · simp only [Act.put, List.setIfInBounds_toArray, List.set_cons_zero, List.set_cons_succ]
          · exact { H.out with e1 := fun _ => rfl }
        | 2, hi, _ =>
          have l' : l2 = false := (ready_op (o := _) rfl hi).1
          subst l'
          have k1 : l1 = true := (ready_op (o := _) rfl hi).2 { on := 1, ground := .data } (by simp) rfl
          clear hi hlt
          subst k1
          obtain rfl := h.e1 rfl
          have c := (h.g.at 1 rfl).c
          have H := Lib.hid h
          clear h
          refine wpOp_shut rfl (fun K hK => ?_)
          try simp only [Act.put, List.setIfInBounds_toArray, List.set_cons_zero, List.set_cons_succ]
          go_simp
          refine hK.out _ _ ?_
          unfold Stscale.I
          refine ⟨l0, true, true, l3, l4, l5, l6, l7, l8, l9, l10, l11, l12, l13, l14, l15, l16, l17, l18, l19, l20, v0, (.pointer (some ⟨w.heap.size, 0, none⟩)), ((iv s.a s.b)), v3, v4, v5, v6, v7, v8, v9, v10, v11, v12, v13, v14, v15, v16, v17, b15, b16, b17, rfl, ?_, ?_⟩
          · simp only [Act.put, List.setIfInBounds_toArray, List.set_cons_zero, List.set_cons_succ]
          · exact { H.out with e2 := fun _ => rfl }
        | 3, hi, _ =>
          have l' : l3 = false := (ready_op (o := _) rfl hi).1
          subst l'
          clear hi hlt
          have c := (h.g.at 0 rfl).c
          have H := Lib.hid h
          clear h
          refine wpOp_shut rfl (fun K hK => ?_)
          try simp only [Act.put, List.setIfInBounds_toArray, List.set_cons_zero, List.set_cons_succ]
          go_simp
          refine hK.out _ _ ?_
          unfold Stscale.I
          refine ⟨l0, l1, l2, true, l4, l5, l6, l7, l8, l9, l10, l11, l12, l13, l14, l15, l16, l17, l18, l19, l20, v0, v1, v2, ((iv a b)), v4, v5, v6, v7, v8, v9, v10, v11, v12, v13, v14, v15, v16, v17, b15, b16, b17, rfl, ?_, ?_⟩
          · simp only [Act.put, List.setIfInBounds_toArray, List.set_cons_zero, List.set_cons_succ]
          · exact { H.out with e3 := fun _ => rfl }
        | 4, hi, _ =>
          have l' : l4 = false := (ready_op (o := _) rfl hi).1
          subst l'
          have k0 : l0 = true := (ready_op (o := _) rfl hi).2 { on := 0, ground := .data } (by simp) rfl
          have k2 : l2 = true := (ready_op (o := _) rfl hi).2 { on := 2, ground := .data } (by simp) rfl
          have k3 : l3 = true := (ready_op (o := _) rfl hi).2 { on := 3, ground := .data } (by simp) rfl
          clear hi hlt
          subst k0
          subst k2
          subst k3
          obtain rfl := h.e0 rfl
          obtain rfl := h.e2 rfl
          obtain rfl := h.e3 rfl
          have CK := h.k0 rfl
          have H := Lib.hid h
          clear h
          refine wpOp_shut rfl (fun K hK => ?_)
          try simp only [Act.put, List.setIfInBounds_toArray, List.set_cons_zero, List.set_cons_succ]
          go_simp
          refine (cmul_any w.heap.size w2.heap.size s.a s.b a b 0 _ CK.v CK.f).mono ?_
          rintro e wY ⟨rfl, st⟩
          rw [X0.out]
          rw [X0.out] at st
          dsimp only
          dsimp only at st
          rw [Y1.out] at st
          try go_simp
          refine hK.out _ _ ?_
          unfold Stscale.I
          refine ⟨true, l1, true, true, true, l5, l6, l7, l8, l9, l10, l11, l12, l13, l14, l15, l16, l17, l18, l19, l20, (.pointer (some ⟨w2.heap.size, 0, none⟩)), v1, ((iv s.a s.b)), ((iv a b)), ((iv p0 q0)), v5, v6, v7, v8, v9, v10, v11, v12, v13, v14, v15, v16, v17, b15, b16, b17, rfl, ?_, ?_⟩
          · simp only [Act.put, List.setIfInBounds_toArray, List.set_cons_zero, List.set_cons_succ]
          · have h := H.out
            exact { h with g := h.g.step st h.mc, sz := Nat.le_trans h.sz st.size, e4 := fun _ => rfl, u0 := h.u0.step st h.uc0, k0 := fun p0 => (nomatch p0), k1 := fun p0 p1 => CK.step st, k2 := fun p0 p1 => (nomatch (h.q9 p0)), k3 := fun p0 => (nomatch (h.q9 (h.q14 p0))), q9 := fun _ => rfl, t15 := fun p => Nat.lt_of_lt_of_le (h.t15 p) st.size, z15 := fun p r => (h.z15 p r).step st (Nat.ne_of_gt (Nat.lt_of_lt_of_le h.cn (h.g15 p))), s15 := fun p => (h.s15 p).step st (Nat.ne_of_gt (Nat.lt_of_lt_of_le h.cn (h.g15 (h.o15 p)))), t16 := fun p => Nat.lt_of_lt_of_le (h.t16 p) st.size, z16 := fun p r => (h.z16 p r).step st (Nat.ne_of_gt (Nat.lt_of_lt_of_le h.cn (h.g16 p))), s16 := fun p => (h.s16 p).step st (Nat.ne_of_gt (Nat.lt_of_lt_of_le h.cn (h.g16 (h.o16 p)))), t17 := fun p => Nat.lt_of_lt_of_le (h.t17 p) st.size, z17 := fun p r => (h.z17 p r).step st (Nat.ne_of_gt (Nat.lt_of_lt_of_le h.cn (h.g17 p))), s17 := fun p => (h.s17 p).step st (Nat.ne_of_gt (Nat.lt_of_lt_of_le h.cn (h.g17 (h.o17 p)))) }
        | 5, hi, _ =>
          have l' : l5 = false := (ready_op (o := _) rfl hi).1
          subst l'
          clear hi hlt
          have H := Lib.hid h
          clear h
          refine wpOp_shut rfl (fun K hK => ?_)
          try simp only [Act.put, List.setIfInBounds_toArray, List.set_cons_zero, List.set_cons_succ]
          go_simp
          refine hK.out _ _ ?_
          unfold Stscale.I
          refine ⟨l0, l1, l2, l3, l4, true, l6, l7, l8, l9, l10, l11, l12, l13, l14, l15, l16, l17, l18, l19, l20, v0, v1, v2, v3, v4, (.pointer (some ⟨w2.heap.size, 0, none⟩)), v6, v7, v8, v9, v10, v11, v12, v13, v14, v15, v16, v17, b15, b16, b17, rfl, ?_, ?_⟩
          · simp only [Act.put, List.setIfInBounds_toArray, List.set_cons_zero, List.set_cons_succ]
          · exact { H.out with e5 := fun _ => rfl }
        | 6, hi, _ =>
          have l' : l6 = false := (ready_op (o := _) rfl hi).1
          subst l'
          clear hi hlt
          have H := Lib.hid h
          clear h
          refine wpOp_shut rfl (fun K hK => ?_)
          try simp only [Act.put, List.setIfInBounds_toArray, List.set_cons_zero, List.set_cons_succ]
          go_simp
          refine hK.out _ _ ?_
          unfold Stscale.I
          refine ⟨l0, l1, l2, l3, l4, l5, true, l7, l8, l9, l10, l11, l12, l13, l14, l15, l16, l17, l18, l19, l20, v0, v1, v2, v3, v4, v5, (.pointer (some ⟨w.heap.size, 2, none⟩)), v7, v8, v9, v10, v11, v12, v13, v14, v15, v16, v17, b15, b16, b17, rfl, ?_, ?_⟩
          · simp only [Act.put, List.setIfInBounds_toArray, List.set_cons_zero, List.set_cons_succ]
          · exact { H.out with e6 := fun _ => rfl }
        | 7, hi, _ =>
          have l' : l7 = false := (ready_op (o := _) rfl hi).1
          subst l'
          have k6 : l6 = true := (ready_op (o := _) rfl hi).2 { on := 6, ground := .data } (by simp) rfl
          clear hi hlt
          subst k6
          obtain rfl := h.e6 rfl
          have c := (h.g.at 1 rfl).c
          have H := Lib.hid h
          clear h
          refine wpOp_shut rfl (fun K hK => ?_)
          try simp only [Act.put, List.setIfInBounds_toArray, List.set_cons_zero, List.set_cons_succ]
          go_simp
          refine hK.out _ _ ?_
          unfold Stscale.I
          refine ⟨l0, l1, l2, l3, l4, l5, true, true, l8, l9, l10, l11, l12, l13, l14, l15, l16, l17, l18, l19, l20, v0, v1, v2, v3, v4, v5, (.pointer (some ⟨w.heap.size, 2, none⟩)), ((iv s.c s.d)), v8, v9, v10, v11, v12, v13, v14, v15, v16, v17, b15, b16, b17, rfl, ?_, ?_⟩
          · simp only [Act.put, List.setIfInBounds_toArray, List.set_cons_zero, List.set_cons_succ]
          · exact { H.out with e7 := fun _ => rfl }
        | 8, hi, _ =>
          have l' : l8 = false := (ready_op (o := _) rfl hi).1
          subst l'
          clear hi hlt
          have c := (h.g.at 0 rfl).c
          have H := Lib.hid h
          clear h
          refine wpOp_shut rfl (fun K hK => ?_)
          try simp only [Act.put, List.setIfInBounds_toArray, List.set_cons_zero, List.set_cons_succ]
          go_simp
          refine hK.out _ _ ?_
          unfold Stscale.I
          refine ⟨l0, l1, l2, l3, l4, l5, l6, l7, true, l9, l10, l11, l12, l13, l14, l15, l16, l17, l18, l19, l20, v0, v1, v2, v3, v4, v5, v6, v7, ((iv a b)), v9, v10, v11, v12, v13, v14, v15, v16, v17, b15, b16, b17, rfl, ?_, ?_⟩
          · simp only [Act.put, List.setIfInBounds_toArray, List.set_cons_zero, List.set_cons_succ]
          · exact { H.out with e8 := fun _ => rfl }
        | 9, hi, _ =>
          have l' : l9 = false := (ready_op (o := _) rfl hi).1
          subst l'
          have k5 : l5 = true := (ready_op (o := _) rfl hi).2 { on := 5, ground := .data } (by simp) rfl
          have k7 : l7 = true := (ready_op (o := _) rfl hi).2 { on := 7, ground := .data } (by simp) rfl
          have k8 : l8 = true := (ready_op (o := _) rfl hi).2 { on := 8, ground := .data } (by simp) rfl
          have k4 : l4 = true := (ready_op (o := _) rfl hi).2 { on := 4, ground := .chain } (by simp) rfl
          clear hi hlt
          subst k5
          subst k7
          subst k8
          subst k4
          obtain rfl := h.e5 rfl
          obtain rfl := h.e7 rfl
          obtain rfl := h.e8 rfl
          obtain rfl := h.e4 rfl
          have CK := h.k1 rfl rfl
          have H := Lib.hid h
          clear h
          refine wpOp_shut rfl (fun K hK => ?_)
          try simp only [Act.put, List.setIfInBounds_toArray, List.set_cons_zero, List.set_cons_succ]
          go_simp
          refine (cmul_any w.heap.size w2.heap.size s.c s.d a b E1 _ CK.v CK.f).mono ?_
          rintro e wY ⟨rfl, st⟩
          rw [X1.out]
          rw [X1.out] at st
          dsimp only
          dsimp only at st
          rw [Y2.out] at st
          try go_simp
          refine hK.out _ _ ?_
          unfold Stscale.I
          refine ⟨l0, l1, l2, l3, true, true, l6, true, true, true, l10, l11, l12, l13, l14, l15, l16, l17, l18, l19, l20, v0, v1, v2, v3, ((iv p0 q0)), (.pointer (some ⟨w2.heap.size, 0, none⟩)), v6, ((iv s.c s.d)), ((iv a b)), ((iv p1 q1)), v10, v11, v12, v13, v14, v15, v16, v17, b15, b16, b17, rfl, ?_, ?_⟩
          · simp only [Act.put, List.setIfInBounds_toArray, List.set_cons_zero, List.set_cons_succ]
          · have h := H.out
            exact { h with g := h.g.step st h.mc, sz := Nat.le_trans h.sz st.size, e9 := fun _ => rfl, u0 := h.u0.step st h.uc0, k0 := fun p0 => (nomatch (Eq.trans (Eq.symm (rfl : true = true)) p0)), k1 := fun p0 p1 => (nomatch p1), k2 := fun p0 p1 => CK.step st, k3 := fun p0 => (nomatch (h.q14 p0)), q9 := fun _ => rfl, q14 := fun _ => rfl, t15 := fun p => Nat.lt_of_lt_of_le (h.t15 p) st.size, z15 := fun p r => (h.z15 p r).step st (Nat.ne_of_gt (Nat.lt_of_lt_of_le h.cn (h.g15 p))), s15 := fun p => (h.s15 p).step st (Nat.ne_of_gt (Nat.lt_of_lt_of_le h.cn (h.g15 (h.o15 p)))), t16 := fun p => Nat.lt_of_lt_of_le (h.t16 p) st.size, z16 := fun p r => (h.z16 p r).step st (Nat.ne_of_gt (Nat.lt_of_lt_of_le h.cn (h.g16 p))), s16 := fun p => (h.s16 p).step st (Nat.ne_of_gt (Nat.lt_of_lt_of_le h.cn (h.g16 (h.o16 p)))), t17 := fun p => Nat.lt_of_lt_of_le (h.t17 p) st.size, z17 := fun p r => (h.z17 p r).step st (Nat.ne_of_gt (Nat.lt_of_lt_of_le h.cn (h.g17 p))), s17 := fun p => (h.s17 p).step st (Nat.ne_of_gt (Nat.lt_of_lt_of_le h.cn (h.g17 (h.o17 p)))) }
        | 10, hi, _ =>
          have l' : l10 = false := (ready_op (o := _) rfl hi).1
          subst l'
          clear hi hlt
          have H := Lib.hid h
          clear h
          refine wpOp_shut rfl (fun K hK => ?_)
          try simp only [Act.put, List.setIfInBounds_toArray, List.set_cons_zero, List.set_cons_succ]
          go_simp
          refine hK.out _ _ ?_
          unfold Stscale.I
          refine ⟨l0, l1, l2, l3, l4, l5, l6, l7, l8, l9, true, l11, l12, l13, l14, l15, l16, l17, l18, l19, l20, v0, v1, v2, v3, v4, v5, v6, v7, v8, v9, (.pointer (some ⟨w2.heap.size, 0, none⟩)), v11, v12, v13, v14, v15, v16, v17, b15, b16, b17, rfl, ?_, ?_⟩
          · simp only [Act.put, List.setIfInBounds_toArray, List.set_cons_zero, List.set_cons_succ]
          · exact { H.out with e10 := fun _ => rfl }
        | 11, hi, _ =>
          have l' : l11 = false := (ready_op (o := _) rfl hi).1
          subst l'
          clear hi hlt
          have H := Lib.hid h
          clear h
          refine wpOp_shut rfl (fun K hK => ?_)
          try simp only [Act.put, List.setIfInBounds_toArray, List.set_cons_zero, List.set_cons_succ]
          go_simp
          refine hK.out _ _ ?_
          unfold Stscale.I
          refine ⟨l0, l1, l2, l3, l4, l5, l6, l7, l8, l9, l10, true, l12, l13, l14, l15, l16, l17, l18, l19, l20, v0, v1, v2, v3, v4, v5, v6, v7, v8, v9, v10, (.pointer (some ⟨w.heap.size, 4, none⟩)), v12, v13, v14, v15, v16, v17, b15, b16, b17, rfl, ?_, ?_⟩
          · simp only [Act.put, List.setIfInBounds_toArray, List.set_cons_zero, List.set_cons_succ]
          · exact { H.out with e11 := fun _ => rfl }
        | 12, hi, _ =>
          have l' : l12 = false := (ready_op (o := _) rfl hi).1
          subst l'
          have k11 : l11 = true := (ready_op (o := _) rfl hi).2 { on := 11, ground := .data } (by simp) rfl
          clear hi hlt
          subst k11
          obtain rfl := h.e11 rfl
          have c := (h.g.at 1 rfl).c
          have H := Lib.hid h
          clear h
          refine wpOp_shut rfl (fun K hK => ?_)
          try simp only [Act.put, List.setIfInBounds_toArray, List.set_cons_zero, List.set_cons_succ]
          go_simp
          refine hK.out _ _ ?_
          unfold Stscale.I
          refine ⟨l0, l1, l2, l3, l4, l5, l6, l7, l8, l9, l10, true, true, l13, l14, l15, l16, l17, l18, l19, l20, v0, v1, v2, v3, v4, v5, v6, v7, v8, v9, v10, (.pointer (some ⟨w.heap.size, 4, none⟩)), ((iv s.e s.f)), v13, v14, v15, v16, v17, b15, b16, b17, rfl, ?_, ?_⟩
          · simp only [Act.put, List.setIfInBounds_toArray, List.set_cons_zero, List.set_cons_succ]
          · exact { H.out with e12 := fun _ => rfl }
        | 13, hi, _ =>
          have l' : l13 = false := (ready_op (o := _) rfl hi).1
          subst l'
          clear hi hlt
          have c := (h.g.at 0 rfl).c
          have H := Lib.hid h
          clear h
          refine wpOp_shut rfl (fun K hK => ?_)
          try simp only [Act.put, List.setIfInBounds_toArray, List.set_cons_zero, List.set_cons_succ]
          go_simp
          refine hK.out _ _ ?_
          unfold Stscale.I
          refine ⟨l0, l1, l2, l3, l4, l5, l6, l7, l8, l9, l10, l11, l12, true, l14, l15, l16, l17, l18, l19, l20, v0, v1, v2, v3, v4, v5, v6, v7, v8, v9, v10, v11, v12, ((iv a b)), v14, v15, v16, v17, b15, b16, b17, rfl, ?_, ?_⟩
          · simp only [Act.put, List.setIfInBounds_toArray, List.set_cons_zero, List.set_cons_succ]
          · exact { H.out with e13 := fun _ => rfl }
        | 14, hi, _ =>
          have l' : l14 = false := (ready_op (o := _) rfl hi).1
          subst l'
          have k10 : l10 = true := (ready_op (o := _) rfl hi).2 { on := 10, ground := .data } (by simp) rfl
          have k12 : l12 = true := (ready_op (o := _) rfl hi).2 { on := 12, ground := .data } (by simp) rfl
          have k13 : l13 = true := (ready_op (o := _) rfl hi).2 { on := 13, ground := .data } (by simp) rfl
          have k9 : l9 = true := (ready_op (o := _) rfl hi).2 { on := 9, ground := .chain } (by simp) rfl
          clear hi hlt
          subst k10
          subst k12
          subst k13
          subst k9
          obtain rfl := h.e10 rfl
          obtain rfl := h.e12 rfl
          obtain rfl := h.e13 rfl
          obtain rfl := h.e9 rfl
          have CK := h.k2 rfl rfl
          have H := Lib.hid h
          clear h
          refine wpOp_shut rfl (fun K hK => ?_)
          try simp only [Act.put, List.setIfInBounds_toArray, List.set_cons_zero, List.set_cons_succ]
          go_simp
          refine (cmul_any w.heap.size w2.heap.size s.e s.f a b E2 _ CK.v CK.f).mono ?_
          rintro e wY ⟨rfl, st⟩
          rw [X2.out]
          rw [X2.out] at st
          dsimp only
          dsimp only at st
          rw [Y3.out] at st
          try go_simp
          refine hK.out _ _ ?_
          unfold Stscale.I
          refine ⟨l0, l1, l2, l3, l4, l5, l6, l7, l8, true, true, l11, true, true, true, l15, l16, l17, l18, l19, l20, v0, v1, v2, v3, v4, v5, v6, v7, v8, ((iv p1 q1)), (.pointer (some ⟨w2.heap.size, 0, none⟩)), v11, ((iv s.e s.f)), ((iv a b)), ((iv p2 q2)), v15, v16, v17, b15, b16, b17, rfl, ?_, ?_⟩
          · simp only [Act.put, List.setIfInBounds_toArray, List.set_cons_zero, List.set_cons_succ]
          · have h := H.out
            exact { h with g := h.g.step st h.mc, sz := Nat.le_trans h.sz st.size, e14 := fun _ => rfl, u0 := h.u0.step st h.uc0, k0 := fun p0 => (nomatch (Eq.trans (Eq.symm (h.q9 rfl)) p0)), k1 := fun p0 p1 => (nomatch (Eq.trans (Eq.symm (rfl : true = true)) p1)), k2 := fun p0 p1 => (nomatch p1), k3 := fun p0 => CK.step st, q14 := fun _ => rfl, t15 := fun p => Nat.lt_of_lt_of_le (h.t15 p) st.size, z15 := fun p r => (h.z15 p r).step st (Nat.ne_of_gt (Nat.lt_of_lt_of_le h.cn (h.g15 p))), s15 := fun p => (h.s15 p).step st (Nat.ne_of_gt (Nat.lt_of_lt_of_le h.cn (h.g15 (h.o15 p)))), t16 := fun p => Nat.lt_of_lt_of_le (h.t16 p) st.size, z16 := fun p r => (h.z16 p r).step st (Nat.ne_of_gt (Nat.lt_of_lt_of_le h.cn (h.g16 p))), s16 := fun p => (h.s16 p).step st (Nat.ne_of_gt (Nat.lt_of_lt_of_le h.cn (h.g16 (h.o16 p)))), t17 := fun p => Nat.lt_of_lt_of_le (h.t17 p) st.size, z17 := fun p r => (h.z17 p r).step st (Nat.ne_of_gt (Nat.lt_of_lt_of_le h.cn (h.g17 p))), s17 := fun p => (h.s17 p).step st (Nat.ne_of_gt (Nat.lt_of_lt_of_le h.cn (h.g17 (h.o17 p)))) }
        | 15, hi, _ =>
          have l' : l15 = false := (ready_op (o := _) rfl hi).1
          subst l'
          clear hi hlt
          have H := Lib.hid h
          clear h
          refine wpOp_shut rfl (fun K hK => ?_)
          try simp only [Act.put, List.setIfInBounds_toArray, List.set_cons_zero, List.set_cons_succ]
          go_simp
          refine hK.out _ _ ?_
          unfold Stscale.I
          refine ⟨l0, l1, l2, l3, l4, l5, l6, l7, l8, l9, l10, l11, l12, l13, l14, true, l16, l17, l18, l19, l20, v0, v1, v2, v3, v4, v5, v6, v7, v8, v9, v10, v11, v12, v13, v14, (.pointer (some ⟨w'.heap.size, 0, none⟩)), v16, v17, w'.heap.size, b16, b17, rfl, ?_, ?_⟩
          · simp only [Act.put, List.setIfInBounds_toArray, List.set_cons_zero, List.set_cons_succ]
          · have h := H.out
            have h2 := h.kept ((Below.refl _ _).alloc (Nat.le_refl _) (.cells (List.toArray [.int .i64 0, .int .i64 0]) 24))
            exact { h2 with e15 := fun _ => rfl, g15 := fun _ => h.sz, t15 := fun _ => by simp, o15 := fun p => rfl, z15 := fun _ _ => Bx.new rfl, s15 := fun p => (nomatch (h.o15 p)), d15_16 := fun _ p => Nat.ne_of_gt (h.t16 p), d15_17 := fun _ p => Nat.ne_of_gt (h.t17 p) }
        | 16, hi, _ =>
          have l' : l16 = false := (ready_op (o := _) rfl hi).1
          subst l'
          clear hi hlt
          have H := Lib.hid h
          clear h
          refine wpOp_shut rfl (fun K hK => ?_)
          try simp only [Act.put, List.setIfInBounds_toArray, List.set_cons_zero, List.set_cons_succ]
          go_simp
          refine hK.out _ _ ?_
          unfold Stscale.I
          refine ⟨l0, l1, l2, l3, l4, l5, l6, l7, l8, l9, l10, l11, l12, l13, l14, l15, true, l17, l18, l19, l20, v0, v1, v2, v3, v4, v5, v6, v7, v8, v9, v10, v11, v12, v13, v14, v15, (.pointer (some ⟨w'.heap.size, 0, none⟩)), v17, b15, w'.heap.size, b17, rfl, ?_, ?_⟩
          · simp only [Act.put, List.setIfInBounds_toArray, List.set_cons_zero, List.set_cons_succ]
          · have h := H.out
            have h2 := h.kept ((Below.refl _ _).alloc (Nat.le_refl _) (.cells (List.toArray [.int .i64 0, .int .i64 0]) 24))
            exact { h2 with e16 := fun _ => rfl, g16 := fun _ => h.sz, t16 := fun _ => by simp, o16 := fun p => rfl, z16 := fun _ _ => Bx.new rfl, s16 := fun p => (nomatch (h.o16 p)), d15_16 := fun p _ => Nat.ne_of_lt (h.t15 p), d16_17 := fun _ p => Nat.ne_of_gt (h.t17 p) }
        | 17, hi, _ =>
          have l' : l17 = false := (ready_op (o := _) rfl hi).1
          subst l'
          clear hi hlt
          have H := Lib.hid h
          clear h
          refine wpOp_shut rfl (fun K hK => ?_)
          try simp only [Act.put, List.setIfInBounds_toArray, List.set_cons_zero, List.set_cons_succ]
          go_simp
          refine hK.out _ _ ?_
          unfold Stscale.I
          refine ⟨l0, l1, l2, l3, l4, l5, l6, l7, l8, l9, l10, l11, l12, l13, l14, l15, l16, true, l18, l19, l20, v0, v1, v2, v3, v4, v5, v6, v7, v8, v9, v10, v11, v12, v13, v14, v15, v16, (.pointer (some ⟨w'.heap.size, 0, none⟩)), b15, b16, w'.heap.size, rfl, ?_, ?_⟩
          · simp only [Act.put, List.setIfInBounds_toArray, List.set_cons_zero, List.set_cons_succ]
          · have h := H.out
            have h2 := h.kept ((Below.refl _ _).alloc (Nat.le_refl _) (.cells (List.toArray [.int .i64 0, .int .i64 0]) 24))
            exact { h2 with e17 := fun _ => rfl, g17 := fun _ => h.sz, t17 := fun _ => by simp, o17 := fun p => rfl, z17 := fun _ _ => Bx.new rfl, s17 := fun p => (nomatch (h.o17 p)), d15_17 := fun p _ => Nat.ne_of_lt (h.t15 p), d16_17 := fun p _ => Nat.ne_of_lt (h.t16 p) }
        | 18, hi, _ =>
          have l' : l18 = false := (ready_op (o := _) rfl hi).1
          subst l'
          have k15 : l15 = true := (ready_op (o := _) rfl hi).2 { on := 15, ground := .phase } (by simp) rfl
          have k4 : l4 = true := (ready_op (o := _) rfl hi).2 { on := 4, ground := .phase } (by simp) rfl
          have k14 : l14 = true := (ready_op (o := _) rfl hi).2 { on := 14, ground := .chain } (by simp) rfl
          have k0 : l0 = true := (ready_op (o := _) rfl hi).2 { on := 0, ground := .phase } (by simp) rfl
          have k1 : l1 = true := (ready_op (o := _) rfl hi).2 { on := 1, ground := .phase } (by simp) rfl
          have k2 : l2 = true := (ready_op (o := _) rfl hi).2 { on := 2, ground := .phase } (by simp) rfl
          have k3 : l3 = true := (ready_op (o := _) rfl hi).2 { on := 3, ground := .phase } (by simp) rfl
          have k16 : l16 = true := (ready_op (o := _) rfl hi).2 { on := 16, ground := .phase } (by simp) rfl
          have k17 : l17 = true := (ready_op (o := _) rfl hi).2 { on := 17, ground := .phase } (by simp) rfl
          clear hi hlt
          subst k15
          subst k4
          subst k14
          subst k0
          subst k1
          subst k2
          subst k3
          subst k16
          subst k17
          obtain rfl := h.e15 rfl
          obtain rfl := h.e4 rfl
          obtain rfl := h.e14 rfl
          obtain rfl := h.e0 rfl
          obtain rfl := h.e1 rfl
          obtain rfl := h.e2 rfl
          obtain rfl := h.e3 rfl
          obtain rfl := h.e16 rfl
          obtain rfl := h.e17 rfl
          have bz := h.z15 rfl rfl
          have c := bz.c
          have f := bz.f
          clear bz
          have H := Lib.hid h
          clear h
          refine wpOp_shut rfl (fun K hK => ?_)
          try simp only [Act.put, List.setIfInBounds_toArray, List.set_cons_zero, List.set_cons_succ]
          go_simp
          refine hK.out _ _ ?_
          unfold Stscale.I
          refine ⟨true, true, true, true, true, l5, l6, l7, l8, l9, l10, l11, l12, l13, true, true, true, true, true, l19, l20, (.pointer (some ⟨w2.heap.size, 0, none⟩)), (.pointer (some ⟨w.heap.size, 0, none⟩)), ((iv s.a s.b)), ((iv a b)), ((iv p0 q0)), v5, v6, v7, v8, v9, v10, v11, v12, v13, ((iv p2 q2)), (.pointer (some ⟨b15, 0, none⟩)), (.pointer (some ⟨b16, 0, none⟩)), (.pointer (some ⟨b17, 0, none⟩)), b15, b16, b17, rfl, ?_, ?_⟩
          · simp only [Act.put, List.setIfInBounds_toArray, List.set_cons_zero, List.set_cons_succ]
          · have h := H.out
            have gb := h.g15 rfl
            have gm := Nat.le_trans h.mn gb
            exact { h with g := ((h.g.put gm).put gm), sz := by simpa using h.sz, o15 := fun _ => rfl, z15 := fun _ p => (nomatch p), s15 := fun _ => (((h.z15 rfl rfl).put).put), t15 := fun p => by simpa using h.t15 p, u0 := ((h.u0.set (Nat.ne_of_lt (Nat.lt_of_lt_of_le h.un0 gb))).set (Nat.ne_of_lt (Nat.lt_of_lt_of_le h.un0 gb))), k0 := fun p0 => (((h.k0 p0).set (Nat.ne_of_lt (Nat.lt_of_lt_of_le h.cn gb))).set (Nat.ne_of_lt (Nat.lt_of_lt_of_le h.cn gb))), k1 := fun p0 p1 => (((h.k1 p0 p1).set (Nat.ne_of_lt (Nat.lt_of_lt_of_le h.cn gb))).set (Nat.ne_of_lt (Nat.lt_of_lt_of_le h.cn gb))), k2 := fun p0 p1 => (((h.k2 p0 p1).set (Nat.ne_of_lt (Nat.lt_of_lt_of_le h.cn gb))).set (Nat.ne_of_lt (Nat.lt_of_lt_of_le h.cn gb))), k3 := fun p0 => (((h.k3 p0).set (Nat.ne_of_lt (Nat.lt_of_lt_of_le h.cn gb))).set (Nat.ne_of_lt (Nat.lt_of_lt_of_le h.cn gb))), t16 := fun p => by simpa using h.t16 p, z16 := fun p r => (((h.z16 p r).set (fun q => (h.d15_16 rfl p) q.symm)).set (fun q => (h.d15_16 rfl p) q.symm)), s16 := fun p => (((h.s16 p).set (fun q => (h.d15_16 rfl (h.o16 p)) q.symm)).set (fun q => (h.d15_16 rfl (h.o16 p)) q.symm)), t17 := fun p => by simpa using h.t17 p, z17 := fun p r => (((h.z17 p r).set (fun q => (h.d15_17 rfl p) q.symm)).set (fun q => (h.d15_17 rfl p) q.symm)), s17 := fun p => (((h.s17 p).set (fun q => (h.d15_17 rfl (h.o17 p)) q.symm)).set (fun q => (h.d15_17 rfl (h.o17 p)) q.symm)) }
        | 19, hi, _ =>
          have l' : l19 = false := (ready_op (o := _) rfl hi).1
          subst l'
          have k16 : l16 = true := (ready_op (o := _) rfl hi).2 { on := 16, ground := .phase } (by simp) rfl
          have k9 : l9 = true := (ready_op (o := _) rfl hi).2 { on := 9, ground := .phase } (by simp) rfl
          have k18 : l18 = true := (ready_op (o := _) rfl hi).2 { on := 18, ground := .phase } (by simp) rfl
          have k0 : l0 = true := (ready_op (o := _) rfl hi).2 { on := 0, ground := .phase } (by simp) rfl
          have k1 : l1 = true := (ready_op (o := _) rfl hi).2 { on := 1, ground := .phase } (by simp) rfl
          have k2 : l2 = true := (ready_op (o := _) rfl hi).2 { on := 2, ground := .phase } (by simp) rfl
          have k3 : l3 = true := (ready_op (o := _) rfl hi).2 { on := 3, ground := .phase } (by simp) rfl
          have k4 : l4 = true := (ready_op (o := _) rfl hi).2 { on := 4, ground := .phase } (by simp) rfl
          have k5 : l5 = true := (ready_op (o := _) rfl hi).2 { on := 5, ground := .phase } (by simp) rfl
          have k6 : l6 = true := (ready_op (o := _) rfl hi).2 { on := 6, ground := .phase } (by simp) rfl
          have k7 : l7 = true := (ready_op (o := _) rfl hi).2 { on := 7, ground := .phase } (by simp) rfl
          have k8 : l8 = true := (ready_op (o := _) rfl hi).2 { on := 8, ground := .phase } (by simp) rfl
          have k15 : l15 = true := (ready_op (o := _) rfl hi).2 { on := 15, ground := .phase } (by simp) rfl
          have k17 : l17 = true := (ready_op (o := _) rfl hi).2 { on := 17, ground := .phase } (by simp) rfl
          clear hi hlt
          subst k16
          subst k9
          subst k18
          subst k0
          subst k1
          subst k2
          subst k3
          subst k4
          subst k5
          subst k6
          subst k7
          subst k8
          subst k15
          subst k17
          obtain rfl := h.e16 rfl
          obtain rfl := h.e9 rfl
          obtain rfl := h.e0 rfl
          obtain rfl := h.e1 rfl
          obtain rfl := h.e2 rfl
          obtain rfl := h.e3 rfl
          obtain rfl := h.e4 rfl
          obtain rfl := h.e5 rfl
          obtain rfl := h.e6 rfl
          obtain rfl := h.e7 rfl
          obtain rfl := h.e8 rfl
          obtain rfl := h.e15 rfl
          obtain rfl := h.e17 rfl
          have bz := h.z16 rfl rfl
          have c := bz.c
          have f := bz.f
          clear bz
          have H := Lib.hid h
          clear h
          refine wpOp_shut rfl (fun K hK => ?_)
          try simp only [Act.put, List.setIfInBounds_toArray, List.set_cons_zero, List.set_cons_succ]
          go_simp
          refine hK.out _ _ ?_
          unfold Stscale.I
          refine ⟨true, true, true, true, true, true, true, true, true, true, l10, l11, l12, l13, l14, true, true, true, true, true, l20, (.pointer (some ⟨w2.heap.size, 0, none⟩)), (.pointer (some ⟨w.heap.size, 0, none⟩)), ((iv s.a s.b)), ((iv a b)), ((iv p0 q0)), (.pointer (some ⟨w2.heap.size, 0, none⟩)), (.pointer (some ⟨w.heap.size, 2, none⟩)), ((iv s.c s.d)), ((iv a b)), ((iv p1 q1)), v10, v11, v12, v13, v14, (.pointer (some ⟨b15, 0, none⟩)), (.pointer (some ⟨b16, 0, none⟩)), (.pointer (some ⟨b17, 0, none⟩)), b15, b16, b17, rfl, ?_, ?_⟩
          · simp only [Act.put, List.setIfInBounds_toArray, List.set_cons_zero, List.set_cons_succ]
          · have h := H.out
            have gb := h.g16 rfl
            have gm := Nat.le_trans h.mn gb
            exact { h with g := ((h.g.put gm).put gm), sz := by simpa using h.sz, o16 := fun _ => rfl, z16 := fun _ p => (nomatch p), s16 := fun _ => (((h.z16 rfl rfl).put).put), t16 := fun p => by simpa using h.t16 p, u0 := ((h.u0.set (Nat.ne_of_lt (Nat.lt_of_lt_of_le h.un0 gb))).set (Nat.ne_of_lt (Nat.lt_of_lt_of_le h.un0 gb))), k0 := fun p0 => (((h.k0 p0).set (Nat.ne_of_lt (Nat.lt_of_lt_of_le h.cn gb))).set (Nat.ne_of_lt (Nat.lt_of_lt_of_le h.cn gb))), k1 := fun p0 p1 => (((h.k1 p0 p1).set (Nat.ne_of_lt (Nat.lt_of_lt_of_le h.cn gb))).set (Nat.ne_of_lt (Nat.lt_of_lt_of_le h.cn gb))), k2 := fun p0 p1 => (((h.k2 p0 p1).set (Nat.ne_of_lt (Nat.lt_of_lt_of_le h.cn gb))).set (Nat.ne_of_lt (Nat.lt_of_lt_of_le h.cn gb))), k3 := fun p0 => (((h.k3 p0).set (Nat.ne_of_lt (Nat.lt_of_lt_of_le h.cn gb))).set (Nat.ne_of_lt (Nat.lt_of_lt_of_le h.cn gb))), t15 := fun p => by simpa using h.t15 p, z15 := fun p r => (((h.z15 p r).set (fun q => (h.d15_16 p rfl) q)).set (fun q => (h.d15_16 p rfl) q)), s15 := fun p => (((h.s15 p).set (fun q => (h.d15_16 (h.o15 p) rfl) q)).set (fun q => (h.d15_16 (h.o15 p) rfl) q)), t17 := fun p => by simpa using h.t17 p, z17 := fun p r => (((h.z17 p r).set (fun q => (h.d16_17 rfl p) q.symm)).set (fun q => (h.d16_17 rfl p) q.symm)), s17 := fun p => (((h.s17 p).set (fun q => (h.d16_17 rfl (h.o17 p)) q.symm)).set (fun q => (h.d16_17 rfl (h.o17 p)) q.symm)) }
        | 20, hi, _ =>
          have l' : l20 = false := (ready_op (o := _) rfl hi).1
          subst l'
          have k17 : l17 = true := (ready_op (o := _) rfl hi).2 { on := 17, ground := .phase } (by simp) rfl
          have k14 : l14 = true := (ready_op (o := _) rfl hi).2 { on := 14, ground := .phase } (by simp) rfl
          have k19 : l19 = true := (ready_op (o := _) rfl hi).2 { on := 19, ground := .phase } (by simp) rfl
          have k0 : l0 = true := (ready_op (o := _) rfl hi).2 { on := 0, ground := .phase } (by simp) rfl
          have k1 : l1 = true := (ready_op (o := _) rfl hi).2 { on := 1, ground := .phase } (by simp) rfl
          have k2 : l2 = true := (ready_op (o := _) rfl hi).2 { on := 2, ground := .phase } (by simp) rfl
          have k3 : l3 = true := (ready_op (o := _) rfl hi).2 { on := 3, ground := .phase } (by simp) rfl
          have k4 : l4 = true := (ready_op (o := _) rfl hi).2 { on := 4, ground := .phase } (by simp) rfl
          have k5 : l5 = true := (ready_op (o := _) rfl hi).2 { on := 5, ground := .phase } (by simp) rfl
          have k6 : l6 = true := (ready_op (o := _) rfl hi).2 { on := 6, ground := .phase } (by simp) rfl
          have k7 : l7 = true := (ready_op (o := _) rfl hi).2 { on := 7, ground := .phase } (by simp) rfl
          have k8 : l8 = true := (ready_op (o := _) rfl hi).2 { on := 8, ground := .phase } (by simp) rfl
          have k9 : l9 = true := (ready_op (o := _) rfl hi).2 { on := 9, ground := .phase } (by simp) rfl
          have k10 : l10 = true := (ready_op (o := _) rfl hi).2 { on := 10, ground := .phase } (by simp) rfl
          have k11 : l11 = true := (ready_op (o := _) rfl hi).2 { on := 11, ground := .phase } (by simp) rfl
          have k12 : l12 = true := (ready_op (o := _) rfl hi).2 { on := 12, ground := .phase } (by simp) rfl
          have k13 : l13 = true := (ready_op (o := _) rfl hi).2 { on := 13, ground := .phase } (by simp) rfl
          have k15 : l15 = true := (ready_op (o := _) rfl hi).2 { on := 15, ground := .phase } (by simp) rfl
          have k16 : l16 = true := (ready_op (o := _) rfl hi).2 { on := 16, ground := .phase } (by simp) rfl
          have k18 : l18 = true := (ready_op (o := _) rfl hi).2 { on := 18, ground := .phase } (by simp) rfl
          clear hi hlt
          subst k17
          subst k14
          subst k19
          subst k0
          subst k1
          subst k2
          subst k3
          subst k4
          subst k5
          subst k6
          subst k7
          subst k8
          subst k9
          subst k10
          subst k11
          subst k12
          subst k13
          subst k15
          subst k16
          subst k18
          obtain rfl := h.e17 rfl
          obtain rfl := h.e14 rfl
          obtain rfl := h.e0 rfl
          obtain rfl := h.e1 rfl
          obtain rfl := h.e2 rfl
          obtain rfl := h.e3 rfl
          obtain rfl := h.e4 rfl
          obtain rfl := h.e5 rfl
          obtain rfl := h.e6 rfl
          obtain rfl := h.e7 rfl
          obtain rfl := h.e8 rfl
          obtain rfl := h.e9 rfl
          obtain rfl := h.e10 rfl
          obtain rfl := h.e11 rfl
          obtain rfl := h.e12 rfl
          obtain rfl := h.e13 rfl
          obtain rfl := h.e15 rfl
          obtain rfl := h.e16 rfl
          have bz := h.z17 rfl rfl
          have c := bz.c
          have f := bz.f
          clear bz
          have H := Lib.hid h
          clear h
          refine wpOp_shut rfl (fun K hK => ?_)
          try simp only [Act.put, List.setIfInBounds_toArray, List.set_cons_zero, List.set_cons_succ]
          go_simp
          refine hK.out _ _ ?_
          unfold Stscale.I
          refine ⟨true, true, true, true, true, true, true, true, true, true, true, true, true, true, true, true, true, true, true, true, true, (.pointer (some ⟨w2.heap.size, 0, none⟩)), (.pointer (some ⟨w.heap.size, 0, none⟩)), ((iv s.a s.b)), ((iv a b)), ((iv p0 q0)), (.pointer (some ⟨w2.heap.size, 0, none⟩)), (.pointer (some ⟨w.heap.size, 2, none⟩)), ((iv s.c s.d)), ((iv a b)), ((iv p1 q1)), (.pointer (some ⟨w2.heap.size, 0, none⟩)), (.pointer (some ⟨w.heap.size, 4, none⟩)), ((iv s.e s.f)), ((iv a b)), ((iv p2 q2)), (.pointer (some ⟨b15, 0, none⟩)), (.pointer (some ⟨b16, 0, none⟩)), (.pointer (some ⟨b17, 0, none⟩)), b15, b16, b17, rfl, ?_, ?_⟩
          · simp only [Act.put, List.setIfInBounds_toArray, List.set_cons_zero, List.set_cons_succ]
          · have h := H.out
            have gb := h.g17 rfl
            have gm := Nat.le_trans h.mn gb
            exact { h with g := ((h.g.put gm).put gm), sz := by simpa using h.sz, o17 := fun _ => rfl, z17 := fun _ p => (nomatch p), s17 := fun _ => (((h.z17 rfl rfl).put).put), t17 := fun p => by simpa using h.t17 p, u0 := ((h.u0.set (Nat.ne_of_lt (Nat.lt_of_lt_of_le h.un0 gb))).set (Nat.ne_of_lt (Nat.lt_of_lt_of_le h.un0 gb))), k0 := fun p0 => (((h.k0 p0).set (Nat.ne_of_lt (Nat.lt_of_lt_of_le h.cn gb))).set (Nat.ne_of_lt (Nat.lt_of_lt_of_le h.cn gb))), k1 := fun p0 p1 => (((h.k1 p0 p1).set (Nat.ne_of_lt (Nat.lt_of_lt_of_le h.cn gb))).set (Nat.ne_of_lt (Nat.lt_of_lt_of_le h.cn gb))), k2 := fun p0 p1 => (((h.k2 p0 p1).set (Nat.ne_of_lt (Nat.lt_of_lt_of_le h.cn gb))).set (Nat.ne_of_lt (Nat.lt_of_lt_of_le h.cn gb))), k3 := fun p0 => (((h.k3 p0).set (Nat.ne_of_lt (Nat.lt_of_lt_of_le h.cn gb))).set (Nat.ne_of_lt (Nat.lt_of_lt_of_le h.cn gb))), t15 := fun p => by simpa using h.t15 p, z15 := fun p r => (((h.z15 p r).set (fun q => (h.d15_17 p rfl) q)).set (fun q => (h.d15_17 p rfl) q)), s15 := fun p => (((h.s15 p).set (fun q => (h.d15_17 (h.o15 p) rfl) q)).set (fun q => (h.d15_17 (h.o15 p) rfl) q)), t16 := fun p => by simpa using h.t16 p, z16 := fun p r => (((h.z16 p r).set (fun q => (h.d16_17 p rfl) q)).set (fun q => (h.d16_17 p rfl) q)), s16 := fun p => (((h.s16 p).set (fun q => (h.d16_17 (h.o16 p) rfl) q)).set (fun q => (h.d16_17 (h.o16 p) rfl) q)) }
        | i + 21, _, hlt => exact absurd hlt (by simp)
      · intro L a' w' hI hn
        obtain ⟨l0, l1, l2, l3, l4, l5, l6, l7, l8, l9, l10, l11, l12, l13, l14, l15, l16, l17, l18, l19, l20, v0, v1, v2, v3, v4, v5, v6, v7, v8, v9, v10, v11, v12, v13, v14, v15, v16, v17, b15, b16, b17, rfl, rfl, h⟩ := hI
        have k0 : l0 = true := not_ready (i := 0) (o := _) rfl hn (by simp [Region.binds])
        subst k0
        have k1 : l1 = true := not_ready (i := 1) (o := _) rfl hn (by simp [Region.binds])
        subst k1
        have k2 : l2 = true := not_ready (i := 2) (o := _) rfl hn (by simp [Region.binds])
        subst k2
        have k3 : l3 = true := not_ready (i := 3) (o := _) rfl hn (by simp [Region.binds])
        subst k3
        have k4 : l4 = true := not_ready (i := 4) (o := _) rfl hn (by simp [Region.binds])
        subst k4
        have k5 : l5 = true := not_ready (i := 5) (o := _) rfl hn (by simp [Region.binds])
        subst k5
        have k6 : l6 = true := not_ready (i := 6) (o := _) rfl hn (by simp [Region.binds])
        subst k6
        have k7 : l7 = true := not_ready (i := 7) (o := _) rfl hn (by simp [Region.binds])
        subst k7
        have k8 : l8 = true := not_ready (i := 8) (o := _) rfl hn (by simp [Region.binds])
        subst k8
        have k9 : l9 = true := not_ready (i := 9) (o := _) rfl hn (by simp [Region.binds])
        subst k9
        have k10 : l10 = true := not_ready (i := 10) (o := _) rfl hn (by simp [Region.binds])
        subst k10
        have k11 : l11 = true := not_ready (i := 11) (o := _) rfl hn (by simp [Region.binds])
        subst k11
        have k12 : l12 = true := not_ready (i := 12) (o := _) rfl hn (by simp [Region.binds])
        subst k12
        have k13 : l13 = true := not_ready (i := 13) (o := _) rfl hn (by simp [Region.binds])
        subst k13
        have k14 : l14 = true := not_ready (i := 14) (o := _) rfl hn (by simp [Region.binds])
        subst k14
        have k15 : l15 = true := not_ready (i := 15) (o := _) rfl hn (by simp [Region.binds])
        subst k15
        have k16 : l16 = true := not_ready (i := 16) (o := _) rfl hn (by simp [Region.binds])
        subst k16
        have k17 : l17 = true := not_ready (i := 17) (o := _) rfl hn (by simp [Region.binds])
        subst k17
        have k18 : l18 = true := not_ready (i := 18) (o := _) rfl hn (by simp [Region.binds])
        subst k18
        have k19 : l19 = true := not_ready (i := 19) (o := _) rfl hn (by simp [Region.binds])
        subst k19
        have k20 : l20 = true := not_ready (i := 20) (o := _) rfl hn (by simp [Region.binds])
        subst k20
        clear hn
        obtain rfl := h.e0 rfl
        obtain rfl := h.e1 rfl
        obtain rfl := h.e2 rfl
        obtain rfl := h.e3 rfl
        obtain rfl := h.e4 rfl
        obtain rfl := h.e5 rfl
        obtain rfl := h.e6 rfl
        obtain rfl := h.e7 rfl
        obtain rfl := h.e8 rfl
        obtain rfl := h.e9 rfl
        obtain rfl := h.e10 rfl
        obtain rfl := h.e11 rfl
        obtain rfl := h.e12 rfl
        obtain rfl := h.e13 rfl
        obtain rfl := h.e14 rfl
        obtain rfl := h.e15 rfl
        obtain rfl := h.e16 rfl
        obtain rfl := h.e17 rfl
        simp only [Act.put, List.setIfInBounds_toArray, List.set_cons_zero, List.set_cons_succ]
        have H3 := h.g
        have o_3 := h.u0
        have C_3 := h.k3 rfl
        have B0 := h.s15 rfl
        have g0 := h.g15 rfl
        have t0 := h.t15 rfl
        have B1 := h.s16 rfl
        have g1 := h.g16 rfl
        have t1 := h.t16 rfl
        have B2 := h.s17 rfl
        have g2 := h.g17 rfl
        have t2 := h.t17 rfl
        clear h
        clear h0_2 h1_2 o_2c o_2f q2_0 q2_1 q2_2 q2_3 q2_4 q2_5 q2_6 q2_7 q2_8 q2_9 q2_10 q2_11 q2_12 q2_13 q2_14 q2_15
        have C_3v := C_3.v
        have B0c := B0.c
        have B1c := B1.c
        have B2c := B2.c
        go_wp2_with fail
        refine (done_any w2.heap.size E3 ⟨p0, q0, p1, q1, p2, q2⟩ _ C_3v).mono ?_
        rintro r w4 ⟨rfl, hb⟩
        rw [HD.out]
        have H4 : Ho w w4 (w.heap.size + 1 + 1) [(w.heap.size + 1, [.int .i64 a, .int .i64 b]), (w.heap.size, [.int .i64 s.a, .int .i64 s.b, .int .i64 s.c, .int .i64 s.d, .int .i64 s.e, .int .i64 s.f])] := Ho.call (by
        (repeat (first | with_reducible exact H3 | with_reducible refine Ho.alc ?_ _ | with_reducible refine Ho.drew ?_ | with_reducible refine Ho.put ?_ (by omega)))) hb
        have o_4 : Bx w4 (w.heap.size + 1 + 1) [.int .i64 0, .int .i64 0, .int .i64 0, .int .i64 0, .int .i64 0, .int .i64 0] := Bx.kept (by
        (repeat (first | with_reducible exact o_3 | with_reducible refine Bx.alc ?_ _ | with_reducible refine Bx.drew ?_ | with_reducible refine Bx.set ?_ (by omega)))) hb
        have o_4c := o_4.c
        have o_4f := o_4.f
        clear hb B0c B1c B2c C_3v
        go_wp2_with fail
        refine bodyPost_box (b := w.heap.size + 1 + 1) (cs := [.int .i64 d0, .int .i64 d1, .int .i64 d2, .int .i64 d3, .int .i64 d4, .int .i64 d5]) (v := .tuple #[dv ⟨d0, d1, d2, d3, d4, d5⟩, .int .i64 ee]) (by
          (repeat (first | with_reducible exact o_4 | with_reducible exact Bx.new (by simp) | with_reducible apply Bx.put6 | with_reducible apply Bx.put2 | with_reducible apply Bx.put1 | with_reducible refine Bx.set ?_ (by omega) | with_reducible refine Bx.alc ?_ _ | with_reducible refine Bx.drew ?_))) (fun X hX => by simp [results, Try.results15, go_sem, hX]) rfl ⟨rfl, by
          refine Ho.below (n := w.heap.size + 1 + 1) (l := [(w.heap.size + 1, [.int .i64 a, .int .i64 b]), (w.heap.size, [.int .i64 s.a, .int .i64 s.b, .int .i64 s.c, .int .i64 s.d, .int .i64 s.e, .int .i64 s.f])]) ?_
          (repeat (first | with_reducible exact H4 | with_reducible refine Ho.alc ?_ _ | with_reducible refine Ho.drew ?_ | with_reducible refine Ho.put ?_ (by omega)))⟩
end Go.Proofs.Ytedfciddfpcifaa.Iv
