/- RefractionInclusion: what is returned for parts of boxes is contained in what is returned for the boxes. -/
import Derived.Test.YtjppcndhaejfpaaDrd
import Derived.Test.YtjppcndhaejfpaaDs
import Derived.Test.YtjppcndhaejfpaaDj
namespace Go.Proofs.Ytjppcndhaejfpaa.Iv
open Go.RowKit

structure Sp (s t : D) (a b k0 k1 k2 k3 k4 k5 c0 c1 c2 c3 c4 c5 g0 g1 g2 g3 g4 g5 : Int) (nb n0 : Nat) (w0 w : World) (l0 l1 l2 l3 l4 l5 l6 l7 l8 l9 l10 l11 : Bool) (v0 v1 v2 v3 v4 v5 v6 v7 v8 v9 : Value) (b8 b9 : Nat) : Prop where
  g : Ho w0 w (nb + 1 + 1 + 1) [(nb + 1 + 1, [.int .i64 a, .int .i64 b, .int .u32 k0, .int .u32 k1, .int .u32 k2, .int .u32 k3, .int .u32 k4, .int .u32 k5]), (nb + 1, [.int .i64 t.a, .int .i64 t.b, .int .i64 t.c, .int .i64 t.d, .int .i64 t.e, .int .i64 t.f]), (nb, [.int .i64 s.a, .int .i64 s.b, .int .i64 s.c, .int .i64 s.d, .int .i64 s.e, .int .i64 s.f])]
  sz : n0 ≤ w.heap.size
  mn : (nb + 1 + 1 + 1) ≤ n0
  e0 : l0 = true → v0 = (dv s)
  e1 : l1 = true → v1 = .pointer (some ⟨nb + 1 + 1, 2, none⟩)
  e2 : l2 = true → v2 = (.agg #[.int .u32 k0, .int .u32 k1, .int .u32 k2, .int .u32 k3, .int .u32 k4, .int .u32 k5])
  e3 : l3 = true → v3 = (dv ⟨c0, c1, c2, c3, c4, c5⟩)
  e4 : l4 = true → v4 = (dv t)
  e5 : l5 = true → v5 = .pointer (some ⟨nb + 1 + 1, 2, none⟩)
  e6 : l6 = true → v6 = (.agg #[.int .u32 k0, .int .u32 k1, .int .u32 k2, .int .u32 k3, .int .u32 k4, .int .u32 k5])
  e7 : l7 = true → v7 = (dv ⟨g0, g1, g2, g3, g4, g5⟩)
  e8 : l8 = true → v8 = .pointer (some ⟨b8, 0, none⟩)
  e9 : l9 = true → v9 = .pointer (some ⟨b9, 0, none⟩)
  g8 : l8 = true → n0 ≤ b8
  t8 : l8 = true → b8 < w.heap.size
  o8 : l10 = true → l8 = true
  z8 : l8 = true → l10 = false → Bx w b8 [.int .i64 0, .int .i64 0, .int .i64 0, .int .i64 0, .int .i64 0, .int .i64 0]
  s8 : l10 = true → Bx w b8 [.int .i64 c0, .int .i64 c1, .int .i64 c2, .int .i64 c3, .int .i64 c4, .int .i64 c5]
  g9 : l9 = true → n0 ≤ b9
  t9 : l9 = true → b9 < w.heap.size
  o9 : l11 = true → l9 = true
  z9 : l9 = true → l11 = false → Bx w b9 [.int .i64 0, .int .i64 0, .int .i64 0, .int .i64 0, .int .i64 0, .int .i64 0]
  s9 : l11 = true → Bx w b9 [.int .i64 g0, .int .i64 g1, .int .i64 g2, .int .i64 g3, .int .i64 g4, .int .i64 g5]
  d8_9 : l8 = true → l9 = true → ¬ (b8 = b9)
theorem Sp.kept {s t : D} {a b k0 k1 k2 k3 k4 k5 c0 c1 c2 c3 c4 c5 g0 g1 g2 g3 g4 g5 : Int} {nb n0 : Nat} {w0 w : World} {l0 l1 l2 l3 l4 l5 l6 l7 l8 l9 l10 l11 : Bool} {v0 v1 v2 v3 v4 v5 v6 v7 v8 v9 : Value} {b8 b9 : Nat} {w' : World} (h : Sp s t a b k0 k1 k2 k3 k4 k5 c0 c1 c2 c3 c4 c5 g0 g1 g2 g3 g4 g5 nb n0 w0 w l0 l1 l2 l3 l4 l5 l6 l7 l8 l9 l10 l11 v0 v1 v2 v3 v4 v5 v6 v7 v8 v9 b8 b9) (hb : Below w.heap.size w w') : Sp s t a b k0 k1 k2 k3 k4 k5 c0 c1 c2 c3 c4 c5 g0 g1 g2 g3 g4 g5 nb n0 w0 w' l0 l1 l2 l3 l4 l5 l6 l7 l8 l9 l10 l11 v0 v1 v2 v3 v4 v5 v6 v7 v8 v9 b8 b9 :=
  { h with g := h.g.call hb, sz := Nat.le_trans h.sz hb.size, t8 := fun p => Nat.lt_of_lt_of_le (h.t8 p) hb.size, z8 := fun p q => (h.z8 p q).kept hb, s8 := fun p => (h.s8 p).kept hb, t9 := fun p => Nat.lt_of_lt_of_le (h.t9 p) hb.size, z9 := fun p q => (h.z9 p q).kept hb, s9 := fun p => (h.s9 p).kept hb }
def Sp.I (s t : D) (a b k0 k1 k2 k3 k4 k5 c0 c1 c2 c3 c4 c5 g0 g1 g2 g3 g4 g5 : Int) (nb n0 : Nat) (w0 : World) : Act → Array Bool → Act → World → Prop := fun aO LX aX w => ∃ (l0 l1 l2 l3 l4 l5 l6 l7 l8 l9 l10 l11 : Bool) (v0 v1 v2 v3 v4 v5 v6 v7 v8 v9 : Value) (b8 b9 : Nat), LX = #[l0, l1, l2, l3, l4, l5, l6, l7, l8, l9, l10, l11] ∧ aX = ((((((((((aO.put (some 37) v0).put (some 38) v1).put (some 39) v2).put (some 40) v3).put (some 41) v4).put (some 42) v5).put (some 43) v6).put (some 44) v7).put (some 7) v8).put (some 8) v9) ∧ Sp s t a b k0 k1 k2 k3 k4 k5 c0 c1 c2 c3 c4 c5 g0 g1 g2 g3 g4 g5 nb n0 w0 w l0 l1 l2 l3 l4 l5 l6 l7 l8 l9 l10 l11 v0 v1 v2 v3 v4 v5 v6 v7 v8 v9 b8 b9
set_option maxRecDepth 100000 in
set_option maxHeartbeats 16000000 in
theorem inclusion_any (s t : D) (a b k0 k1 k2 k3 k4 k5 : Int) (u : U6 k0 k1 k2 k3 k4 k5) (w : World) :
    Calls Try.prog 6 #[dv s, dv t, .agg #[.int .i64 a, .int .i64 b, .int .u32 k0, .int .u32 k1, .int .u32 k2, .int .u32 k3, .int .u32 k4, .int .u32 k5]] w fun e w' => e = .returned (.bool true) ∧ Below w.heap.size w w' := by
  cases hs : vD s
  · have VS := Lib.hid hs
    clear hs u
    have H0 := ((((Ho.nil w).bx [.int .i64 s.a, .int .i64 s.b, .int .i64 s.c, .int .i64 s.d, .int .i64 s.e, .int .i64 s.f] 25 (w.heap.size) (by simp)).bx [.int .i64 t.a, .int .i64 t.b, .int .i64 t.c, .int .i64 t.d, .int .i64 t.e, .int .i64 t.f] 25 (w.heap.size + 1) (by simp)).bx [.int .i64 a, .int .i64 b, .int .u32 k0, .int .u32 k1, .int .u32 k2, .int .u32 k3, .int .u32 k4, .int .u32 k5] 49 (w.heap.size + 1 + 1) (by simp))
    go_enter Try.func6, Try.ntmps6
    go_wp2_with fail
    refine (awake29_any _).mono ?_
    rintro r w1 ⟨rfl, hb⟩
    have H1 : Ho w w1 (w.heap.size + 1 + 1 + 1) [(w.heap.size + 1 + 1, [.int .i64 a, .int .i64 b, .int .u32 k0, .int .u32 k1, .int .u32 k2, .int .u32 k3, .int .u32 k4, .int .u32 k5]), (w.heap.size + 1, [.int .i64 t.a, .int .i64 t.b, .int .i64 t.c, .int .i64 t.d, .int .i64 t.e, .int .i64 t.f]), (w.heap.size, [.int .i64 s.a, .int .i64 s.b, .int .i64 s.c, .int .i64 s.d, .int .i64 s.e, .int .i64 s.f])] := Ho.call (by
      (repeat (first | with_reducible exact H0 | with_reducible refine Ho.alc ?_ _ | with_reducible refine Ho.drew ?_ | with_reducible refine Ho.put ?_ (by omega)))) hb
    have hs1 := H1.size
    have hz1 := hb.size
    (try simp at hz1)
    clear hb
    have h0_1 := (H1.at 2 rfl).c
    have h1_1 := (H1.at 1 rfl).c
    have h2_1 := (H1.at 0 rfl).c
    have q1_0 : ¬ (w.heap.size = w1.heap.size) := by omega
    have q1_1 : ¬ (w1.heap.size = w.heap.size) := by omega
    have q1_2 : w.heap.size < w1.heap.size := by omega
    have q1_3 : w.heap.size < w1.heap.size + 1 := by omega
    have q1_4 : ¬ (w.heap.size + 1 = w1.heap.size) := by omega
    have q1_5 : ¬ (w1.heap.size = w.heap.size + 1) := by omega
    have q1_6 : w.heap.size + 1 < w1.heap.size := by omega
    have q1_7 : w.heap.size + 1 < w1.heap.size + 1 := by omega
    have q1_8 : ¬ (w.heap.size + 1 + 1 = w1.heap.size) := by omega
    have q1_9 : ¬ (w1.heap.size = w.heap.size + 1 + 1) := by omega
    have q1_10 : w.heap.size + 1 + 1 < w1.heap.size := by omega
    have q1_11 : w.heap.size + 1 + 1 < w1.heap.size + 1 := by omega
    go_wp2_with fail
    refine (theirs_any s _).mono ?_
    rintro r w2 ⟨rfl, hb⟩
    have H2 : Ho w w2 (w.heap.size + 1 + 1 + 1) [(w.heap.size + 1 + 1, [.int .i64 a, .int .i64 b, .int .u32 k0, .int .u32 k1, .int .u32 k2, .int .u32 k3, .int .u32 k4, .int .u32 k5]), (w.heap.size + 1, [.int .i64 t.a, .int .i64 t.b, .int .i64 t.c, .int .i64 t.d, .int .i64 t.e, .int .i64 t.f]), (w.heap.size, [.int .i64 s.a, .int .i64 s.b, .int .i64 s.c, .int .i64 s.d, .int .i64 s.e, .int .i64 s.f])] := Ho.call (by
      (repeat (first | with_reducible exact H1 | with_reducible refine Ho.alc ?_ _ | with_reducible refine Ho.drew ?_ | with_reducible refine Ho.put ?_ (by omega)))) hb
    clear h0_1 h1_1 h2_1 q1_0 q1_1 q1_2 q1_3 q1_4 q1_5 q1_6 q1_7 q1_8 q1_9 q1_10 q1_11
    have hs2 := H2.size
    have hz2 := hb.size
    (try simp at hz2)
    clear hb
    have h0_2 := (H2.at 2 rfl).c
    have h1_2 := (H2.at 1 rfl).c
    have h2_2 := (H2.at 0 rfl).c
    have q2_0 : ¬ (w.heap.size = w2.heap.size) := by omega
    have q2_1 : ¬ (w2.heap.size = w.heap.size) := by omega
    have q2_2 : w.heap.size < w2.heap.size := by omega
    have q2_3 : w.heap.size < w2.heap.size + 1 := by omega
    have q2_4 : ¬ (w.heap.size + 1 = w2.heap.size) := by omega
    have q2_5 : ¬ (w2.heap.size = w.heap.size + 1) := by omega
    have q2_6 : w.heap.size + 1 < w2.heap.size := by omega
    have q2_7 : w.heap.size + 1 < w2.heap.size + 1 := by omega
    have q2_8 : ¬ (w.heap.size + 1 + 1 = w2.heap.size) := by omega
    have q2_9 : ¬ (w2.heap.size = w.heap.size + 1 + 1) := by omega
    have q2_10 : w.heap.size + 1 + 1 < w2.heap.size := by omega
    have q2_11 : w.heap.size + 1 + 1 < w2.heap.size + 1 := by omega
    go_wp2_with fail
    refine (rdvalid_any s _).mono ?_
    rintro r w3 ⟨rfl, hb⟩
    rw [VS.out]
    have H3 : Ho w w3 (w.heap.size + 1 + 1 + 1) [(w.heap.size + 1 + 1, [.int .i64 a, .int .i64 b, .int .u32 k0, .int .u32 k1, .int .u32 k2, .int .u32 k3, .int .u32 k4, .int .u32 k5]), (w.heap.size + 1, [.int .i64 t.a, .int .i64 t.b, .int .i64 t.c, .int .i64 t.d, .int .i64 t.e, .int .i64 t.f]), (w.heap.size, [.int .i64 s.a, .int .i64 s.b, .int .i64 s.c, .int .i64 s.d, .int .i64 s.e, .int .i64 s.f])] := Ho.call (by
      (repeat (first | with_reducible exact H2 | with_reducible refine Ho.alc ?_ _ | with_reducible refine Ho.drew ?_ | with_reducible refine Ho.put ?_ (by omega)))) hb
    clear h0_2 h1_2 h2_2 q2_0 q2_1 q2_2 q2_3 q2_4 q2_5 q2_6 q2_7 q2_8 q2_9 q2_10 q2_11
    have hs3 := H3.size
    have hz3 := hb.size
    (try simp at hz3)
    clear hb
    have h0_3 := (H3.at 2 rfl).c
    have h1_3 := (H3.at 1 rfl).c
    have h2_3 := (H3.at 0 rfl).c
    have q3_0 : ¬ (w.heap.size = w3.heap.size) := by omega
    have q3_1 : ¬ (w3.heap.size = w.heap.size) := by omega
    have q3_2 : w.heap.size < w3.heap.size := by omega
    have q3_3 : w.heap.size < w3.heap.size + 1 := by omega
    have q3_4 : ¬ (w.heap.size + 1 = w3.heap.size) := by omega
    have q3_5 : ¬ (w3.heap.size = w.heap.size + 1) := by omega
    have q3_6 : w.heap.size + 1 < w3.heap.size := by omega
    have q3_7 : w.heap.size + 1 < w3.heap.size + 1 := by omega
    have q3_8 : ¬ (w.heap.size + 1 + 1 = w3.heap.size) := by omega
    have q3_9 : ¬ (w3.heap.size = w.heap.size + 1 + 1) := by omega
    have q3_10 : w.heap.size + 1 + 1 < w3.heap.size := by omega
    have q3_11 : w.heap.size + 1 + 1 < w3.heap.size + 1 := by omega
    go_wp2_with fail
    go_ret
    exact ⟨rfl, H3.below⟩
  · cases ht : vD t
    · have VS := Lib.hid hs
      have VT := Lib.hid ht
      clear hs ht u
      have H0 := ((((Ho.nil w).bx [.int .i64 s.a, .int .i64 s.b, .int .i64 s.c, .int .i64 s.d, .int .i64 s.e, .int .i64 s.f] 25 (w.heap.size) (by simp)).bx [.int .i64 t.a, .int .i64 t.b, .int .i64 t.c, .int .i64 t.d, .int .i64 t.e, .int .i64 t.f] 25 (w.heap.size + 1) (by simp)).bx [.int .i64 a, .int .i64 b, .int .u32 k0, .int .u32 k1, .int .u32 k2, .int .u32 k3, .int .u32 k4, .int .u32 k5] 49 (w.heap.size + 1 + 1) (by simp))
      go_enter Try.func6, Try.ntmps6
      go_wp2_with fail
      refine (awake29_any _).mono ?_
      rintro r w1 ⟨rfl, hb⟩
      have H1 : Ho w w1 (w.heap.size + 1 + 1 + 1) [(w.heap.size + 1 + 1, [.int .i64 a, .int .i64 b, .int .u32 k0, .int .u32 k1, .int .u32 k2, .int .u32 k3, .int .u32 k4, .int .u32 k5]), (w.heap.size + 1, [.int .i64 t.a, .int .i64 t.b, .int .i64 t.c, .int .i64 t.d, .int .i64 t.e, .int .i64 t.f]), (w.heap.size, [.int .i64 s.a, .int .i64 s.b, .int .i64 s.c, .int .i64 s.d, .int .i64 s.e, .int .i64 s.f])] := Ho.call (by
        (repeat (first | with_reducible exact H0 | with_reducible refine Ho.alc ?_ _ | with_reducible refine Ho.drew ?_ | with_reducible refine Ho.put ?_ (by omega)))) hb
      have hs1 := H1.size
      have hz1 := hb.size
      (try simp at hz1)
      clear hb
      have h0_1 := (H1.at 2 rfl).c
      have h1_1 := (H1.at 1 rfl).c
      have h2_1 := (H1.at 0 rfl).c
      have q1_0 : ¬ (w.heap.size = w1.heap.size) := by omega
      have q1_1 : ¬ (w1.heap.size = w.heap.size) := by omega
      have q1_2 : w.heap.size < w1.heap.size := by omega
      have q1_3 : w.heap.size < w1.heap.size + 1 := by omega
      have q1_4 : ¬ (w.heap.size + 1 = w1.heap.size) := by omega
      have q1_5 : ¬ (w1.heap.size = w.heap.size + 1) := by omega
      have q1_6 : w.heap.size + 1 < w1.heap.size := by omega
      have q1_7 : w.heap.size + 1 < w1.heap.size + 1 := by omega
      have q1_8 : ¬ (w.heap.size + 1 + 1 = w1.heap.size) := by omega
      have q1_9 : ¬ (w1.heap.size = w.heap.size + 1 + 1) := by omega
      have q1_10 : w.heap.size + 1 + 1 < w1.heap.size := by omega
      have q1_11 : w.heap.size + 1 + 1 < w1.heap.size + 1 := by omega
      go_wp2_with fail
      refine (theirs_any s _).mono ?_
      rintro r w2 ⟨rfl, hb⟩
      have H2 : Ho w w2 (w.heap.size + 1 + 1 + 1) [(w.heap.size + 1 + 1, [.int .i64 a, .int .i64 b, .int .u32 k0, .int .u32 k1, .int .u32 k2, .int .u32 k3, .int .u32 k4, .int .u32 k5]), (w.heap.size + 1, [.int .i64 t.a, .int .i64 t.b, .int .i64 t.c, .int .i64 t.d, .int .i64 t.e, .int .i64 t.f]), (w.heap.size, [.int .i64 s.a, .int .i64 s.b, .int .i64 s.c, .int .i64 s.d, .int .i64 s.e, .int .i64 s.f])] := Ho.call (by
        (repeat (first | with_reducible exact H1 | with_reducible refine Ho.alc ?_ _ | with_reducible refine Ho.drew ?_ | with_reducible refine Ho.put ?_ (by omega)))) hb
      clear h0_1 h1_1 h2_1 q1_0 q1_1 q1_2 q1_3 q1_4 q1_5 q1_6 q1_7 q1_8 q1_9 q1_10 q1_11
      have hs2 := H2.size
      have hz2 := hb.size
      (try simp at hz2)
      clear hb
      have h0_2 := (H2.at 2 rfl).c
      have h1_2 := (H2.at 1 rfl).c
      have h2_2 := (H2.at 0 rfl).c
      have q2_0 : ¬ (w.heap.size = w2.heap.size) := by omega
      have q2_1 : ¬ (w2.heap.size = w.heap.size) := by omega
      have q2_2 : w.heap.size < w2.heap.size := by omega
      have q2_3 : w.heap.size < w2.heap.size + 1 := by omega
      have q2_4 : ¬ (w.heap.size + 1 = w2.heap.size) := by omega
      have q2_5 : ¬ (w2.heap.size = w.heap.size + 1) := by omega
      have q2_6 : w.heap.size + 1 < w2.heap.size := by omega
      have q2_7 : w.heap.size + 1 < w2.heap.size + 1 := by omega
      have q2_8 : ¬ (w.heap.size + 1 + 1 = w2.heap.size) := by omega
      have q2_9 : ¬ (w2.heap.size = w.heap.size + 1 + 1) := by omega
      have q2_10 : w.heap.size + 1 + 1 < w2.heap.size := by omega
      have q2_11 : w.heap.size + 1 + 1 < w2.heap.size + 1 := by omega
      go_wp2_with fail
      refine (rdvalid_any s _).mono ?_
      rintro r w3 ⟨rfl, hb⟩
      rw [VS.out]
      have H3 : Ho w w3 (w.heap.size + 1 + 1 + 1) [(w.heap.size + 1 + 1, [.int .i64 a, .int .i64 b, .int .u32 k0, .int .u32 k1, .int .u32 k2, .int .u32 k3, .int .u32 k4, .int .u32 k5]), (w.heap.size + 1, [.int .i64 t.a, .int .i64 t.b, .int .i64 t.c, .int .i64 t.d, .int .i64 t.e, .int .i64 t.f]), (w.heap.size, [.int .i64 s.a, .int .i64 s.b, .int .i64 s.c, .int .i64 s.d, .int .i64 s.e, .int .i64 s.f])] := Ho.call (by
        (repeat (first | with_reducible exact H2 | with_reducible refine Ho.alc ?_ _ | with_reducible refine Ho.drew ?_ | with_reducible refine Ho.put ?_ (by omega)))) hb
      clear h0_2 h1_2 h2_2 q2_0 q2_1 q2_2 q2_3 q2_4 q2_5 q2_6 q2_7 q2_8 q2_9 q2_10 q2_11
      have hs3 := H3.size
      have hz3 := hb.size
      (try simp at hz3)
      clear hb
      have h0_3 := (H3.at 2 rfl).c
      have h1_3 := (H3.at 1 rfl).c
      have h2_3 := (H3.at 0 rfl).c
      have q3_0 : ¬ (w.heap.size = w3.heap.size) := by omega
      have q3_1 : ¬ (w3.heap.size = w.heap.size) := by omega
      have q3_2 : w.heap.size < w3.heap.size := by omega
      have q3_3 : w.heap.size < w3.heap.size + 1 := by omega
      have q3_4 : ¬ (w.heap.size + 1 = w3.heap.size) := by omega
      have q3_5 : ¬ (w3.heap.size = w.heap.size + 1) := by omega
      have q3_6 : w.heap.size + 1 < w3.heap.size := by omega
      have q3_7 : w.heap.size + 1 < w3.heap.size + 1 := by omega
      have q3_8 : ¬ (w.heap.size + 1 + 1 = w3.heap.size) := by omega
      have q3_9 : ¬ (w3.heap.size = w.heap.size + 1 + 1) := by omega
      have q3_10 : w.heap.size + 1 + 1 < w3.heap.size := by omega
      have q3_11 : w.heap.size + 1 + 1 < w3.heap.size + 1 := by omega
      go_wp2_with fail
      refine (theirs_any t _).mono ?_
      rintro r w4 ⟨rfl, hb⟩
      have H4 : Ho w w4 (w.heap.size + 1 + 1 + 1) [(w.heap.size + 1 + 1, [.int .i64 a, .int .i64 b, .int .u32 k0, .int .u32 k1, .int .u32 k2, .int .u32 k3, .int .u32 k4, .int .u32 k5]), (w.heap.size + 1, [.int .i64 t.a, .int .i64 t.b, .int .i64 t.c, .int .i64 t.d, .int .i64 t.e, .int .i64 t.f]), (w.heap.size, [.int .i64 s.a, .int .i64 s.b, .int .i64 s.c, .int .i64 s.d, .int .i64 s.e, .int .i64 s.f])] := Ho.call (by
        (repeat (first | with_reducible exact H3 | with_reducible refine Ho.alc ?_ _ | with_reducible refine Ho.drew ?_ | with_reducible refine Ho.put ?_ (by omega)))) hb
      clear h0_3 h1_3 h2_3 q3_0 q3_1 q3_2 q3_3 q3_4 q3_5 q3_6 q3_7 q3_8 q3_9 q3_10 q3_11
      have hs4 := H4.size
      have hz4 := hb.size
      (try simp at hz4)
      clear hb
      have h0_4 := (H4.at 2 rfl).c
      have h1_4 := (H4.at 1 rfl).c
      have h2_4 := (H4.at 0 rfl).c
      have q4_0 : ¬ (w.heap.size = w4.heap.size) := by omega
      have q4_1 : ¬ (w4.heap.size = w.heap.size) := by omega
      have q4_2 : w.heap.size < w4.heap.size := by omega
      have q4_3 : w.heap.size < w4.heap.size + 1 := by omega
      have q4_4 : ¬ (w.heap.size + 1 = w4.heap.size) := by omega
      have q4_5 : ¬ (w4.heap.size = w.heap.size + 1) := by omega
      have q4_6 : w.heap.size + 1 < w4.heap.size := by omega
      have q4_7 : w.heap.size + 1 < w4.heap.size + 1 := by omega
      have q4_8 : ¬ (w.heap.size + 1 + 1 = w4.heap.size) := by omega
      have q4_9 : ¬ (w4.heap.size = w.heap.size + 1 + 1) := by omega
      have q4_10 : w.heap.size + 1 + 1 < w4.heap.size := by omega
      have q4_11 : w.heap.size + 1 + 1 < w4.heap.size + 1 := by omega
      go_wp2_with fail
      refine (rdvalid_any t _).mono ?_
      rintro r w5 ⟨rfl, hb⟩
      rw [VT.out]
      have H5 : Ho w w5 (w.heap.size + 1 + 1 + 1) [(w.heap.size + 1 + 1, [.int .i64 a, .int .i64 b, .int .u32 k0, .int .u32 k1, .int .u32 k2, .int .u32 k3, .int .u32 k4, .int .u32 k5]), (w.heap.size + 1, [.int .i64 t.a, .int .i64 t.b, .int .i64 t.c, .int .i64 t.d, .int .i64 t.e, .int .i64 t.f]), (w.heap.size, [.int .i64 s.a, .int .i64 s.b, .int .i64 s.c, .int .i64 s.d, .int .i64 s.e, .int .i64 s.f])] := Ho.call (by
        (repeat (first | with_reducible exact H4 | with_reducible refine Ho.alc ?_ _ | with_reducible refine Ho.drew ?_ | with_reducible refine Ho.put ?_ (by omega)))) hb
      clear h0_4 h1_4 h2_4 q4_0 q4_1 q4_2 q4_3 q4_4 q4_5 q4_6 q4_7 q4_8 q4_9 q4_10 q4_11
      have hs5 := H5.size
      have hz5 := hb.size
      (try simp at hz5)
      clear hb
      have h0_5 := (H5.at 2 rfl).c
      have h1_5 := (H5.at 1 rfl).c
      have h2_5 := (H5.at 0 rfl).c
      have q5_0 : ¬ (w.heap.size = w5.heap.size) := by omega
      have q5_1 : ¬ (w5.heap.size = w.heap.size) := by omega
      have q5_2 : w.heap.size < w5.heap.size := by omega
      have q5_3 : w.heap.size < w5.heap.size + 1 := by omega
      have q5_4 : ¬ (w.heap.size + 1 = w5.heap.size) := by omega
      have q5_5 : ¬ (w5.heap.size = w.heap.size + 1) := by omega
      have q5_6 : w.heap.size + 1 < w5.heap.size := by omega
      have q5_7 : w.heap.size + 1 < w5.heap.size + 1 := by omega
      have q5_8 : ¬ (w.heap.size + 1 + 1 = w5.heap.size) := by omega
      have q5_9 : ¬ (w5.heap.size = w.heap.size + 1 + 1) := by omega
      have q5_10 : w.heap.size + 1 + 1 < w5.heap.size := by omega
      have q5_11 : w.heap.size + 1 + 1 < w5.heap.size + 1 := by omega
      go_wp2_with fail
      go_ret
      exact ⟨rfl, H5.below⟩
    · cases hv : vB a b
      · have VS := Lib.hid hs
        have VT := Lib.hid ht
        have VB := Lib.hid hv
        clear hs ht hv u
        have H0 := ((((Ho.nil w).bx [.int .i64 s.a, .int .i64 s.b, .int .i64 s.c, .int .i64 s.d, .int .i64 s.e, .int .i64 s.f] 25 (w.heap.size) (by simp)).bx [.int .i64 t.a, .int .i64 t.b, .int .i64 t.c, .int .i64 t.d, .int .i64 t.e, .int .i64 t.f] 25 (w.heap.size + 1) (by simp)).bx [.int .i64 a, .int .i64 b, .int .u32 k0, .int .u32 k1, .int .u32 k2, .int .u32 k3, .int .u32 k4, .int .u32 k5] 49 (w.heap.size + 1 + 1) (by simp))
        go_enter Try.func6, Try.ntmps6
        go_wp2_with fail
        refine (awake29_any _).mono ?_
        rintro r w1 ⟨rfl, hb⟩
        have H1 : Ho w w1 (w.heap.size + 1 + 1 + 1) [(w.heap.size + 1 + 1, [.int .i64 a, .int .i64 b, .int .u32 k0, .int .u32 k1, .int .u32 k2, .int .u32 k3, .int .u32 k4, .int .u32 k5]), (w.heap.size + 1, [.int .i64 t.a, .int .i64 t.b, .int .i64 t.c, .int .i64 t.d, .int .i64 t.e, .int .i64 t.f]), (w.heap.size, [.int .i64 s.a, .int .i64 s.b, .int .i64 s.c, .int .i64 s.d, .int .i64 s.e, .int .i64 s.f])] := Ho.call (by
          (repeat (first | with_reducible exact H0 | with_reducible refine Ho.alc ?_ _ | with_reducible refine Ho.drew ?_ | with_reducible refine Ho.put ?_ (by omega)))) hb
        have hs1 := H1.size
        have hz1 := hb.size
        (try simp at hz1)
        clear hb
        have h0_1 := (H1.at 2 rfl).c
        have h1_1 := (H1.at 1 rfl).c
        have h2_1 := (H1.at 0 rfl).c
        have q1_0 : ¬ (w.heap.size = w1.heap.size) := by omega
        have q1_1 : ¬ (w1.heap.size = w.heap.size) := by omega
        have q1_2 : w.heap.size < w1.heap.size := by omega
        have q1_3 : w.heap.size < w1.heap.size + 1 := by omega
        have q1_4 : ¬ (w.heap.size + 1 = w1.heap.size) := by omega
        have q1_5 : ¬ (w1.heap.size = w.heap.size + 1) := by omega
        have q1_6 : w.heap.size + 1 < w1.heap.size := by omega
        have q1_7 : w.heap.size + 1 < w1.heap.size + 1 := by omega
        have q1_8 : ¬ (w.heap.size + 1 + 1 = w1.heap.size) := by omega
        have q1_9 : ¬ (w1.heap.size = w.heap.size + 1 + 1) := by omega
        have q1_10 : w.heap.size + 1 + 1 < w1.heap.size := by omega
        have q1_11 : w.heap.size + 1 + 1 < w1.heap.size + 1 := by omega
        go_wp2_with fail
        refine (theirs_any s _).mono ?_
        rintro r w2 ⟨rfl, hb⟩
        have H2 : Ho w w2 (w.heap.size + 1 + 1 + 1) [(w.heap.size + 1 + 1, [.int .i64 a, .int .i64 b, .int .u32 k0, .int .u32 k1, .int .u32 k2, .int .u32 k3, .int .u32 k4, .int .u32 k5]), (w.heap.size + 1, [.int .i64 t.a, .int .i64 t.b, .int .i64 t.c, .int .i64 t.d, .int .i64 t.e, .int .i64 t.f]), (w.heap.size, [.int .i64 s.a, .int .i64 s.b, .int .i64 s.c, .int .i64 s.d, .int .i64 s.e, .int .i64 s.f])] := Ho.call (by
          (repeat (first | with_reducible exact H1 | with_reducible refine Ho.alc ?_ _ | with_reducible refine Ho.drew ?_ | with_reducible refine Ho.put ?_ (by omega)))) hb
        clear h0_1 h1_1 h2_1 q1_0 q1_1 q1_2 q1_3 q1_4 q1_5 q1_6 q1_7 q1_8 q1_9 q1_10 q1_11
        have hs2 := H2.size
        have hz2 := hb.size
        (try simp at hz2)
        clear hb
        have h0_2 := (H2.at 2 rfl).c
        have h1_2 := (H2.at 1 rfl).c
        have h2_2 := (H2.at 0 rfl).c
        have q2_0 : ¬ (w.heap.size = w2.heap.size) := by omega
        have q2_1 : ¬ (w2.heap.size = w.heap.size) := by omega
        have q2_2 : w.heap.size < w2.heap.size := by omega
        have q2_3 : w.heap.size < w2.heap.size + 1 := by omega
        have q2_4 : ¬ (w.heap.size + 1 = w2.heap.size) := by omega
        have q2_5 : ¬ (w2.heap.size = w.heap.size + 1) := by omega
        have q2_6 : w.heap.size + 1 < w2.heap.size := by omega
        have q2_7 : w.heap.size + 1 < w2.heap.size + 1 := by omega
        have q2_8 : ¬ (w.heap.size + 1 + 1 = w2.heap.size) := by omega
        have q2_9 : ¬ (w2.heap.size = w.heap.size + 1 + 1) := by omega
        have q2_10 : w.heap.size + 1 + 1 < w2.heap.size := by omega
        have q2_11 : w.heap.size + 1 + 1 < w2.heap.size + 1 := by omega
        go_wp2_with fail
        refine (rdvalid_any s _).mono ?_
        rintro r w3 ⟨rfl, hb⟩
        rw [VS.out]
        have H3 : Ho w w3 (w.heap.size + 1 + 1 + 1) [(w.heap.size + 1 + 1, [.int .i64 a, .int .i64 b, .int .u32 k0, .int .u32 k1, .int .u32 k2, .int .u32 k3, .int .u32 k4, .int .u32 k5]), (w.heap.size + 1, [.int .i64 t.a, .int .i64 t.b, .int .i64 t.c, .int .i64 t.d, .int .i64 t.e, .int .i64 t.f]), (w.heap.size, [.int .i64 s.a, .int .i64 s.b, .int .i64 s.c, .int .i64 s.d, .int .i64 s.e, .int .i64 s.f])] := Ho.call (by
          (repeat (first | with_reducible exact H2 | with_reducible refine Ho.alc ?_ _ | with_reducible refine Ho.drew ?_ | with_reducible refine Ho.put ?_ (by omega)))) hb
        clear h0_2 h1_2 h2_2 q2_0 q2_1 q2_2 q2_3 q2_4 q2_5 q2_6 q2_7 q2_8 q2_9 q2_10 q2_11
        have hs3 := H3.size
        have hz3 := hb.size
        (try simp at hz3)
        clear hb
        have h0_3 := (H3.at 2 rfl).c
        have h1_3 := (H3.at 1 rfl).c
        have h2_3 := (H3.at 0 rfl).c
        have q3_0 : ¬ (w.heap.size = w3.heap.size) := by omega
        have q3_1 : ¬ (w3.heap.size = w.heap.size) := by omega
        have q3_2 : w.heap.size < w3.heap.size := by omega
        have q3_3 : w.heap.size < w3.heap.size + 1 := by omega
        have q3_4 : ¬ (w.heap.size + 1 = w3.heap.size) := by omega
        have q3_5 : ¬ (w3.heap.size = w.heap.size + 1) := by omega
        have q3_6 : w.heap.size + 1 < w3.heap.size := by omega
        have q3_7 : w.heap.size + 1 < w3.heap.size + 1 := by omega
        have q3_8 : ¬ (w.heap.size + 1 + 1 = w3.heap.size) := by omega
        have q3_9 : ¬ (w3.heap.size = w.heap.size + 1 + 1) := by omega
        have q3_10 : w.heap.size + 1 + 1 < w3.heap.size := by omega
        have q3_11 : w.heap.size + 1 + 1 < w3.heap.size + 1 := by omega
        go_wp2_with fail
        refine (theirs_any t _).mono ?_
        rintro r w4 ⟨rfl, hb⟩
        have H4 : Ho w w4 (w.heap.size + 1 + 1 + 1) [(w.heap.size + 1 + 1, [.int .i64 a, .int .i64 b, .int .u32 k0, .int .u32 k1, .int .u32 k2, .int .u32 k3, .int .u32 k4, .int .u32 k5]), (w.heap.size + 1, [.int .i64 t.a, .int .i64 t.b, .int .i64 t.c, .int .i64 t.d, .int .i64 t.e, .int .i64 t.f]), (w.heap.size, [.int .i64 s.a, .int .i64 s.b, .int .i64 s.c, .int .i64 s.d, .int .i64 s.e, .int .i64 s.f])] := Ho.call (by
          (repeat (first | with_reducible exact H3 | with_reducible refine Ho.alc ?_ _ | with_reducible refine Ho.drew ?_ | with_reducible refine Ho.put ?_ (by omega)))) hb
        clear h0_3 h1_3 h2_3 q3_0 q3_1 q3_2 q3_3 q3_4 q3_5 q3_6 q3_7 q3_8 q3_9 q3_10 q3_11
        have hs4 := H4.size
        have hz4 := hb.size
        (try simp at hz4)
        clear hb
        have h0_4 := (H4.at 2 rfl).c
        have h1_4 := (H4.at 1 rfl).c
        have h2_4 := (H4.at 0 rfl).c
        have q4_0 : ¬ (w.heap.size = w4.heap.size) := by omega
        have q4_1 : ¬ (w4.heap.size = w.heap.size) := by omega
        have q4_2 : w.heap.size < w4.heap.size := by omega
        have q4_3 : w.heap.size < w4.heap.size + 1 := by omega
        have q4_4 : ¬ (w.heap.size + 1 = w4.heap.size) := by omega
        have q4_5 : ¬ (w4.heap.size = w.heap.size + 1) := by omega
        have q4_6 : w.heap.size + 1 < w4.heap.size := by omega
        have q4_7 : w.heap.size + 1 < w4.heap.size + 1 := by omega
        have q4_8 : ¬ (w.heap.size + 1 + 1 = w4.heap.size) := by omega
        have q4_9 : ¬ (w4.heap.size = w.heap.size + 1 + 1) := by omega
        have q4_10 : w.heap.size + 1 + 1 < w4.heap.size := by omega
        have q4_11 : w.heap.size + 1 + 1 < w4.heap.size + 1 := by omega
        go_wp2_with fail
        refine (rdvalid_any t _).mono ?_
        rintro r w5 ⟨rfl, hb⟩
        rw [VT.out]
        have H5 : Ho w w5 (w.heap.size + 1 + 1 + 1) [(w.heap.size + 1 + 1, [.int .i64 a, .int .i64 b, .int .u32 k0, .int .u32 k1, .int .u32 k2, .int .u32 k3, .int .u32 k4, .int .u32 k5]), (w.heap.size + 1, [.int .i64 t.a, .int .i64 t.b, .int .i64 t.c, .int .i64 t.d, .int .i64 t.e, .int .i64 t.f]), (w.heap.size, [.int .i64 s.a, .int .i64 s.b, .int .i64 s.c, .int .i64 s.d, .int .i64 s.e, .int .i64 s.f])] := Ho.call (by
          (repeat (first | with_reducible exact H4 | with_reducible refine Ho.alc ?_ _ | with_reducible refine Ho.drew ?_ | with_reducible refine Ho.put ?_ (by omega)))) hb
        clear h0_4 h1_4 h2_4 q4_0 q4_1 q4_2 q4_3 q4_4 q4_5 q4_6 q4_7 q4_8 q4_9 q4_10 q4_11
        have hs5 := H5.size
        have hz5 := hb.size
        (try simp at hz5)
        clear hb
        have h0_5 := (H5.at 2 rfl).c
        have h1_5 := (H5.at 1 rfl).c
        have h2_5 := (H5.at 0 rfl).c
        have q5_0 : ¬ (w.heap.size = w5.heap.size) := by omega
        have q5_1 : ¬ (w5.heap.size = w.heap.size) := by omega
        have q5_2 : w.heap.size < w5.heap.size := by omega
        have q5_3 : w.heap.size < w5.heap.size + 1 := by omega
        have q5_4 : ¬ (w.heap.size + 1 = w5.heap.size) := by omega
        have q5_5 : ¬ (w5.heap.size = w.heap.size + 1) := by omega
        have q5_6 : w.heap.size + 1 < w5.heap.size := by omega
        have q5_7 : w.heap.size + 1 < w5.heap.size + 1 := by omega
        have q5_8 : ¬ (w.heap.size + 1 + 1 = w5.heap.size) := by omega
        have q5_9 : ¬ (w5.heap.size = w.heap.size + 1 + 1) := by omega
        have q5_10 : w.heap.size + 1 + 1 < w5.heap.size := by omega
        have q5_11 : w.heap.size + 1 + 1 < w5.heap.size + 1 := by omega
        go_wp2_with fail
        refine (rvalid_below a b _).mono ?_
        rintro r w6 ⟨rfl, hb⟩
        rw [VB.out]
        have H6 : Ho w w6 (w.heap.size + 1 + 1 + 1) [(w.heap.size + 1 + 1, [.int .i64 a, .int .i64 b, .int .u32 k0, .int .u32 k1, .int .u32 k2, .int .u32 k3, .int .u32 k4, .int .u32 k5]), (w.heap.size + 1, [.int .i64 t.a, .int .i64 t.b, .int .i64 t.c, .int .i64 t.d, .int .i64 t.e, .int .i64 t.f]), (w.heap.size, [.int .i64 s.a, .int .i64 s.b, .int .i64 s.c, .int .i64 s.d, .int .i64 s.e, .int .i64 s.f])] := Ho.call (by
          (repeat (first | with_reducible exact H5 | with_reducible refine Ho.alc ?_ _ | with_reducible refine Ho.drew ?_ | with_reducible refine Ho.put ?_ (by omega)))) hb
        clear h0_5 h1_5 h2_5 q5_0 q5_1 q5_2 q5_3 q5_4 q5_5 q5_6 q5_7 q5_8 q5_9 q5_10 q5_11
        have hs6 := H6.size
        have hz6 := hb.size
        (try simp at hz6)
        clear hb
        have h0_6 := (H6.at 2 rfl).c
        have h1_6 := (H6.at 1 rfl).c
        have h2_6 := (H6.at 0 rfl).c
        have q6_0 : ¬ (w.heap.size = w6.heap.size) := by omega
        have q6_1 : ¬ (w6.heap.size = w.heap.size) := by omega
        have q6_2 : w.heap.size < w6.heap.size := by omega
        have q6_3 : w.heap.size < w6.heap.size + 1 := by omega
        have q6_4 : ¬ (w.heap.size + 1 = w6.heap.size) := by omega
        have q6_5 : ¬ (w6.heap.size = w.heap.size + 1) := by omega
        have q6_6 : w.heap.size + 1 < w6.heap.size := by omega
        have q6_7 : w.heap.size + 1 < w6.heap.size + 1 := by omega
        have q6_8 : ¬ (w.heap.size + 1 + 1 = w6.heap.size) := by omega
        have q6_9 : ¬ (w6.heap.size = w.heap.size + 1 + 1) := by omega
        have q6_10 : w.heap.size + 1 + 1 < w6.heap.size := by omega
        have q6_11 : w.heap.size + 1 + 1 < w6.heap.size + 1 := by omega
        go_wp2_with fail
        go_ret
        exact ⟨rfl, H6.below⟩
      · have SA := partD_sub k0 k1 k2 k3 k4 k5 hs
        have SB := partD_sub k0 k1 k2 k3 k4 k5 ht
        have F1 := incl_refl SA SB
        have F2 := hits_sub SA SB hv
        have F3 := refr_sub SA SB hv
        clear SA SB
        obtain ⟨⟨c0, c1, c2, c3, c4, c5⟩, ha⟩ : ∃ d : D, partD s k0 k1 k2 k3 k4 k5 = d := ⟨_, rfl⟩
        obtain ⟨⟨g0, g1, g2, g3, g4, g5⟩, hb⟩ : ∃ d : D, partD t k0 k1 k2 k3 k4 k5 = d := ⟨_, rfl⟩
        rw [ha, hb] at F1 F2 F3
        obtain ⟨⟨⟨p0, p1, p2, p3, p4, p5⟩, e1⟩, h1⟩ : ∃ r : RD, reflR s t = r := ⟨_, rfl⟩
        obtain ⟨⟨⟨q0, q1, q2, q3, q4, q5⟩, f1⟩, h2⟩ : ∃ r : RD, reflR ⟨c0, c1, c2, c3, c4, c5⟩ ⟨g0, g1, g2, g3, g4, g5⟩ = r := ⟨_, rfl⟩
        obtain ⟨⟨kk, e2⟩, h3⟩ : ∃ r : RI, hitsR s t a b = r := ⟨_, rfl⟩
        obtain ⟨⟨ll, f2⟩, h4⟩ : ∃ r : RI, hitsR ⟨c0, c1, c2, c3, c4, c5⟩ ⟨g0, g1, g2, g3, g4, g5⟩ a b = r := ⟨_, rfl⟩
        obtain ⟨⟨⟨x0, x1, x2, x3, x4, x5⟩, y0, y1, y2, y3, e3⟩, h5⟩ : ∃ r : RF, refrR s t a b = r := ⟨_, rfl⟩
        obtain ⟨⟨⟨z0, z1, z2, z3, z4, z5⟩, v0, v1, v2, v3, f3⟩, h6⟩ : ∃ r : RF, refrR ⟨c0, c1, c2, c3, c4, c5⟩ ⟨g0, g1, g2, g3, g4, g5⟩ a b = r := ⟨_, rfl⟩
        rw [h1, h2] at F1
        rw [h3, h4] at F2
        rw [h5, h6] at F3
        have G1' := Lib.hid (show e1 = 0 → f1 = 0 ∧ insD ⟨q0, q1, q2, q3, q4, q5⟩ ⟨p0, p1, p2, p3, p4, p5⟩ = true from fun h => ⟨(F1 h).1, (F1 h).2.ins⟩)
        have G2' := Lib.hid (show e2 = 0 → f2 = 0 ∧ (kk = 3 ∨ ll = kk) from F2)
        have G3' := Lib.hid (show e3 = 0 → f3 = 0 ∧ insD ⟨z0, z1, z2, z3, z4, z5⟩ ⟨x0, x1, x2, x3, x4, x5⟩ = true ∧ Sub v0 v1 y0 y1 ∧ Sub v2 v3 y2 y3 from fun h => ⟨(F3 h).e, (F3 h).d.ins, (F3 h).b, (F3 h).a⟩)
        have VS := Lib.hid hs
        have VT := Lib.hid ht
        have VB := Lib.hid hv
        have UU := Lib.hid u
        have EA := Lib.hid (show dv (partD s k0 k1 k2 k3 k4 k5) = dv ⟨c0, c1, c2, c3, c4, c5⟩ from by rw [ha])
        have EB := Lib.hid (show dv (partD t k0 k1 k2 k3 k4 k5) = dv ⟨g0, g1, g2, g3, g4, g5⟩ from by rw [hb])
        have E1 := Lib.hid h1
        have E2 := Lib.hid h2
        have E3 := Lib.hid h3
        have E4 := Lib.hid h4
        have E5 := Lib.hid h5
        have E6 := Lib.hid h6
        clear hs ht hv u ha hb h1 h2 h3 h4 h5 h6 F1 F2 F3
        have H0 := ((((Ho.nil w).bx [.int .i64 s.a, .int .i64 s.b, .int .i64 s.c, .int .i64 s.d, .int .i64 s.e, .int .i64 s.f] 25 (w.heap.size) (by simp)).bx [.int .i64 t.a, .int .i64 t.b, .int .i64 t.c, .int .i64 t.d, .int .i64 t.e, .int .i64 t.f] 25 (w.heap.size + 1) (by simp)).bx [.int .i64 a, .int .i64 b, .int .u32 k0, .int .u32 k1, .int .u32 k2, .int .u32 k3, .int .u32 k4, .int .u32 k5] 49 (w.heap.size + 1 + 1) (by simp))
        go_enter Try.func6, Try.ntmps6
        go_wp2_with fail
        refine (awake29_any _).mono ?_
        rintro r w1 ⟨rfl, hb⟩
        have H1 : Ho w w1 (w.heap.size + 1 + 1 + 1) [(w.heap.size + 1 + 1, [.int .i64 a, .int .i64 b, .int .u32 k0, .int .u32 k1, .int .u32 k2, .int .u32 k3, .int .u32 k4, .int .u32 k5]), (w.heap.size + 1, [.int .i64 t.a, .int .i64 t.b, .int .i64 t.c, .int .i64 t.d, .int .i64 t.e, .int .i64 t.f]), (w.heap.size, [.int .i64 s.a, .int .i64 s.b, .int .i64 s.c, .int .i64 s.d, .int .i64 s.e, .int .i64 s.f])] := Ho.call (by
          (repeat (first | with_reducible exact H0 | with_reducible refine Ho.alc ?_ _ | with_reducible refine Ho.drew ?_ | with_reducible refine Ho.put ?_ (by omega)))) hb
        have hs1 := H1.size
        have hz1 := hb.size
        (try simp at hz1)
        clear hb
        have h0_1 := (H1.at 2 rfl).c
        have h1_1 := (H1.at 1 rfl).c
        have h2_1 := (H1.at 0 rfl).c
        have q1_0 : ¬ (w.heap.size = w1.heap.size) := by omega
        have q1_1 : ¬ (w1.heap.size = w.heap.size) := by omega
        have q1_2 : w.heap.size < w1.heap.size := by omega
        have q1_3 : w.heap.size < w1.heap.size + 1 := by omega
        have q1_4 : ¬ (w.heap.size + 1 = w1.heap.size) := by omega
        have q1_5 : ¬ (w1.heap.size = w.heap.size + 1) := by omega
        have q1_6 : w.heap.size + 1 < w1.heap.size := by omega
        have q1_7 : w.heap.size + 1 < w1.heap.size + 1 := by omega
        have q1_8 : ¬ (w.heap.size + 1 + 1 = w1.heap.size) := by omega
        have q1_9 : ¬ (w1.heap.size = w.heap.size + 1 + 1) := by omega
        have q1_10 : w.heap.size + 1 + 1 < w1.heap.size := by omega
        have q1_11 : w.heap.size + 1 + 1 < w1.heap.size + 1 := by omega
        go_wp2_with fail
        refine (theirs_any s _).mono ?_
        rintro r w2 ⟨rfl, hb⟩
        have H2 : Ho w w2 (w.heap.size + 1 + 1 + 1) [(w.heap.size + 1 + 1, [.int .i64 a, .int .i64 b, .int .u32 k0, .int .u32 k1, .int .u32 k2, .int .u32 k3, .int .u32 k4, .int .u32 k5]), (w.heap.size + 1, [.int .i64 t.a, .int .i64 t.b, .int .i64 t.c, .int .i64 t.d, .int .i64 t.e, .int .i64 t.f]), (w.heap.size, [.int .i64 s.a, .int .i64 s.b, .int .i64 s.c, .int .i64 s.d, .int .i64 s.e, .int .i64 s.f])] := Ho.call (by
          (repeat (first | with_reducible exact H1 | with_reducible refine Ho.alc ?_ _ | with_reducible refine Ho.drew ?_ | with_reducible refine Ho.put ?_ (by omega)))) hb
        clear h0_1 h1_1 h2_1 q1_0 q1_1 q1_2 q1_3 q1_4 q1_5 q1_6 q1_7 q1_8 q1_9 q1_10 q1_11
        have hs2 := H2.size
        have hz2 := hb.size
        (try simp at hz2)
        clear hb
        have h0_2 := (H2.at 2 rfl).c
        have h1_2 := (H2.at 1 rfl).c
        have h2_2 := (H2.at 0 rfl).c
        have q2_0 : ¬ (w.heap.size = w2.heap.size) := by omega
        have q2_1 : ¬ (w2.heap.size = w.heap.size) := by omega
        have q2_2 : w.heap.size < w2.heap.size := by omega
        have q2_3 : w.heap.size < w2.heap.size + 1 := by omega
        have q2_4 : ¬ (w.heap.size + 1 = w2.heap.size) := by omega
        have q2_5 : ¬ (w2.heap.size = w.heap.size + 1) := by omega
        have q2_6 : w.heap.size + 1 < w2.heap.size := by omega
        have q2_7 : w.heap.size + 1 < w2.heap.size + 1 := by omega
        have q2_8 : ¬ (w.heap.size + 1 + 1 = w2.heap.size) := by omega
        have q2_9 : ¬ (w2.heap.size = w.heap.size + 1 + 1) := by omega
        have q2_10 : w.heap.size + 1 + 1 < w2.heap.size := by omega
        have q2_11 : w.heap.size + 1 + 1 < w2.heap.size + 1 := by omega
        go_wp2_with fail
        refine (rdvalid_any s _).mono ?_
        rintro r w3 ⟨rfl, hb⟩
        rw [VS.out]
        have H3 : Ho w w3 (w.heap.size + 1 + 1 + 1) [(w.heap.size + 1 + 1, [.int .i64 a, .int .i64 b, .int .u32 k0, .int .u32 k1, .int .u32 k2, .int .u32 k3, .int .u32 k4, .int .u32 k5]), (w.heap.size + 1, [.int .i64 t.a, .int .i64 t.b, .int .i64 t.c, .int .i64 t.d, .int .i64 t.e, .int .i64 t.f]), (w.heap.size, [.int .i64 s.a, .int .i64 s.b, .int .i64 s.c, .int .i64 s.d, .int .i64 s.e, .int .i64 s.f])] := Ho.call (by
          (repeat (first | with_reducible exact H2 | with_reducible refine Ho.alc ?_ _ | with_reducible refine Ho.drew ?_ | with_reducible refine Ho.put ?_ (by omega)))) hb
        clear h0_2 h1_2 h2_2 q2_0 q2_1 q2_2 q2_3 q2_4 q2_5 q2_6 q2_7 q2_8 q2_9 q2_10 q2_11
        have hs3 := H3.size
        have hz3 := hb.size
        (try simp at hz3)
        clear hb
        have h0_3 := (H3.at 2 rfl).c
        have h1_3 := (H3.at 1 rfl).c
        have h2_3 := (H3.at 0 rfl).c
        have q3_0 : ¬ (w.heap.size = w3.heap.size) := by omega
        have q3_1 : ¬ (w3.heap.size = w.heap.size) := by omega
        have q3_2 : w.heap.size < w3.heap.size := by omega
        have q3_3 : w.heap.size < w3.heap.size + 1 := by omega
        have q3_4 : ¬ (w.heap.size + 1 = w3.heap.size) := by omega
        have q3_5 : ¬ (w3.heap.size = w.heap.size + 1) := by omega
        have q3_6 : w.heap.size + 1 < w3.heap.size := by omega
        have q3_7 : w.heap.size + 1 < w3.heap.size + 1 := by omega
        have q3_8 : ¬ (w.heap.size + 1 + 1 = w3.heap.size) := by omega
        have q3_9 : ¬ (w3.heap.size = w.heap.size + 1 + 1) := by omega
        have q3_10 : w.heap.size + 1 + 1 < w3.heap.size := by omega
        have q3_11 : w.heap.size + 1 + 1 < w3.heap.size + 1 := by omega
        go_wp2_with fail
        refine (theirs_any t _).mono ?_
        rintro r w4 ⟨rfl, hb⟩
        have H4 : Ho w w4 (w.heap.size + 1 + 1 + 1) [(w.heap.size + 1 + 1, [.int .i64 a, .int .i64 b, .int .u32 k0, .int .u32 k1, .int .u32 k2, .int .u32 k3, .int .u32 k4, .int .u32 k5]), (w.heap.size + 1, [.int .i64 t.a, .int .i64 t.b, .int .i64 t.c, .int .i64 t.d, .int .i64 t.e, .int .i64 t.f]), (w.heap.size, [.int .i64 s.a, .int .i64 s.b, .int .i64 s.c, .int .i64 s.d, .int .i64 s.e, .int .i64 s.f])] := Ho.call (by
          (repeat (first | with_reducible exact H3 | with_reducible refine Ho.alc ?_ _ | with_reducible refine Ho.drew ?_ | with_reducible refine Ho.put ?_ (by omega)))) hb
        clear h0_3 h1_3 h2_3 q3_0 q3_1 q3_2 q3_3 q3_4 q3_5 q3_6 q3_7 q3_8 q3_9 q3_10 q3_11
        have hs4 := H4.size
        have hz4 := hb.size
        (try simp at hz4)
        clear hb
        have h0_4 := (H4.at 2 rfl).c
        have h1_4 := (H4.at 1 rfl).c
        have h2_4 := (H4.at 0 rfl).c
        have q4_0 : ¬ (w.heap.size = w4.heap.size) := by omega
        have q4_1 : ¬ (w4.heap.size = w.heap.size) := by omega
        have q4_2 : w.heap.size < w4.heap.size := by omega
        have q4_3 : w.heap.size < w4.heap.size + 1 := by omega
        have q4_4 : ¬ (w.heap.size + 1 = w4.heap.size) := by omega
        have q4_5 : ¬ (w4.heap.size = w.heap.size + 1) := by omega
        have q4_6 : w.heap.size + 1 < w4.heap.size := by omega
        have q4_7 : w.heap.size + 1 < w4.heap.size + 1 := by omega
        have q4_8 : ¬ (w.heap.size + 1 + 1 = w4.heap.size) := by omega
        have q4_9 : ¬ (w4.heap.size = w.heap.size + 1 + 1) := by omega
        have q4_10 : w.heap.size + 1 + 1 < w4.heap.size := by omega
        have q4_11 : w.heap.size + 1 + 1 < w4.heap.size + 1 := by omega
        go_wp2_with fail
        refine (rdvalid_any t _).mono ?_
        rintro r w5 ⟨rfl, hb⟩
        rw [VT.out]
        have H5 : Ho w w5 (w.heap.size + 1 + 1 + 1) [(w.heap.size + 1 + 1, [.int .i64 a, .int .i64 b, .int .u32 k0, .int .u32 k1, .int .u32 k2, .int .u32 k3, .int .u32 k4, .int .u32 k5]), (w.heap.size + 1, [.int .i64 t.a, .int .i64 t.b, .int .i64 t.c, .int .i64 t.d, .int .i64 t.e, .int .i64 t.f]), (w.heap.size, [.int .i64 s.a, .int .i64 s.b, .int .i64 s.c, .int .i64 s.d, .int .i64 s.e, .int .i64 s.f])] := Ho.call (by
          (repeat (first | with_reducible exact H4 | with_reducible refine Ho.alc ?_ _ | with_reducible refine Ho.drew ?_ | with_reducible refine Ho.put ?_ (by omega)))) hb
        clear h0_4 h1_4 h2_4 q4_0 q4_1 q4_2 q4_3 q4_4 q4_5 q4_6 q4_7 q4_8 q4_9 q4_10 q4_11
        have hs5 := H5.size
        have hz5 := hb.size
        (try simp at hz5)
        clear hb
        have h0_5 := (H5.at 2 rfl).c
        have h1_5 := (H5.at 1 rfl).c
        have h2_5 := (H5.at 0 rfl).c
        have q5_0 : ¬ (w.heap.size = w5.heap.size) := by omega
        have q5_1 : ¬ (w5.heap.size = w.heap.size) := by omega
        have q5_2 : w.heap.size < w5.heap.size := by omega
        have q5_3 : w.heap.size < w5.heap.size + 1 := by omega
        have q5_4 : ¬ (w.heap.size + 1 = w5.heap.size) := by omega
        have q5_5 : ¬ (w5.heap.size = w.heap.size + 1) := by omega
        have q5_6 : w.heap.size + 1 < w5.heap.size := by omega
        have q5_7 : w.heap.size + 1 < w5.heap.size + 1 := by omega
        have q5_8 : ¬ (w.heap.size + 1 + 1 = w5.heap.size) := by omega
        have q5_9 : ¬ (w5.heap.size = w.heap.size + 1 + 1) := by omega
        have q5_10 : w.heap.size + 1 + 1 < w5.heap.size := by omega
        have q5_11 : w.heap.size + 1 + 1 < w5.heap.size + 1 := by omega
        go_wp2_with fail
        refine (rvalid_below a b _).mono ?_
        rintro r w6 ⟨rfl, hb⟩
        rw [VB.out]
        have H6 : Ho w w6 (w.heap.size + 1 + 1 + 1) [(w.heap.size + 1 + 1, [.int .i64 a, .int .i64 b, .int .u32 k0, .int .u32 k1, .int .u32 k2, .int .u32 k3, .int .u32 k4, .int .u32 k5]), (w.heap.size + 1, [.int .i64 t.a, .int .i64 t.b, .int .i64 t.c, .int .i64 t.d, .int .i64 t.e, .int .i64 t.f]), (w.heap.size, [.int .i64 s.a, .int .i64 s.b, .int .i64 s.c, .int .i64 s.d, .int .i64 s.e, .int .i64 s.f])] := Ho.call (by
          (repeat (first | with_reducible exact H5 | with_reducible refine Ho.alc ?_ _ | with_reducible refine Ho.drew ?_ | with_reducible refine Ho.put ?_ (by omega)))) hb
        clear h0_5 h1_5 h2_5 q5_0 q5_1 q5_2 q5_3 q5_4 q5_5 q5_6 q5_7 q5_8 q5_9 q5_10 q5_11
        have hs6 := H6.size
        have hz6 := hb.size
        (try simp at hz6)
        clear hb
        have h0_6 := (H6.at 2 rfl).c
        have h1_6 := (H6.at 1 rfl).c
        have h2_6 := (H6.at 0 rfl).c
        have q6_0 : ¬ (w.heap.size = w6.heap.size) := by omega
        have q6_1 : ¬ (w6.heap.size = w.heap.size) := by omega
        have q6_2 : w.heap.size < w6.heap.size := by omega
        have q6_3 : w.heap.size < w6.heap.size + 1 := by omega
        have q6_4 : ¬ (w.heap.size + 1 = w6.heap.size) := by omega
        have q6_5 : ¬ (w6.heap.size = w.heap.size + 1) := by omega
        have q6_6 : w.heap.size + 1 < w6.heap.size := by omega
        have q6_7 : w.heap.size + 1 < w6.heap.size + 1 := by omega
        have q6_8 : ¬ (w.heap.size + 1 + 1 = w6.heap.size) := by omega
        have q6_9 : ¬ (w6.heap.size = w.heap.size + 1 + 1) := by omega
        have q6_10 : w.heap.size + 1 + 1 < w6.heap.size := by omega
        have q6_11 : w.heap.size + 1 + 1 < w6.heap.size + 1 := by omega
        clear h0_6 h1_6 h2_6 q6_0 q6_1 q6_2 q6_3 q6_4 q6_5 q6_6 q6_7 q6_8 q6_9 q6_10 q6_11
        go_upto_region 5 with fail
        refine region_sets (Sp.I s t a b k0 k1 k2 k3 k4 k5 c0 c1 c2 c3 c4 c5 g0 g1 g2 g3 g4 g5 w.heap.size w6.heap.size w) (by kernel_rfl) ?_ ?_ ?_
        · refine ⟨false, false, false, false, false, false, false, false, false, false, false, false, undef, undef, undef, undef, undef, undef, undef, undef, undef, undef, 0, 0, rfl, by simp only [Act.put, List.setIfInBounds_toArray, List.set_cons_zero, List.set_cons_succ], ?_⟩
          constructor
          · (repeat (first | with_reducible exact H6 | with_reducible refine Ho.alc ?_ _ | with_reducible refine Ho.drew ?_ | with_reducible refine Ho.put ?_ (by omega)))
          · (first | (simp; done) | (simp; omega))
          · (omega)
          all_goals (intro h; cases h)
        · intro L a' w' hI i hi
          obtain ⟨l0, l1, l2, l3, l4, l5, l6, l7, l8, l9, l10, l11, v0, v1, v2, v3, v4, v5, v6, v7, v8, v9, b8, b9, rfl, rfl, h⟩ := hI
          have hlt := ready_lt hi
          match i, hi, hlt with
          | 0, hi, _ =>
            have l' : l0 = false := (ready_op (o := _) rfl hi).1
            subst l'
            clear hi hlt
            have c := (h.g.at 2 rfl).c
            have H := Lib.hid h
            clear h
            refine wpOp_shut rfl (fun K hK => ?_)
            try simp only [Act.put, List.setIfInBounds_toArray, List.set_cons_zero, List.set_cons_succ]
            go_simp
            refine hK.out _ _ ?_
            unfold Sp.I
            refine ⟨true, l1, l2, l3, l4, l5, l6, l7, l8, l9, l10, l11, ((dv s)), v1, v2, v3, v4, v5, v6, v7, v8, v9, b8, b9, rfl, ?_, ?_⟩
            · simp only [Act.put, List.setIfInBounds_toArray, List.set_cons_zero, List.set_cons_succ]
            · exact { H.out with e0 := fun _ => rfl }
          | 1, hi, _ =>
            have l' : l1 = false := (ready_op (o := _) rfl hi).1
            subst l'
            clear hi hlt
            have H := Lib.hid h
            clear h
            refine wpOp_shut rfl (fun K hK => ?_)
            try simp only [Act.put, List.setIfInBounds_toArray, List.set_cons_zero, List.set_cons_succ]
            go_simp
            refine hK.out _ _ ?_
            unfold Sp.I
            refine ⟨l0, true, l2, l3, l4, l5, l6, l7, l8, l9, l10, l11, v0, (.pointer (some ⟨w.heap.size + 1 + 1, 2, none⟩)), v2, v3, v4, v5, v6, v7, v8, v9, b8, b9, rfl, ?_, ?_⟩
            · simp only [Act.put, List.setIfInBounds_toArray, List.set_cons_zero, List.set_cons_succ]
            · exact { H.out with e1 := fun _ => rfl }
          | 2, hi, _ =>
            have l' : l2 = false := (ready_op (o := _) rfl hi).1
            subst l'
            have k1 : l1 = true := (ready_op (o := _) rfl hi).2 { on := 1, ground := .data } (by simp) rfl
            clear hi hlt
            subst k1
            obtain rfl := h.e1 rfl
            have c := (h.g.at 0 rfl).c
            have H := Lib.hid h
            clear h
            refine wpOp_shut rfl (fun K hK => ?_)
            try simp only [Act.put, List.setIfInBounds_toArray, List.set_cons_zero, List.set_cons_succ]
            go_simp
            refine hK.out _ _ ?_
            unfold Sp.I
            refine ⟨l0, true, true, l3, l4, l5, l6, l7, l8, l9, l10, l11, v0, (.pointer (some ⟨w.heap.size + 1 + 1, 2, none⟩)), ((.agg #[.int .u32 k0, .int .u32 k1, .int .u32 k2, .int .u32 k3, .int .u32 k4, .int .u32 k5])), v3, v4, v5, v6, v7, v8, v9, b8, b9, rfl, ?_, ?_⟩
            · simp only [Act.put, List.setIfInBounds_toArray, List.set_cons_zero, List.set_cons_succ]
            · exact { H.out with e2 := fun _ => rfl }
          | 3, hi, _ =>
            have l' : l3 = false := (ready_op (o := _) rfl hi).1
            subst l'
            have k0 : l0 = true := (ready_op (o := _) rfl hi).2 { on := 0, ground := .data } (by simp) rfl
            have k2 : l2 = true := (ready_op (o := _) rfl hi).2 { on := 2, ground := .data } (by simp) rfl
            clear hi hlt
            subst k0
            subst k2
            obtain rfl := h.e0 rfl
            obtain rfl := h.e2 rfl
            have H := Lib.hid h
            clear h
            refine wpOp_shut rfl (fun K hK => ?_)
            try simp only [Act.put, List.setIfInBounds_toArray, List.set_cons_zero, List.set_cons_succ]
            go_simp
            refine (partd_any s k0 k1 k2 k3 k4 k5 _ VS.out UU.out).mono ?_
            rintro e wY ⟨rfl, hb⟩
            rw [EA.out]
            try go_simp
            refine hK.out _ _ ?_
            unfold Sp.I
            refine ⟨true, l1, true, true, l4, l5, l6, l7, l8, l9, l10, l11, ((dv s)), v1, ((.agg #[.int .u32 k0, .int .u32 k1, .int .u32 k2, .int .u32 k3, .int .u32 k4, .int .u32 k5])), ((dv ⟨c0, c1, c2, c3, c4, c5⟩)), v4, v5, v6, v7, v8, v9, b8, b9, rfl, ?_, ?_⟩
            · simp only [Act.put, List.setIfInBounds_toArray, List.set_cons_zero, List.set_cons_succ]
            · exact { (H.out.kept hb) with e3 := fun _ => rfl }
          | 4, hi, _ =>
            have l' : l4 = false := (ready_op (o := _) rfl hi).1
            subst l'
            clear hi hlt
            have c := (h.g.at 1 rfl).c
            have H := Lib.hid h
            clear h
            refine wpOp_shut rfl (fun K hK => ?_)
            try simp only [Act.put, List.setIfInBounds_toArray, List.set_cons_zero, List.set_cons_succ]
            go_simp
            refine hK.out _ _ ?_
            unfold Sp.I
            refine ⟨l0, l1, l2, l3, true, l5, l6, l7, l8, l9, l10, l11, v0, v1, v2, v3, ((dv t)), v5, v6, v7, v8, v9, b8, b9, rfl, ?_, ?_⟩
            · simp only [Act.put, List.setIfInBounds_toArray, List.set_cons_zero, List.set_cons_succ]
            · exact { H.out with e4 := fun _ => rfl }
          | 5, hi, _ =>
            have l' : l5 = false := (ready_op (o := _) rfl hi).1
            subst l'
            clear hi hlt
            have H := Lib.hid h
            clear h
            refine wpOp_shut rfl (fun K hK => ?_)
            try simp only [Act.put, List.setIfInBounds_toArray, List.set_cons_zero, List.set_cons_succ]
            go_simp
            refine hK.out _ _ ?_
            unfold Sp.I
            refine ⟨l0, l1, l2, l3, l4, true, l6, l7, l8, l9, l10, l11, v0, v1, v2, v3, v4, (.pointer (some ⟨w.heap.size + 1 + 1, 2, none⟩)), v6, v7, v8, v9, b8, b9, rfl, ?_, ?_⟩
            · simp only [Act.put, List.setIfInBounds_toArray, List.set_cons_zero, List.set_cons_succ]
            · exact { H.out with e5 := fun _ => rfl }
          | 6, hi, _ =>
            have l' : l6 = false := (ready_op (o := _) rfl hi).1
            subst l'
            have k5 : l5 = true := (ready_op (o := _) rfl hi).2 { on := 5, ground := .data } (by simp) rfl
            clear hi hlt
            subst k5
            obtain rfl := h.e5 rfl
            have c := (h.g.at 0 rfl).c
            have H := Lib.hid h
            clear h
            refine wpOp_shut rfl (fun K hK => ?_)
            try simp only [Act.put, List.setIfInBounds_toArray, List.set_cons_zero, List.set_cons_succ]
            go_simp
            refine hK.out _ _ ?_
            unfold Sp.I
            refine ⟨l0, l1, l2, l3, l4, true, true, l7, l8, l9, l10, l11, v0, v1, v2, v3, v4, (.pointer (some ⟨w.heap.size + 1 + 1, 2, none⟩)), ((.agg #[.int .u32 k0, .int .u32 k1, .int .u32 k2, .int .u32 k3, .int .u32 k4, .int .u32 k5])), v7, v8, v9, b8, b9, rfl, ?_, ?_⟩
            · simp only [Act.put, List.setIfInBounds_toArray, List.set_cons_zero, List.set_cons_succ]
            · exact { H.out with e6 := fun _ => rfl }
          | 7, hi, _ =>
            have l' : l7 = false := (ready_op (o := _) rfl hi).1
            subst l'
            have k4 : l4 = true := (ready_op (o := _) rfl hi).2 { on := 4, ground := .data } (by simp) rfl
            have k6 : l6 = true := (ready_op (o := _) rfl hi).2 { on := 6, ground := .data } (by simp) rfl
            have k3 : l3 = true := (ready_op (o := _) rfl hi).2 { on := 3, ground := .chain } (by simp) rfl
            clear hi hlt
            subst k4
            subst k6
            subst k3
            obtain rfl := h.e4 rfl
            obtain rfl := h.e6 rfl
            obtain rfl := h.e3 rfl
            have H := Lib.hid h
            clear h
            refine wpOp_shut rfl (fun K hK => ?_)
            try simp only [Act.put, List.setIfInBounds_toArray, List.set_cons_zero, List.set_cons_succ]
            go_simp
            refine (partd_any t k0 k1 k2 k3 k4 k5 _ VT.out UU.out).mono ?_
            rintro e wY ⟨rfl, hb⟩
            rw [EB.out]
            try go_simp
            refine hK.out _ _ ?_
            unfold Sp.I
            refine ⟨l0, l1, l2, true, true, l5, true, true, l8, l9, l10, l11, v0, v1, v2, ((dv ⟨c0, c1, c2, c3, c4, c5⟩)), ((dv t)), v5, ((.agg #[.int .u32 k0, .int .u32 k1, .int .u32 k2, .int .u32 k3, .int .u32 k4, .int .u32 k5])), ((dv ⟨g0, g1, g2, g3, g4, g5⟩)), v8, v9, b8, b9, rfl, ?_, ?_⟩
            · simp only [Act.put, List.setIfInBounds_toArray, List.set_cons_zero, List.set_cons_succ]
            · exact { (H.out.kept hb) with e7 := fun _ => rfl }
          | 8, hi, _ =>
            have l' : l8 = false := (ready_op (o := _) rfl hi).1
            subst l'
            clear hi hlt
            have H := Lib.hid h
            clear h
            refine wpOp_shut rfl (fun K hK => ?_)
            try simp only [Act.put, List.setIfInBounds_toArray, List.set_cons_zero, List.set_cons_succ]
            go_simp
            refine hK.out _ _ ?_
            unfold Sp.I
            refine ⟨l0, l1, l2, l3, l4, l5, l6, l7, true, l9, l10, l11, v0, v1, v2, v3, v4, v5, v6, v7, (.pointer (some ⟨w'.heap.size, 0, none⟩)), v9, w'.heap.size, b9, rfl, ?_, ?_⟩
            · simp only [Act.put, List.setIfInBounds_toArray, List.set_cons_zero, List.set_cons_succ]
            · have h := H.out
              have h2 := h.kept ((Below.refl _ _).alloc (Nat.le_refl _) (.cells (List.toArray [.int .i64 0, .int .i64 0, .int .i64 0, .int .i64 0, .int .i64 0, .int .i64 0]) 25))
              exact { h2 with e8 := fun _ => rfl, g8 := fun _ => h.sz, t8 := fun _ => by simp, o8 := fun p => rfl, z8 := fun _ _ => Bx.new rfl, s8 := fun p => (nomatch (h.o8 p)), d8_9 := fun _ p => Nat.ne_of_gt (h.t9 p) }
          | 9, hi, _ =>
            have l' : l9 = false := (ready_op (o := _) rfl hi).1
            subst l'
            clear hi hlt
            have H := Lib.hid h
            clear h
            refine wpOp_shut rfl (fun K hK => ?_)
            try simp only [Act.put, List.setIfInBounds_toArray, List.set_cons_zero, List.set_cons_succ]
            go_simp
            refine hK.out _ _ ?_
            unfold Sp.I
            refine ⟨l0, l1, l2, l3, l4, l5, l6, l7, l8, true, l10, l11, v0, v1, v2, v3, v4, v5, v6, v7, v8, (.pointer (some ⟨w'.heap.size, 0, none⟩)), b8, w'.heap.size, rfl, ?_, ?_⟩
            · simp only [Act.put, List.setIfInBounds_toArray, List.set_cons_zero, List.set_cons_succ]
            · have h := H.out
              have h2 := h.kept ((Below.refl _ _).alloc (Nat.le_refl _) (.cells (List.toArray [.int .i64 0, .int .i64 0, .int .i64 0, .int .i64 0, .int .i64 0, .int .i64 0]) 25))
              exact { h2 with e9 := fun _ => rfl, g9 := fun _ => h.sz, t9 := fun _ => by simp, o9 := fun p => rfl, z9 := fun _ _ => Bx.new rfl, s9 := fun p => (nomatch (h.o9 p)), d8_9 := fun p _ => Nat.ne_of_lt (h.t8 p) }
          | 10, hi, _ =>
            have l' : l10 = false := (ready_op (o := _) rfl hi).1
            subst l'
            have k8 : l8 = true := (ready_op (o := _) rfl hi).2 { on := 8, ground := .phase } (by simp) rfl
            have k3 : l3 = true := (ready_op (o := _) rfl hi).2 { on := 3, ground := .phase } (by simp) rfl
            have k7 : l7 = true := (ready_op (o := _) rfl hi).2 { on := 7, ground := .chain } (by simp) rfl
            have k0 : l0 = true := (ready_op (o := _) rfl hi).2 { on := 0, ground := .phase } (by simp) rfl
            have k1 : l1 = true := (ready_op (o := _) rfl hi).2 { on := 1, ground := .phase } (by simp) rfl
            have k2 : l2 = true := (ready_op (o := _) rfl hi).2 { on := 2, ground := .phase } (by simp) rfl
            have k9 : l9 = true := (ready_op (o := _) rfl hi).2 { on := 9, ground := .phase } (by simp) rfl
            clear hi hlt
            subst k8
            subst k3
            subst k7
            subst k0
            subst k1
            subst k2
            subst k9
            obtain rfl := h.e8 rfl
            obtain rfl := h.e3 rfl
            obtain rfl := h.e7 rfl
            obtain rfl := h.e0 rfl
            obtain rfl := h.e1 rfl
            obtain rfl := h.e2 rfl
            obtain rfl := h.e9 rfl
            have bz := h.z8 rfl rfl
            have c := bz.c
            have f := bz.f
            clear bz
            have H := Lib.hid h
            clear h
            refine wpOp_shut rfl (fun K hK => ?_)
            try simp only [Act.put, List.setIfInBounds_toArray, List.set_cons_zero, List.set_cons_succ]
            go_simp
            refine hK.out _ _ ?_
            unfold Sp.I
            refine ⟨true, true, true, true, l4, l5, l6, true, true, true, true, l11, ((dv s)), (.pointer (some ⟨w.heap.size + 1 + 1, 2, none⟩)), ((.agg #[.int .u32 k0, .int .u32 k1, .int .u32 k2, .int .u32 k3, .int .u32 k4, .int .u32 k5])), ((dv ⟨c0, c1, c2, c3, c4, c5⟩)), v4, v5, v6, ((dv ⟨g0, g1, g2, g3, g4, g5⟩)), (.pointer (some ⟨b8, 0, none⟩)), (.pointer (some ⟨b9, 0, none⟩)), b8, b9, rfl, ?_, ?_⟩
            · simp only [Act.put, List.setIfInBounds_toArray, List.set_cons_zero, List.set_cons_succ]
            · have h := H.out
              have gb := h.g8 rfl
              have gm := Nat.le_trans h.mn gb
              exact { h with g := ((((((h.g.put gm).put gm).put gm).put gm).put gm).put gm), sz := by simpa using h.sz, o8 := fun _ => rfl, z8 := fun _ p => (nomatch p), s8 := fun _ => (((((((h.z8 rfl rfl).put).put).put).put).put).put), t8 := fun p => by simpa using h.t8 p, t9 := fun p => by simpa using h.t9 p, z9 := fun p r => (((((((h.z9 p r).set (fun q => (h.d8_9 rfl p) q.symm)).set (fun q => (h.d8_9 rfl p) q.symm)).set (fun q => (h.d8_9 rfl p) q.symm)).set (fun q => (h.d8_9 rfl p) q.symm)).set (fun q => (h.d8_9 rfl p) q.symm)).set (fun q => (h.d8_9 rfl p) q.symm)), s9 := fun p => (((((((h.s9 p).set (fun q => (h.d8_9 rfl (h.o9 p)) q.symm)).set (fun q => (h.d8_9 rfl (h.o9 p)) q.symm)).set (fun q => (h.d8_9 rfl (h.o9 p)) q.symm)).set (fun q => (h.d8_9 rfl (h.o9 p)) q.symm)).set (fun q => (h.d8_9 rfl (h.o9 p)) q.symm)).set (fun q => (h.d8_9 rfl (h.o9 p)) q.symm)) }
          | 11, hi, _ =>
            have l' : l11 = false := (ready_op (o := _) rfl hi).1
            subst l'
            have k9 : l9 = true := (ready_op (o := _) rfl hi).2 { on := 9, ground := .phase } (by simp) rfl
            have k7 : l7 = true := (ready_op (o := _) rfl hi).2 { on := 7, ground := .phase } (by simp) rfl
            have k10 : l10 = true := (ready_op (o := _) rfl hi).2 { on := 10, ground := .phase } (by simp) rfl
            have k0 : l0 = true := (ready_op (o := _) rfl hi).2 { on := 0, ground := .phase } (by simp) rfl
            have k1 : l1 = true := (ready_op (o := _) rfl hi).2 { on := 1, ground := .phase } (by simp) rfl
            have k2 : l2 = true := (ready_op (o := _) rfl hi).2 { on := 2, ground := .phase } (by simp) rfl
            have k3 : l3 = true := (ready_op (o := _) rfl hi).2 { on := 3, ground := .phase } (by simp) rfl
            have k4 : l4 = true := (ready_op (o := _) rfl hi).2 { on := 4, ground := .phase } (by simp) rfl
            have k5 : l5 = true := (ready_op (o := _) rfl hi).2 { on := 5, ground := .phase } (by simp) rfl
            have k6 : l6 = true := (ready_op (o := _) rfl hi).2 { on := 6, ground := .phase } (by simp) rfl
            have k8 : l8 = true := (ready_op (o := _) rfl hi).2 { on := 8, ground := .phase } (by simp) rfl
            clear hi hlt
            subst k9
            subst k7
            subst k10
            subst k0
            subst k1
            subst k2
            subst k3
            subst k4
            subst k5
            subst k6
            subst k8
            obtain rfl := h.e9 rfl
            obtain rfl := h.e7 rfl
            obtain rfl := h.e0 rfl
            obtain rfl := h.e1 rfl
            obtain rfl := h.e2 rfl
            obtain rfl := h.e3 rfl
            obtain rfl := h.e4 rfl
            obtain rfl := h.e5 rfl
            obtain rfl := h.e6 rfl
            obtain rfl := h.e8 rfl
            have bz := h.z9 rfl rfl
            have c := bz.c
            have f := bz.f
            clear bz
            have H := Lib.hid h
            clear h
            refine wpOp_shut rfl (fun K hK => ?_)
            try simp only [Act.put, List.setIfInBounds_toArray, List.set_cons_zero, List.set_cons_succ]
            go_simp
            refine hK.out _ _ ?_
            unfold Sp.I
            refine ⟨true, true, true, true, true, true, true, true, true, true, true, true, ((dv s)), (.pointer (some ⟨w.heap.size + 1 + 1, 2, none⟩)), ((.agg #[.int .u32 k0, .int .u32 k1, .int .u32 k2, .int .u32 k3, .int .u32 k4, .int .u32 k5])), ((dv ⟨c0, c1, c2, c3, c4, c5⟩)), ((dv t)), (.pointer (some ⟨w.heap.size + 1 + 1, 2, none⟩)), ((.agg #[.int .u32 k0, .int .u32 k1, .int .u32 k2, .int .u32 k3, .int .u32 k4, .int .u32 k5])), ((dv ⟨g0, g1, g2, g3, g4, g5⟩)), (.pointer (some ⟨b8, 0, none⟩)), (.pointer (some ⟨b9, 0, none⟩)), b8, b9, rfl, ?_, ?_⟩
            · simp only [Act.put, List.setIfInBounds_toArray, List.set_cons_zero, List.set_cons_succ]
            · have h := H.out
              have gb := h.g9 rfl
              have gm := Nat.le_trans h.mn gb
              exact { h with g := ((((((h.g.put gm).put gm).put gm).put gm).put gm).put gm), sz := by simpa using h.sz, o9 := fun _ => rfl, z9 := fun _ p => (nomatch p), s9 := fun _ => (((((((h.z9 rfl rfl).put).put).put).put).put).put), t9 := fun p => by simpa using h.t9 p, t8 := fun p => by simpa using h.t8 p, z8 := fun p r => (((((((h.z8 p r).set (fun q => (h.d8_9 p rfl) q)).set (fun q => (h.d8_9 p rfl) q)).set (fun q => (h.d8_9 p rfl) q)).set (fun q => (h.d8_9 p rfl) q)).set (fun q => (h.d8_9 p rfl) q)).set (fun q => (h.d8_9 p rfl) q)), s8 := fun p => (((((((h.s8 p).set (fun q => (h.d8_9 (h.o8 p) rfl) q)).set (fun q => (h.d8_9 (h.o8 p) rfl) q)).set (fun q => (h.d8_9 (h.o8 p) rfl) q)).set (fun q => (h.d8_9 (h.o8 p) rfl) q)).set (fun q => (h.d8_9 (h.o8 p) rfl) q)).set (fun q => (h.d8_9 (h.o8 p) rfl) q)) }
          | i + 12, _, hlt => exact absurd hlt (by simp)
        · intro L a' w' hI hn
          obtain ⟨l0, l1, l2, l3, l4, l5, l6, l7, l8, l9, l10, l11, v0, v1, v2, v3, v4, v5, v6, v7, v8, v9, b8, b9, rfl, rfl, h⟩ := hI
          have k0 : l0 = true := not_ready (i := 0) (o := _) rfl hn (by simp [Region.binds])
          subst k0
          have k1 : l1 = true := not_ready (i := 1) (o := _) rfl hn (by simp [Region.binds])
          subst k1
          have k2 : l2 = true := not_ready (i := 2) (o := _) rfl hn (by simp [Region.binds])
          subst k2
          have k3 : l3 = true := not_ready (i := 3) (o := _) rfl hn (by simp [Region.binds])
          subst k3
          have k4 : l4 = true := not_ready (i := 4) (o := _) rfl hn (by simp [Region.binds])
          subst k4
          have k5 : l5 = true := not_ready (i := 5) (o := _) rfl hn (by simp [Region.binds])
          subst k5
          have k6 : l6 = true := not_ready (i := 6) (o := _) rfl hn (by simp [Region.binds])
          subst k6
          have k7 : l7 = true := not_ready (i := 7) (o := _) rfl hn (by simp [Region.binds])
          subst k7
          have k8 : l8 = true := not_ready (i := 8) (o := _) rfl hn (by simp [Region.binds])
          subst k8
          have k9 : l9 = true := not_ready (i := 9) (o := _) rfl hn (by simp [Region.binds])
          subst k9
          have k10 : l10 = true := not_ready (i := 10) (o := _) rfl hn (by simp [Region.binds])
          subst k10
          have k11 : l11 = true := not_ready (i := 11) (o := _) rfl hn (by simp [Region.binds])
          subst k11
          clear hn
          obtain rfl := h.e0 rfl
          obtain rfl := h.e1 rfl
          obtain rfl := h.e2 rfl
          obtain rfl := h.e3 rfl
          obtain rfl := h.e4 rfl
          obtain rfl := h.e5 rfl
          obtain rfl := h.e6 rfl
          obtain rfl := h.e7 rfl
          obtain rfl := h.e8 rfl
          obtain rfl := h.e9 rfl
          simp only [Act.put, List.setIfInBounds_toArray, List.set_cons_zero, List.set_cons_succ]
          have G := h.g
          have X8 := (h.s8 rfl).rd
          have X9 := (h.s9 rfl).rd
          clear h
          have H10 := (G.cons X8).cons X9
          have hs10 := H10.size
          have l8 := X8.lt
          have l9 := X9.lt
          have lg := G.size
          clear G X8 X9
          obtain ⟨w10, hw10⟩ : ∃ x, x = w' := ⟨_, rfl⟩
          rw [← hw10] at H10 hs10 l8 l9 lg ⊢
          clear hw10
          have i0 := (H10.at 4 rfl).c
          have i1 := (H10.at 3 rfl).c
          go_wp2_with fail
          refine (reflect_any s t _).mono ?_
          rintro r w11 ⟨rfl, hb⟩
          rw [E1.out]
          have H11 : Ho w w11 (w10.heap.size) [(b9, [.int .i64 g0, .int .i64 g1, .int .i64 g2, .int .i64 g3, .int .i64 g4, .int .i64 g5]), (b8, [.int .i64 c0, .int .i64 c1, .int .i64 c2, .int .i64 c3, .int .i64 c4, .int .i64 c5]), (w.heap.size + 1 + 1, [.int .i64 a, .int .i64 b, .int .u32 k0, .int .u32 k1, .int .u32 k2, .int .u32 k3, .int .u32 k4, .int .u32 k5]), (w.heap.size + 1, [.int .i64 t.a, .int .i64 t.b, .int .i64 t.c, .int .i64 t.d, .int .i64 t.e, .int .i64 t.f]), (w.heap.size, [.int .i64 s.a, .int .i64 s.b, .int .i64 s.c, .int .i64 s.d, .int .i64 s.e, .int .i64 s.f])] := Ho.call (by
            (repeat (first | with_reducible exact H10 | with_reducible refine Ho.alc ?_ _ | with_reducible refine Ho.drew ?_ | with_reducible refine Ho.put ?_ (by omega)))) hb
          clear i0 i1
          have hs11 := H11.size
          have hz11 := hb.size
          (try simp at hz11)
          clear hb
          have h0_11 := (H11.at 0 rfl).c
          have h1_11 := (H11.at 1 rfl).c
          have q11_0 : ¬ (b9 = w11.heap.size) := by omega
          have q11_1 : ¬ (w11.heap.size = b9) := by omega
          have q11_2 : b9 < w11.heap.size := by omega
          have q11_3 : b9 < w11.heap.size + 1 := by omega
          have q11_4 : ¬ (b8 = w11.heap.size) := by omega
          have q11_5 : ¬ (w11.heap.size = b8) := by omega
          have q11_6 : b8 < w11.heap.size := by omega
          have q11_7 : b8 < w11.heap.size + 1 := by omega
          have q11_8 : ¬ (w.heap.size + 1 + 1 = w11.heap.size) := by omega
          have q11_9 : ¬ (w11.heap.size = w.heap.size + 1 + 1) := by omega
          have q11_10 : w.heap.size + 1 + 1 < w11.heap.size := by omega
          have q11_11 : w.heap.size + 1 + 1 < w11.heap.size + 1 := by omega
          have q11_12 : ¬ (w.heap.size + 1 = w11.heap.size) := by omega
          have q11_13 : ¬ (w11.heap.size = w.heap.size + 1) := by omega
          have q11_14 : w.heap.size + 1 < w11.heap.size := by omega
          have q11_15 : w.heap.size + 1 < w11.heap.size + 1 := by omega
          have q11_16 : ¬ (w.heap.size = w11.heap.size) := by omega
          have q11_17 : ¬ (w11.heap.size = w.heap.size) := by omega
          have q11_18 : w.heap.size < w11.heap.size := by omega
          have q11_19 : w.heap.size < w11.heap.size + 1 := by omega
          go_wp2_with fail
          refine (reflect_any ⟨c0, c1, c2, c3, c4, c5⟩ ⟨g0, g1, g2, g3, g4, g5⟩ _).mono ?_
          rintro r w12 ⟨rfl, hb⟩
          rw [E2.out]
          have H12 : Ho w w12 (w10.heap.size) [(b9, [.int .i64 g0, .int .i64 g1, .int .i64 g2, .int .i64 g3, .int .i64 g4, .int .i64 g5]), (b8, [.int .i64 c0, .int .i64 c1, .int .i64 c2, .int .i64 c3, .int .i64 c4, .int .i64 c5]), (w.heap.size + 1 + 1, [.int .i64 a, .int .i64 b, .int .u32 k0, .int .u32 k1, .int .u32 k2, .int .u32 k3, .int .u32 k4, .int .u32 k5]), (w.heap.size + 1, [.int .i64 t.a, .int .i64 t.b, .int .i64 t.c, .int .i64 t.d, .int .i64 t.e, .int .i64 t.f]), (w.heap.size, [.int .i64 s.a, .int .i64 s.b, .int .i64 s.c, .int .i64 s.d, .int .i64 s.e, .int .i64 s.f])] := Ho.call (by
            (repeat (first | with_reducible exact H11 | with_reducible refine Ho.alc ?_ _ | with_reducible refine Ho.drew ?_ | with_reducible refine Ho.put ?_ (by omega)))) hb
          have P_12 : Bx w12 (w11.heap.size) [.int .i64 p0, .int .i64 p1, .int .i64 p2, .int .i64 p3, .int .i64 p4, .int .i64 p5] := Bx.kept (by
            (repeat (first | with_reducible exact Bx.new (by simp) | with_reducible apply Bx.put6 | with_reducible apply Bx.put2 | with_reducible apply Bx.put1 | with_reducible refine Bx.set ?_ (by omega) | with_reducible refine Bx.alc ?_ _ | with_reducible refine Bx.drew ?_))) hb
          clear h0_11 h1_11 q11_0 q11_1 q11_2 q11_3 q11_4 q11_5 q11_6 q11_7 q11_8 q11_9 q11_10 q11_11 q11_12 q11_13 q11_14 q11_15 q11_16 q11_17 q11_18 q11_19
          have hs12 := H12.size
          have hz12 := hb.size
          (try simp at hz12)
          clear hb
          have h2_12 := (H12.at 2 rfl).c
          have h3_12 := (H12.at 3 rfl).c
          have h4_12 := (H12.at 4 rfl).c
          have P_12c := P_12.c
          have P_12f := P_12.f
          have P_12l := P_12.lt
          have q12_0 : ¬ (w11.heap.size = w12.heap.size) := by omega
          have q12_1 : ¬ (w12.heap.size = w11.heap.size) := by omega
          have q12_2 : w11.heap.size < w12.heap.size := by omega
          have q12_3 : w11.heap.size < w12.heap.size + 1 := by omega
          have q12_4 : ¬ (b9 = w12.heap.size) := by omega
          have q12_5 : ¬ (w12.heap.size = b9) := by omega
          have q12_6 : b9 < w12.heap.size := by omega
          have q12_7 : b9 < w12.heap.size + 1 := by omega
          have q12_8 : ¬ (b8 = w12.heap.size) := by omega
          have q12_9 : ¬ (w12.heap.size = b8) := by omega
          have q12_10 : b8 < w12.heap.size := by omega
          have q12_11 : b8 < w12.heap.size + 1 := by omega
          have q12_12 : ¬ (w.heap.size + 1 + 1 = w12.heap.size) := by omega
          have q12_13 : ¬ (w12.heap.size = w.heap.size + 1 + 1) := by omega
          have q12_14 : w.heap.size + 1 + 1 < w12.heap.size := by omega
          have q12_15 : w.heap.size + 1 + 1 < w12.heap.size + 1 := by omega
          have q12_16 : ¬ (w.heap.size + 1 = w12.heap.size) := by omega
          have q12_17 : ¬ (w12.heap.size = w.heap.size + 1) := by omega
          have q12_18 : w.heap.size + 1 < w12.heap.size := by omega
          have q12_19 : w.heap.size + 1 < w12.heap.size + 1 := by omega
          have q12_20 : ¬ (w.heap.size = w12.heap.size) := by omega
          have q12_21 : ¬ (w12.heap.size = w.heap.size) := by omega
          have q12_22 : w.heap.size < w12.heap.size := by omega
          have q12_23 : w.heap.size < w12.heap.size + 1 := by omega
          have q12_24 : ¬ (w11.heap.size = b9) := by omega
          have q12_25 : ¬ (b9 = w11.heap.size) := by omega
          have q12_26 : ¬ (w11.heap.size = b8) := by omega
          have q12_27 : ¬ (b8 = w11.heap.size) := by omega
          have q12_28 : ¬ (w11.heap.size = w.heap.size + 1 + 1) := by omega
          have q12_29 : ¬ (w.heap.size + 1 + 1 = w11.heap.size) := by omega
          have q12_30 : ¬ (w11.heap.size = w.heap.size + 1) := by omega
          have q12_31 : ¬ (w.heap.size + 1 = w11.heap.size) := by omega
          have q12_32 : ¬ (w11.heap.size = w.heap.size) := by omega
          have q12_33 : ¬ (w.heap.size = w11.heap.size) := by omega
          go_upto_region 8 with fail
          go_cut [68] from 57 to 67 (fun c wx => c = .bool false ∧ Ho w wx (w10.heap.size) [(b9, [.int .i64 g0, .int .i64 g1, .int .i64 g2, .int .i64 g3, .int .i64 g4, .int .i64 g5]), (b8, [.int .i64 c0, .int .i64 c1, .int .i64 c2, .int .i64 c3, .int .i64 c4, .int .i64 c5]), (w.heap.size + 1 + 1, [.int .i64 a, .int .i64 b, .int .u32 k0, .int .u32 k1, .int .u32 k2, .int .u32 k3, .int .u32 k4, .int .u32 k5]), (w.heap.size + 1, [.int .i64 t.a, .int .i64 t.b, .int .i64 t.c, .int .i64 t.d, .int .i64 t.e, .int .i64 t.f]), (w.heap.size, [.int .i64 s.a, .int .i64 s.b, .int .i64 s.c, .int .i64 s.d, .int .i64 s.e, .int .i64 s.f])] ∧ Bx wx (w11.heap.size) [.int .i64 p0, .int .i64 p1, .int .i64 p2, .int .i64 p3, .int .i64 p4, .int .i64 p5] ∧ Bx wx (w12.heap.size) [.int .i64 q0, .int .i64 q1, .int .i64 q2, .int .i64 q3, .int .i64 q4, .int .i64 q5])
          case first =>
            by_cases he : e1 = 0
            · subst he
              obtain ⟨n1, n2⟩ := G1'.out rfl
              subst n1
              have N2 := Lib.hid n2
              clear n2
              go_wp2_with fail
              refine (dinside_any ⟨q0, q1, q2, q3, q4, q5⟩ ⟨p0, p1, p2, p3, p4, p5⟩ _).mono ?_
              rintro e w13 ⟨rfl, hb⟩
              rw [N2.out]
              have H13 : Ho w w13 (w10.heap.size) [(b9, [.int .i64 g0, .int .i64 g1, .int .i64 g2, .int .i64 g3, .int .i64 g4, .int .i64 g5]), (b8, [.int .i64 c0, .int .i64 c1, .int .i64 c2, .int .i64 c3, .int .i64 c4, .int .i64 c5]), (w.heap.size + 1 + 1, [.int .i64 a, .int .i64 b, .int .u32 k0, .int .u32 k1, .int .u32 k2, .int .u32 k3, .int .u32 k4, .int .u32 k5]), (w.heap.size + 1, [.int .i64 t.a, .int .i64 t.b, .int .i64 t.c, .int .i64 t.d, .int .i64 t.e, .int .i64 t.f]), (w.heap.size, [.int .i64 s.a, .int .i64 s.b, .int .i64 s.c, .int .i64 s.d, .int .i64 s.e, .int .i64 s.f])] := Ho.call (by
                (repeat (first | with_reducible exact H12 | with_reducible refine Ho.alc ?_ _ | with_reducible refine Ho.drew ?_ | with_reducible refine Ho.put ?_ (by omega)))) hb
              have P_13 : Bx w13 (w11.heap.size) [.int .i64 p0, .int .i64 p1, .int .i64 p2, .int .i64 p3, .int .i64 p4, .int .i64 p5] := Bx.kept (by
                (repeat (first | with_reducible exact P_12 | with_reducible refine Bx.alc ?_ _ | with_reducible refine Bx.drew ?_ | with_reducible refine Bx.set ?_ (by omega)))) hb
              have Q_13 : Bx w13 (w12.heap.size) [.int .i64 q0, .int .i64 q1, .int .i64 q2, .int .i64 q3, .int .i64 q4, .int .i64 q5] := Bx.kept (by
                (repeat (first | with_reducible exact Bx.new (by simp) | with_reducible apply Bx.put6 | with_reducible apply Bx.put2 | with_reducible apply Bx.put1 | with_reducible refine Bx.set ?_ (by omega) | with_reducible refine Bx.alc ?_ _ | with_reducible refine Bx.drew ?_))) hb
              clear hb
              go_wp2_with fail
              go_meet
              exact ⟨rfl, by
                (repeat (first | with_reducible exact H13 | with_reducible refine Ho.alc ?_ _ | with_reducible refine Ho.drew ?_ | with_reducible refine Ho.put ?_ (by omega))), by
                (repeat (first | with_reducible exact P_13 | with_reducible refine Bx.alc ?_ _ | with_reducible refine Bx.drew ?_ | with_reducible refine Bx.set ?_ (by omega))), by
                (repeat (first | with_reducible exact Q_13 | with_reducible refine Bx.alc ?_ _ | with_reducible refine Bx.drew ?_ | with_reducible refine Bx.set ?_ (by omega)))⟩
            · have he' : (e1 == 0) = false := by simpa using he
              go_wp2_with fail
              go_meet
              exact ⟨rfl, by
                (repeat (first | with_reducible exact H12 | with_reducible refine Ho.alc ?_ _ | with_reducible refine Ho.drew ?_ | with_reducible refine Ho.put ?_ (by omega))), by
                (repeat (first | with_reducible exact P_12 | with_reducible refine Bx.alc ?_ _ | with_reducible refine Bx.drew ?_ | with_reducible refine Bx.set ?_ (by omega))), by
                (repeat (first | with_reducible exact Bx.new (by simp) | with_reducible apply Bx.put6 | with_reducible apply Bx.put2 | with_reducible apply Bx.put1 | with_reducible refine Bx.set ?_ (by omega) | with_reducible refine Bx.alc ?_ _ | with_reducible refine Bx.drew ?_))⟩
          case rest =>
            obtain ⟨rfl, H14, P_14, Q_14⟩ := hcut
            obtain ⟨w14, hwc⟩ : ∃ x, x = wc := ⟨_, rfl⟩
            rw [← hwc] at H14 P_14 Q_14
            rw [← hwc]
            clear hwc
            clear h2_12 h3_12 h4_12 P_12c P_12f q12_0 q12_1 q12_2 q12_3 q12_4 q12_5 q12_6 q12_7 q12_8 q12_9 q12_10 q12_11 q12_12 q12_13 q12_14 q12_15 q12_16 q12_17 q12_18 q12_19 q12_20 q12_21 q12_22 q12_23 q12_24 q12_25 q12_26 q12_27 q12_28 q12_29 q12_30 q12_31 q12_32 q12_33
            have hs14 := H14.size
            have P_14l := P_14.lt
            have Q_14l := Q_14.lt
            have h2_14 := (H14.at 2 rfl).c
            have h3_14 := (H14.at 3 rfl).c
            have h4_14 := (H14.at 4 rfl).c
            go_wp2_with fail
            refine (hits_any s t a b _).mono ?_
            rintro r w15 ⟨rfl, hb⟩
            rw [E3.out]
            have H15 : Ho w w15 (w10.heap.size) [(b9, [.int .i64 g0, .int .i64 g1, .int .i64 g2, .int .i64 g3, .int .i64 g4, .int .i64 g5]), (b8, [.int .i64 c0, .int .i64 c1, .int .i64 c2, .int .i64 c3, .int .i64 c4, .int .i64 c5]), (w.heap.size + 1 + 1, [.int .i64 a, .int .i64 b, .int .u32 k0, .int .u32 k1, .int .u32 k2, .int .u32 k3, .int .u32 k4, .int .u32 k5]), (w.heap.size + 1, [.int .i64 t.a, .int .i64 t.b, .int .i64 t.c, .int .i64 t.d, .int .i64 t.e, .int .i64 t.f]), (w.heap.size, [.int .i64 s.a, .int .i64 s.b, .int .i64 s.c, .int .i64 s.d, .int .i64 s.e, .int .i64 s.f])] := Ho.call (by
              (repeat (first | with_reducible exact H14 | with_reducible refine Ho.alc ?_ _ | with_reducible refine Ho.drew ?_ | with_reducible refine Ho.put ?_ (by omega)))) hb
            have P_15 : Bx w15 (w11.heap.size) [.int .i64 p0, .int .i64 p1, .int .i64 p2, .int .i64 p3, .int .i64 p4, .int .i64 p5] := Bx.kept (by
              (repeat (first | with_reducible exact P_14 | with_reducible refine Bx.alc ?_ _ | with_reducible refine Bx.drew ?_ | with_reducible refine Bx.set ?_ (by omega)))) hb
            have Q_15 : Bx w15 (w12.heap.size) [.int .i64 q0, .int .i64 q1, .int .i64 q2, .int .i64 q3, .int .i64 q4, .int .i64 q5] := Bx.kept (by
              (repeat (first | with_reducible exact Q_14 | with_reducible refine Bx.alc ?_ _ | with_reducible refine Bx.drew ?_ | with_reducible refine Bx.set ?_ (by omega)))) hb
            clear h2_14 h3_14 h4_14
            have hs15 := H15.size
            have hz15 := hb.size
            (try simp at hz15)
            clear hb
            have h0_15 := (H15.at 0 rfl).c
            have h1_15 := (H15.at 1 rfl).c
            have h2_15 := (H15.at 2 rfl).c
            have P_15c := P_15.c
            have P_15f := P_15.f
            have P_15l := P_15.lt
            have Q_15c := Q_15.c
            have Q_15f := Q_15.f
            have Q_15l := Q_15.lt
            have q15_0 : ¬ (w11.heap.size = w15.heap.size) := by omega
            have q15_1 : ¬ (w15.heap.size = w11.heap.size) := by omega
            have q15_2 : w11.heap.size < w15.heap.size := by omega
            have q15_3 : w11.heap.size < w15.heap.size + 1 := by omega
            have q15_4 : ¬ (w12.heap.size = w15.heap.size) := by omega
            have q15_5 : ¬ (w15.heap.size = w12.heap.size) := by omega
            have q15_6 : w12.heap.size < w15.heap.size := by omega
            have q15_7 : w12.heap.size < w15.heap.size + 1 := by omega
            have q15_8 : ¬ (b9 = w15.heap.size) := by omega
            have q15_9 : ¬ (w15.heap.size = b9) := by omega
            have q15_10 : b9 < w15.heap.size := by omega
            have q15_11 : b9 < w15.heap.size + 1 := by omega
            have q15_12 : ¬ (b8 = w15.heap.size) := by omega
            have q15_13 : ¬ (w15.heap.size = b8) := by omega
            have q15_14 : b8 < w15.heap.size := by omega
            have q15_15 : b8 < w15.heap.size + 1 := by omega
            have q15_16 : ¬ (w.heap.size + 1 + 1 = w15.heap.size) := by omega
            have q15_17 : ¬ (w15.heap.size = w.heap.size + 1 + 1) := by omega
            have q15_18 : w.heap.size + 1 + 1 < w15.heap.size := by omega
            have q15_19 : w.heap.size + 1 + 1 < w15.heap.size + 1 := by omega
            have q15_20 : ¬ (w.heap.size + 1 = w15.heap.size) := by omega
            have q15_21 : ¬ (w15.heap.size = w.heap.size + 1) := by omega
            have q15_22 : w.heap.size + 1 < w15.heap.size := by omega
            have q15_23 : w.heap.size + 1 < w15.heap.size + 1 := by omega
            have q15_24 : ¬ (w.heap.size = w15.heap.size) := by omega
            have q15_25 : ¬ (w15.heap.size = w.heap.size) := by omega
            have q15_26 : w.heap.size < w15.heap.size := by omega
            have q15_27 : w.heap.size < w15.heap.size + 1 := by omega
            have q15_28 : ¬ (w11.heap.size = w12.heap.size) := by omega
            have q15_29 : ¬ (w12.heap.size = w11.heap.size) := by omega
            have q15_30 : ¬ (w11.heap.size = b9) := by omega
            have q15_31 : ¬ (b9 = w11.heap.size) := by omega
            have q15_32 : ¬ (w11.heap.size = b8) := by omega
            have q15_33 : ¬ (b8 = w11.heap.size) := by omega
            have q15_34 : ¬ (w11.heap.size = w.heap.size + 1 + 1) := by omega
            have q15_35 : ¬ (w.heap.size + 1 + 1 = w11.heap.size) := by omega
            have q15_36 : ¬ (w11.heap.size = w.heap.size + 1) := by omega
            have q15_37 : ¬ (w.heap.size + 1 = w11.heap.size) := by omega
            have q15_38 : ¬ (w11.heap.size = w.heap.size) := by omega
            have q15_39 : ¬ (w.heap.size = w11.heap.size) := by omega
            have q15_40 : ¬ (w12.heap.size = b9) := by omega
            have q15_41 : ¬ (b9 = w12.heap.size) := by omega
            have q15_42 : ¬ (w12.heap.size = b8) := by omega
            have q15_43 : ¬ (b8 = w12.heap.size) := by omega
            have q15_44 : ¬ (w12.heap.size = w.heap.size + 1 + 1) := by omega
            have q15_45 : ¬ (w.heap.size + 1 + 1 = w12.heap.size) := by omega
            have q15_46 : ¬ (w12.heap.size = w.heap.size + 1) := by omega
            have q15_47 : ¬ (w.heap.size + 1 = w12.heap.size) := by omega
            have q15_48 : ¬ (w12.heap.size = w.heap.size) := by omega
            have q15_49 : ¬ (w.heap.size = w12.heap.size) := by omega
            go_wp2_with fail
            refine (hits_any ⟨c0, c1, c2, c3, c4, c5⟩ ⟨g0, g1, g2, g3, g4, g5⟩ a b _).mono ?_
            rintro r w16 ⟨rfl, hb⟩
            rw [E4.out]
            have H16 : Ho w w16 (w10.heap.size) [(b9, [.int .i64 g0, .int .i64 g1, .int .i64 g2, .int .i64 g3, .int .i64 g4, .int .i64 g5]), (b8, [.int .i64 c0, .int .i64 c1, .int .i64 c2, .int .i64 c3, .int .i64 c4, .int .i64 c5]), (w.heap.size + 1 + 1, [.int .i64 a, .int .i64 b, .int .u32 k0, .int .u32 k1, .int .u32 k2, .int .u32 k3, .int .u32 k4, .int .u32 k5]), (w.heap.size + 1, [.int .i64 t.a, .int .i64 t.b, .int .i64 t.c, .int .i64 t.d, .int .i64 t.e, .int .i64 t.f]), (w.heap.size, [.int .i64 s.a, .int .i64 s.b, .int .i64 s.c, .int .i64 s.d, .int .i64 s.e, .int .i64 s.f])] := Ho.call (by
              (repeat (first | with_reducible exact H15 | with_reducible refine Ho.alc ?_ _ | with_reducible refine Ho.drew ?_ | with_reducible refine Ho.put ?_ (by omega)))) hb
            have P_16 : Bx w16 (w11.heap.size) [.int .i64 p0, .int .i64 p1, .int .i64 p2, .int .i64 p3, .int .i64 p4, .int .i64 p5] := Bx.kept (by
              (repeat (first | with_reducible exact P_15 | with_reducible refine Bx.alc ?_ _ | with_reducible refine Bx.drew ?_ | with_reducible refine Bx.set ?_ (by omega)))) hb
            have Q_16 : Bx w16 (w12.heap.size) [.int .i64 q0, .int .i64 q1, .int .i64 q2, .int .i64 q3, .int .i64 q4, .int .i64 q5] := Bx.kept (by
              (repeat (first | with_reducible exact Q_15 | with_reducible refine Bx.alc ?_ _ | with_reducible refine Bx.drew ?_ | with_reducible refine Bx.set ?_ (by omega)))) hb
            clear h0_15 h1_15 h2_15 P_15c P_15f Q_15c Q_15f q15_0 q15_1 q15_2 q15_3 q15_4 q15_5 q15_6 q15_7 q15_8 q15_9 q15_10 q15_11 q15_12 q15_13 q15_14 q15_15 q15_16 q15_17 q15_18 q15_19 q15_20 q15_21 q15_22 q15_23 q15_24 q15_25 q15_26 q15_27 q15_28 q15_29 q15_30 q15_31 q15_32 q15_33 q15_34 q15_35 q15_36 q15_37 q15_38 q15_39 q15_40 q15_41 q15_42 q15_43 q15_44 q15_45 q15_46 q15_47 q15_48 q15_49
            have hs16 := H16.size
            have hz16 := hb.size
            (try simp at hz16)
            clear hb
            have h2_16 := (H16.at 2 rfl).c
            have h3_16 := (H16.at 3 rfl).c
            have h4_16 := (H16.at 4 rfl).c
            have P_16c := P_16.c
            have P_16f := P_16.f
            have P_16l := P_16.lt
            have Q_16c := Q_16.c
            have Q_16f := Q_16.f
            have Q_16l := Q_16.lt
            have q16_0 : ¬ (w11.heap.size = w16.heap.size) := by omega
            have q16_1 : ¬ (w16.heap.size = w11.heap.size) := by omega
            have q16_2 : w11.heap.size < w16.heap.size := by omega
            have q16_3 : w11.heap.size < w16.heap.size + 1 := by omega
            have q16_4 : ¬ (w12.heap.size = w16.heap.size) := by omega
            have q16_5 : ¬ (w16.heap.size = w12.heap.size) := by omega
            have q16_6 : w12.heap.size < w16.heap.size := by omega
            have q16_7 : w12.heap.size < w16.heap.size + 1 := by omega
            have q16_8 : ¬ (b9 = w16.heap.size) := by omega
            have q16_9 : ¬ (w16.heap.size = b9) := by omega
            have q16_10 : b9 < w16.heap.size := by omega
            have q16_11 : b9 < w16.heap.size + 1 := by omega
            have q16_12 : ¬ (b8 = w16.heap.size) := by omega
            have q16_13 : ¬ (w16.heap.size = b8) := by omega
            have q16_14 : b8 < w16.heap.size := by omega
            have q16_15 : b8 < w16.heap.size + 1 := by omega
            have q16_16 : ¬ (w.heap.size + 1 + 1 = w16.heap.size) := by omega
            have q16_17 : ¬ (w16.heap.size = w.heap.size + 1 + 1) := by omega
            have q16_18 : w.heap.size + 1 + 1 < w16.heap.size := by omega
            have q16_19 : w.heap.size + 1 + 1 < w16.heap.size + 1 := by omega
            have q16_20 : ¬ (w.heap.size + 1 = w16.heap.size) := by omega
            have q16_21 : ¬ (w16.heap.size = w.heap.size + 1) := by omega
            have q16_22 : w.heap.size + 1 < w16.heap.size := by omega
            have q16_23 : w.heap.size + 1 < w16.heap.size + 1 := by omega
            have q16_24 : ¬ (w.heap.size = w16.heap.size) := by omega
            have q16_25 : ¬ (w16.heap.size = w.heap.size) := by omega
            have q16_26 : w.heap.size < w16.heap.size := by omega
            have q16_27 : w.heap.size < w16.heap.size + 1 := by omega
            have q16_28 : ¬ (w11.heap.size = w12.heap.size) := by omega
            have q16_29 : ¬ (w12.heap.size = w11.heap.size) := by omega
            have q16_30 : ¬ (w11.heap.size = b9) := by omega
            have q16_31 : ¬ (b9 = w11.heap.size) := by omega
            have q16_32 : ¬ (w11.heap.size = b8) := by omega
            have q16_33 : ¬ (b8 = w11.heap.size) := by omega
            have q16_34 : ¬ (w11.heap.size = w.heap.size + 1 + 1) := by omega
            have q16_35 : ¬ (w.heap.size + 1 + 1 = w11.heap.size) := by omega
            have q16_36 : ¬ (w11.heap.size = w.heap.size + 1) := by omega
            have q16_37 : ¬ (w.heap.size + 1 = w11.heap.size) := by omega
            have q16_38 : ¬ (w11.heap.size = w.heap.size) := by omega
            have q16_39 : ¬ (w.heap.size = w11.heap.size) := by omega
            have q16_40 : ¬ (w12.heap.size = b9) := by omega
            have q16_41 : ¬ (b9 = w12.heap.size) := by omega
            have q16_42 : ¬ (w12.heap.size = b8) := by omega
            have q16_43 : ¬ (b8 = w12.heap.size) := by omega
            have q16_44 : ¬ (w12.heap.size = w.heap.size + 1 + 1) := by omega
            have q16_45 : ¬ (w.heap.size + 1 + 1 = w12.heap.size) := by omega
            have q16_46 : ¬ (w12.heap.size = w.heap.size + 1) := by omega
            have q16_47 : ¬ (w.heap.size + 1 = w12.heap.size) := by omega
            have q16_48 : ¬ (w12.heap.size = w.heap.size) := by omega
            have q16_49 : ¬ (w.heap.size = w12.heap.size) := by omega
            go_upto_region 12 with fail
            go_cut [99] from 85 to 98 (fun c wx => c = .bool false ∧ wx = w16)
            case first =>
              by_cases he : e2 = 0
              · subst he
                obtain ⟨n1, n2⟩ := G2'.out rfl
                subst n1
                rcases n2 with n2 | n2
                · subst n2
                  by_cases n3 : ll = 3
                  · subst n3
                    go_wp2_with fail
                    go_meet
                    exact ⟨rfl, rfl⟩
                  · have n4 : (3 == ll) = false := by simp; omega
                    have n5 : (3 != ll) = true := by simp; omega
                    go_wp2_with fail
                    go_meet
                    exact ⟨rfl, rfl⟩
                · subst n2
                  go_wp2_with fail
                  go_meet
                  exact ⟨rfl, rfl⟩
              · have he' : (e2 == 0) = false := by simpa using he
                go_wp2_with fail
                go_meet
                exact ⟨rfl, rfl⟩
            case rest =>
              obtain ⟨rfl, hwe⟩ := hcut
              subst hwe
              go_wp2_with fail
              refine (refr_any s t a b _).mono ?_
              rintro r w17 ⟨rfl, hb⟩
              rw [E5.out]
              unfold retF
              dsimp only
              have H17 : Ho w w17 (w10.heap.size) [(b9, [.int .i64 g0, .int .i64 g1, .int .i64 g2, .int .i64 g3, .int .i64 g4, .int .i64 g5]), (b8, [.int .i64 c0, .int .i64 c1, .int .i64 c2, .int .i64 c3, .int .i64 c4, .int .i64 c5]), (w.heap.size + 1 + 1, [.int .i64 a, .int .i64 b, .int .u32 k0, .int .u32 k1, .int .u32 k2, .int .u32 k3, .int .u32 k4, .int .u32 k5]), (w.heap.size + 1, [.int .i64 t.a, .int .i64 t.b, .int .i64 t.c, .int .i64 t.d, .int .i64 t.e, .int .i64 t.f]), (w.heap.size, [.int .i64 s.a, .int .i64 s.b, .int .i64 s.c, .int .i64 s.d, .int .i64 s.e, .int .i64 s.f])] := Ho.call (by
                (repeat (first | with_reducible exact H16 | with_reducible refine Ho.alc ?_ _ | with_reducible refine Ho.drew ?_ | with_reducible refine Ho.put ?_ (by omega)))) hb
              have P_17 : Bx w17 (w11.heap.size) [.int .i64 p0, .int .i64 p1, .int .i64 p2, .int .i64 p3, .int .i64 p4, .int .i64 p5] := Bx.kept (by
                (repeat (first | with_reducible exact P_16 | with_reducible refine Bx.alc ?_ _ | with_reducible refine Bx.drew ?_ | with_reducible refine Bx.set ?_ (by omega)))) hb
              have Q_17 : Bx w17 (w12.heap.size) [.int .i64 q0, .int .i64 q1, .int .i64 q2, .int .i64 q3, .int .i64 q4, .int .i64 q5] := Bx.kept (by
                (repeat (first | with_reducible exact Q_16 | with_reducible refine Bx.alc ?_ _ | with_reducible refine Bx.drew ?_ | with_reducible refine Bx.set ?_ (by omega)))) hb
              clear h2_16 h3_16 h4_16 P_16c P_16f Q_16c Q_16f q16_0 q16_1 q16_2 q16_3 q16_4 q16_5 q16_6 q16_7 q16_8 q16_9 q16_10 q16_11 q16_12 q16_13 q16_14 q16_15 q16_16 q16_17 q16_18 q16_19 q16_20 q16_21 q16_22 q16_23 q16_24 q16_25 q16_26 q16_27 q16_28 q16_29 q16_30 q16_31 q16_32 q16_33 q16_34 q16_35 q16_36 q16_37 q16_38 q16_39 q16_40 q16_41 q16_42 q16_43 q16_44 q16_45 q16_46 q16_47 q16_48 q16_49
              have hs17 := H17.size
              have hz17 := hb.size
              (try simp at hz17)
              clear hb
              have h2_17 := (H17.at 2 rfl).c
              have h0_17 := (H17.at 0 rfl).c
              have h1_17 := (H17.at 1 rfl).c
              have P_17c := P_17.c
              have P_17f := P_17.f
              have P_17l := P_17.lt
              have Q_17c := Q_17.c
              have Q_17f := Q_17.f
              have Q_17l := Q_17.lt
              have q17_0 : ¬ (w11.heap.size = w17.heap.size) := by omega
              have q17_1 : ¬ (w17.heap.size = w11.heap.size) := by omega
              have q17_2 : w11.heap.size < w17.heap.size := by omega
              have q17_3 : w11.heap.size < w17.heap.size + 1 := by omega
              have q17_4 : ¬ (w12.heap.size = w17.heap.size) := by omega
              have q17_5 : ¬ (w17.heap.size = w12.heap.size) := by omega
              have q17_6 : w12.heap.size < w17.heap.size := by omega
              have q17_7 : w12.heap.size < w17.heap.size + 1 := by omega
              have q17_8 : ¬ (b9 = w17.heap.size) := by omega
              have q17_9 : ¬ (w17.heap.size = b9) := by omega
              have q17_10 : b9 < w17.heap.size := by omega
              have q17_11 : b9 < w17.heap.size + 1 := by omega
              have q17_12 : ¬ (b8 = w17.heap.size) := by omega
              have q17_13 : ¬ (w17.heap.size = b8) := by omega
              have q17_14 : b8 < w17.heap.size := by omega
              have q17_15 : b8 < w17.heap.size + 1 := by omega
              have q17_16 : ¬ (w.heap.size + 1 + 1 = w17.heap.size) := by omega
              have q17_17 : ¬ (w17.heap.size = w.heap.size + 1 + 1) := by omega
              have q17_18 : w.heap.size + 1 + 1 < w17.heap.size := by omega
              have q17_19 : w.heap.size + 1 + 1 < w17.heap.size + 1 := by omega
              have q17_20 : ¬ (w.heap.size + 1 = w17.heap.size) := by omega
              have q17_21 : ¬ (w17.heap.size = w.heap.size + 1) := by omega
              have q17_22 : w.heap.size + 1 < w17.heap.size := by omega
              have q17_23 : w.heap.size + 1 < w17.heap.size + 1 := by omega
              have q17_24 : ¬ (w.heap.size = w17.heap.size) := by omega
              have q17_25 : ¬ (w17.heap.size = w.heap.size) := by omega
              have q17_26 : w.heap.size < w17.heap.size := by omega
              have q17_27 : w.heap.size < w17.heap.size + 1 := by omega
              have q17_28 : ¬ (w11.heap.size = w12.heap.size) := by omega
              have q17_29 : ¬ (w12.heap.size = w11.heap.size) := by omega
              have q17_30 : ¬ (w11.heap.size = b9) := by omega
              have q17_31 : ¬ (b9 = w11.heap.size) := by omega
              have q17_32 : ¬ (w11.heap.size = b8) := by omega
              have q17_33 : ¬ (b8 = w11.heap.size) := by omega
              have q17_34 : ¬ (w11.heap.size = w.heap.size + 1 + 1) := by omega
              have q17_35 : ¬ (w.heap.size + 1 + 1 = w11.heap.size) := by omega
              have q17_36 : ¬ (w11.heap.size = w.heap.size + 1) := by omega
              have q17_37 : ¬ (w.heap.size + 1 = w11.heap.size) := by omega
              have q17_38 : ¬ (w11.heap.size = w.heap.size) := by omega
              have q17_39 : ¬ (w.heap.size = w11.heap.size) := by omega
              have q17_40 : ¬ (w12.heap.size = b9) := by omega
              have q17_41 : ¬ (b9 = w12.heap.size) := by omega
              have q17_42 : ¬ (w12.heap.size = b8) := by omega
              have q17_43 : ¬ (b8 = w12.heap.size) := by omega
              have q17_44 : ¬ (w12.heap.size = w.heap.size + 1 + 1) := by omega
              have q17_45 : ¬ (w.heap.size + 1 + 1 = w12.heap.size) := by omega
              have q17_46 : ¬ (w12.heap.size = w.heap.size + 1) := by omega
              have q17_47 : ¬ (w.heap.size + 1 = w12.heap.size) := by omega
              have q17_48 : ¬ (w12.heap.size = w.heap.size) := by omega
              have q17_49 : ¬ (w.heap.size = w12.heap.size) := by omega
              go_wp2_with fail
              refine (refr_any ⟨c0, c1, c2, c3, c4, c5⟩ ⟨g0, g1, g2, g3, g4, g5⟩ a b _).mono ?_
              rintro r w18 ⟨rfl, hb⟩
              rw [E6.out]
              unfold retF
              dsimp only
              have H18 : Ho w w18 (w10.heap.size) [(b9, [.int .i64 g0, .int .i64 g1, .int .i64 g2, .int .i64 g3, .int .i64 g4, .int .i64 g5]), (b8, [.int .i64 c0, .int .i64 c1, .int .i64 c2, .int .i64 c3, .int .i64 c4, .int .i64 c5]), (w.heap.size + 1 + 1, [.int .i64 a, .int .i64 b, .int .u32 k0, .int .u32 k1, .int .u32 k2, .int .u32 k3, .int .u32 k4, .int .u32 k5]), (w.heap.size + 1, [.int .i64 t.a, .int .i64 t.b, .int .i64 t.c, .int .i64 t.d, .int .i64 t.e, .int .i64 t.f]), (w.heap.size, [.int .i64 s.a, .int .i64 s.b, .int .i64 s.c, .int .i64 s.d, .int .i64 s.e, .int .i64 s.f])] := Ho.call (by
                (repeat (first | with_reducible exact H17 | with_reducible refine Ho.alc ?_ _ | with_reducible refine Ho.drew ?_ | with_reducible refine Ho.put ?_ (by omega)))) hb
              have P_18 : Bx w18 (w11.heap.size) [.int .i64 x0, .int .i64 x1, .int .i64 x2, .int .i64 x3, .int .i64 x4, .int .i64 x5] := Bx.kept (by
                (repeat (first | with_reducible exact P_17 | with_reducible apply Bx.put6 | with_reducible refine Bx.alc ?_ _ | with_reducible refine Bx.set ?_ (by omega)))) hb
              have Q_18 : Bx w18 (w12.heap.size) [.int .i64 q0, .int .i64 q1, .int .i64 q2, .int .i64 q3, .int .i64 q4, .int .i64 q5] := Bx.kept (by
                (repeat (first | with_reducible exact Q_17 | with_reducible refine Bx.alc ?_ _ | with_reducible refine Bx.set ?_ (by omega)))) hb
              have A_18 : Bx w18 (w17.heap.size) [.int .i64 y0, .int .i64 y1] := Bx.kept (by
                (repeat (first | with_reducible exact Bx.new (by simp) | with_reducible apply Bx.put2 | with_reducible refine Bx.alc ?_ _ | with_reducible refine Bx.set ?_ (by omega)))) hb
              have B_18 : Bx w18 (w17.heap.size + 1) [.int .i64 y2, .int .i64 y3] := Bx.kept (by
                (repeat (first | with_reducible exact Bx.new (by simp) | with_reducible apply Bx.put2 | with_reducible refine Bx.alc ?_ _ | with_reducible refine Bx.set ?_ (by omega)))) hb
              clear hb h2_17 h0_17 h1_17 P_17c P_17f Q_17c Q_17f q17_0 q17_1 q17_2 q17_3 q17_4 q17_5 q17_6 q17_7 q17_8 q17_9 q17_10 q17_11 q17_12 q17_13 q17_14 q17_15 q17_16 q17_17 q17_18 q17_19 q17_20 q17_21 q17_22 q17_23 q17_24 q17_25 q17_26 q17_27 q17_28 q17_29 q17_30 q17_31 q17_32 q17_33 q17_34 q17_35 q17_36 q17_37 q17_38 q17_39 q17_40 q17_41 q17_42 q17_43 q17_44 q17_45 q17_46 q17_47 q17_48 q17_49
              have hs18 := H18.size
              have P_18c := P_18.c
              have P_18f := P_18.f
              have P_18l := P_18.lt
              have Q_18c := Q_18.c
              have Q_18f := Q_18.f
              have Q_18l := Q_18.lt
              have A_18c := A_18.c
              have A_18f := A_18.f
              have A_18l := A_18.lt
              have B_18c := B_18.c
              have B_18f := B_18.f
              have B_18l := B_18.lt
              have q18_0 : ¬ (w11.heap.size = w18.heap.size) := by omega
              have q18_1 : ¬ (w18.heap.size = w11.heap.size) := by omega
              have q18_2 : ¬ (w11.heap.size = w18.heap.size + 1) := by omega
              have q18_3 : ¬ (w18.heap.size + 1 = w11.heap.size) := by omega
              have q18_4 : w11.heap.size < w18.heap.size := by omega
              have q18_5 : w11.heap.size < w18.heap.size + 1 := by omega
              have q18_6 : w11.heap.size < w18.heap.size + 1 + 1 := by omega
              have q18_7 : ¬ (w12.heap.size = w18.heap.size) := by omega
              have q18_8 : ¬ (w18.heap.size = w12.heap.size) := by omega
              have q18_9 : ¬ (w12.heap.size = w18.heap.size + 1) := by omega
              have q18_10 : ¬ (w18.heap.size + 1 = w12.heap.size) := by omega
              have q18_11 : w12.heap.size < w18.heap.size := by omega
              have q18_12 : w12.heap.size < w18.heap.size + 1 := by omega
              have q18_13 : w12.heap.size < w18.heap.size + 1 + 1 := by omega
              have q18_14 : ¬ (w17.heap.size = w18.heap.size) := by omega
              have q18_15 : ¬ (w18.heap.size = w17.heap.size) := by omega
              have q18_16 : ¬ (w17.heap.size = w18.heap.size + 1) := by omega
              have q18_17 : ¬ (w18.heap.size + 1 = w17.heap.size) := by omega
              have q18_18 : w17.heap.size < w18.heap.size := by omega
              have q18_19 : w17.heap.size < w18.heap.size + 1 := by omega
              have q18_20 : w17.heap.size < w18.heap.size + 1 + 1 := by omega
              have q18_21 : ¬ (w17.heap.size + 1 = w18.heap.size) := by omega
              have q18_22 : ¬ (w18.heap.size = w17.heap.size + 1) := by omega
              have q18_23 : ¬ (w17.heap.size + 1 = w18.heap.size + 1) := by omega
              have q18_24 : ¬ (w18.heap.size + 1 = w17.heap.size + 1) := by omega
              have q18_25 : w17.heap.size + 1 < w18.heap.size := by omega
              have q18_26 : w17.heap.size + 1 < w18.heap.size + 1 := by omega
              have q18_27 : w17.heap.size + 1 < w18.heap.size + 1 + 1 := by omega
              have q18_28 : ¬ (b9 = w18.heap.size) := by omega
              have q18_29 : ¬ (w18.heap.size = b9) := by omega
              have q18_30 : ¬ (b9 = w18.heap.size + 1) := by omega
              have q18_31 : ¬ (w18.heap.size + 1 = b9) := by omega
              have q18_32 : b9 < w18.heap.size := by omega
              have q18_33 : b9 < w18.heap.size + 1 := by omega
              have q18_34 : b9 < w18.heap.size + 1 + 1 := by omega
              have q18_35 : ¬ (b8 = w18.heap.size) := by omega
              have q18_36 : ¬ (w18.heap.size = b8) := by omega
              have q18_37 : ¬ (b8 = w18.heap.size + 1) := by omega
              have q18_38 : ¬ (w18.heap.size + 1 = b8) := by omega
              have q18_39 : b8 < w18.heap.size := by omega
              have q18_40 : b8 < w18.heap.size + 1 := by omega
              have q18_41 : b8 < w18.heap.size + 1 + 1 := by omega
              have q18_42 : ¬ (w.heap.size + 1 + 1 = w18.heap.size) := by omega
              have q18_43 : ¬ (w18.heap.size = w.heap.size + 1 + 1) := by omega
              have q18_44 : ¬ (w.heap.size + 1 + 1 = w18.heap.size + 1) := by omega
              have q18_45 : ¬ (w18.heap.size + 1 = w.heap.size + 1 + 1) := by omega
              have q18_46 : w.heap.size + 1 + 1 < w18.heap.size := by omega
              have q18_47 : w.heap.size + 1 + 1 < w18.heap.size + 1 := by omega
              have q18_48 : w.heap.size + 1 + 1 < w18.heap.size + 1 + 1 := by omega
              have q18_49 : ¬ (w.heap.size + 1 = w18.heap.size) := by omega
              have q18_50 : ¬ (w18.heap.size = w.heap.size + 1) := by omega
              have q18_51 : ¬ (w.heap.size + 1 = w18.heap.size + 1) := by omega
              have q18_52 : ¬ (w18.heap.size + 1 = w.heap.size + 1) := by omega
              have q18_53 : w.heap.size + 1 < w18.heap.size := by omega
              have q18_54 : w.heap.size + 1 < w18.heap.size + 1 := by omega
              have q18_55 : w.heap.size + 1 < w18.heap.size + 1 + 1 := by omega
              have q18_56 : ¬ (w.heap.size = w18.heap.size) := by omega
              have q18_57 : ¬ (w18.heap.size = w.heap.size) := by omega
              have q18_58 : ¬ (w.heap.size = w18.heap.size + 1) := by omega
              have q18_59 : ¬ (w18.heap.size + 1 = w.heap.size) := by omega
              have q18_60 : w.heap.size < w18.heap.size := by omega
              have q18_61 : w.heap.size < w18.heap.size + 1 := by omega
              have q18_62 : w.heap.size < w18.heap.size + 1 + 1 := by omega
              have q18_63 : ¬ (w11.heap.size = w12.heap.size) := by omega
              have q18_64 : ¬ (w12.heap.size = w11.heap.size) := by omega
              have q18_65 : ¬ (w11.heap.size = w17.heap.size) := by omega
              have q18_66 : ¬ (w17.heap.size = w11.heap.size) := by omega
              have q18_67 : ¬ (w11.heap.size = w17.heap.size + 1) := by omega
              have q18_68 : ¬ (w17.heap.size + 1 = w11.heap.size) := by omega
              have q18_69 : ¬ (w11.heap.size = b9) := by omega
              have q18_70 : ¬ (b9 = w11.heap.size) := by omega
              have q18_71 : ¬ (w11.heap.size = b8) := by omega
              have q18_72 : ¬ (b8 = w11.heap.size) := by omega
              have q18_73 : ¬ (w11.heap.size = w.heap.size + 1 + 1) := by omega
              have q18_74 : ¬ (w.heap.size + 1 + 1 = w11.heap.size) := by omega
              have q18_75 : ¬ (w11.heap.size = w.heap.size + 1) := by omega
              have q18_76 : ¬ (w.heap.size + 1 = w11.heap.size) := by omega
              have q18_77 : ¬ (w11.heap.size = w.heap.size) := by omega
              have q18_78 : ¬ (w.heap.size = w11.heap.size) := by omega
              have q18_79 : ¬ (w12.heap.size = w17.heap.size) := by omega
              have q18_80 : ¬ (w17.heap.size = w12.heap.size) := by omega
              have q18_81 : ¬ (w12.heap.size = w17.heap.size + 1) := by omega
              have q18_82 : ¬ (w17.heap.size + 1 = w12.heap.size) := by omega
              have q18_83 : ¬ (w12.heap.size = b9) := by omega
              have q18_84 : ¬ (b9 = w12.heap.size) := by omega
              have q18_85 : ¬ (w12.heap.size = b8) := by omega
              have q18_86 : ¬ (b8 = w12.heap.size) := by omega
              have q18_87 : ¬ (w12.heap.size = w.heap.size + 1 + 1) := by omega
              have q18_88 : ¬ (w.heap.size + 1 + 1 = w12.heap.size) := by omega
              have q18_89 : ¬ (w12.heap.size = w.heap.size + 1) := by omega
              have q18_90 : ¬ (w.heap.size + 1 = w12.heap.size) := by omega
              have q18_91 : ¬ (w12.heap.size = w.heap.size) := by omega
              have q18_92 : ¬ (w.heap.size = w12.heap.size) := by omega
              have q18_93 : ¬ (w17.heap.size = w17.heap.size + 1) := by omega
              have q18_94 : ¬ (w17.heap.size + 1 = w17.heap.size) := by omega
              have q18_95 : ¬ (w17.heap.size = b9) := by omega
              have q18_96 : ¬ (b9 = w17.heap.size) := by omega
              have q18_97 : ¬ (w17.heap.size = b8) := by omega
              have q18_98 : ¬ (b8 = w17.heap.size) := by omega
              have q18_99 : ¬ (w17.heap.size = w.heap.size + 1 + 1) := by omega
              have q18_100 : ¬ (w.heap.size + 1 + 1 = w17.heap.size) := by omega
              have q18_101 : ¬ (w17.heap.size = w.heap.size + 1) := by omega
              have q18_102 : ¬ (w.heap.size + 1 = w17.heap.size) := by omega
              have q18_103 : ¬ (w17.heap.size = w.heap.size) := by omega
              have q18_104 : ¬ (w.heap.size = w17.heap.size) := by omega
              have q18_105 : ¬ (w17.heap.size + 1 = b9) := by omega
              have q18_106 : ¬ (b9 = w17.heap.size + 1) := by omega
              have q18_107 : ¬ (w17.heap.size + 1 = b8) := by omega
              have q18_108 : ¬ (b8 = w17.heap.size + 1) := by omega
              have q18_109 : ¬ (w17.heap.size + 1 = w.heap.size + 1 + 1) := by omega
              have q18_110 : ¬ (w.heap.size + 1 + 1 = w17.heap.size + 1) := by omega
              have q18_111 : ¬ (w17.heap.size + 1 = w.heap.size + 1) := by omega
              have q18_112 : ¬ (w.heap.size + 1 = w17.heap.size + 1) := by omega
              have q18_113 : ¬ (w17.heap.size + 1 = w.heap.size) := by omega
              have q18_114 : ¬ (w.heap.size = w17.heap.size + 1) := by omega
              by_cases he : e3 = 0
              · subst he
                obtain ⟨n1, n2, n3, n4⟩ := G3'.out rfl
                subst n1
                have N2 := Lib.hid n2
                have N3 := Lib.hid n3
                have N4 := Lib.hid n4
                clear n2 n3 n4
                go_wp2_with fail
                refine (dinside_any ⟨z0, z1, z2, z3, z4, z5⟩ ⟨x0, x1, x2, x3, x4, x5⟩ _).mono ?_
                rintro r w19 ⟨rfl, hb⟩
                rw [N2.out]
                have H19 : Ho w w19 (w10.heap.size) [(b9, [.int .i64 g0, .int .i64 g1, .int .i64 g2, .int .i64 g3, .int .i64 g4, .int .i64 g5]), (b8, [.int .i64 c0, .int .i64 c1, .int .i64 c2, .int .i64 c3, .int .i64 c4, .int .i64 c5]), (w.heap.size + 1 + 1, [.int .i64 a, .int .i64 b, .int .u32 k0, .int .u32 k1, .int .u32 k2, .int .u32 k3, .int .u32 k4, .int .u32 k5]), (w.heap.size + 1, [.int .i64 t.a, .int .i64 t.b, .int .i64 t.c, .int .i64 t.d, .int .i64 t.e, .int .i64 t.f]), (w.heap.size, [.int .i64 s.a, .int .i64 s.b, .int .i64 s.c, .int .i64 s.d, .int .i64 s.e, .int .i64 s.f])] := Ho.call (by
                  (repeat (first | with_reducible exact H18 | with_reducible refine Ho.alc ?_ _ | with_reducible refine Ho.drew ?_ | with_reducible refine Ho.put ?_ (by omega)))) hb
                have A_19 : Bx w19 (w17.heap.size) [.int .i64 y0, .int .i64 y1] := Bx.kept (by
                  (repeat (first | with_reducible exact A_18 | with_reducible refine Bx.alc ?_ _ | with_reducible refine Bx.drew ?_ | with_reducible refine Bx.set ?_ (by omega)))) hb
                have B_19 : Bx w19 (w17.heap.size + 1) [.int .i64 y2, .int .i64 y3] := Bx.kept (by
                  (repeat (first | with_reducible exact B_18 | with_reducible refine Bx.alc ?_ _ | with_reducible refine Bx.drew ?_ | with_reducible refine Bx.set ?_ (by omega)))) hb
                have C_19 : Bx w19 (w18.heap.size) [.int .i64 v0, .int .i64 v1] := Bx.kept (by
                  (repeat (first | with_reducible exact Bx.new (by simp) | with_reducible apply Bx.put2 | with_reducible refine Bx.alc ?_ _ | with_reducible refine Bx.set ?_ (by omega)))) hb
                have D_19 : Bx w19 (w18.heap.size + 1) [.int .i64 v2, .int .i64 v3] := Bx.kept (by
                  (repeat (first | with_reducible exact Bx.new (by simp) | with_reducible apply Bx.put2 | with_reducible refine Bx.alc ?_ _ | with_reducible refine Bx.set ?_ (by omega)))) hb
                clear hb P_18c P_18f Q_18c Q_18f A_18c A_18f B_18c B_18f q18_0 q18_1 q18_2 q18_3 q18_4 q18_5 q18_6 q18_7 q18_8 q18_9 q18_10 q18_11 q18_12 q18_13 q18_14 q18_15 q18_16 q18_17 q18_18 q18_19 q18_20 q18_21 q18_22 q18_23 q18_24 q18_25 q18_26 q18_27 q18_28 q18_29 q18_30 q18_31 q18_32 q18_33 q18_34 q18_35 q18_36 q18_37 q18_38 q18_39 q18_40 q18_41 q18_42 q18_43 q18_44 q18_45 q18_46 q18_47 q18_48 q18_49 q18_50 q18_51 q18_52 q18_53 q18_54 q18_55 q18_56 q18_57 q18_58 q18_59 q18_60 q18_61 q18_62 q18_63 q18_64 q18_65 q18_66 q18_67 q18_68 q18_69 q18_70 q18_71 q18_72 q18_73 q18_74 q18_75 q18_76 q18_77 q18_78 q18_79 q18_80 q18_81 q18_82 q18_83 q18_84 q18_85 q18_86 q18_87 q18_88 q18_89 q18_90 q18_91 q18_92 q18_93 q18_94 q18_95 q18_96 q18_97 q18_98 q18_99 q18_100 q18_101 q18_102 q18_103 q18_104 q18_105 q18_106 q18_107 q18_108 q18_109 q18_110 q18_111 q18_112 q18_113 q18_114
                have A_19c := A_19.c
                have C_19c := C_19.c
                go_wp2_with fail
                refine (rins_any v0 v1 y0 y1 _ N3.out.v' N3.out.v N3.out.l N3.out.r).mono ?_
                rintro r w20 ⟨rfl, hb⟩
                have H20 := H19.call hb
                have B_20c := (B_19.kept hb).c
                have D_20c := (D_19.kept hb).c
                clear hb A_19c C_19c
                go_wp2_with fail
                refine (rins_any v2 v3 y2 y3 _ N4.out.v' N4.out.v N4.out.l N4.out.r).mono ?_
                rintro r w21 ⟨rfl, hb⟩
                have H21 := H20.call hb
                clear hb B_20c D_20c
                go_wp2_with fail
                go_ret
                exact ⟨rfl, H21.below⟩
              · have he' : (e3 != 0) = true := by simpa using he
                go_wp2_with fail
                go_ret
                exact ⟨rfl, by
                  refine Ho.below (n := w10.heap.size) (l := [(b9, [.int .i64 g0, .int .i64 g1, .int .i64 g2, .int .i64 g3, .int .i64 g4, .int .i64 g5]), (b8, [.int .i64 c0, .int .i64 c1, .int .i64 c2, .int .i64 c3, .int .i64 c4, .int .i64 c5]), (w.heap.size + 1 + 1, [.int .i64 a, .int .i64 b, .int .u32 k0, .int .u32 k1, .int .u32 k2, .int .u32 k3, .int .u32 k4, .int .u32 k5]), (w.heap.size + 1, [.int .i64 t.a, .int .i64 t.b, .int .i64 t.c, .int .i64 t.d, .int .i64 t.e, .int .i64 t.f]), (w.heap.size, [.int .i64 s.a, .int .i64 s.b, .int .i64 s.c, .int .i64 s.d, .int .i64 s.e, .int .i64 s.f])]) ?_
                  (repeat (first | with_reducible exact H18 | with_reducible refine Ho.alc ?_ _ | with_reducible refine Ho.drew ?_ | with_reducible refine Ho.put ?_ (by omega)))⟩
end Go.Proofs.Ytjppcndhaejfpaa.Iv
