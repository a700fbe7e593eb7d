/- Contracts of the reference's Radicand and Decide. -/
import Derived.Test.YtjppcndhaejfpaaRd0
import Derived.Test.YtjppcndhaejfpaaDrb
namespace Go.Proofs.Ytjppcndhaejfpaa.Iv
open Go.RowKit

theorem sub_err {a b c d : Int} (h : ¬ (subR a b c d).e = 0) : subR a b c d = ⟨0, 0, (subR a b c d).e⟩ := by
  unfold subR at h ⊢
  split
  · rename_i v
    rw [if_pos v] at h
    unfold withinR at h ⊢
    split
    · rfl
    · rename_i n; rw [if_neg n] at h; exact absurd rfl h
  · rfl
theorem keep_rad (a b x y : Int) (r1 r2 r3 r4 r5 : R) (h1 : sqR x y = r1) (h2 : sqR a b = r2) (h3 : subR 16777216 16777216 r2.lo r2.hi = r3) (h4 : mulR r1.lo r1.hi r3.lo r3.hi = r4) (h5 : subR 16777216 16777216 r4.lo r4.hi = r5) :
    onlE (keepE (keepE (keepE (keepE (keepE 0 r1.e) r2.e) r3.e) r4.e) r5.e) r5.lo r5.hi = radG a b x y := by
  unfold radG onlE keepE
  simp only [h1, h2]
  by_cases c1 : r1.e = 0
  · rw [goOn0]
    by_cases c2 : r2.e = 0
    · simp only [c1, goOn0, c2, h3]
      by_cases c3 : r3.e = 0
      · simp only [c3, goOn0, h4]
        by_cases c4 : r4.e = 0
        · simp only [c4, goOn0, h5]
          by_cases c5 : r5.e = 0
          · obtain ⟨u, v, e⟩ := r5
            dsimp only at c5 ⊢
            subst c5
            simp
          · have := sub_err (a := 16777216) (b := 16777216) (c := r4.lo) (d := r4.hi) (by rw [h5]; exact c5)
            rw [h5] at this
            obtain ⟨u, v, e⟩ := r5
            dsimp only at c5 this ⊢
            injection this with hu hv _
            subst hu hv
            simp
            intro h
            exact h.symm
        · simp [c4, goOn]
      · simp [c3, goOn]
    · simp [c1, c2, goOn]
  · simp [c1, goOn]
structure Rq (a b x y p1 q1 p2 q2 p3 q3 p4 q4 p5 q5 E1 E2 E3 E4 E5 : Int) (nb cb c : Nat) (w0 w : World) (l0 l1 l2 l3 l4 l5 l6 l7 l8 l9 l10 l11 l12 l13 : Bool) (v0 v1 v2 v3 v4 v5 v6 v7 v8 v9 v10 v11 v12 : Value) (b12 : Nat) : Prop where
  g : Ho w0 w (nb + 1 + 1) [(nb + 1, [.int .i64 x, .int .i64 y]), (nb, [.int .i64 a, .int .i64 b])]
  sz : (cb + 1) ≤ w.heap.size
  mn : (nb + 1 + 1) ≤ (cb + 1)
  u0 : Bx w (nb + 1 + 1) [.int .i64 0, .int .i64 0]
  un0 : (nb + 1 + 1) < (cb + 1)
  uc0 : ¬ ((nb + 1 + 1) = c)
  u1 : Bx w cb [.int .i64 p1, .int .i64 q1]
  un1 : cb < (cb + 1)
  uc1 : ¬ (cb = c)
  mc : (nb + 1 + 1) ≤ c
  cn : c < (cb + 1)
  q9 : l9 = true → l8 = true
  q10 : l10 = true → l9 = true
  q11 : l11 = true → l10 = true
  k0 : l8 = false → Ce w c E1
  k1 : l8 = true → l9 = false → Ce w c E2
  k2 : l9 = true → l10 = false → Ce w c E3
  k3 : l10 = true → l11 = false → Ce w c E4
  k4 : l11 = true → Ce w c E5
  e0 : l0 = true → v0 = .pointer (some ⟨c, 0, none⟩)
  e1 : l1 = true → v1 = (iv 16777216 16777216)
  e2 : l2 = true → v2 = .pointer (some ⟨c, 0, none⟩)
  e3 : l3 = true → v3 = (iv p1 q1)
  e4 : l4 = true → v4 = .pointer (some ⟨c, 0, none⟩)
  e5 : l5 = true → v5 = (iv 16777216 16777216)
  e6 : l6 = true → v6 = .pointer (some ⟨c, 0, none⟩)
  e7 : l7 = true → v7 = (iv a b)
  e8 : l8 = true → v8 = (iv p2 q2)
  e9 : l9 = true → v9 = (iv p3 q3)
  e10 : l10 = true → v10 = (iv p4 q4)
  e11 : l11 = true → v11 = (iv p5 q5)
  e12 : l12 = true → v12 = .pointer (some ⟨b12, 0, none⟩)
  g12 : l12 = true → (cb + 1) ≤ b12
  t12 : l12 = true → b12 < w.heap.size
  o12 : l13 = true → l12 = true
  z12 : l12 = true → l13 = false → Bx w b12 [.int .i64 0, .int .i64 0]
  s12 : l13 = true → Bx w b12 [.int .i64 p5, .int .i64 q5]
theorem Rq.kept {a b x y p1 q1 p2 q2 p3 q3 p4 q4 p5 q5 E1 E2 E3 E4 E5 : Int} {nb cb c : Nat} {w0 w : World} {l0 l1 l2 l3 l4 l5 l6 l7 l8 l9 l10 l11 l12 l13 : Bool} {v0 v1 v2 v3 v4 v5 v6 v7 v8 v9 v10 v11 v12 : Value} {b12 : Nat} {w' : World} (h : Rq a b x y p1 q1 p2 q2 p3 q3 p4 q4 p5 q5 E1 E2 E3 E4 E5 nb cb c w0 w l0 l1 l2 l3 l4 l5 l6 l7 l8 l9 l10 l11 l12 l13 v0 v1 v2 v3 v4 v5 v6 v7 v8 v9 v10 v11 v12 b12) (hb : Below w.heap.size w w') : Rq a b x y p1 q1 p2 q2 p3 q3 p4 q4 p5 q5 E1 E2 E3 E4 E5 nb cb c w0 w' l0 l1 l2 l3 l4 l5 l6 l7 l8 l9 l10 l11 l12 l13 v0 v1 v2 v3 v4 v5 v6 v7 v8 v9 v10 v11 v12 b12 :=
  { h with g := h.g.call hb, sz := Nat.le_trans h.sz hb.size, u0 := h.u0.kept hb, u1 := h.u1.kept hb, k0 := fun p0 => (h.k0 p0).kept hb, k1 := fun p0 p1 => (h.k1 p0 p1).kept hb, k2 := fun p0 p1 => (h.k2 p0 p1).kept hb, k3 := fun p0 p1 => (h.k3 p0 p1).kept hb, k4 := fun p0 => (h.k4 p0).kept hb, t12 := fun p => Nat.lt_of_lt_of_le (h.t12 p) hb.size, z12 := fun p q => (h.z12 p q).kept hb, s12 := fun p => (h.s12 p).kept hb }
def Rq.I (a b x y p1 q1 p2 q2 p3 q3 p4 q4 p5 q5 E1 E2 E3 E4 E5 : Int) (nb cb c : Nat) (w0 : World) : Act → Array Bool → Act → World → Prop := fun aO LX aX w => ∃ (l0 l1 l2 l3 l4 l5 l6 l7 l8 l9 l10 l11 l12 l13 : Bool) (v0 v1 v2 v3 v4 v5 v6 v7 v8 v9 v10 v11 v12 : Value) (b12 : Nat), LX = #[l0, l1, l2, l3, l4, l5, l6, l7, l8, l9, l10, l11, l12, l13] ∧ aX = (((((((((((((aO.put (some 23) v0).put (some 24) v1).put (some 25) v2).put (some 26) v3).put (some 27) v4).put (some 28) v5).put (some 29) v6).put (some 30) v7).put (some 31) v8).put (some 32) v9).put (some 33) v10).put (some 34) v11).put (some 8) v12) ∧ Rq a b x y p1 q1 p2 q2 p3 q3 p4 q4 p5 q5 E1 E2 E3 E4 E5 nb cb c w0 w l0 l1 l2 l3 l4 l5 l6 l7 l8 l9 l10 l11 l12 l13 v0 v1 v2 v3 v4 v5 v6 v7 v8 v9 v10 v11 v12 b12
set_option maxRecDepth 100000 in
set_option maxHeartbeats 8000000 in
theorem rfrad_any (a b x y : Int) (w : World) :
    Calls Try.prog 13 #[iv a b, iv x y] w fun e w' => e = retR (radR a b x y) ∧ Below w.heap.size w w' := by
  cases hs : vB a b
  · rw [show radR a b x y = ⟨0, 0, 1⟩ from if_neg (by rw [hs]; simp)]
    have VS := Lib.hid hs
    clear hs
    have H0 := (((Ho.nil w).bx [.int .i64 a, .int .i64 b] 23 (w.heap.size) (by simp)).bx [.int .i64 x, .int .i64 y] 23 (w.heap.size + 1) (by simp))
    have o_0 : Bx (((w.alloc (.cells (List.toArray [.int .i64 a, .int .i64 b]) 23)).alloc (.cells (List.toArray [.int .i64 x, .int .i64 y]) 23)).alloc (.cells (List.toArray [.int .i64 0, .int .i64 0]) 23)) (w.heap.size + 1 + 1) [.int .i64 0, .int .i64 0] := by
      (repeat (first | with_reducible exact Bx.new (by simp) | with_reducible apply Bx.put6 | with_reducible apply Bx.put2 | with_reducible apply Bx.put1 | with_reducible refine Bx.set ?_ (by omega) | with_reducible refine Bx.alc ?_ _ | with_reducible refine Bx.drew ?_))
    go_enter Try.func13, Try.ntmps13
    have o_0c := o_0.c
    have o_0f := o_0.f
    go_wp2_with fail
    refine (rvalid_below a b _).mono ?_
    rintro r w1 ⟨rfl, hb⟩
    rw [VS.out]
    have H1 : Ho w w1 (w.heap.size + 1 + 1) [(w.heap.size + 1, [.int .i64 x, .int .i64 y]), (w.heap.size, [.int .i64 a, .int .i64 b])] := Ho.call (by
      (repeat (first | with_reducible exact H0 | with_reducible refine Ho.alc ?_ _ | with_reducible refine Ho.drew ?_ | with_reducible refine Ho.put ?_ (by omega)))) hb
    have o_1 : Bx w1 (w.heap.size + 1 + 1) [.int .i64 0, .int .i64 0] := Bx.kept (by
      (repeat (first | with_reducible exact o_0 | with_reducible refine Bx.alc ?_ _ | with_reducible refine Bx.drew ?_ | with_reducible refine Bx.set ?_ (by omega)))) hb
    clear o_0c o_0f
    have hs1 := H1.size
    have hz1 := hb.size
    (try simp at hz1)
    clear hb
    have h0_1 := (H1.at 1 rfl).c
    have h1_1 := (H1.at 0 rfl).c
    have o_1c := o_1.c
    have o_1f := o_1.f
    have o_1l := o_1.lt
    have q1_0 : ¬ (w.heap.size + 1 + 1 = w1.heap.size) := by omega
    have q1_1 : ¬ (w1.heap.size = w.heap.size + 1 + 1) := by omega
    have q1_2 : w.heap.size + 1 + 1 < w1.heap.size := by omega
    have q1_3 : w.heap.size + 1 + 1 < w1.heap.size + 1 := by omega
    have q1_4 : ¬ (w.heap.size = w1.heap.size) := by omega
    have q1_5 : ¬ (w1.heap.size = w.heap.size) := by omega
    have q1_6 : w.heap.size < w1.heap.size := by omega
    have q1_7 : w.heap.size < w1.heap.size + 1 := by omega
    have q1_8 : ¬ (w.heap.size + 1 = w1.heap.size) := by omega
    have q1_9 : ¬ (w1.heap.size = w.heap.size + 1) := by omega
    have q1_10 : w.heap.size + 1 < w1.heap.size := by omega
    have q1_11 : w.heap.size + 1 < w1.heap.size + 1 := by omega
    have q1_12 : ¬ (w.heap.size + 1 + 1 = w.heap.size) := by omega
    have q1_13 : ¬ (w.heap.size = w.heap.size + 1 + 1) := by omega
    have q1_14 : ¬ (w.heap.size + 1 + 1 = w.heap.size + 1) := by omega
    have q1_15 : ¬ (w.heap.size + 1 = w.heap.size + 1 + 1) := by omega
    go_wp2_with fail
    refine bodyPost_box (b := w.heap.size + 1 + 1) (cs := [.int .i64 0, .int .i64 0]) (v := .tuple #[iv 0 0, .int .i64 1]) (by
      (repeat (first | with_reducible exact o_1 | with_reducible exact Bx.new (by simp) | with_reducible apply Bx.put6 | with_reducible apply Bx.put2 | with_reducible apply Bx.put1 | with_reducible refine Bx.set ?_ (by omega) | with_reducible refine Bx.alc ?_ _ | with_reducible refine Bx.drew ?_))) (fun X hX => by simp [results, Try.results13, go_sem, hX]) rfl ⟨rfl, by
      refine Ho.below (n := w.heap.size + 1 + 1) (l := [(w.heap.size + 1, [.int .i64 x, .int .i64 y]), (w.heap.size, [.int .i64 a, .int .i64 b])]) ?_
      (repeat (first | with_reducible exact H1 | with_reducible refine Ho.alc ?_ _ | with_reducible refine Ho.drew ?_ | with_reducible refine Ho.put ?_ (by omega)))⟩
  · cases ht : vB x y
    · rw [show radR a b x y = ⟨0, 0, 1⟩ from if_neg (by rw [ht]; simp)]
      have VS := Lib.hid hs
      have VT := Lib.hid ht
      clear hs ht
      have H0 := (((Ho.nil w).bx [.int .i64 a, .int .i64 b] 23 (w.heap.size) (by simp)).bx [.int .i64 x, .int .i64 y] 23 (w.heap.size + 1) (by simp))
      have o_0 : Bx (((w.alloc (.cells (List.toArray [.int .i64 a, .int .i64 b]) 23)).alloc (.cells (List.toArray [.int .i64 x, .int .i64 y]) 23)).alloc (.cells (List.toArray [.int .i64 0, .int .i64 0]) 23)) (w.heap.size + 1 + 1) [.int .i64 0, .int .i64 0] := by
        (repeat (first | with_reducible exact Bx.new (by simp) | with_reducible apply Bx.put6 | with_reducible apply Bx.put2 | with_reducible apply Bx.put1 | with_reducible refine Bx.set ?_ (by omega) | with_reducible refine Bx.alc ?_ _ | with_reducible refine Bx.drew ?_))
      go_enter Try.func13, Try.ntmps13
      have o_0c := o_0.c
      have o_0f := o_0.f
      go_wp2_with fail
      refine (rvalid_below a b _).mono ?_
      rintro r w1 ⟨rfl, hb⟩
      rw [VS.out]
      have H1 : Ho w w1 (w.heap.size + 1 + 1) [(w.heap.size + 1, [.int .i64 x, .int .i64 y]), (w.heap.size, [.int .i64 a, .int .i64 b])] := Ho.call (by
        (repeat (first | with_reducible exact H0 | with_reducible refine Ho.alc ?_ _ | with_reducible refine Ho.drew ?_ | with_reducible refine Ho.put ?_ (by omega)))) hb
      have o_1 : Bx w1 (w.heap.size + 1 + 1) [.int .i64 0, .int .i64 0] := Bx.kept (by
        (repeat (first | with_reducible exact o_0 | with_reducible refine Bx.alc ?_ _ | with_reducible refine Bx.drew ?_ | with_reducible refine Bx.set ?_ (by omega)))) hb
      clear o_0c o_0f
      have hs1 := H1.size
      have hz1 := hb.size
      (try simp at hz1)
      clear hb
      have h0_1 := (H1.at 1 rfl).c
      have h1_1 := (H1.at 0 rfl).c
      have o_1c := o_1.c
      have o_1f := o_1.f
      have o_1l := o_1.lt
      have q1_0 : ¬ (w.heap.size + 1 + 1 = w1.heap.size) := by omega
      have q1_1 : ¬ (w1.heap.size = w.heap.size + 1 + 1) := by omega
      have q1_2 : w.heap.size + 1 + 1 < w1.heap.size := by omega
      have q1_3 : w.heap.size + 1 + 1 < w1.heap.size + 1 := by omega
      have q1_4 : ¬ (w.heap.size = w1.heap.size) := by omega
      have q1_5 : ¬ (w1.heap.size = w.heap.size) := by omega
      have q1_6 : w.heap.size < w1.heap.size := by omega
      have q1_7 : w.heap.size < w1.heap.size + 1 := by omega
      have q1_8 : ¬ (w.heap.size + 1 = w1.heap.size) := by omega
      have q1_9 : ¬ (w1.heap.size = w.heap.size + 1) := by omega
      have q1_10 : w.heap.size + 1 < w1.heap.size := by omega
      have q1_11 : w.heap.size + 1 < w1.heap.size + 1 := by omega
      have q1_12 : ¬ (w.heap.size + 1 + 1 = w.heap.size) := by omega
      have q1_13 : ¬ (w.heap.size = w.heap.size + 1 + 1) := by omega
      have q1_14 : ¬ (w.heap.size + 1 + 1 = w.heap.size + 1) := by omega
      have q1_15 : ¬ (w.heap.size + 1 = w.heap.size + 1 + 1) := by omega
      go_wp2_with fail
      refine (rvalid_below x y _).mono ?_
      rintro r w2 ⟨rfl, hb⟩
      rw [VT.out]
      have H2 : Ho w w2 (w.heap.size + 1 + 1) [(w.heap.size + 1, [.int .i64 x, .int .i64 y]), (w.heap.size, [.int .i64 a, .int .i64 b])] := Ho.call (by
        (repeat (first | with_reducible exact H1 | with_reducible refine Ho.alc ?_ _ | with_reducible refine Ho.drew ?_ | with_reducible refine Ho.put ?_ (by omega)))) hb
      have o_2 : Bx w2 (w.heap.size + 1 + 1) [.int .i64 0, .int .i64 0] := Bx.kept (by
        (repeat (first | with_reducible exact o_1 | with_reducible refine Bx.alc ?_ _ | with_reducible refine Bx.drew ?_ | with_reducible refine Bx.set ?_ (by omega)))) hb
      clear h0_1 h1_1 o_1c o_1f q1_0 q1_1 q1_2 q1_3 q1_4 q1_5 q1_6 q1_7 q1_8 q1_9 q1_10 q1_11 q1_12 q1_13 q1_14 q1_15
      have hs2 := H2.size
      have hz2 := hb.size
      (try simp at hz2)
      clear hb
      have h0_2 := (H2.at 1 rfl).c
      have h1_2 := (H2.at 0 rfl).c
      have o_2c := o_2.c
      have o_2f := o_2.f
      have o_2l := o_2.lt
      have q2_0 : ¬ (w.heap.size + 1 + 1 = w2.heap.size) := by omega
      have q2_1 : ¬ (w2.heap.size = w.heap.size + 1 + 1) := by omega
      have q2_2 : w.heap.size + 1 + 1 < w2.heap.size := by omega
      have q2_3 : w.heap.size + 1 + 1 < w2.heap.size + 1 := by omega
      have q2_4 : ¬ (w.heap.size = w2.heap.size) := by omega
      have q2_5 : ¬ (w2.heap.size = w.heap.size) := by omega
      have q2_6 : w.heap.size < w2.heap.size := by omega
      have q2_7 : w.heap.size < w2.heap.size + 1 := by omega
      have q2_8 : ¬ (w.heap.size + 1 = w2.heap.size) := by omega
      have q2_9 : ¬ (w2.heap.size = w.heap.size + 1) := by omega
      have q2_10 : w.heap.size + 1 < w2.heap.size := by omega
      have q2_11 : w.heap.size + 1 < w2.heap.size + 1 := by omega
      have q2_12 : ¬ (w.heap.size + 1 + 1 = w.heap.size) := by omega
      have q2_13 : ¬ (w.heap.size = w.heap.size + 1 + 1) := by omega
      have q2_14 : ¬ (w.heap.size + 1 + 1 = w.heap.size + 1) := by omega
      have q2_15 : ¬ (w.heap.size + 1 = w.heap.size + 1 + 1) := by omega
      go_wp2_with fail
      refine bodyPost_box (b := w.heap.size + 1 + 1) (cs := [.int .i64 0, .int .i64 0]) (v := .tuple #[iv 0 0, .int .i64 1]) (by
        (repeat (first | with_reducible exact o_2 | with_reducible exact Bx.new (by simp) | with_reducible apply Bx.put6 | with_reducible apply Bx.put2 | with_reducible apply Bx.put1 | with_reducible refine Bx.set ?_ (by omega) | with_reducible refine Bx.alc ?_ _ | with_reducible refine Bx.drew ?_))) (fun X hX => by simp [results, Try.results13, go_sem, hX]) rfl ⟨rfl, by
        refine Ho.below (n := w.heap.size + 1 + 1) (l := [(w.heap.size + 1, [.int .i64 x, .int .i64 y]), (w.heap.size, [.int .i64 a, .int .i64 b])]) ?_
        (repeat (first | with_reducible exact H2 | with_reducible refine Ho.alc ?_ _ | with_reducible refine Ho.drew ?_ | with_reducible refine Ho.put ?_ (by omega)))⟩
    · obtain ⟨⟨p1, q1, f1⟩, h1⟩ : ∃ r : R, sqR x y = r := ⟨_, rfl⟩
      obtain ⟨⟨p2, q2, f2⟩, h2⟩ : ∃ r : R, sqR a b = r := ⟨_, rfl⟩
      obtain ⟨⟨p3, q3, f3⟩, h3⟩ : ∃ r : R, subR 16777216 16777216 p2 q2 = r := ⟨_, rfl⟩
      obtain ⟨⟨p4, q4, f4⟩, h4⟩ : ∃ r : R, mulR p1 q1 p3 q3 = r := ⟨_, rfl⟩
      obtain ⟨⟨p5, q5, f5⟩, h5⟩ : ∃ r : R, subR 16777216 16777216 p4 q4 = r := ⟨_, rfl⟩
      obtain ⟨E1, k1⟩ : ∃ E, keepE 0 f1 = E := ⟨_, rfl⟩
      obtain ⟨E2, k2⟩ : ∃ E, keepE E1 f2 = E := ⟨_, rfl⟩
      obtain ⟨E3, k3⟩ : ∃ E, keepE E2 f3 = E := ⟨_, rfl⟩
      obtain ⟨E4, k4⟩ : ∃ E, keepE E3 f4 = E := ⟨_, rfl⟩
      obtain ⟨E5, k5⟩ : ∃ E, keepE E4 f5 = E := ⟨_, rfl⟩
      have hk : onlE E5 p5 q5 = radR a b x y := by
        have := keep_rad a b x y ⟨p1, q1, f1⟩ ⟨p2, q2, f2⟩ ⟨p3, q3, f3⟩ ⟨p4, q4, f4⟩ ⟨p5, q5, f5⟩ h1 h2 h3 h4 h5
        dsimp only at this
        rw [k1, k2, k3, k4, k5] at this
        rw [this, radR, if_pos ⟨hs, ht⟩]
      rw [← hk]
      clear hk
      have X1 := Lib.hid h1
      have Y1 := Lib.hid k1
      have X2 := Lib.hid h2
      have Y2 := Lib.hid k2
      have X3 := Lib.hid h3
      have Y3 := Lib.hid k3
      have X4 := Lib.hid h4
      have Y4 := Lib.hid k4
      have X5 := Lib.hid h5
      have Y5 := Lib.hid k5
      clear h1 h2 h3 h4 h5 k1 k2 k3 k4 k5
      have VS := Lib.hid hs
      have VT := Lib.hid ht
      clear hs ht
      have H0 := (((Ho.nil w).bx [.int .i64 a, .int .i64 b] 23 (w.heap.size) (by simp)).bx [.int .i64 x, .int .i64 y] 23 (w.heap.size + 1) (by simp))
      have o_0 : Bx (((w.alloc (.cells (List.toArray [.int .i64 a, .int .i64 b]) 23)).alloc (.cells (List.toArray [.int .i64 x, .int .i64 y]) 23)).alloc (.cells (List.toArray [.int .i64 0, .int .i64 0]) 23)) (w.heap.size + 1 + 1) [.int .i64 0, .int .i64 0] := by
        (repeat (first | with_reducible exact Bx.new (by simp) | with_reducible apply Bx.put6 | with_reducible apply Bx.put2 | with_reducible apply Bx.put1 | with_reducible refine Bx.set ?_ (by omega) | with_reducible refine Bx.alc ?_ _ | with_reducible refine Bx.drew ?_))
      go_enter Try.func13, Try.ntmps13
      have o_0c := o_0.c
      have o_0f := o_0.f
      go_wp2_with fail
      refine (rvalid_below a b _).mono ?_
      rintro r w1 ⟨rfl, hb⟩
      rw [VS.out]
      have H1 : Ho w w1 (w.heap.size + 1 + 1) [(w.heap.size + 1, [.int .i64 x, .int .i64 y]), (w.heap.size, [.int .i64 a, .int .i64 b])] := Ho.call (by
        (repeat (first | with_reducible exact H0 | with_reducible refine Ho.alc ?_ _ | with_reducible refine Ho.drew ?_ | with_reducible refine Ho.put ?_ (by omega)))) hb
      have o_1 : Bx w1 (w.heap.size + 1 + 1) [.int .i64 0, .int .i64 0] := Bx.kept (by
        (repeat (first | with_reducible exact o_0 | with_reducible refine Bx.alc ?_ _ | with_reducible refine Bx.drew ?_ | with_reducible refine Bx.set ?_ (by omega)))) hb
      clear o_0c o_0f
      have hs1 := H1.size
      have hz1 := hb.size
      (try simp at hz1)
      clear hb
      have h0_1 := (H1.at 1 rfl).c
      have h1_1 := (H1.at 0 rfl).c
      have o_1c := o_1.c
      have o_1f := o_1.f
      have o_1l := o_1.lt
      have q1_0 : ¬ (w.heap.size + 1 + 1 = w1.heap.size) := by omega
      have q1_1 : ¬ (w1.heap.size = w.heap.size + 1 + 1) := by omega
      have q1_2 : w.heap.size + 1 + 1 < w1.heap.size := by omega
      have q1_3 : w.heap.size + 1 + 1 < w1.heap.size + 1 := by omega
      have q1_4 : ¬ (w.heap.size = w1.heap.size) := by omega
      have q1_5 : ¬ (w1.heap.size = w.heap.size) := by omega
      have q1_6 : w.heap.size < w1.heap.size := by omega
      have q1_7 : w.heap.size < w1.heap.size + 1 := by omega
      have q1_8 : ¬ (w.heap.size + 1 = w1.heap.size) := by omega
      have q1_9 : ¬ (w1.heap.size = w.heap.size + 1) := by omega
      have q1_10 : w.heap.size + 1 < w1.heap.size := by omega
      have q1_11 : w.heap.size + 1 < w1.heap.size + 1 := by omega
      have q1_12 : ¬ (w.heap.size + 1 + 1 = w.heap.size) := by omega
      have q1_13 : ¬ (w.heap.size = w.heap.size + 1 + 1) := by omega
      have q1_14 : ¬ (w.heap.size + 1 + 1 = w.heap.size + 1) := by omega
      have q1_15 : ¬ (w.heap.size + 1 = w.heap.size + 1 + 1) := by omega
      go_wp2_with fail
      refine (rvalid_below x y _).mono ?_
      rintro r w2 ⟨rfl, hb⟩
      rw [VT.out]
      have H2 : Ho w w2 (w.heap.size + 1 + 1) [(w.heap.size + 1, [.int .i64 x, .int .i64 y]), (w.heap.size, [.int .i64 a, .int .i64 b])] := Ho.call (by
        (repeat (first | with_reducible exact H1 | with_reducible refine Ho.alc ?_ _ | with_reducible refine Ho.drew ?_ | with_reducible refine Ho.put ?_ (by omega)))) hb
      have o_2 : Bx w2 (w.heap.size + 1 + 1) [.int .i64 0, .int .i64 0] := Bx.kept (by
        (repeat (first | with_reducible exact o_1 | with_reducible refine Bx.alc ?_ _ | with_reducible refine Bx.drew ?_ | with_reducible refine Bx.set ?_ (by omega)))) hb
      clear h0_1 h1_1 o_1c o_1f q1_0 q1_1 q1_2 q1_3 q1_4 q1_5 q1_6 q1_7 q1_8 q1_9 q1_10 q1_11 q1_12 q1_13 q1_14 q1_15
      have hs2 := H2.size
      have hz2 := hb.size
      (try simp at hz2)
      clear hb
      have h0_2 := (H2.at 1 rfl).c
      have h1_2 := (H2.at 0 rfl).c
      have o_2c := o_2.c
      have o_2f := o_2.f
      have o_2l := o_2.lt
      have q2_0 : ¬ (w.heap.size + 1 + 1 = w2.heap.size) := by omega
      have q2_1 : ¬ (w2.heap.size = w.heap.size + 1 + 1) := by omega
      have q2_2 : w.heap.size + 1 + 1 < w2.heap.size := by omega
      have q2_3 : w.heap.size + 1 + 1 < w2.heap.size + 1 := by omega
      have q2_4 : ¬ (w.heap.size = w2.heap.size) := by omega
      have q2_5 : ¬ (w2.heap.size = w.heap.size) := by omega
      have q2_6 : w.heap.size < w2.heap.size := by omega
      have q2_7 : w.heap.size < w2.heap.size + 1 := by omega
      have q2_8 : ¬ (w.heap.size + 1 = w2.heap.size) := by omega
      have q2_9 : ¬ (w2.heap.size = w.heap.size + 1) := by omega
      have q2_10 : w.heap.size + 1 < w2.heap.size := by omega
      have q2_11 : w.heap.size + 1 < w2.heap.size + 1 := by omega
      have q2_12 : ¬ (w.heap.size + 1 + 1 = w.heap.size) := by omega
      have q2_13 : ¬ (w.heap.size = w.heap.size + 1 + 1) := by omega
      have q2_14 : ¬ (w.heap.size + 1 + 1 = w.heap.size + 1) := by omega
      have q2_15 : ¬ (w.heap.size + 1 = w.heap.size + 1 + 1) := by omega
      go_wp2_with fail
      refine (csq_any w.heap.size w2.heap.size x y 0 _ (by simp [go_sem]) (by simp [go_sem])).mono ?_
      rintro r w3 ⟨rfl, st⟩
      rw [X1.out]
      rw [X1.out] at st
      dsimp only
      dsimp only at st
      rw [Y1.out] at st
      have H3 : Ho w w3 (w.heap.size + 1 + 1) [(w.heap.size + 1, [.int .i64 x, .int .i64 y]), (w.heap.size, [.int .i64 a, .int .i64 b])] := Ho.step (by
        (repeat (first | with_reducible exact H2 | with_reducible refine Ho.alc ?_ _ | with_reducible refine Ho.drew ?_ | with_reducible refine Ho.put ?_ (by omega)))) st (by omega)
      have o_3 : Bx w3 (w.heap.size + 1 + 1) [.int .i64 0, .int .i64 0] := Bx.step (by
        (repeat (first | with_reducible exact o_2 | with_reducible refine Bx.alc ?_ _ | with_reducible refine Bx.drew ?_ | with_reducible refine Bx.set ?_ (by omega)))) st (by omega)
      have C_3 : Ce w3 (w2.heap.size) E1 := Ce.step (e := 0) (by
        exact Bx.ce (by
          (repeat (first | with_reducible exact Bx.new (by simp) | with_reducible apply Bx.put6 | with_reducible apply Bx.put2 | with_reducible apply Bx.put1 | with_reducible refine Bx.set ?_ (by omega) | with_reducible refine Bx.alc ?_ _ | with_reducible refine Bx.drew ?_)))) st
      clear h0_2 h1_2 o_2c o_2f q2_0 q2_1 q2_2 q2_3 q2_4 q2_5 q2_6 q2_7 q2_8 q2_9 q2_10 q2_11 q2_12 q2_13 q2_14 q2_15
      have hs3 := H3.size
      have hz3 := st.size
      (try simp at hz3)
      clear st
      have h0_3 := (H3.at 1 rfl).c
      have h1_3 := (H3.at 0 rfl).c
      have o_3c := o_3.c
      have o_3f := o_3.f
      have o_3l := o_3.lt
      have C_3v := C_3.v
      have C_3f := C_3.f
      have C_3l := C_3.lt
      have q3_0 : ¬ (w.heap.size + 1 + 1 = w3.heap.size) := by omega
      have q3_1 : ¬ (w3.heap.size = w.heap.size + 1 + 1) := by omega
      have q3_2 : w.heap.size + 1 + 1 < w3.heap.size := by omega
      have q3_3 : w.heap.size + 1 + 1 < w3.heap.size + 1 := by omega
      have q3_4 : ¬ (w2.heap.size = w3.heap.size) := by omega
      have q3_5 : ¬ (w3.heap.size = w2.heap.size) := by omega
      have q3_6 : w2.heap.size < w3.heap.size := by omega
      have q3_7 : w2.heap.size < w3.heap.size + 1 := by omega
      have q3_8 : ¬ (w.heap.size = w3.heap.size) := by omega
      have q3_9 : ¬ (w3.heap.size = w.heap.size) := by omega
      have q3_10 : w.heap.size < w3.heap.size := by omega
      have q3_11 : w.heap.size < w3.heap.size + 1 := by omega
      have q3_12 : ¬ (w.heap.size + 1 = w3.heap.size) := by omega
      have q3_13 : ¬ (w3.heap.size = w.heap.size + 1) := by omega
      have q3_14 : w.heap.size + 1 < w3.heap.size := by omega
      have q3_15 : w.heap.size + 1 < w3.heap.size + 1 := by omega
      have q3_16 : ¬ (w.heap.size + 1 + 1 = w2.heap.size) := by omega
      have q3_17 : ¬ (w2.heap.size = w.heap.size + 1 + 1) := by omega
      have q3_18 : ¬ (w.heap.size + 1 + 1 = w.heap.size) := by omega
      have q3_19 : ¬ (w.heap.size = w.heap.size + 1 + 1) := by omega
      have q3_20 : ¬ (w.heap.size + 1 + 1 = w.heap.size + 1) := by omega
      have q3_21 : ¬ (w.heap.size + 1 = w.heap.size + 1 + 1) := by omega
      have q3_22 : ¬ (w2.heap.size = w.heap.size) := by omega
      have q3_23 : ¬ (w.heap.size = w2.heap.size) := by omega
      have q3_24 : ¬ (w2.heap.size = w.heap.size + 1) := by omega
      have q3_25 : ¬ (w.heap.size + 1 = w2.heap.size) := by omega
      go_upto_region 5 with fail
      refine region_sets (Rq.I a b x y p1 q1 p2 q2 p3 q3 p4 q4 p5 q5 E1 E2 E3 E4 E5 w.heap.size w3.heap.size w2.heap.size w) (by kernel_rfl) ?_ ?_ ?_
      · refine ⟨false, false, false, false, false, false, false, false, false, false, false, false, false, false, undef, undef, undef, undef, undef, undef, undef, undef, undef, undef, undef, undef, undef, 0, rfl, by simp only [Act.put, List.setIfInBounds_toArray, List.set_cons_zero, List.set_cons_succ], ?_⟩
        constructor
        · (repeat (first | with_reducible exact H3 | with_reducible refine Ho.alc ?_ _ | with_reducible refine Ho.drew ?_ | with_reducible refine Ho.put ?_ (by omega)))
        · (first | (simp; done) | (simp; omega))
        · (omega)
        · (repeat (first | with_reducible exact o_3 | with_reducible refine Bx.alc ?_ _ | with_reducible refine Bx.drew ?_ | with_reducible refine Bx.set ?_ (by omega)))
        · (omega)
        · (omega)
        · (repeat (first | with_reducible exact Bx.new (by simp) | with_reducible apply Bx.put6 | with_reducible apply Bx.put2 | with_reducible apply Bx.put1 | with_reducible refine Bx.set ?_ (by omega) | with_reducible refine Bx.alc ?_ _ | with_reducible refine Bx.drew ?_))
        · (omega)
        · (omega)
        · (omega)
        · (omega)
        · (intro h; cases h)
        · (intro h; cases h)
        · (intro h; cases h)
        · (intro _; (repeat (first | with_reducible exact C_3 | with_reducible refine Ce.alc ?_ _ | with_reducible refine Ce.drew ?_ | with_reducible refine Ce.set ?_ (by omega))))
        all_goals (intro h; cases h)
      · intro L a' w' hI i hi
        obtain ⟨l0, l1, l2, l3, l4, l5, l6, l7, l8, l9, l10, l11, l12, l13, v0, v1, v2, v3, v4, v5, v6, v7, v8, v9, v10, v11, v12, b12, rfl, rfl, h⟩ := hI
        have hlt := ready_lt hi
        match i, hi, hlt with
        | 0, hi, _ =>
          have l' : l0 = false := (ready_op (o := _) rfl hi).1
          subst l'
          clear hi hlt
          have H := Lib.hid h
          clear h
          refine wpOp_shut rfl (fun K hK => ?_)
          try simp only [Act.put, List.setIfInBounds_toArray, List.set_cons_zero, List.set_cons_succ]
          go_simp
          refine hK.out _ _ ?_
          unfold Rq.I
          refine ⟨true, l1, l2, l3, l4, l5, l6, l7, l8, l9, l10, l11, l12, l13, (.pointer (some ⟨w2.heap.size, 0, none⟩)), v1, v2, v3, v4, v5, v6, v7, v8, v9, v10, v11, v12, b12, rfl, ?_, ?_⟩
          · simp only [Act.put, List.setIfInBounds_toArray, List.set_cons_zero, List.set_cons_succ]
          · exact { H.out with e0 := fun _ => rfl }
        | 1, hi, _ =>
          have l' : l1 = false := (ready_op (o := _) rfl hi).1
          subst l'
          clear hi hlt
          have H := Lib.hid h
          clear h
          refine wpOp_shut rfl (fun K hK => ?_)
          try simp only [Act.put, List.setIfInBounds_toArray, List.set_cons_zero, List.set_cons_succ]
          go_simp
          refine (one_any _).mono ?_
          rintro e wY ⟨rfl, hb⟩
          try go_simp
          refine hK.out _ _ ?_
          unfold Rq.I
          refine ⟨l0, true, l2, l3, l4, l5, l6, l7, l8, l9, l10, l11, l12, l13, v0, ((iv 16777216 16777216)), v2, v3, v4, v5, v6, v7, v8, v9, v10, v11, v12, b12, rfl, ?_, ?_⟩
          · simp only [Act.put, List.setIfInBounds_toArray, List.set_cons_zero, List.set_cons_succ]
          · exact { (H.out.kept hb) with e1 := fun _ => rfl }
        | 2, hi, _ =>
          have l' : l2 = false := (ready_op (o := _) rfl hi).1
          subst l'
          clear hi hlt
          have H := Lib.hid h
          clear h
          refine wpOp_shut rfl (fun K hK => ?_)
          try simp only [Act.put, List.setIfInBounds_toArray, List.set_cons_zero, List.set_cons_succ]
          go_simp
          refine hK.out _ _ ?_
          unfold Rq.I
          refine ⟨l0, l1, true, l3, l4, l5, l6, l7, l8, l9, l10, l11, l12, l13, v0, v1, (.pointer (some ⟨w2.heap.size, 0, none⟩)), v3, v4, v5, v6, v7, v8, v9, v10, v11, v12, b12, rfl, ?_, ?_⟩
          · simp only [Act.put, List.setIfInBounds_toArray, List.set_cons_zero, List.set_cons_succ]
          · exact { H.out with e2 := fun _ => rfl }
        | 3, hi, _ =>
          have l' : l3 = false := (ready_op (o := _) rfl hi).1
          subst l'
          clear hi hlt
          have c := h.u1.c
          have H := Lib.hid h
          clear h
          refine wpOp_shut rfl (fun K hK => ?_)
          try simp only [Act.put, List.setIfInBounds_toArray, List.set_cons_zero, List.set_cons_succ]
          go_simp
          refine hK.out _ _ ?_
          unfold Rq.I
          refine ⟨l0, l1, l2, true, l4, l5, l6, l7, l8, l9, l10, l11, l12, l13, v0, v1, v2, ((iv p1 q1)), v4, v5, v6, v7, v8, v9, v10, v11, v12, b12, rfl, ?_, ?_⟩
          · simp only [Act.put, List.setIfInBounds_toArray, List.set_cons_zero, List.set_cons_succ]
          · exact { H.out with e3 := fun _ => rfl }
        | 4, hi, _ =>
          have l' : l4 = false := (ready_op (o := _) rfl hi).1
          subst l'
          clear hi hlt
          have H := Lib.hid h
          clear h
          refine wpOp_shut rfl (fun K hK => ?_)
          try simp only [Act.put, List.setIfInBounds_toArray, List.set_cons_zero, List.set_cons_succ]
          go_simp
          refine hK.out _ _ ?_
          unfold Rq.I
          refine ⟨l0, l1, l2, l3, true, l5, l6, l7, l8, l9, l10, l11, l12, l13, v0, v1, v2, v3, (.pointer (some ⟨w2.heap.size, 0, none⟩)), v5, v6, v7, v8, v9, v10, v11, v12, b12, rfl, ?_, ?_⟩
          · simp only [Act.put, List.setIfInBounds_toArray, List.set_cons_zero, List.set_cons_succ]
          · exact { H.out with e4 := fun _ => rfl }
        | 5, hi, _ =>
          have l' : l5 = false := (ready_op (o := _) rfl hi).1
          subst l'
          have k1 : l1 = true := (ready_op (o := _) rfl hi).2 { on := 1, ground := .chain } (by simp) rfl
          clear hi hlt
          subst k1
          obtain rfl := h.e1 rfl
          have H := Lib.hid h
          clear h
          refine wpOp_shut rfl (fun K hK => ?_)
          try simp only [Act.put, List.setIfInBounds_toArray, List.set_cons_zero, List.set_cons_succ]
          go_simp
          refine (one_any _).mono ?_
          rintro e wY ⟨rfl, hb⟩
          try go_simp
          refine hK.out _ _ ?_
          unfold Rq.I
          refine ⟨l0, true, l2, l3, l4, true, l6, l7, l8, l9, l10, l11, l12, l13, v0, ((iv 16777216 16777216)), v2, v3, v4, ((iv 16777216 16777216)), v6, v7, v8, v9, v10, v11, v12, b12, rfl, ?_, ?_⟩
          · simp only [Act.put, List.setIfInBounds_toArray, List.set_cons_zero, List.set_cons_succ]
          · exact { (H.out.kept hb) with e5 := fun _ => rfl }
        | 6, hi, _ =>
          have l' : l6 = false := (ready_op (o := _) rfl hi).1
          subst l'
          clear hi hlt
          have H := Lib.hid h
          clear h
          refine wpOp_shut rfl (fun K hK => ?_)
          try simp only [Act.put, List.setIfInBounds_toArray, List.set_cons_zero, List.set_cons_succ]
          go_simp
          refine hK.out _ _ ?_
          unfold Rq.I
          refine ⟨l0, l1, l2, l3, l4, l5, true, l7, l8, l9, l10, l11, l12, l13, v0, v1, v2, v3, v4, v5, (.pointer (some ⟨w2.heap.size, 0, none⟩)), v7, v8, v9, v10, v11, v12, b12, rfl, ?_, ?_⟩
          · simp only [Act.put, List.setIfInBounds_toArray, List.set_cons_zero, List.set_cons_succ]
          · exact { H.out with e6 := fun _ => rfl }
        | 7, hi, _ =>
          have l' : l7 = false := (ready_op (o := _) rfl hi).1
          subst l'
          clear hi hlt
          have c := (h.g.at 1 rfl).c
          have H := Lib.hid h
          clear h
          refine wpOp_shut rfl (fun K hK => ?_)
          try simp only [Act.put, List.setIfInBounds_toArray, List.set_cons_zero, List.set_cons_succ]
          go_simp
          refine hK.out _ _ ?_
          unfold Rq.I
          refine ⟨l0, l1, l2, l3, l4, l5, l6, true, l8, l9, l10, l11, l12, l13, v0, v1, v2, v3, v4, v5, v6, ((iv a b)), v8, v9, v10, v11, v12, b12, rfl, ?_, ?_⟩
          · simp only [Act.put, List.setIfInBounds_toArray, List.set_cons_zero, List.set_cons_succ]
          · exact { H.out with e7 := fun _ => rfl }
        | 8, hi, _ =>
          have l' : l8 = false := (ready_op (o := _) rfl hi).1
          subst l'
          have k6 : l6 = true := (ready_op (o := _) rfl hi).2 { on := 6, ground := .data } (by simp) rfl
          have k7 : l7 = true := (ready_op (o := _) rfl hi).2 { on := 7, ground := .data } (by simp) rfl
          have k5 : l5 = true := (ready_op (o := _) rfl hi).2 { on := 5, ground := .chain } (by simp) rfl
          clear hi hlt
          subst k6
          subst k7
          subst k5
          obtain rfl := h.e6 rfl
          obtain rfl := h.e7 rfl
          obtain rfl := h.e5 rfl
          have CK := h.k0 rfl
          have H := Lib.hid h
          clear h
          refine wpOp_shut rfl (fun K hK => ?_)
          try simp only [Act.put, List.setIfInBounds_toArray, List.set_cons_zero, List.set_cons_succ]
          go_simp
          refine (csq_any w.heap.size w2.heap.size a b E1 _ CK.v CK.f).mono ?_
          rintro e wY ⟨rfl, st⟩
          rw [X2.out]
          rw [X2.out] at st
          dsimp only
          dsimp only at st
          rw [Y2.out] at st
          try go_simp
          refine hK.out _ _ ?_
          unfold Rq.I
          refine ⟨l0, l1, l2, l3, l4, true, true, true, true, l9, l10, l11, l12, l13, v0, v1, v2, v3, v4, ((iv 16777216 16777216)), (.pointer (some ⟨w2.heap.size, 0, none⟩)), ((iv a b)), ((iv p2 q2)), v9, v10, v11, v12, b12, rfl, ?_, ?_⟩
          · simp only [Act.put, List.setIfInBounds_toArray, List.set_cons_zero, List.set_cons_succ]
          · have h := H.out
            exact { h with g := h.g.step st h.mc, sz := Nat.le_trans h.sz st.size, e8 := fun _ => rfl, u0 := h.u0.step st h.uc0, u1 := h.u1.step st h.uc1, k0 := fun p0 => (nomatch p0), k1 := fun p0 p1 => CK.step st, k2 := fun p0 p1 => (nomatch (h.q9 p0)), k3 := fun p0 p1 => (nomatch (h.q9 (h.q10 p0))), k4 := fun p0 => (nomatch (h.q9 (h.q10 (h.q11 p0)))), q9 := fun _ => rfl, t12 := fun p => Nat.lt_of_lt_of_le (h.t12 p) st.size, z12 := fun p r => (h.z12 p r).step st (Nat.ne_of_gt (Nat.lt_of_lt_of_le h.cn (h.g12 p))), s12 := fun p => (h.s12 p).step st (Nat.ne_of_gt (Nat.lt_of_lt_of_le h.cn (h.g12 (h.o12 p)))) }
        | 9, hi, _ =>
          have l' : l9 = false := (ready_op (o := _) rfl hi).1
          subst l'
          have k4 : l4 = true := (ready_op (o := _) rfl hi).2 { on := 4, ground := .data } (by simp) rfl
          have k5 : l5 = true := (ready_op (o := _) rfl hi).2 { on := 5, ground := .data } (by simp) rfl
          have k8 : l8 = true := (ready_op (o := _) rfl hi).2 { on := 8, ground := .chain } (by simp) rfl
          clear hi hlt
          subst k4
          subst k5
          subst k8
          obtain rfl := h.e4 rfl
          obtain rfl := h.e5 rfl
          obtain rfl := h.e8 rfl
          have CK := h.k1 rfl rfl
          have H := Lib.hid h
          clear h
          refine wpOp_shut rfl (fun K hK => ?_)
          try simp only [Act.put, List.setIfInBounds_toArray, List.set_cons_zero, List.set_cons_succ]
          go_simp
          refine (csub_any w.heap.size w2.heap.size 16777216 16777216 p2 q2 E2 _ CK.v CK.f).mono ?_
          rintro e wY ⟨rfl, st⟩
          rw [X3.out]
          rw [X3.out] at st
          dsimp only
          dsimp only at st
          rw [Y3.out] at st
          try go_simp
          refine hK.out _ _ ?_
          unfold Rq.I
          refine ⟨l0, l1, l2, l3, true, true, l6, l7, true, true, l10, l11, l12, l13, v0, v1, v2, v3, (.pointer (some ⟨w2.heap.size, 0, none⟩)), ((iv 16777216 16777216)), v6, v7, ((iv p2 q2)), ((iv p3 q3)), v10, v11, v12, b12, rfl, ?_, ?_⟩
          · simp only [Act.put, List.setIfInBounds_toArray, List.set_cons_zero, List.set_cons_succ]
          · have h := H.out
            exact { h with g := h.g.step st h.mc, sz := Nat.le_trans h.sz st.size, e9 := fun _ => rfl, u0 := h.u0.step st h.uc0, u1 := h.u1.step st h.uc1, k0 := fun p0 => (nomatch (Eq.trans (Eq.symm (rfl : true = true)) p0)), k1 := fun p0 p1 => (nomatch p1), k2 := fun p0 p1 => CK.step st, k3 := fun p0 p1 => (nomatch (h.q10 p0)), k4 := fun p0 => (nomatch (h.q10 (h.q11 p0))), q9 := fun _ => rfl, q10 := fun _ => rfl, t12 := fun p => Nat.lt_of_lt_of_le (h.t12 p) st.size, z12 := fun p r => (h.z12 p r).step st (Nat.ne_of_gt (Nat.lt_of_lt_of_le h.cn (h.g12 p))), s12 := fun p => (h.s12 p).step st (Nat.ne_of_gt (Nat.lt_of_lt_of_le h.cn (h.g12 (h.o12 p)))) }
        | 10, hi, _ =>
          have l' : l10 = false := (ready_op (o := _) rfl hi).1
          subst l'
          have k2 : l2 = true := (ready_op (o := _) rfl hi).2 { on := 2, ground := .data } (by simp) rfl
          have k3 : l3 = true := (ready_op (o := _) rfl hi).2 { on := 3, ground := .data } (by simp) rfl
          have k9 : l9 = true := (ready_op (o := _) rfl hi).2 { on := 9, ground := .chain } (by simp) rfl
          clear hi hlt
          subst k2
          subst k3
          subst k9
          obtain rfl := h.e2 rfl
          obtain rfl := h.e3 rfl
          obtain rfl := h.e9 rfl
          have CK := h.k2 rfl rfl
          have H := Lib.hid h
          clear h
          refine wpOp_shut rfl (fun K hK => ?_)
          try simp only [Act.put, List.setIfInBounds_toArray, List.set_cons_zero, List.set_cons_succ]
          go_simp
          refine (cmul_any w.heap.size w2.heap.size p1 q1 p3 q3 E3 _ CK.v CK.f).mono ?_
          rintro e wY ⟨rfl, st⟩
          rw [X4.out]
          rw [X4.out] at st
          dsimp only
          dsimp only at st
          rw [Y4.out] at st
          try go_simp
          refine hK.out _ _ ?_
          unfold Rq.I
          refine ⟨l0, l1, true, true, l4, l5, l6, l7, l8, true, true, l11, l12, l13, v0, v1, (.pointer (some ⟨w2.heap.size, 0, none⟩)), ((iv p1 q1)), v4, v5, v6, v7, v8, ((iv p3 q3)), ((iv p4 q4)), v11, v12, b12, rfl, ?_, ?_⟩
          · simp only [Act.put, List.setIfInBounds_toArray, List.set_cons_zero, List.set_cons_succ]
          · have h := H.out
            exact { h with g := h.g.step st h.mc, sz := Nat.le_trans h.sz st.size, e10 := fun _ => rfl, u0 := h.u0.step st h.uc0, u1 := h.u1.step st h.uc1, k0 := fun p0 => (nomatch (Eq.trans (Eq.symm (h.q9 rfl)) p0)), k1 := fun p0 p1 => (nomatch (Eq.trans (Eq.symm (rfl : true = true)) p1)), k2 := fun p0 p1 => (nomatch p1), k3 := fun p0 p1 => CK.step st, k4 := fun p0 => (nomatch (h.q11 p0)), q10 := fun _ => rfl, q11 := fun _ => rfl, t12 := fun p => Nat.lt_of_lt_of_le (h.t12 p) st.size, z12 := fun p r => (h.z12 p r).step st (Nat.ne_of_gt (Nat.lt_of_lt_of_le h.cn (h.g12 p))), s12 := fun p => (h.s12 p).step st (Nat.ne_of_gt (Nat.lt_of_lt_of_le h.cn (h.g12 (h.o12 p)))) }
        | 11, hi, _ =>
          have l' : l11 = false := (ready_op (o := _) rfl hi).1
          subst l'
          have k0 : l0 = true := (ready_op (o := _) rfl hi).2 { on := 0, ground := .data } (by simp) rfl
          have k1 : l1 = true := (ready_op (o := _) rfl hi).2 { on := 1, ground := .data } (by simp) rfl
          have k10 : l10 = true := (ready_op (o := _) rfl hi).2 { on := 10, ground := .chain } (by simp) rfl
          clear hi hlt
          subst k0
          subst k1
          subst k10
          obtain rfl := h.e0 rfl
          obtain rfl := h.e1 rfl
          obtain rfl := h.e10 rfl
          have CK := h.k3 rfl rfl
          have H := Lib.hid h
          clear h
          refine wpOp_shut rfl (fun K hK => ?_)
          try simp only [Act.put, List.setIfInBounds_toArray, List.set_cons_zero, List.set_cons_succ]
          go_simp
          refine (csub_any w.heap.size w2.heap.size 16777216 16777216 p4 q4 E4 _ CK.v CK.f).mono ?_
          rintro e wY ⟨rfl, st⟩
          rw [X5.out]
          rw [X5.out] at st
          dsimp only
          dsimp only at st
          rw [Y5.out] at st
          try go_simp
          refine hK.out _ _ ?_
          unfold Rq.I
          refine ⟨true, true, l2, l3, l4, l5, l6, l7, l8, l9, true, true, l12, l13, (.pointer (some ⟨w2.heap.size, 0, none⟩)), ((iv 16777216 16777216)), v2, v3, v4, v5, v6, v7, v8, v9, ((iv p4 q4)), ((iv p5 q5)), v12, b12, rfl, ?_, ?_⟩
          · simp only [Act.put, List.setIfInBounds_toArray, List.set_cons_zero, List.set_cons_succ]
          · have h := H.out
            exact { h with g := h.g.step st h.mc, sz := Nat.le_trans h.sz st.size, e11 := fun _ => rfl, u0 := h.u0.step st h.uc0, u1 := h.u1.step st h.uc1, k0 := fun p0 => (nomatch (Eq.trans (Eq.symm (h.q9 (h.q10 rfl))) p0)), k1 := fun p0 p1 => (nomatch (Eq.trans (Eq.symm (h.q10 rfl)) p1)), k2 := fun p0 p1 => (nomatch (Eq.trans (Eq.symm (rfl : true = true)) p1)), k3 := fun p0 p1 => (nomatch p1), k4 := fun p0 => CK.step st, q11 := fun _ => rfl, t12 := fun p => Nat.lt_of_lt_of_le (h.t12 p) st.size, z12 := fun p r => (h.z12 p r).step st (Nat.ne_of_gt (Nat.lt_of_lt_of_le h.cn (h.g12 p))), s12 := fun p => (h.s12 p).step st (Nat.ne_of_gt (Nat.lt_of_lt_of_le h.cn (h.g12 (h.o12 p)))) }
        | 12, hi, _ =>
          have l' : l12 = false := (ready_op (o := _) rfl hi).1
          subst l'
          clear hi hlt
          have H := Lib.hid h
          clear h
          refine wpOp_shut rfl (fun K hK => ?_)
          try simp only [Act.put, List.setIfInBounds_toArray, List.set_cons_zero, List.set_cons_succ]
          go_simp
          refine hK.out _ _ ?_
          unfold Rq.I
          refine ⟨l0, l1, l2, l3, l4, l5, l6, l7, l8, l9, l10, l11, true, l13, v0, v1, v2, v3, v4, v5, v6, v7, v8, v9, v10, v11, (.pointer (some ⟨w'.heap.size, 0, none⟩)), w'.heap.size, rfl, ?_, ?_⟩
          · simp only [Act.put, List.setIfInBounds_toArray, List.set_cons_zero, List.set_cons_succ]
          · have h := H.out
            have h2 := h.kept ((Below.refl _ _).alloc (Nat.le_refl _) (.cells (List.toArray [.int .i64 0, .int .i64 0]) 23))
            exact { h2 with e12 := fun _ => rfl, g12 := fun _ => h.sz, t12 := fun _ => by simp, o12 := fun p => rfl, z12 := fun _ _ => Bx.new rfl, s12 := fun p => (nomatch (h.o12 p)) }
        | 13, hi, _ =>
          have l' : l13 = false := (ready_op (o := _) rfl hi).1
          subst l'
          have k12 : l12 = true := (ready_op (o := _) rfl hi).2 { on := 12, ground := .phase } (by simp) rfl
          have k11 : l11 = true := (ready_op (o := _) rfl hi).2 { on := 11, ground := .phase } (by simp) rfl
          have k0 : l0 = true := (ready_op (o := _) rfl hi).2 { on := 0, ground := .phase } (by simp) rfl
          have k1 : l1 = true := (ready_op (o := _) rfl hi).2 { on := 1, ground := .phase } (by simp) rfl
          have k2 : l2 = true := (ready_op (o := _) rfl hi).2 { on := 2, ground := .phase } (by simp) rfl
          have k3 : l3 = true := (ready_op (o := _) rfl hi).2 { on := 3, ground := .phase } (by simp) rfl
          have k4 : l4 = true := (ready_op (o := _) rfl hi).2 { on := 4, ground := .phase } (by simp) rfl
          have k5 : l5 = true := (ready_op (o := _) rfl hi).2 { on := 5, ground := .phase } (by simp) rfl
          have k6 : l6 = true := (ready_op (o := _) rfl hi).2 { on := 6, ground := .phase } (by simp) rfl
          have k7 : l7 = true := (ready_op (o := _) rfl hi).2 { on := 7, ground := .phase } (by simp) rfl
          have k8 : l8 = true := (ready_op (o := _) rfl hi).2 { on := 8, ground := .phase } (by simp) rfl
          have k9 : l9 = true := (ready_op (o := _) rfl hi).2 { on := 9, ground := .phase } (by simp) rfl
          have k10 : l10 = true := (ready_op (o := _) rfl hi).2 { on := 10, ground := .phase } (by simp) rfl
          clear hi hlt
          subst k12
          subst k11
          subst k0
          subst k1
          subst k2
          subst k3
          subst k4
          subst k5
          subst k6
          subst k7
          subst k8
          subst k9
          subst k10
          obtain rfl := h.e12 rfl
          obtain rfl := h.e11 rfl
          obtain rfl := h.e0 rfl
          obtain rfl := h.e1 rfl
          obtain rfl := h.e2 rfl
          obtain rfl := h.e3 rfl
          obtain rfl := h.e4 rfl
          obtain rfl := h.e5 rfl
          obtain rfl := h.e6 rfl
          obtain rfl := h.e7 rfl
          obtain rfl := h.e8 rfl
          obtain rfl := h.e9 rfl
          obtain rfl := h.e10 rfl
          have bz := h.z12 rfl rfl
          have c := bz.c
          have f := bz.f
          clear bz
          have H := Lib.hid h
          clear h
          refine wpOp_shut rfl (fun K hK => ?_)
          try simp only [Act.put, List.setIfInBounds_toArray, List.set_cons_zero, List.set_cons_succ]
          go_simp
          refine hK.out _ _ ?_
          unfold Rq.I
          refine ⟨true, true, true, true, true, true, true, true, true, true, true, true, true, true, (.pointer (some ⟨w2.heap.size, 0, none⟩)), ((iv 16777216 16777216)), (.pointer (some ⟨w2.heap.size, 0, none⟩)), ((iv p1 q1)), (.pointer (some ⟨w2.heap.size, 0, none⟩)), ((iv 16777216 16777216)), (.pointer (some ⟨w2.heap.size, 0, none⟩)), ((iv a b)), ((iv p2 q2)), ((iv p3 q3)), ((iv p4 q4)), ((iv p5 q5)), (.pointer (some ⟨b12, 0, none⟩)), b12, rfl, ?_, ?_⟩
          · simp only [Act.put, List.setIfInBounds_toArray, List.set_cons_zero, List.set_cons_succ]
          · have h := H.out
            have gb := h.g12 rfl
            have gm := Nat.le_trans h.mn gb
            exact { h with g := ((h.g.put gm).put gm), sz := by simpa using h.sz, o12 := fun _ => rfl, z12 := fun _ p => (nomatch p), s12 := fun _ => (((h.z12 rfl rfl).put).put), t12 := fun p => by simpa using h.t12 p, u0 := ((h.u0.set (Nat.ne_of_lt (Nat.lt_of_lt_of_le h.un0 gb))).set (Nat.ne_of_lt (Nat.lt_of_lt_of_le h.un0 gb))), u1 := ((h.u1.set (Nat.ne_of_lt (Nat.lt_of_lt_of_le h.un1 gb))).set (Nat.ne_of_lt (Nat.lt_of_lt_of_le h.un1 gb))), k0 := fun p0 => (((h.k0 p0).set (Nat.ne_of_lt (Nat.lt_of_lt_of_le h.cn gb))).set (Nat.ne_of_lt (Nat.lt_of_lt_of_le h.cn gb))), k1 := fun p0 p1 => (((h.k1 p0 p1).set (Nat.ne_of_lt (Nat.lt_of_lt_of_le h.cn gb))).set (Nat.ne_of_lt (Nat.lt_of_lt_of_le h.cn gb))), k2 := fun p0 p1 => (((h.k2 p0 p1).set (Nat.ne_of_lt (Nat.lt_of_lt_of_le h.cn gb))).set (Nat.ne_of_lt (Nat.lt_of_lt_of_le h.cn gb))), k3 := fun p0 p1 => (((h.k3 p0 p1).set (Nat.ne_of_lt (Nat.lt_of_lt_of_le h.cn gb))).set (Nat.ne_of_lt (Nat.lt_of_lt_of_le h.cn gb))), k4 := fun p0 => (((h.k4 p0).set (Nat.ne_of_lt (Nat.lt_of_lt_of_le h.cn gb))).set (Nat.ne_of_lt (Nat.lt_of_lt_of_le h.cn gb))) }
        | i + 14, _, hlt => exact absurd hlt (by simp)
      · intro L a' w' hI hn
        obtain ⟨l0, l1, l2, l3, l4, l5, l6, l7, l8, l9, l10, l11, l12, l13, v0, v1, v2, v3, v4, v5, v6, v7, v8, v9, v10, v11, v12, b12, rfl, rfl, h⟩ := hI
        have k0 : l0 = true := not_ready (i := 0) (o := _) rfl hn (by simp [Region.binds])
        subst k0
        have k1 : l1 = true := not_ready (i := 1) (o := _) rfl hn (by simp [Region.binds])
        subst k1
        have k2 : l2 = true := not_ready (i := 2) (o := _) rfl hn (by simp [Region.binds])
        subst k2
        have k3 : l3 = true := not_ready (i := 3) (o := _) rfl hn (by simp [Region.binds])
        subst k3
        have k4 : l4 = true := not_ready (i := 4) (o := _) rfl hn (by simp [Region.binds])
        subst k4
        have k5 : l5 = true := not_ready (i := 5) (o := _) rfl hn (by simp [Region.binds])
        subst k5
        have k6 : l6 = true := not_ready (i := 6) (o := _) rfl hn (by simp [Region.binds])
        subst k6
        have k7 : l7 = true := not_ready (i := 7) (o := _) rfl hn (by simp [Region.binds])
        subst k7
        have k8 : l8 = true := not_ready (i := 8) (o := _) rfl hn (by simp [Region.binds])
        subst k8
        have k9 : l9 = true := not_ready (i := 9) (o := _) rfl hn (by simp [Region.binds])
        subst k9
        have k10 : l10 = true := not_ready (i := 10) (o := _) rfl hn (by simp [Region.binds])
        subst k10
        have k11 : l11 = true := not_ready (i := 11) (o := _) rfl hn (by simp [Region.binds])
        subst k11
        have k12 : l12 = true := not_ready (i := 12) (o := _) rfl hn (by simp [Region.binds])
        subst k12
        have k13 : l13 = true := not_ready (i := 13) (o := _) rfl hn (by simp [Region.binds])
        subst k13
        clear hn
        obtain rfl := h.e0 rfl
        obtain rfl := h.e1 rfl
        obtain rfl := h.e2 rfl
        obtain rfl := h.e3 rfl
        obtain rfl := h.e4 rfl
        obtain rfl := h.e5 rfl
        obtain rfl := h.e6 rfl
        obtain rfl := h.e7 rfl
        obtain rfl := h.e8 rfl
        obtain rfl := h.e9 rfl
        obtain rfl := h.e10 rfl
        obtain rfl := h.e11 rfl
        obtain rfl := h.e12 rfl
        simp only [Act.put, List.setIfInBounds_toArray, List.set_cons_zero, List.set_cons_succ]
        have H4 := h.g
        have o_4 := h.u0
        have C_4 := h.k4 rfl
        have B := h.s12 rfl
        have gB := h.g12 rfl
        have tB := h.t12 rfl
        clear h
        clear h0_3 h1_3 o_3c o_3f C_3v C_3f q3_0 q3_1 q3_2 q3_3 q3_4 q3_5 q3_6 q3_7 q3_8 q3_9 q3_10 q3_11 q3_12 q3_13 q3_14 q3_15 q3_16 q3_17 q3_18 q3_19 q3_20 q3_21 q3_22 q3_23 q3_24 q3_25
        have C_4v := C_4.v
        have Bc := B.c
        have oc := o_4.c
        have of := o_4.f
        have ol := o_4.lt
        have cl := C_4.lt
        have n1 : ¬ (b12 = w.heap.size + 1 + 1) := by omega
        have n2 : ¬ (w.heap.size + 1 + 1 = b12) := by omega
        by_cases he : E5 = 0
        · subst he
          go_wp2_with fail
          refine bodyPost_box (b := w.heap.size + 1 + 1) (cs := [.int .i64 p5, .int .i64 q5]) (v := .tuple #[iv p5 q5, .int .i64 0]) (by
            (repeat (first | with_reducible exact o_4 | with_reducible exact Bx.new (by simp) | with_reducible apply Bx.put6 | with_reducible apply Bx.put2 | with_reducible apply Bx.put1 | with_reducible refine Bx.set ?_ (by omega) | with_reducible refine Bx.alc ?_ _ | with_reducible refine Bx.drew ?_))) (fun X hX => by simp [results, Try.results13, go_sem, hX]) rfl ⟨by rw [show onlE 0 p5 q5 = ⟨p5, q5, 0⟩ from if_pos rfl], by
            refine Ho.below (n := w.heap.size + 1 + 1) (l := [(w.heap.size + 1, [.int .i64 x, .int .i64 y]), (w.heap.size, [.int .i64 a, .int .i64 b])]) ?_
            (repeat (first | with_reducible exact H4 | with_reducible refine Ho.alc ?_ _ | with_reducible refine Ho.drew ?_ | with_reducible refine Ho.put ?_ (by omega)))⟩
        · have nc : ¬ (w2.heap.size = w.heap.size + 1 + 1) := by omega
          have he2 : (E5 != 0) = true := by simpa using he
          go_upto_region 7 with fail
          have CX := C_4.drew
          go_region_held3 (fun X => X.cell? ⟨w2.heap.size, 0, none⟩ = some (.int .i64 E5)) (with_reducible first | exact CX.v | exact ((C_4.set nc).set nc).drew.v | exact ((CX.set nc).set nc).v) (fail)
          all_goals go_wp2_with fail
          all_goals refine bodyPost_box (b := w.heap.size + 1 + 1) (cs := [.int .i64 0, .int .i64 0]) (v := .tuple #[iv 0 0, .int .i64 E5]) (by
            (repeat (first | with_reducible exact o_4 | with_reducible exact Bx.new (by simp) | with_reducible apply Bx.put6 | with_reducible apply Bx.put2 | with_reducible apply Bx.put1 | with_reducible refine Bx.set ?_ (by omega) | with_reducible refine Bx.alc ?_ _ | with_reducible refine Bx.drew ?_))) (fun X hX => by simp [results, Try.results13, go_sem, hX]) rfl ⟨by rw [show onlE E5 p5 q5 = ⟨0, 0, E5⟩ from if_neg he], by
            refine Ho.below (n := w.heap.size + 1 + 1) (l := [(w.heap.size + 1, [.int .i64 x, .int .i64 y]), (w.heap.size, [.int .i64 a, .int .i64 b])]) ?_
            (repeat (first | with_reducible exact H4 | with_reducible refine Ho.alc ?_ _ | with_reducible refine Ho.drew ?_ | with_reducible refine Ho.put ?_ (by omega)))⟩
set_option maxRecDepth 100000 in
set_option maxHeartbeats 8000000 in
theorem rfdec_any (a b : Int) (w : World) :
    Calls Try.prog 15 #[iv a b] w fun e w' => e = .returned (.int .i64 (decI a b)) ∧ Below w.heap.size w w' := by
  cases h1 : vB a b
  · rw [show decI a b = 0 from if_neg (by rw [h1]; decide)]
    have H1X := Lib.hid h1
    clear h1
    have H0 := ((Ho.nil w).bx [.int .i64 a, .int .i64 b] 23 (w.heap.size) (by simp))
    go_enter Try.func15, Try.ntmps15
    go_wp2_with fail
    refine (rvalid_below a b _).mono ?_
    rintro r w1 ⟨rfl, hb⟩
    rw [H1X.out]
    have H1 : Ho w w1 (w.heap.size + 1) [(w.heap.size, [.int .i64 a, .int .i64 b])] := Ho.call (by
      (repeat (first | with_reducible exact H0 | with_reducible refine Ho.alc ?_ _ | with_reducible refine Ho.drew ?_ | with_reducible refine Ho.put ?_ (by omega)))) hb
    have hs1 := H1.size
    have hz1 := hb.size
    (try simp at hz1)
    clear hb
    have h0_1 := (H1.at 0 rfl).c
    have q1_0 : ¬ (w.heap.size = w1.heap.size) := by omega
    have q1_1 : ¬ (w1.heap.size = w.heap.size) := by omega
    have q1_2 : w.heap.size < w1.heap.size := by omega
    have q1_3 : w.heap.size < w1.heap.size + 1 := by omega
    go_wp2_with fail
    go_ret
    exact ⟨rfl, H1.below⟩
  · have hs : sgn a b = 1 ∨ sgn a b = -1 ∨ sgn a b = 0 := by
      rw [show sgn a b = (if 0 < a then 1 else if b < 0 then -1 else 0) from if_pos h1]
      (repeat' split) <;> simp
    rcases hs with hs | hs | hs
    · rw [show decI a b = 2 from by rw [show decI a b = (if sgn a b = -1 then 1 else if sgn a b = 1 then 2 else 3) from if_pos h1, hs]; decide]
      have H1X := Lib.hid h1
      have HS := Lib.hid hs
      clear h1 hs
      have H0 := ((Ho.nil w).bx [.int .i64 a, .int .i64 b] 23 (w.heap.size) (by simp))
      go_enter Try.func15, Try.ntmps15
      go_wp2_with fail
      refine (rvalid_below a b _).mono ?_
      rintro r w1 ⟨rfl, hb⟩
      rw [H1X.out]
      have H1 : Ho w w1 (w.heap.size + 1) [(w.heap.size, [.int .i64 a, .int .i64 b])] := Ho.call (by
        (repeat (first | with_reducible exact H0 | with_reducible refine Ho.alc ?_ _ | with_reducible refine Ho.drew ?_ | with_reducible refine Ho.put ?_ (by omega)))) hb
      have hs1 := H1.size
      have hz1 := hb.size
      (try simp at hz1)
      clear hb
      have h0_1 := (H1.at 0 rfl).c
      have q1_0 : ¬ (w.heap.size = w1.heap.size) := by omega
      have q1_1 : ¬ (w1.heap.size = w.heap.size) := by omega
      have q1_2 : w.heap.size < w1.heap.size := by omega
      have q1_3 : w.heap.size < w1.heap.size + 1 := by omega
      go_wp2_with fail
      refine (rsign_any a b _).mono ?_
      rintro r w2 ⟨rfl, hb⟩
      rw [HS.out]
      have H2 : Ho w w2 (w.heap.size + 1) [(w.heap.size, [.int .i64 a, .int .i64 b])] := Ho.call (by
        (repeat (first | with_reducible exact H1 | with_reducible refine Ho.alc ?_ _ | with_reducible refine Ho.drew ?_ | with_reducible refine Ho.put ?_ (by omega)))) hb
      clear h0_1 q1_0 q1_1 q1_2 q1_3
      have hs2 := H2.size
      have hz2 := hb.size
      (try simp at hz2)
      clear hb
      have h0_2 := (H2.at 0 rfl).c
      have q2_0 : ¬ (w.heap.size = w2.heap.size) := by omega
      have q2_1 : ¬ (w2.heap.size = w.heap.size) := by omega
      have q2_2 : w.heap.size < w2.heap.size := by omega
      have q2_3 : w.heap.size < w2.heap.size + 1 := by omega
      go_wp2_with fail
      go_ret
      exact ⟨rfl, H2.below⟩
    · rw [show decI a b = 1 from by rw [show decI a b = (if sgn a b = -1 then 1 else if sgn a b = 1 then 2 else 3) from if_pos h1, hs]; decide]
      have H1X := Lib.hid h1
      have HS := Lib.hid hs
      clear h1 hs
      have H0 := ((Ho.nil w).bx [.int .i64 a, .int .i64 b] 23 (w.heap.size) (by simp))
      go_enter Try.func15, Try.ntmps15
      go_wp2_with fail
      refine (rvalid_below a b _).mono ?_
      rintro r w1 ⟨rfl, hb⟩
      rw [H1X.out]
      have H1 : Ho w w1 (w.heap.size + 1) [(w.heap.size, [.int .i64 a, .int .i64 b])] := Ho.call (by
        (repeat (first | with_reducible exact H0 | with_reducible refine Ho.alc ?_ _ | with_reducible refine Ho.drew ?_ | with_reducible refine Ho.put ?_ (by omega)))) hb
      have hs1 := H1.size
      have hz1 := hb.size
      (try simp at hz1)
      clear hb
      have h0_1 := (H1.at 0 rfl).c
      have q1_0 : ¬ (w.heap.size = w1.heap.size) := by omega
      have q1_1 : ¬ (w1.heap.size = w.heap.size) := by omega
      have q1_2 : w.heap.size < w1.heap.size := by omega
      have q1_3 : w.heap.size < w1.heap.size + 1 := by omega
      go_wp2_with fail
      refine (rsign_any a b _).mono ?_
      rintro r w2 ⟨rfl, hb⟩
      rw [HS.out]
      have H2 : Ho w w2 (w.heap.size + 1) [(w.heap.size, [.int .i64 a, .int .i64 b])] := Ho.call (by
        (repeat (first | with_reducible exact H1 | with_reducible refine Ho.alc ?_ _ | with_reducible refine Ho.drew ?_ | with_reducible refine Ho.put ?_ (by omega)))) hb
      clear h0_1 q1_0 q1_1 q1_2 q1_3
      have hs2 := H2.size
      have hz2 := hb.size
      (try simp at hz2)
      clear hb
      have h0_2 := (H2.at 0 rfl).c
      have q2_0 : ¬ (w.heap.size = w2.heap.size) := by omega
      have q2_1 : ¬ (w2.heap.size = w.heap.size) := by omega
      have q2_2 : w.heap.size < w2.heap.size := by omega
      have q2_3 : w.heap.size < w2.heap.size + 1 := by omega
      go_wp2_with fail
      go_ret
      exact ⟨rfl, H2.below⟩
    · rw [show decI a b = 3 from by rw [show decI a b = (if sgn a b = -1 then 1 else if sgn a b = 1 then 2 else 3) from if_pos h1, hs]; decide]
      have H1X := Lib.hid h1
      have HS := Lib.hid hs
      clear h1 hs
      have H0 := ((Ho.nil w).bx [.int .i64 a, .int .i64 b] 23 (w.heap.size) (by simp))
      go_enter Try.func15, Try.ntmps15
      go_wp2_with fail
      refine (rvalid_below a b _).mono ?_
      rintro r w1 ⟨rfl, hb⟩
      rw [H1X.out]
      have H1 : Ho w w1 (w.heap.size + 1) [(w.heap.size, [.int .i64 a, .int .i64 b])] := Ho.call (by
        (repeat (first | with_reducible exact H0 | with_reducible refine Ho.alc ?_ _ | with_reducible refine Ho.drew ?_ | with_reducible refine Ho.put ?_ (by omega)))) hb
      have hs1 := H1.size
      have hz1 := hb.size
      (try simp at hz1)
      clear hb
      have h0_1 := (H1.at 0 rfl).c
      have q1_0 : ¬ (w.heap.size = w1.heap.size) := by omega
      have q1_1 : ¬ (w1.heap.size = w.heap.size) := by omega
      have q1_2 : w.heap.size < w1.heap.size := by omega
      have q1_3 : w.heap.size < w1.heap.size + 1 := by omega
      go_wp2_with fail
      refine (rsign_any a b _).mono ?_
      rintro r w2 ⟨rfl, hb⟩
      rw [HS.out]
      have H2 : Ho w w2 (w.heap.size + 1) [(w.heap.size, [.int .i64 a, .int .i64 b])] := Ho.call (by
        (repeat (first | with_reducible exact H1 | with_reducible refine Ho.alc ?_ _ | with_reducible refine Ho.drew ?_ | with_reducible refine Ho.put ?_ (by omega)))) hb
      clear h0_1 q1_0 q1_1 q1_2 q1_3
      have hs2 := H2.size
      have hz2 := hb.size
      (try simp at hz2)
      clear hb
      have h0_2 := (H2.at 0 rfl).c
      have q2_0 : ¬ (w.heap.size = w2.heap.size) := by omega
      have q2_1 : ¬ (w2.heap.size = w.heap.size) := by omega
      have q2_2 : w.heap.size < w2.heap.size := by omega
      have q2_3 : w.heap.size < w2.heap.size + 1 := by omega
      go_wp2_with fail
      go_ret
      exact ⟨rfl, H2.below⟩
end Go.Proofs.Ytjppcndhaejfpaa.Iv
