/- Contracts of Critical: the program's and the reference's. -/
import Derived.Test.YtjppcndhaejfpaaRe
namespace Go.Proofs.Ytjppcndhaejfpaa.Iv
open Go.RowKit

/-- the cosine of the critical angle -/
noncomputable def critR (a b : Int) : R := if vB a b = true then if a < 16777216 then ⟨0, 0, 2⟩ else bind (sqR a b) fun p q => bind (divR 16777216 16777216 p q) fun u v => bind (subR 16777216 16777216 u v) fun x y => sqrtR x y else ⟨0, 0, 1⟩
theorem crit_eq {a b : Int} {r1 r2 r3 r4 : R} (v : vB a b = true) (z : ¬ a < 16777216) (h1 : sqR a b = r1) (h2 : divR 16777216 16777216 r1.lo r1.hi = r2) (h3 : subR 16777216 16777216 r2.lo r2.hi = r3) (h4 : sqrtR r3.lo r3.hi = r4) :
    critR a b = if r1.e = 0 then (if r2.e = 0 then (if r3.e = 0 then r4 else ⟨0, 0, r3.e⟩) else ⟨0, 0, r2.e⟩) else ⟨0, 0, r1.e⟩ := by
  unfold critR bind
  rw [if_pos v, if_neg z, h1]
  dsimp only
  rw [h2]
  try dsimp only
  rw [h3]
  try dsimp only
  rw [h4]
theorem crit_ref {a b : Int} {r1 r2 r3 r4 : R} (v : vB a b = true) (z : ¬ a < 16777216) (h1 : sqR a b = r1) (h2 : divR 16777216 16777216 r1.lo r1.hi = r2) (h3 : subR 16777216 16777216 r2.lo r2.hi = r3) (h4 : sqrtR r3.lo r3.hi = r4) :
    critR a b = if keepE (keepE (keepE 0 r1.e) r2.e) r3.e = 0 then r4 else ⟨0, 0, keepE (keepE (keepE 0 r1.e) r2.e) r3.e⟩ := by
  rw [crit_eq v z h1 h2 h3 h4]
  unfold keepE
  by_cases c1 : r1.e = 0
  · by_cases c2 : r2.e = 0
    · by_cases c3 : r3.e = 0 <;> simp [c1, c2, c3]
    · simp [c1, c2]
  · simp [c1]
structure Ca (a b p1 q1 p2 q2 e2 : Int) (nb cb n0 : Nat) (w0 w : World) (l0 l1 l2 l3 l4 l5 l6 l7 l8 : Bool) (v0 v1 v2 v3 v4 v5 v6 v8 : Value) (b6 : Nat) : Prop where
  g : Ho w0 w (nb + 1) [(nb, [.int .i64 a, .int .i64 b])]
  sz : n0 ≤ w.heap.size
  mn : (nb + 1) ≤ n0
  u0 : Bx w (nb + 1) [.int .i64 0, .int .i64 0]
  un0 : (nb + 1) < n0
  u1 : Bx w cb [.int .i64 p1, .int .i64 q1]
  un1 : cb < n0
  ev0 : l0 = true → v0 = (iv 16777216 16777216)
  ev1 : l1 = true → v1 = (iv p1 q1)
  ev2 : l2 = true → v2 = .tuple #[(iv p2 q2), .int .i64 e2]
  ev3 : l3 = true → v3 = .tuple #[(iv p2 q2), .int .i64 e2]
  ev4 : l4 = true → v4 = (iv p2 q2)
  ev5 : l5 = true → v5 = .int .i64 e2
  ev6 : l6 = true → v6 = .pointer (some ⟨b6, 0, none⟩)
  ev8 : l8 = true → v8 = .int .i64 e2
  g6 : l6 = true → n0 ≤ b6
  t6 : l6 = true → b6 < w.heap.size
  o6 : l7 = true → l6 = true
  z6 : l6 = true → l7 = false → Bx w b6 [.int .i64 0, .int .i64 0]
  s6 : l7 = true → Bx w b6 [.int .i64 p2, .int .i64 q2]
theorem Ca.kept {a b p1 q1 p2 q2 e2 : Int} {nb cb n0 : Nat} {w0 w : World} {l0 l1 l2 l3 l4 l5 l6 l7 l8 : Bool} {v0 v1 v2 v3 v4 v5 v6 v8 : Value} {b6 : Nat} {w' : World} (h : Ca a b p1 q1 p2 q2 e2 nb cb n0 w0 w l0 l1 l2 l3 l4 l5 l6 l7 l8 v0 v1 v2 v3 v4 v5 v6 v8 b6) (hb : Below w.heap.size w w') : Ca a b p1 q1 p2 q2 e2 nb cb n0 w0 w' l0 l1 l2 l3 l4 l5 l6 l7 l8 v0 v1 v2 v3 v4 v5 v6 v8 b6 :=
  { h with g := h.g.call hb, sz := Nat.le_trans h.sz hb.size, u0 := h.u0.kept hb, u1 := h.u1.kept hb, t6 := fun p => Nat.lt_of_lt_of_le (h.t6 p) hb.size, z6 := fun p q => (h.z6 p q).kept hb, s6 := fun p => (h.s6 p).kept hb }
def Ca.I (a b p1 q1 p2 q2 e2 : Int) (nb cb n0 : Nat) (w0 : World) : Act → Array Bool → Act → World → Prop := fun aO LX aX w => ∃ (l0 l1 l2 l3 l4 l5 l6 l7 l8 : Bool) (v0 v1 v2 v3 v4 v5 v6 v8 : Value) (b6 : Nat), LX = #[l0, l1, l2, l3, l4, l5, l6, l7, l8] ∧ aX = ((((((((aO.put (some 26) v0).put (some 27) v1).put (some 28) v2).put (some 25) v3).put (some 29) v4).put (some 30) v5).put (some 6) v6).put (some 5) v8) ∧ Ca a b p1 q1 p2 q2 e2 nb cb n0 w0 w l0 l1 l2 l3 l4 l5 l6 l7 l8 v0 v1 v2 v3 v4 v5 v6 v8 b6
structure Cb (a b p2 q2 p3 q3 e3 : Int) (nb cb n0 : Nat) (w0 w : World) (l0 l1 l2 l3 l4 l5 l6 l7 l8 : Bool) (v0 v1 v2 v3 v4 v5 v6 v8 : Value) (b6 : Nat) : Prop where
  g : Ho w0 w (nb + 1) [(nb, [.int .i64 a, .int .i64 b])]
  sz : n0 ≤ w.heap.size
  mn : (nb + 1) ≤ n0
  u0 : Bx w (nb + 1) [.int .i64 0, .int .i64 0]
  un0 : (nb + 1) < n0
  u1 : Bx w cb [.int .i64 p2, .int .i64 q2]
  un1 : cb < n0
  ev0 : l0 = true → v0 = (iv 16777216 16777216)
  ev1 : l1 = true → v1 = (iv p2 q2)
  ev2 : l2 = true → v2 = .tuple #[(iv p3 q3), .int .i64 e3]
  ev3 : l3 = true → v3 = .tuple #[(iv p3 q3), .int .i64 e3]
  ev4 : l4 = true → v4 = (iv p3 q3)
  ev5 : l5 = true → v5 = .int .i64 e3
  ev6 : l6 = true → v6 = .pointer (some ⟨b6, 0, none⟩)
  ev8 : l8 = true → v8 = .int .i64 e3
  g6 : l6 = true → n0 ≤ b6
  t6 : l6 = true → b6 < w.heap.size
  o6 : l7 = true → l6 = true
  z6 : l6 = true → l7 = false → Bx w b6 [.int .i64 0, .int .i64 0]
  s6 : l7 = true → Bx w b6 [.int .i64 p3, .int .i64 q3]
theorem Cb.kept {a b p2 q2 p3 q3 e3 : Int} {nb cb n0 : Nat} {w0 w : World} {l0 l1 l2 l3 l4 l5 l6 l7 l8 : Bool} {v0 v1 v2 v3 v4 v5 v6 v8 : Value} {b6 : Nat} {w' : World} (h : Cb a b p2 q2 p3 q3 e3 nb cb n0 w0 w l0 l1 l2 l3 l4 l5 l6 l7 l8 v0 v1 v2 v3 v4 v5 v6 v8 b6) (hb : Below w.heap.size w w') : Cb a b p2 q2 p3 q3 e3 nb cb n0 w0 w' l0 l1 l2 l3 l4 l5 l6 l7 l8 v0 v1 v2 v3 v4 v5 v6 v8 b6 :=
  { h with g := h.g.call hb, sz := Nat.le_trans h.sz hb.size, u0 := h.u0.kept hb, u1 := h.u1.kept hb, t6 := fun p => Nat.lt_of_lt_of_le (h.t6 p) hb.size, z6 := fun p q => (h.z6 p q).kept hb, s6 := fun p => (h.s6 p).kept hb }
def Cb.I (a b p2 q2 p3 q3 e3 : Int) (nb cb n0 : Nat) (w0 : World) : Act → Array Bool → Act → World → Prop := fun aO LX aX w => ∃ (l0 l1 l2 l3 l4 l5 l6 l7 l8 : Bool) (v0 v1 v2 v3 v4 v5 v6 v8 : Value) (b6 : Nat), LX = #[l0, l1, l2, l3, l4, l5, l6, l7, l8] ∧ aX = ((((((((aO.put (some 36) v0).put (some 37) v1).put (some 38) v2).put (some 35) v3).put (some 39) v4).put (some 40) v5).put (some 7) v6).put (some 5) v8) ∧ Cb a b p2 q2 p3 q3 e3 nb cb n0 w0 w l0 l1 l2 l3 l4 l5 l6 l7 l8 v0 v1 v2 v3 v4 v5 v6 v8 b6
set_option maxRecDepth 100000 in
set_option maxHeartbeats 8000000 in
theorem crit_any (a b : Int) (w : World) :
    Calls Try.prog 18 #[iv a b] w fun e w' => e = retR (critR a b) ∧ Below w.heap.size w w' := by
  cases hv : vB a b
  · rw [show critR a b = ⟨0, 0, 1⟩ from if_neg (by rw [hv]; simp)]
    have VB := Lib.hid hv
    clear hv
    have H0 := ((Ho.nil w).bx [.int .i64 a, .int .i64 b] 23 (w.heap.size) (by simp))
    have o_0 : Bx ((w.alloc (.cells (List.toArray [.int .i64 a, .int .i64 b]) 23)).alloc (.cells (List.toArray [.int .i64 0, .int .i64 0]) 23)) (w.heap.size + 1) [.int .i64 0, .int .i64 0] := by
      (repeat (first | with_reducible exact Bx.new (by simp) | with_reducible apply Bx.put6 | with_reducible apply Bx.put2 | with_reducible apply Bx.put1 | with_reducible refine Bx.set ?_ (by omega) | with_reducible refine Bx.alc ?_ _ | with_reducible refine Bx.drew ?_))
    go_enter Try.func18, Try.ntmps18
    have o_0c := o_0.c
    have o_0f := o_0.f
    go_wp2_with fail
    refine (validb_any a b _).mono ?_
    rintro r w1 ⟨rfl, hb⟩
    rw [VB.out]
    have H1 : Ho w w1 (w.heap.size + 1) [(w.heap.size, [.int .i64 a, .int .i64 b])] := Ho.call (by
      (repeat (first | with_reducible exact H0 | with_reducible refine Ho.alc ?_ _ | with_reducible refine Ho.drew ?_ | with_reducible refine Ho.put ?_ (by omega)))) hb
    have o_1 : Bx w1 (w.heap.size + 1) [.int .i64 0, .int .i64 0] := Bx.kept (by
      (repeat (first | with_reducible exact o_0 | with_reducible refine Bx.alc ?_ _ | with_reducible refine Bx.drew ?_ | with_reducible refine Bx.set ?_ (by omega)))) hb
    clear o_0c o_0f
    have hs1 := H1.size
    have hz1 := hb.size
    (try simp at hz1)
    clear hb
    have h0_1 := (H1.at 0 rfl).c
    have o_1c := o_1.c
    have o_1f := o_1.f
    have o_1l := o_1.lt
    have q1_0 : ¬ (w.heap.size + 1 = w1.heap.size) := by omega
    have q1_1 : ¬ (w1.heap.size = w.heap.size + 1) := by omega
    have q1_2 : w.heap.size + 1 < w1.heap.size := by omega
    have q1_3 : w.heap.size + 1 < w1.heap.size + 1 := by omega
    have q1_4 : ¬ (w.heap.size = w1.heap.size) := by omega
    have q1_5 : ¬ (w1.heap.size = w.heap.size) := by omega
    have q1_6 : w.heap.size < w1.heap.size := by omega
    have q1_7 : w.heap.size < w1.heap.size + 1 := by omega
    have q1_8 : ¬ (w.heap.size + 1 = w.heap.size) := by omega
    have q1_9 : ¬ (w.heap.size = w.heap.size + 1) := by omega
    go_wp2_with fail
    refine bodyPost_box (b := w.heap.size + 1) (cs := [.int .i64 0, .int .i64 0]) (v := .tuple #[iv 0 0, .int .i64 1]) (by
      (repeat (first | with_reducible exact o_1 | with_reducible exact Bx.new (by simp) | with_reducible apply Bx.put6 | with_reducible apply Bx.put2 | with_reducible apply Bx.put1 | with_reducible refine Bx.set ?_ (by omega) | with_reducible refine Bx.alc ?_ _ | with_reducible refine Bx.drew ?_))) (fun X hX => by simp [results, Try.results18, go_sem, hX]) rfl ⟨rfl, by
      refine Ho.below (n := w.heap.size + 1) (l := [(w.heap.size, [.int .i64 a, .int .i64 b])]) ?_
      (repeat (first | with_reducible exact H1 | with_reducible refine Ho.alc ?_ _ | with_reducible refine Ho.drew ?_ | with_reducible refine Ho.put ?_ (by omega)))⟩
  · by_cases hz : a < 16777216
    · rw [show critR a b = ⟨0, 0, 2⟩ from by rw [critR, if_pos hv, if_pos hz]]
      have VB := Lib.hid hv
      clear hv
      have H0 := ((Ho.nil w).bx [.int .i64 a, .int .i64 b] 23 (w.heap.size) (by simp))
      have o_0 : Bx ((w.alloc (.cells (List.toArray [.int .i64 a, .int .i64 b]) 23)).alloc (.cells (List.toArray [.int .i64 0, .int .i64 0]) 23)) (w.heap.size + 1) [.int .i64 0, .int .i64 0] := by
        (repeat (first | with_reducible exact Bx.new (by simp) | with_reducible apply Bx.put6 | with_reducible apply Bx.put2 | with_reducible apply Bx.put1 | with_reducible refine Bx.set ?_ (by omega) | with_reducible refine Bx.alc ?_ _ | with_reducible refine Bx.drew ?_))
      go_enter Try.func18, Try.ntmps18
      have o_0c := o_0.c
      have o_0f := o_0.f
      go_wp2_with fail
      refine (validb_any a b _).mono ?_
      rintro r w1 ⟨rfl, hb⟩
      rw [VB.out]
      have H1 : Ho w w1 (w.heap.size + 1) [(w.heap.size, [.int .i64 a, .int .i64 b])] := Ho.call (by
        (repeat (first | with_reducible exact H0 | with_reducible refine Ho.alc ?_ _ | with_reducible refine Ho.drew ?_ | with_reducible refine Ho.put ?_ (by omega)))) hb
      have o_1 : Bx w1 (w.heap.size + 1) [.int .i64 0, .int .i64 0] := Bx.kept (by
        (repeat (first | with_reducible exact o_0 | with_reducible refine Bx.alc ?_ _ | with_reducible refine Bx.drew ?_ | with_reducible refine Bx.set ?_ (by omega)))) hb
      clear o_0c o_0f
      have hs1 := H1.size
      have hz1 := hb.size
      (try simp at hz1)
      clear hb
      have h0_1 := (H1.at 0 rfl).c
      have o_1c := o_1.c
      have o_1f := o_1.f
      have o_1l := o_1.lt
      have q1_0 : ¬ (w.heap.size + 1 = w1.heap.size) := by omega
      have q1_1 : ¬ (w1.heap.size = w.heap.size + 1) := by omega
      have q1_2 : w.heap.size + 1 < w1.heap.size := by omega
      have q1_3 : w.heap.size + 1 < w1.heap.size + 1 := by omega
      have q1_4 : ¬ (w.heap.size = w1.heap.size) := by omega
      have q1_5 : ¬ (w1.heap.size = w.heap.size) := by omega
      have q1_6 : w.heap.size < w1.heap.size := by omega
      have q1_7 : w.heap.size < w1.heap.size + 1 := by omega
      have q1_8 : ¬ (w.heap.size + 1 = w.heap.size) := by omega
      have q1_9 : ¬ (w.heap.size = w.heap.size + 1) := by omega
      go_wp2_with fail
      refine bodyPost_box (b := w.heap.size + 1) (cs := [.int .i64 0, .int .i64 0]) (v := .tuple #[iv 0 0, .int .i64 2]) (by
        (repeat (first | with_reducible exact o_1 | with_reducible exact Bx.new (by simp) | with_reducible apply Bx.put6 | with_reducible apply Bx.put2 | with_reducible apply Bx.put1 | with_reducible refine Bx.set ?_ (by omega) | with_reducible refine Bx.alc ?_ _ | with_reducible refine Bx.drew ?_))) (fun X hX => by simp [results, Try.results18, go_sem, hX]) rfl ⟨rfl, by
        refine Ho.below (n := w.heap.size + 1) (l := [(w.heap.size, [.int .i64 a, .int .i64 b])]) ?_
        (repeat (first | with_reducible exact H1 | with_reducible refine Ho.alc ?_ _ | with_reducible refine Ho.drew ?_ | with_reducible refine Ho.put ?_ (by omega)))⟩
    · obtain ⟨⟨p1, q1, e1⟩, h1⟩ : ∃ r : R, sqR a b = r := ⟨_, rfl⟩
      obtain ⟨⟨p2, q2, e2⟩, h2⟩ : ∃ r : R, divR 16777216 16777216 p1 q1 = r := ⟨_, rfl⟩
      obtain ⟨⟨p3, q3, e3⟩, h3⟩ : ∃ r : R, subR 16777216 16777216 p2 q2 = r := ⟨_, rfl⟩
      obtain ⟨⟨p4, q4, e4⟩, h4⟩ : ∃ r : R, sqrtR p3 q3 = r := ⟨_, rfl⟩
      have hk := crit_eq hv hz h1 h2 h3 h4
      dsimp only at hk
      rw [hk]
      clear hk
      have VB := Lib.hid hv
      have X1 := Lib.hid h1
      have X2 := Lib.hid h2
      have X3 := Lib.hid h3
      have X4 := Lib.hid h4
      clear hv h1 h2 h3 h4
      have H0 := ((Ho.nil w).bx [.int .i64 a, .int .i64 b] 23 (w.heap.size) (by simp))
      have o_0 : Bx ((w.alloc (.cells (List.toArray [.int .i64 a, .int .i64 b]) 23)).alloc (.cells (List.toArray [.int .i64 0, .int .i64 0]) 23)) (w.heap.size + 1) [.int .i64 0, .int .i64 0] := by
        (repeat (first | with_reducible exact Bx.new (by simp) | with_reducible apply Bx.put6 | with_reducible apply Bx.put2 | with_reducible apply Bx.put1 | with_reducible refine Bx.set ?_ (by omega) | with_reducible refine Bx.alc ?_ _ | with_reducible refine Bx.drew ?_))
      go_enter Try.func18, Try.ntmps18
      have o_0c := o_0.c
      have o_0f := o_0.f
      go_wp2_with fail
      refine (validb_any a b _).mono ?_
      rintro r w1 ⟨rfl, hb⟩
      rw [VB.out]
      have H1 : Ho w w1 (w.heap.size + 1) [(w.heap.size, [.int .i64 a, .int .i64 b])] := Ho.call (by
        (repeat (first | with_reducible exact H0 | with_reducible refine Ho.alc ?_ _ | with_reducible refine Ho.drew ?_ | with_reducible refine Ho.put ?_ (by omega)))) hb
      have o_1 : Bx w1 (w.heap.size + 1) [.int .i64 0, .int .i64 0] := Bx.kept (by
        (repeat (first | with_reducible exact o_0 | with_reducible refine Bx.alc ?_ _ | with_reducible refine Bx.drew ?_ | with_reducible refine Bx.set ?_ (by omega)))) hb
      clear o_0c o_0f
      have hs1 := H1.size
      have hz1 := hb.size
      (try simp at hz1)
      clear hb
      have h0_1 := (H1.at 0 rfl).c
      have o_1c := o_1.c
      have o_1f := o_1.f
      have o_1l := o_1.lt
      have q1_0 : ¬ (w.heap.size + 1 = w1.heap.size) := by omega
      have q1_1 : ¬ (w1.heap.size = w.heap.size + 1) := by omega
      have q1_2 : w.heap.size + 1 < w1.heap.size := by omega
      have q1_3 : w.heap.size + 1 < w1.heap.size + 1 := by omega
      have q1_4 : ¬ (w.heap.size = w1.heap.size) := by omega
      have q1_5 : ¬ (w1.heap.size = w.heap.size) := by omega
      have q1_6 : w.heap.size < w1.heap.size := by omega
      have q1_7 : w.heap.size < w1.heap.size + 1 := by omega
      have q1_8 : ¬ (w.heap.size + 1 = w.heap.size) := by omega
      have q1_9 : ¬ (w.heap.size = w.heap.size + 1) := by omega
      go_wp2_with fail
      refine (square_any a b _).mono ?_
      rintro r w2 ⟨rfl, hb⟩
      rw [X1.out]
      have H2 : Ho w w2 (w.heap.size + 1) [(w.heap.size, [.int .i64 a, .int .i64 b])] := Ho.call (by
        (repeat (first | with_reducible exact H1 | with_reducible refine Ho.alc ?_ _ | with_reducible refine Ho.drew ?_ | with_reducible refine Ho.put ?_ (by omega)))) hb
      have o_2 : Bx w2 (w.heap.size + 1) [.int .i64 0, .int .i64 0] := Bx.kept (by
        (repeat (first | with_reducible exact o_1 | with_reducible refine Bx.alc ?_ _ | with_reducible refine Bx.drew ?_ | with_reducible refine Bx.set ?_ (by omega)))) hb
      clear h0_1 o_1c o_1f q1_0 q1_1 q1_2 q1_3 q1_4 q1_5 q1_6 q1_7 q1_8 q1_9
      have hs2 := H2.size
      have hz2 := hb.size
      (try simp at hz2)
      clear hb
      have h0_2 := (H2.at 0 rfl).c
      have o_2c := o_2.c
      have o_2f := o_2.f
      have o_2l := o_2.lt
      have q2_0 : ¬ (w.heap.size + 1 = w2.heap.size) := by omega
      have q2_1 : ¬ (w2.heap.size = w.heap.size + 1) := by omega
      have q2_2 : w.heap.size + 1 < w2.heap.size := by omega
      have q2_3 : w.heap.size + 1 < w2.heap.size + 1 := by omega
      have q2_4 : ¬ (w.heap.size = w2.heap.size) := by omega
      have q2_5 : ¬ (w2.heap.size = w.heap.size) := by omega
      have q2_6 : w.heap.size < w2.heap.size := by omega
      have q2_7 : w.heap.size < w2.heap.size + 1 := by omega
      have q2_8 : ¬ (w.heap.size + 1 = w.heap.size) := by omega
      have q2_9 : ¬ (w.heap.size = w.heap.size + 1) := by omega
      by_cases he1 : e1 = 0
      · subst he1
        go_upto_region 8 with fail
        refine region_sets (Ca.I a b p1 q1 p2 q2 e2 w.heap.size w2.heap.size (w2.heap.size + 1) w) (by kernel_rfl) ?_ ?_ ?_
        · refine ⟨false, false, false, false, false, false, false, false, false, undef, undef, undef, undef, undef, undef, undef, (.int .i64 0), 0, rfl, by simp only [Act.put, List.setIfInBounds_toArray, List.set_cons_zero, List.set_cons_succ], ?_⟩
          constructor
          · (repeat (first | with_reducible exact H2 | with_reducible refine Ho.alc ?_ _ | with_reducible refine Ho.drew ?_ | with_reducible refine Ho.put ?_ (by omega)))
          · (first | (simp; done) | (simp; omega))
          · (omega)
          · (repeat (first | with_reducible exact o_2 | with_reducible refine Bx.alc ?_ _ | with_reducible refine Bx.drew ?_ | with_reducible refine Bx.set ?_ (by omega)))
          · (omega)
          · (repeat (first | with_reducible exact Bx.new (by simp) | with_reducible apply Bx.put6 | with_reducible apply Bx.put2 | with_reducible apply Bx.put1 | with_reducible refine Bx.set ?_ (by omega) | with_reducible refine Bx.alc ?_ _ | with_reducible refine Bx.drew ?_))
          · (omega)
          all_goals (intro h; cases h)
        · intro L a' w' hI i hi
          obtain ⟨l0, l1, l2, l3, l4, l5, l6, l7, l8, v0, v1, v2, v3, v4, v5, v6, v8, b6, rfl, rfl, h⟩ := hI
          have hlt := ready_lt hi
          match i, hi, hlt with
          | 0, hi, _ =>
            have l' : l0 = false := (ready_op (o := _) rfl hi).1
            subst l'
            clear hi hlt
            have H := Lib.hid h
            clear h
            refine wpOp_shut rfl (fun K hK => ?_)
            try simp only [Act.put, List.setIfInBounds_toArray, List.set_cons_zero, List.set_cons_succ]
            go_simp
            refine (unit_any _).mono ?_
            rintro e wY ⟨rfl, hb⟩
            try go_simp
            refine hK.out _ _ ?_
            unfold Ca.I
            refine ⟨true, l1, l2, l3, l4, l5, l6, l7, l8, ((iv 16777216 16777216)), v1, v2, v3, v4, v5, v6, v8, b6, rfl, ?_, ?_⟩
            · simp only [Act.put, List.setIfInBounds_toArray, List.set_cons_zero, List.set_cons_succ]
            · exact { (H.out.kept hb) with ev0 := fun _ => rfl }
          | 1, hi, _ =>
            have l' : l1 = false := (ready_op (o := _) rfl hi).1
            subst l'
            clear hi hlt
            have c := h.u1.c
            have H := Lib.hid h
            clear h
            refine wpOp_shut rfl (fun K hK => ?_)
            try simp only [Act.put, List.setIfInBounds_toArray, List.set_cons_zero, List.set_cons_succ]
            go_simp
            refine hK.out _ _ ?_
            unfold Ca.I
            refine ⟨l0, true, l2, l3, l4, l5, l6, l7, l8, v0, ((iv p1 q1)), v2, v3, v4, v5, v6, v8, b6, rfl, ?_, ?_⟩
            · simp only [Act.put, List.setIfInBounds_toArray, List.set_cons_zero, List.set_cons_succ]
            · exact { H.out with ev1 := fun _ => rfl }
          | 2, hi, _ =>
            have l' : l2 = false := (ready_op (o := _) rfl hi).1
            subst l'
            have k0 : l0 = true := (ready_op (o := _) rfl hi).2 { on := 0, ground := .chain } (by simp) rfl
            have k1 : l1 = true := (ready_op (o := _) rfl hi).2 { on := 1, ground := .data } (by simp) rfl
            clear hi hlt
            subst k0
            subst k1
            obtain rfl := h.ev0 rfl
            obtain rfl := h.ev1 rfl
            have H := Lib.hid h
            clear h
            refine wpOp_shut rfl (fun K hK => ?_)
            try simp only [Act.put, List.setIfInBounds_toArray, List.set_cons_zero, List.set_cons_succ]
            go_simp
            refine (div_any 16777216 16777216 p1 q1 _).mono ?_
            rintro e wY ⟨rfl, hb⟩
            rw [X2.out]
            try go_simp
            refine hK.out _ _ ?_
            unfold Ca.I
            refine ⟨true, true, true, l3, l4, l5, l6, l7, l8, ((iv 16777216 16777216)), ((iv p1 q1)), (.tuple #[(iv p2 q2), .int .i64 e2]), v3, v4, v5, v6, v8, b6, rfl, ?_, ?_⟩
            · simp only [Act.put, List.setIfInBounds_toArray, List.set_cons_zero, List.set_cons_succ]
            · exact { (H.out.kept hb) with ev2 := fun _ => rfl }
          | 3, hi, _ =>
            have l' : l3 = false := (ready_op (o := _) rfl hi).1
            subst l'
            have k2 : l2 = true := (ready_op (o := _) rfl hi).2 { on := 2, ground := .data } (by simp) rfl
            clear hi hlt
            subst k2
            obtain rfl := h.ev2 rfl
            have H := Lib.hid h
            clear h
            refine wpOp_shut rfl (fun K hK => ?_)
            try simp only [Act.put, List.setIfInBounds_toArray, List.set_cons_zero, List.set_cons_succ]
            go_simp
            refine hK.out _ _ ?_
            unfold Ca.I
            refine ⟨l0, l1, true, true, l4, l5, l6, l7, l8, v0, v1, (.tuple #[(iv p2 q2), .int .i64 e2]), (.tuple #[(iv p2 q2), .int .i64 e2]), v4, v5, v6, v8, b6, rfl, ?_, ?_⟩
            · simp only [Act.put, List.setIfInBounds_toArray, List.set_cons_zero, List.set_cons_succ]
            · exact { H.out with ev3 := fun _ => rfl }
          | 4, hi, _ =>
            have l' : l4 = false := (ready_op (o := _) rfl hi).1
            subst l'
            have k3 : l3 = true := (ready_op (o := _) rfl hi).2 { on := 3, ground := .data } (by simp) rfl
            clear hi hlt
            subst k3
            obtain rfl := h.ev3 rfl
            have H := Lib.hid h
            clear h
            refine wpOp_shut rfl (fun K hK => ?_)
            try simp only [Act.put, List.setIfInBounds_toArray, List.set_cons_zero, List.set_cons_succ]
            go_simp
            refine hK.out _ _ ?_
            unfold Ca.I
            refine ⟨l0, l1, l2, true, true, l5, l6, l7, l8, v0, v1, v2, (.tuple #[(iv p2 q2), .int .i64 e2]), ((iv p2 q2)), v5, v6, v8, b6, rfl, ?_, ?_⟩
            · simp only [Act.put, List.setIfInBounds_toArray, List.set_cons_zero, List.set_cons_succ]
            · exact { H.out with ev4 := fun _ => rfl }
          | 5, hi, _ =>
            have l' : l5 = false := (ready_op (o := _) rfl hi).1
            subst l'
            have k3 : l3 = true := (ready_op (o := _) rfl hi).2 { on := 3, ground := .data } (by simp) rfl
            clear hi hlt
            subst k3
            obtain rfl := h.ev3 rfl
            have H := Lib.hid h
            clear h
            refine wpOp_shut rfl (fun K hK => ?_)
            try simp only [Act.put, List.setIfInBounds_toArray, List.set_cons_zero, List.set_cons_succ]
            go_simp
            refine hK.out _ _ ?_
            unfold Ca.I
            refine ⟨l0, l1, l2, true, l4, true, l6, l7, l8, v0, v1, v2, (.tuple #[(iv p2 q2), .int .i64 e2]), v4, (.int .i64 e2), v6, v8, b6, rfl, ?_, ?_⟩
            · simp only [Act.put, List.setIfInBounds_toArray, List.set_cons_zero, List.set_cons_succ]
            · exact { H.out with ev5 := fun _ => rfl }
          | 6, hi, _ =>
            have l' : l6 = false := (ready_op (o := _) rfl hi).1
            subst l'
            clear hi hlt
            have H := Lib.hid h
            clear h
            refine wpOp_shut rfl (fun K hK => ?_)
            try simp only [Act.put, List.setIfInBounds_toArray, List.set_cons_zero, List.set_cons_succ]
            go_simp
            refine hK.out _ _ ?_
            unfold Ca.I
            refine ⟨l0, l1, l2, l3, l4, l5, true, l7, l8, v0, v1, v2, v3, v4, v5, (.pointer (some ⟨w'.heap.size, 0, none⟩)), v8, w'.heap.size, rfl, ?_, ?_⟩
            · simp only [Act.put, List.setIfInBounds_toArray, List.set_cons_zero, List.set_cons_succ]
            · have h := H.out
              have h2 := h.kept ((Below.refl _ _).alloc (Nat.le_refl _) (.cells (List.toArray [.int .i64 0, .int .i64 0]) 23))
              exact { h2 with ev6 := fun _ => rfl, g6 := fun _ => h.sz, t6 := fun _ => by simp, o6 := fun p => rfl, z6 := fun _ _ => Bx.new rfl, s6 := fun p => (nomatch (h.o6 p)) }
          | 7, hi, _ =>
            have l' : l7 = false := (ready_op (o := _) rfl hi).1
            subst l'
            have k6 : l6 = true := (ready_op (o := _) rfl hi).2 { on := 6, ground := .phase } (by simp) rfl
            have k4 : l4 = true := (ready_op (o := _) rfl hi).2 { on := 4, ground := .phase } (by simp) rfl
            have k2 : l2 = true := (ready_op (o := _) rfl hi).2 { on := 2, ground := .phase } (by simp) rfl
            have k0 : l0 = true := (ready_op (o := _) rfl hi).2 { on := 0, ground := .phase } (by simp) rfl
            have k1 : l1 = true := (ready_op (o := _) rfl hi).2 { on := 1, ground := .phase } (by simp) rfl
            have k3 : l3 = true := (ready_op (o := _) rfl hi).2 { on := 3, ground := .phase } (by simp) rfl
            clear hi hlt
            subst k6
            subst k4
            subst k2
            subst k0
            subst k1
            subst k3
            obtain rfl := h.ev6 rfl
            obtain rfl := h.ev4 rfl
            obtain rfl := h.ev2 rfl
            obtain rfl := h.ev0 rfl
            obtain rfl := h.ev1 rfl
            obtain rfl := h.ev3 rfl
            have bz := h.z6 rfl rfl
            have c := bz.c
            have f := bz.f
            clear bz
            have H := Lib.hid h
            clear h
            refine wpOp_shut rfl (fun K hK => ?_)
            try simp only [Act.put, List.setIfInBounds_toArray, List.set_cons_zero, List.set_cons_succ]
            go_simp
            refine hK.out _ _ ?_
            unfold Ca.I
            refine ⟨true, true, true, true, true, l5, true, true, l8, ((iv 16777216 16777216)), ((iv p1 q1)), (.tuple #[(iv p2 q2), .int .i64 e2]), (.tuple #[(iv p2 q2), .int .i64 e2]), ((iv p2 q2)), v5, (.pointer (some ⟨b6, 0, none⟩)), v8, b6, rfl, ?_, ?_⟩
            · simp only [Act.put, List.setIfInBounds_toArray, List.set_cons_zero, List.set_cons_succ]
            · have h := H.out
              have gb := h.g6 rfl
              have gm := Nat.le_trans h.mn gb
              exact { h with g := ((h.g.put gm).put gm), sz := by simpa using h.sz, o6 := fun _ => rfl, z6 := fun _ p => (nomatch p), s6 := fun _ => (((h.z6 rfl rfl).put).put), t6 := fun p => by simpa using h.t6 p, u0 := ((h.u0.set (Nat.ne_of_lt (Nat.lt_of_lt_of_le h.un0 gb))).set (Nat.ne_of_lt (Nat.lt_of_lt_of_le h.un0 gb))), u1 := ((h.u1.set (Nat.ne_of_lt (Nat.lt_of_lt_of_le h.un1 gb))).set (Nat.ne_of_lt (Nat.lt_of_lt_of_le h.un1 gb))) }
          | 8, hi, _ =>
            have l' : l8 = false := (ready_op (o := _) rfl hi).1
            subst l'
            have k5 : l5 = true := (ready_op (o := _) rfl hi).2 { on := 5, ground := .phase } (by simp) rfl
            have k7 : l7 = true := (ready_op (o := _) rfl hi).2 { on := 7, ground := .phase } (by simp) rfl
            have k0 : l0 = true := (ready_op (o := _) rfl hi).2 { on := 0, ground := .phase } (by simp) rfl
            have k1 : l1 = true := (ready_op (o := _) rfl hi).2 { on := 1, ground := .phase } (by simp) rfl
            have k2 : l2 = true := (ready_op (o := _) rfl hi).2 { on := 2, ground := .phase } (by simp) rfl
            have k3 : l3 = true := (ready_op (o := _) rfl hi).2 { on := 3, ground := .phase } (by simp) rfl
            have k4 : l4 = true := (ready_op (o := _) rfl hi).2 { on := 4, ground := .phase } (by simp) rfl
            have k6 : l6 = true := (ready_op (o := _) rfl hi).2 { on := 6, ground := .phase } (by simp) rfl
            clear hi hlt
            subst k5
            subst k7
            subst k0
            subst k1
            subst k2
            subst k3
            subst k4
            subst k6
            obtain rfl := h.ev5 rfl
            obtain rfl := h.ev0 rfl
            obtain rfl := h.ev1 rfl
            obtain rfl := h.ev2 rfl
            obtain rfl := h.ev3 rfl
            obtain rfl := h.ev4 rfl
            obtain rfl := h.ev6 rfl
            have H := Lib.hid h
            clear h
            refine wpOp_shut rfl (fun K hK => ?_)
            try simp only [Act.put, List.setIfInBounds_toArray, List.set_cons_zero, List.set_cons_succ]
            go_simp
            refine hK.out _ _ ?_
            unfold Ca.I
            refine ⟨true, true, true, true, true, true, true, true, true, ((iv 16777216 16777216)), ((iv p1 q1)), (.tuple #[(iv p2 q2), .int .i64 e2]), (.tuple #[(iv p2 q2), .int .i64 e2]), ((iv p2 q2)), (.int .i64 e2), (.pointer (some ⟨b6, 0, none⟩)), (.int .i64 e2), b6, rfl, ?_, ?_⟩
            · simp only [Act.put, List.setIfInBounds_toArray, List.set_cons_zero, List.set_cons_succ]
            · exact { H.out with ev8 := fun _ => rfl }
          | i + 9, _, hlt => exact absurd hlt (by simp)
        · intro L a' w' hI hn
          obtain ⟨l0, l1, l2, l3, l4, l5, l6, l7, l8, v0, v1, v2, v3, v4, v5, v6, v8, b6, rfl, rfl, h⟩ := hI
          have k0 : l0 = true := not_ready (i := 0) (o := _) rfl hn (by simp [Region.binds])
          subst k0
          have k1 : l1 = true := not_ready (i := 1) (o := _) rfl hn (by simp [Region.binds])
          subst k1
          have k2 : l2 = true := not_ready (i := 2) (o := _) rfl hn (by simp [Region.binds])
          subst k2
          have k3 : l3 = true := not_ready (i := 3) (o := _) rfl hn (by simp [Region.binds])
          subst k3
          have k4 : l4 = true := not_ready (i := 4) (o := _) rfl hn (by simp [Region.binds])
          subst k4
          have k5 : l5 = true := not_ready (i := 5) (o := _) rfl hn (by simp [Region.binds])
          subst k5
          have k6 : l6 = true := not_ready (i := 6) (o := _) rfl hn (by simp [Region.binds])
          subst k6
          have k7 : l7 = true := not_ready (i := 7) (o := _) rfl hn (by simp [Region.binds])
          subst k7
          have k8 : l8 = true := not_ready (i := 8) (o := _) rfl hn (by simp [Region.binds])
          subst k8
          clear hn
          obtain rfl := h.ev0 rfl
          obtain rfl := h.ev1 rfl
          obtain rfl := h.ev2 rfl
          obtain rfl := h.ev3 rfl
          obtain rfl := h.ev4 rfl
          obtain rfl := h.ev5 rfl
          obtain rfl := h.ev6 rfl
          obtain rfl := h.ev8 rfl
          simp only [Act.put, List.setIfInBounds_toArray, List.set_cons_zero, List.set_cons_succ]
          have H8 := h.g
          have o_8 := h.u0
          have B_8 := h.s6 rfl
          have gb8 := h.g6 rfl
          have hs8 := H8.size
          clear h
          clear h0_2 o_2c o_2f q2_0 q2_1 q2_2 q2_3 q2_4 q2_5 q2_6 q2_7 q2_8 q2_9
          obtain ⟨w8, hw8⟩ : ∃ x, x = w' := ⟨_, rfl⟩
          rw [← hw8] at H8 o_8 B_8 hs8 ⊢
          clear hw8
          have o_8c := o_8.c
          have o_8f := o_8.f
          have o_8l := o_8.lt
          have B_8l := B_8.lt
          have r8 : w.heap.size < w8.heap.size := by omega
          by_cases he2 : e2 = 0
          · subst he2
            go_upto_region 11 with fail
            refine region_sets (Cb.I a b p2 q2 p3 q3 e3 w.heap.size b6 w8.heap.size w) (by kernel_rfl) ?_ ?_ ?_
            · refine ⟨false, false, false, false, false, false, false, false, false, undef, undef, undef, undef, undef, undef, undef, (.int .i64 0), 0, rfl, by simp only [Act.put, List.setIfInBounds_toArray, List.set_cons_zero, List.set_cons_succ], ?_⟩
              constructor
              · (exact H8.drew)
              · (first | (simp; done) | omega)
              · (omega)
              · (exact o_8.drew)
              · (omega)
              · (exact B_8.drew)
              · (omega)
              all_goals (intro h; cases h)
            · intro L a' w' hI i hi
              obtain ⟨l0, l1, l2, l3, l4, l5, l6, l7, l8, v0, v1, v2, v3, v4, v5, v6, v8, b6, rfl, rfl, h⟩ := hI
              have hlt := ready_lt hi
              match i, hi, hlt with
              | 0, hi, _ =>
                have l' : l0 = false := (ready_op (o := _) rfl hi).1
                subst l'
                clear hi hlt
                have H := Lib.hid h
                clear h
                refine wpOp_shut rfl (fun K hK => ?_)
                try simp only [Act.put, List.setIfInBounds_toArray, List.set_cons_zero, List.set_cons_succ]
                go_simp
                refine (unit_any _).mono ?_
                rintro e wY ⟨rfl, hb⟩
                try go_simp
                refine hK.out _ _ ?_
                unfold Cb.I
                refine ⟨true, l1, l2, l3, l4, l5, l6, l7, l8, ((iv 16777216 16777216)), v1, v2, v3, v4, v5, v6, v8, b6, rfl, ?_, ?_⟩
                · simp only [Act.put, List.setIfInBounds_toArray, List.set_cons_zero, List.set_cons_succ]
                · exact { (H.out.kept hb) with ev0 := fun _ => rfl }
              | 1, hi, _ =>
                have l' : l1 = false := (ready_op (o := _) rfl hi).1
                subst l'
                clear hi hlt
                have c := h.u1.c
                have H := Lib.hid h
                clear h
                refine wpOp_shut rfl (fun K hK => ?_)
                try simp only [Act.put, List.setIfInBounds_toArray, List.set_cons_zero, List.set_cons_succ]
                go_simp
                refine hK.out _ _ ?_
                unfold Cb.I
                refine ⟨l0, true, l2, l3, l4, l5, l6, l7, l8, v0, ((iv p2 q2)), v2, v3, v4, v5, v6, v8, b6, rfl, ?_, ?_⟩
                · simp only [Act.put, List.setIfInBounds_toArray, List.set_cons_zero, List.set_cons_succ]
                · exact { H.out with ev1 := fun _ => rfl }
              | 2, hi, _ =>
                have l' : l2 = false := (ready_op (o := _) rfl hi).1
                subst l'
                have k0 : l0 = true := (ready_op (o := _) rfl hi).2 { on := 0, ground := .chain } (by simp) rfl
                have k1 : l1 = true := (ready_op (o := _) rfl hi).2 { on := 1, ground := .data } (by simp) rfl
                clear hi hlt
                subst k0
                subst k1
                obtain rfl := h.ev0 rfl
                obtain rfl := h.ev1 rfl
                have H := Lib.hid h
                clear h
                refine wpOp_shut rfl (fun K hK => ?_)
                try simp only [Act.put, List.setIfInBounds_toArray, List.set_cons_zero, List.set_cons_succ]
                go_simp
                refine (sub_any 16777216 16777216 p2 q2 _).mono ?_
                rintro e wY ⟨rfl, hb⟩
                rw [X3.out]
                try go_simp
                refine hK.out _ _ ?_
                unfold Cb.I
                refine ⟨true, true, true, l3, l4, l5, l6, l7, l8, ((iv 16777216 16777216)), ((iv p2 q2)), (.tuple #[(iv p3 q3), .int .i64 e3]), v3, v4, v5, v6, v8, b6, rfl, ?_, ?_⟩
                · simp only [Act.put, List.setIfInBounds_toArray, List.set_cons_zero, List.set_cons_succ]
                · exact { (H.out.kept hb) with ev2 := fun _ => rfl }
              | 3, hi, _ =>
                have l' : l3 = false := (ready_op (o := _) rfl hi).1
                subst l'
                have k2 : l2 = true := (ready_op (o := _) rfl hi).2 { on := 2, ground := .data } (by simp) rfl
                clear hi hlt
                subst k2
                obtain rfl := h.ev2 rfl
                have H := Lib.hid h
                clear h
                refine wpOp_shut rfl (fun K hK => ?_)
                try simp only [Act.put, List.setIfInBounds_toArray, List.set_cons_zero, List.set_cons_succ]
                go_simp
                refine hK.out _ _ ?_
                unfold Cb.I
                refine ⟨l0, l1, true, true, l4, l5, l6, l7, l8, v0, v1, (.tuple #[(iv p3 q3), .int .i64 e3]), (.tuple #[(iv p3 q3), .int .i64 e3]), v4, v5, v6, v8, b6, rfl, ?_, ?_⟩
                · simp only [Act.put, List.setIfInBounds_toArray, List.set_cons_zero, List.set_cons_succ]
                · exact { H.out with ev3 := fun _ => rfl }
              | 4, hi, _ =>
                have l' : l4 = false := (ready_op (o := _) rfl hi).1
                subst l'
                have k3 : l3 = true := (ready_op (o := _) rfl hi).2 { on := 3, ground := .data } (by simp) rfl
                clear hi hlt
                subst k3
                obtain rfl := h.ev3 rfl
                have H := Lib.hid h
                clear h
                refine wpOp_shut rfl (fun K hK => ?_)
                try simp only [Act.put, List.setIfInBounds_toArray, List.set_cons_zero, List.set_cons_succ]
                go_simp
                refine hK.out _ _ ?_
                unfold Cb.I
                refine ⟨l0, l1, l2, true, true, l5, l6, l7, l8, v0, v1, v2, (.tuple #[(iv p3 q3), .int .i64 e3]), ((iv p3 q3)), v5, v6, v8, b6, rfl, ?_, ?_⟩
                · simp only [Act.put, List.setIfInBounds_toArray, List.set_cons_zero, List.set_cons_succ]
                · exact { H.out with ev4 := fun _ => rfl }
              | 5, hi, _ =>
                have l' : l5 = false := (ready_op (o := _) rfl hi).1
                subst l'
                have k3 : l3 = true := (ready_op (o := _) rfl hi).2 { on := 3, ground := .data } (by simp) rfl
                clear hi hlt
                subst k3
                obtain rfl := h.ev3 rfl
                have H := Lib.hid h
                clear h
                refine wpOp_shut rfl (fun K hK => ?_)
                try simp only [Act.put, List.setIfInBounds_toArray, List.set_cons_zero, List.set_cons_succ]
                go_simp
                refine hK.out _ _ ?_
                unfold Cb.I
                refine ⟨l0, l1, l2, true, l4, true, l6, l7, l8, v0, v1, v2, (.tuple #[(iv p3 q3), .int .i64 e3]), v4, (.int .i64 e3), v6, v8, b6, rfl, ?_, ?_⟩
                · simp only [Act.put, List.setIfInBounds_toArray, List.set_cons_zero, List.set_cons_succ]
                · exact { H.out with ev5 := fun _ => rfl }
              | 6, hi, _ =>
                have l' : l6 = false := (ready_op (o := _) rfl hi).1
                subst l'
                clear hi hlt
                have H := Lib.hid h
                clear h
                refine wpOp_shut rfl (fun K hK => ?_)
                try simp only [Act.put, List.setIfInBounds_toArray, List.set_cons_zero, List.set_cons_succ]
                go_simp
                refine hK.out _ _ ?_
                unfold Cb.I
                refine ⟨l0, l1, l2, l3, l4, l5, true, l7, l8, v0, v1, v2, v3, v4, v5, (.pointer (some ⟨w'.heap.size, 0, none⟩)), v8, w'.heap.size, rfl, ?_, ?_⟩
                · simp only [Act.put, List.setIfInBounds_toArray, List.set_cons_zero, List.set_cons_succ]
                · have h := H.out
                  have h2 := h.kept ((Below.refl _ _).alloc (Nat.le_refl _) (.cells (List.toArray [.int .i64 0, .int .i64 0]) 23))
                  exact { h2 with ev6 := fun _ => rfl, g6 := fun _ => h.sz, t6 := fun _ => by simp, o6 := fun p => rfl, z6 := fun _ _ => Bx.new rfl, s6 := fun p => (nomatch (h.o6 p)) }
              | 7, hi, _ =>
                have l' : l7 = false := (ready_op (o := _) rfl hi).1
                subst l'
                have k6 : l6 = true := (ready_op (o := _) rfl hi).2 { on := 6, ground := .phase } (by simp) rfl
                have k4 : l4 = true := (ready_op (o := _) rfl hi).2 { on := 4, ground := .phase } (by simp) rfl
                have k2 : l2 = true := (ready_op (o := _) rfl hi).2 { on := 2, ground := .phase } (by simp) rfl
                have k0 : l0 = true := (ready_op (o := _) rfl hi).2 { on := 0, ground := .phase } (by simp) rfl
                have k1 : l1 = true := (ready_op (o := _) rfl hi).2 { on := 1, ground := .phase } (by simp) rfl
                have k3 : l3 = true := (ready_op (o := _) rfl hi).2 { on := 3, ground := .phase } (by simp) rfl
                clear hi hlt
                subst k6
                subst k4
                subst k2
                subst k0
                subst k1
                subst k3
                obtain rfl := h.ev6 rfl
                obtain rfl := h.ev4 rfl
                obtain rfl := h.ev2 rfl
                obtain rfl := h.ev0 rfl
                obtain rfl := h.ev1 rfl
                obtain rfl := h.ev3 rfl
                have bz := h.z6 rfl rfl
                have c := bz.c
                have f := bz.f
                clear bz
                have H := Lib.hid h
                clear h
                refine wpOp_shut rfl (fun K hK => ?_)
                try simp only [Act.put, List.setIfInBounds_toArray, List.set_cons_zero, List.set_cons_succ]
                go_simp
                refine hK.out _ _ ?_
                unfold Cb.I
                refine ⟨true, true, true, true, true, l5, true, true, l8, ((iv 16777216 16777216)), ((iv p2 q2)), (.tuple #[(iv p3 q3), .int .i64 e3]), (.tuple #[(iv p3 q3), .int .i64 e3]), ((iv p3 q3)), v5, (.pointer (some ⟨b6, 0, none⟩)), v8, b6, rfl, ?_, ?_⟩
                · simp only [Act.put, List.setIfInBounds_toArray, List.set_cons_zero, List.set_cons_succ]
                · have h := H.out
                  have gb := h.g6 rfl
                  have gm := Nat.le_trans h.mn gb
                  exact { h with g := ((h.g.put gm).put gm), sz := by simpa using h.sz, o6 := fun _ => rfl, z6 := fun _ p => (nomatch p), s6 := fun _ => (((h.z6 rfl rfl).put).put), t6 := fun p => by simpa using h.t6 p, u0 := ((h.u0.set (Nat.ne_of_lt (Nat.lt_of_lt_of_le h.un0 gb))).set (Nat.ne_of_lt (Nat.lt_of_lt_of_le h.un0 gb))), u1 := ((h.u1.set (Nat.ne_of_lt (Nat.lt_of_lt_of_le h.un1 gb))).set (Nat.ne_of_lt (Nat.lt_of_lt_of_le h.un1 gb))) }
              | 8, hi, _ =>
                have l' : l8 = false := (ready_op (o := _) rfl hi).1
                subst l'
                have k5 : l5 = true := (ready_op (o := _) rfl hi).2 { on := 5, ground := .phase } (by simp) rfl
                have k7 : l7 = true := (ready_op (o := _) rfl hi).2 { on := 7, ground := .phase } (by simp) rfl
                have k0 : l0 = true := (ready_op (o := _) rfl hi).2 { on := 0, ground := .phase } (by simp) rfl
                have k1 : l1 = true := (ready_op (o := _) rfl hi).2 { on := 1, ground := .phase } (by simp) rfl
                have k2 : l2 = true := (ready_op (o := _) rfl hi).2 { on := 2, ground := .phase } (by simp) rfl
                have k3 : l3 = true := (ready_op (o := _) rfl hi).2 { on := 3, ground := .phase } (by simp) rfl
                have k4 : l4 = true := (ready_op (o := _) rfl hi).2 { on := 4, ground := .phase } (by simp) rfl
                have k6 : l6 = true := (ready_op (o := _) rfl hi).2 { on := 6, ground := .phase } (by simp) rfl
                clear hi hlt
                subst k5
                subst k7
                subst k0
                subst k1
                subst k2
                subst k3
                subst k4
                subst k6
                obtain rfl := h.ev5 rfl
                obtain rfl := h.ev0 rfl
                obtain rfl := h.ev1 rfl
                obtain rfl := h.ev2 rfl
                obtain rfl := h.ev3 rfl
                obtain rfl := h.ev4 rfl
                obtain rfl := h.ev6 rfl
                have H := Lib.hid h
                clear h
                refine wpOp_shut rfl (fun K hK => ?_)
                try simp only [Act.put, List.setIfInBounds_toArray, List.set_cons_zero, List.set_cons_succ]
                go_simp
                refine hK.out _ _ ?_
                unfold Cb.I
                refine ⟨true, true, true, true, true, true, true, true, true, ((iv 16777216 16777216)), ((iv p2 q2)), (.tuple #[(iv p3 q3), .int .i64 e3]), (.tuple #[(iv p3 q3), .int .i64 e3]), ((iv p3 q3)), (.int .i64 e3), (.pointer (some ⟨b6, 0, none⟩)), (.int .i64 e3), b6, rfl, ?_, ?_⟩
                · simp only [Act.put, List.setIfInBounds_toArray, List.set_cons_zero, List.set_cons_succ]
                · exact { H.out with ev8 := fun _ => rfl }
              | i + 9, _, hlt => exact absurd hlt (by simp)
            · intro L a' w' hI hn
              obtain ⟨l0, l1, l2, l3, l4, l5, l6, l7, l8, v0, v1, v2, v3, v4, v5, v6, v8, b6, rfl, rfl, h⟩ := hI
              have k0 : l0 = true := not_ready (i := 0) (o := _) rfl hn (by simp [Region.binds])
              subst k0
              have k1 : l1 = true := not_ready (i := 1) (o := _) rfl hn (by simp [Region.binds])
              subst k1
              have k2 : l2 = true := not_ready (i := 2) (o := _) rfl hn (by simp [Region.binds])
              subst k2
              have k3 : l3 = true := not_ready (i := 3) (o := _) rfl hn (by simp [Region.binds])
              subst k3
              have k4 : l4 = true := not_ready (i := 4) (o := _) rfl hn (by simp [Region.binds])
              subst k4
              have k5 : l5 = true := not_ready (i := 5) (o := _) rfl hn (by simp [Region.binds])
              subst k5
              have k6 : l6 = true := not_ready (i := 6) (o := _) rfl hn (by simp [Region.binds])
              subst k6
              have k7 : l7 = true := not_ready (i := 7) (o := _) rfl hn (by simp [Region.binds])
              subst k7
              have k8 : l8 = true := not_ready (i := 8) (o := _) rfl hn (by simp [Region.binds])
              subst k8
              clear hn
              obtain rfl := h.ev0 rfl
              obtain rfl := h.ev1 rfl
              obtain rfl := h.ev2 rfl
              obtain rfl := h.ev3 rfl
              obtain rfl := h.ev4 rfl
              obtain rfl := h.ev5 rfl
              obtain rfl := h.ev6 rfl
              obtain rfl := h.ev8 rfl
              simp only [Act.put, List.setIfInBounds_toArray, List.set_cons_zero, List.set_cons_succ]
              have H9 := h.g
              have o_9 := h.u0
              have B_9 := h.s6 rfl
              have hs9 := H9.size
              clear h
              clear o_8c o_8f
              obtain ⟨w9, hw9⟩ : ∃ x, x = w' := ⟨_, rfl⟩
              rw [← hw9] at H9 o_9 B_9 hs9 ⊢
              clear hw9
              have o_9c := o_9.c
              have o_9f := o_9.f
              have o_9l := o_9.lt
              have B_9l := B_9.lt
              have B_9c := B_9.c
              have r9 : w.heap.size < w9.heap.size := by omega
              by_cases he3 : e3 = 0
              · subst he3
                go_wp2_with fail
                refine (sqrt_any p3 q3 _).mono ?_
                rintro r w10 ⟨rfl, hb⟩
                rw [X4.out]
                have H10 : Ho w w10 (w.heap.size + 1) [(w.heap.size, [.int .i64 a, .int .i64 b])] := Ho.call (by
                  (repeat (first | with_reducible exact H9 | with_reducible refine Ho.alc ?_ _ | with_reducible refine Ho.drew ?_ | with_reducible refine Ho.put ?_ (by omega)))) hb
                have o_10 : Bx w10 (w.heap.size + 1) [.int .i64 0, .int .i64 0] := Bx.kept (by
                  (repeat (first | with_reducible exact o_9 | with_reducible refine Bx.alc ?_ _ | with_reducible refine Bx.drew ?_ | with_reducible refine Bx.set ?_ (by omega)))) hb
                clear o_9c o_9f B_9c
                have hs10 := H10.size
                have hz10 := hb.size
                (try simp at hz10)
                clear hb
                have h0_10 := (H10.at 0 rfl).c
                have o_10c := o_10.c
                have o_10f := o_10.f
                have o_10l := o_10.lt
                have q10_0 : ¬ (w.heap.size + 1 = w10.heap.size) := by omega
                have q10_1 : ¬ (w10.heap.size = w.heap.size + 1) := by omega
                have q10_2 : w.heap.size + 1 < w10.heap.size := by omega
                have q10_3 : w.heap.size + 1 < w10.heap.size + 1 := by omega
                have q10_4 : ¬ (w.heap.size = w10.heap.size) := by omega
                have q10_5 : ¬ (w10.heap.size = w.heap.size) := by omega
                have q10_6 : w.heap.size < w10.heap.size := by omega
                have q10_7 : w.heap.size < w10.heap.size + 1 := by omega
                have q10_8 : ¬ (w.heap.size + 1 = w.heap.size) := by omega
                have q10_9 : ¬ (w.heap.size = w.heap.size + 1) := by omega
                go_wp2_with fail
                refine bodyPost_box (b := w.heap.size + 1) (cs := [.int .i64 p4, .int .i64 q4]) (v := .tuple #[iv p4 q4, .int .i64 e4]) (by
                  (repeat (first | with_reducible exact o_10 | with_reducible exact Bx.new (by simp) | with_reducible apply Bx.put6 | with_reducible apply Bx.put2 | with_reducible apply Bx.put1 | with_reducible refine Bx.set ?_ (by omega) | with_reducible refine Bx.alc ?_ _ | with_reducible refine Bx.drew ?_))) (fun X hX => by simp [results, Try.results18, go_sem, hX]) rfl ⟨by simp, by
                  refine Ho.below (n := w.heap.size + 1) (l := [(w.heap.size, [.int .i64 a, .int .i64 b])]) ?_
                  (repeat (first | with_reducible exact H10 | with_reducible refine Ho.alc ?_ _ | with_reducible refine Ho.drew ?_ | with_reducible refine Ho.put ?_ (by omega)))⟩
              · have ne3 : (e3 != 0) = true := by simpa using he3
                go_wp2_with fail
                refine bodyPost_box (b := w.heap.size + 1) (cs := [.int .i64 0, .int .i64 0]) (v := .tuple #[iv 0 0, .int .i64 e3]) (by
                  (repeat (first | with_reducible exact o_9 | with_reducible exact Bx.new (by simp) | with_reducible apply Bx.put6 | with_reducible apply Bx.put2 | with_reducible apply Bx.put1 | with_reducible refine Bx.set ?_ (by omega) | with_reducible refine Bx.alc ?_ _ | with_reducible refine Bx.drew ?_))) (fun X hX => by simp [results, Try.results18, go_sem, hX]) rfl ⟨by first | (simp; done) | simp [he3], by
                  refine Ho.below (n := w.heap.size + 1) (l := [(w.heap.size, [.int .i64 a, .int .i64 b])]) ?_
                  (repeat (first | with_reducible exact H9 | with_reducible refine Ho.alc ?_ _ | with_reducible refine Ho.drew ?_ | with_reducible refine Ho.put ?_ (by omega)))⟩
          · have ne2 : (e2 != 0) = true := by simpa using he2
            go_wp2_with fail
            refine bodyPost_box (b := w.heap.size + 1) (cs := [.int .i64 0, .int .i64 0]) (v := .tuple #[iv 0 0, .int .i64 e2]) (by
              (repeat (first | with_reducible exact o_8 | with_reducible exact Bx.new (by simp) | with_reducible apply Bx.put6 | with_reducible apply Bx.put2 | with_reducible apply Bx.put1 | with_reducible refine Bx.set ?_ (by omega) | with_reducible refine Bx.alc ?_ _ | with_reducible refine Bx.drew ?_))) (fun X hX => by simp [results, Try.results18, go_sem, hX]) rfl ⟨by first | (simp; done) | simp [he2], by
              refine Ho.below (n := w.heap.size + 1) (l := [(w.heap.size, [.int .i64 a, .int .i64 b])]) ?_
              (repeat (first | with_reducible exact H8 | with_reducible refine Ho.alc ?_ _ | with_reducible refine Ho.drew ?_ | with_reducible refine Ho.put ?_ (by omega)))⟩
      · have ne1 : (e1 != 0) = true := by simpa using he1
        go_wp2_with fail
        refine bodyPost_box (b := w.heap.size + 1) (cs := [.int .i64 0, .int .i64 0]) (v := .tuple #[iv 0 0, .int .i64 e1]) (by
          (repeat (first | with_reducible exact o_2 | with_reducible exact Bx.new (by simp) | with_reducible apply Bx.put6 | with_reducible apply Bx.put2 | with_reducible apply Bx.put1 | with_reducible refine Bx.set ?_ (by omega) | with_reducible refine Bx.alc ?_ _ | with_reducible refine Bx.drew ?_))) (fun X hX => by simp [results, Try.results18, go_sem, hX]) rfl ⟨by first | (simp; done) | simp [he1], by
          refine Ho.below (n := w.heap.size + 1) (l := [(w.heap.size, [.int .i64 a, .int .i64 b])]) ?_
          (repeat (first | with_reducible exact H2 | with_reducible refine Ho.alc ?_ _ | with_reducible refine Ho.drew ?_ | with_reducible refine Ho.put ?_ (by omega)))⟩
structure Cc (a b p1 q1 p2 q2 p3 q3 E1 E2 E3 : Int) (nb c : Nat) (w0 w : World) (l0 l1 l2 l3 l4 l5 l6 l7 l8 l9 l10 : Bool) (v0 v1 v2 v3 v4 v5 v6 v7 v8 v9 : Value) (b9 : Nat) : Prop where
  g : Ho w0 w (nb + 1) [(nb, [.int .i64 a, .int .i64 b])]
  sz : (c + 1) ≤ w.heap.size
  mn : (nb + 1) ≤ (c + 1)
  u0 : Bx w (nb + 1) [.int .i64 0, .int .i64 0]
  un0 : (nb + 1) < (c + 1)
  uc0 : ¬ ((nb + 1) = c)
  mc : (nb + 1) ≤ c
  cn : c < (c + 1)
  q7 : l7 = true → l6 = true
  q8 : l8 = true → l7 = true
  k0 : l6 = false → Ce w c 0
  k1 : l6 = true → l7 = false → Ce w c E1
  k2 : l7 = true → l8 = false → Ce w c E2
  k3 : l8 = true → Ce w c E3
  ev0 : l0 = true → v0 = .pointer (some ⟨c, 0, none⟩)
  ev1 : l1 = true → v1 = (iv 16777216 16777216)
  ev2 : l2 = true → v2 = .pointer (some ⟨c, 0, none⟩)
  ev3 : l3 = true → v3 = (iv 16777216 16777216)
  ev4 : l4 = true → v4 = .pointer (some ⟨c, 0, none⟩)
  ev5 : l5 = true → v5 = (iv a b)
  ev6 : l6 = true → v6 = (iv p1 q1)
  ev7 : l7 = true → v7 = (iv p2 q2)
  ev8 : l8 = true → v8 = (iv p3 q3)
  ev9 : l9 = true → v9 = .pointer (some ⟨b9, 0, none⟩)
  g9 : l9 = true → (c + 1) ≤ b9
  t9 : l9 = true → b9 < w.heap.size
  o9 : l10 = true → l9 = true
  z9 : l9 = true → l10 = false → Bx w b9 [.int .i64 0, .int .i64 0]
  s9 : l10 = true → Bx w b9 [.int .i64 p3, .int .i64 q3]
theorem Cc.kept {a b p1 q1 p2 q2 p3 q3 E1 E2 E3 : Int} {nb c : Nat} {w0 w : World} {l0 l1 l2 l3 l4 l5 l6 l7 l8 l9 l10 : Bool} {v0 v1 v2 v3 v4 v5 v6 v7 v8 v9 : Value} {b9 : Nat} {w' : World} (h : Cc a b p1 q1 p2 q2 p3 q3 E1 E2 E3 nb c w0 w l0 l1 l2 l3 l4 l5 l6 l7 l8 l9 l10 v0 v1 v2 v3 v4 v5 v6 v7 v8 v9 b9) (hb : Below w.heap.size w w') : Cc a b p1 q1 p2 q2 p3 q3 E1 E2 E3 nb c w0 w' l0 l1 l2 l3 l4 l5 l6 l7 l8 l9 l10 v0 v1 v2 v3 v4 v5 v6 v7 v8 v9 b9 :=
  { h with g := h.g.call hb, sz := Nat.le_trans h.sz hb.size, u0 := h.u0.kept hb, k0 := fun p0 => (h.k0 p0).kept hb, k1 := fun p0 p1 => (h.k1 p0 p1).kept hb, k2 := fun p0 p1 => (h.k2 p0 p1).kept hb, k3 := fun p0 => (h.k3 p0).kept hb, t9 := fun p => Nat.lt_of_lt_of_le (h.t9 p) hb.size, z9 := fun p q => (h.z9 p q).kept hb, s9 := fun p => (h.s9 p).kept hb }
def Cc.I (a b p1 q1 p2 q2 p3 q3 E1 E2 E3 : Int) (nb c : Nat) (w0 : World) : Act → Array Bool → Act → World → Prop := fun aO LX aX w => ∃ (l0 l1 l2 l3 l4 l5 l6 l7 l8 l9 l10 : Bool) (v0 v1 v2 v3 v4 v5 v6 v7 v8 v9 : Value) (b9 : Nat), LX = #[l0, l1, l2, l3, l4, l5, l6, l7, l8, l9, l10] ∧ aX = ((((((((((aO.put (some 16) v0).put (some 17) v1).put (some 18) v2).put (some 19) v3).put (some 20) v4).put (some 21) v5).put (some 22) v6).put (some 23) v7).put (some 24) v8).put (some 5) v9) ∧ Cc a b p1 q1 p2 q2 p3 q3 E1 E2 E3 nb c w0 w l0 l1 l2 l3 l4 l5 l6 l7 l8 l9 l10 v0 v1 v2 v3 v4 v5 v6 v7 v8 v9 b9
set_option maxRecDepth 100000 in
set_option maxHeartbeats 8000000 in
theorem rfcrit_any (a b : Int) (w : World) :
    Calls Try.prog 19 #[iv a b] w fun e w' => e = retR (critR a b) ∧ Below w.heap.size w w' := by
  cases hv : vB a b
  · rw [show critR a b = ⟨0, 0, 1⟩ from if_neg (by rw [hv]; simp)]
    have VB := Lib.hid hv
    clear hv
    have H0 := ((Ho.nil w).bx [.int .i64 a, .int .i64 b] 23 (w.heap.size) (by simp))
    have o_0 : Bx ((w.alloc (.cells (List.toArray [.int .i64 a, .int .i64 b]) 23)).alloc (.cells (List.toArray [.int .i64 0, .int .i64 0]) 23)) (w.heap.size + 1) [.int .i64 0, .int .i64 0] := by
      (repeat (first | with_reducible exact Bx.new (by simp) | with_reducible apply Bx.put6 | with_reducible apply Bx.put2 | with_reducible apply Bx.put1 | with_reducible refine Bx.set ?_ (by omega) | with_reducible refine Bx.alc ?_ _ | with_reducible refine Bx.drew ?_))
    go_enter Try.func19, Try.ntmps19
    have o_0c := o_0.c
    have o_0f := o_0.f
    go_wp2_with fail
    refine (rvalid_below a b _).mono ?_
    rintro r w1 ⟨rfl, hb⟩
    rw [VB.out]
    have H1 : Ho w w1 (w.heap.size + 1) [(w.heap.size, [.int .i64 a, .int .i64 b])] := Ho.call (by
      (repeat (first | with_reducible exact H0 | with_reducible refine Ho.alc ?_ _ | with_reducible refine Ho.drew ?_ | with_reducible refine Ho.put ?_ (by omega)))) hb
    have o_1 : Bx w1 (w.heap.size + 1) [.int .i64 0, .int .i64 0] := Bx.kept (by
      (repeat (first | with_reducible exact o_0 | with_reducible refine Bx.alc ?_ _ | with_reducible refine Bx.drew ?_ | with_reducible refine Bx.set ?_ (by omega)))) hb
    clear o_0c o_0f
    have hs1 := H1.size
    have hz1 := hb.size
    (try simp at hz1)
    clear hb
    have h0_1 := (H1.at 0 rfl).c
    have o_1c := o_1.c
    have o_1f := o_1.f
    have o_1l := o_1.lt
    have q1_0 : ¬ (w.heap.size + 1 = w1.heap.size) := by omega
    have q1_1 : ¬ (w1.heap.size = w.heap.size + 1) := by omega
    have q1_2 : w.heap.size + 1 < w1.heap.size := by omega
    have q1_3 : w.heap.size + 1 < w1.heap.size + 1 := by omega
    have q1_4 : ¬ (w.heap.size = w1.heap.size) := by omega
    have q1_5 : ¬ (w1.heap.size = w.heap.size) := by omega
    have q1_6 : w.heap.size < w1.heap.size := by omega
    have q1_7 : w.heap.size < w1.heap.size + 1 := by omega
    have q1_8 : ¬ (w.heap.size + 1 = w.heap.size) := by omega
    have q1_9 : ¬ (w.heap.size = w.heap.size + 1) := by omega
    go_wp2_with fail
    refine bodyPost_box (b := w.heap.size + 1) (cs := [.int .i64 0, .int .i64 0]) (v := .tuple #[iv 0 0, .int .i64 1]) (by
      (repeat (first | with_reducible exact o_1 | with_reducible exact Bx.new (by simp) | with_reducible apply Bx.put6 | with_reducible apply Bx.put2 | with_reducible apply Bx.put1 | with_reducible refine Bx.set ?_ (by omega) | with_reducible refine Bx.alc ?_ _ | with_reducible refine Bx.drew ?_))) (fun X hX => by simp [results, Try.results19, go_sem, hX]) rfl ⟨rfl, by
      refine Ho.below (n := w.heap.size + 1) (l := [(w.heap.size, [.int .i64 a, .int .i64 b])]) ?_
      (repeat (first | with_reducible exact H1 | with_reducible refine Ho.alc ?_ _ | with_reducible refine Ho.drew ?_ | with_reducible refine Ho.put ?_ (by omega)))⟩
  · by_cases hz : a < 16777216
    · rw [show critR a b = ⟨0, 0, 2⟩ from by rw [critR, if_pos hv, if_pos hz]]
      have VB := Lib.hid hv
      clear hv
      have H0 := ((Ho.nil w).bx [.int .i64 a, .int .i64 b] 23 (w.heap.size) (by simp))
      have o_0 : Bx ((w.alloc (.cells (List.toArray [.int .i64 a, .int .i64 b]) 23)).alloc (.cells (List.toArray [.int .i64 0, .int .i64 0]) 23)) (w.heap.size + 1) [.int .i64 0, .int .i64 0] := by
        (repeat (first | with_reducible exact Bx.new (by simp) | with_reducible apply Bx.put6 | with_reducible apply Bx.put2 | with_reducible apply Bx.put1 | with_reducible refine Bx.set ?_ (by omega) | with_reducible refine Bx.alc ?_ _ | with_reducible refine Bx.drew ?_))
      go_enter Try.func19, Try.ntmps19
      have o_0c := o_0.c
      have o_0f := o_0.f
      go_wp2_with fail
      refine (rvalid_below a b _).mono ?_
      rintro r w1 ⟨rfl, hb⟩
      rw [VB.out]
      have H1 : Ho w w1 (w.heap.size + 1) [(w.heap.size, [.int .i64 a, .int .i64 b])] := Ho.call (by
        (repeat (first | with_reducible exact H0 | with_reducible refine Ho.alc ?_ _ | with_reducible refine Ho.drew ?_ | with_reducible refine Ho.put ?_ (by omega)))) hb
      have o_1 : Bx w1 (w.heap.size + 1) [.int .i64 0, .int .i64 0] := Bx.kept (by
        (repeat (first | with_reducible exact o_0 | with_reducible refine Bx.alc ?_ _ | with_reducible refine Bx.drew ?_ | with_reducible refine Bx.set ?_ (by omega)))) hb
      clear o_0c o_0f
      have hs1 := H1.size
      have hz1 := hb.size
      (try simp at hz1)
      clear hb
      have h0_1 := (H1.at 0 rfl).c
      have o_1c := o_1.c
      have o_1f := o_1.f
      have o_1l := o_1.lt
      have q1_0 : ¬ (w.heap.size + 1 = w1.heap.size) := by omega
      have q1_1 : ¬ (w1.heap.size = w.heap.size + 1) := by omega
      have q1_2 : w.heap.size + 1 < w1.heap.size := by omega
      have q1_3 : w.heap.size + 1 < w1.heap.size + 1 := by omega
      have q1_4 : ¬ (w.heap.size = w1.heap.size) := by omega
      have q1_5 : ¬ (w1.heap.size = w.heap.size) := by omega
      have q1_6 : w.heap.size < w1.heap.size := by omega
      have q1_7 : w.heap.size < w1.heap.size + 1 := by omega
      have q1_8 : ¬ (w.heap.size + 1 = w.heap.size) := by omega
      have q1_9 : ¬ (w.heap.size = w.heap.size + 1) := by omega
      go_wp2_with fail
      refine bodyPost_box (b := w.heap.size + 1) (cs := [.int .i64 0, .int .i64 0]) (v := .tuple #[iv 0 0, .int .i64 2]) (by
        (repeat (first | with_reducible exact o_1 | with_reducible exact Bx.new (by simp) | with_reducible apply Bx.put6 | with_reducible apply Bx.put2 | with_reducible apply Bx.put1 | with_reducible refine Bx.set ?_ (by omega) | with_reducible refine Bx.alc ?_ _ | with_reducible refine Bx.drew ?_))) (fun X hX => by simp [results, Try.results19, go_sem, hX]) rfl ⟨rfl, by
        refine Ho.below (n := w.heap.size + 1) (l := [(w.heap.size, [.int .i64 a, .int .i64 b])]) ?_
        (repeat (first | with_reducible exact H1 | with_reducible refine Ho.alc ?_ _ | with_reducible refine Ho.drew ?_ | with_reducible refine Ho.put ?_ (by omega)))⟩
    · obtain ⟨⟨p1, q1, e1⟩, h1⟩ : ∃ r : R, sqR a b = r := ⟨_, rfl⟩
      obtain ⟨⟨p2, q2, e2⟩, h2⟩ : ∃ r : R, divR 16777216 16777216 p1 q1 = r := ⟨_, rfl⟩
      obtain ⟨⟨p3, q3, e3⟩, h3⟩ : ∃ r : R, subR 16777216 16777216 p2 q2 = r := ⟨_, rfl⟩
      obtain ⟨⟨p4, q4, e4⟩, h4⟩ : ∃ r : R, sqrtR p3 q3 = r := ⟨_, rfl⟩
      obtain ⟨E1, k1⟩ : ∃ E, keepE 0 e1 = E := ⟨_, rfl⟩
      obtain ⟨E2, k2⟩ : ∃ E, keepE E1 e2 = E := ⟨_, rfl⟩
      obtain ⟨E3, k3⟩ : ∃ E, keepE E2 e3 = E := ⟨_, rfl⟩
      have hk := crit_ref hv hz h1 h2 h3 h4
      dsimp only at hk
      rw [k1, k2, k3] at hk
      rw [hk]
      clear hk
      have VB := Lib.hid hv
      have X1 := Lib.hid h1
      have X2 := Lib.hid h2
      have X3 := Lib.hid h3
      have X4 := Lib.hid h4
      have Y1 := Lib.hid k1
      have Y2 := Lib.hid k2
      have Y3 := Lib.hid k3
      clear hv h1 h2 h3 h4 k1 k2 k3
      have H0 := ((Ho.nil w).bx [.int .i64 a, .int .i64 b] 23 (w.heap.size) (by simp))
      have o_0 : Bx ((w.alloc (.cells (List.toArray [.int .i64 a, .int .i64 b]) 23)).alloc (.cells (List.toArray [.int .i64 0, .int .i64 0]) 23)) (w.heap.size + 1) [.int .i64 0, .int .i64 0] := by
        (repeat (first | with_reducible exact Bx.new (by simp) | with_reducible apply Bx.put6 | with_reducible apply Bx.put2 | with_reducible apply Bx.put1 | with_reducible refine Bx.set ?_ (by omega) | with_reducible refine Bx.alc ?_ _ | with_reducible refine Bx.drew ?_))
      go_enter Try.func19, Try.ntmps19
      have o_0c := o_0.c
      have o_0f := o_0.f
      go_wp2_with fail
      refine (rvalid_below a b _).mono ?_
      rintro r w1 ⟨rfl, hb⟩
      rw [VB.out]
      have H1 : Ho w w1 (w.heap.size + 1) [(w.heap.size, [.int .i64 a, .int .i64 b])] := Ho.call (by
        (repeat (first | with_reducible exact H0 | with_reducible refine Ho.alc ?_ _ | with_reducible refine Ho.drew ?_ | with_reducible refine Ho.put ?_ (by omega)))) hb
      have o_1 : Bx w1 (w.heap.size + 1) [.int .i64 0, .int .i64 0] := Bx.kept (by
        (repeat (first | with_reducible exact o_0 | with_reducible refine Bx.alc ?_ _ | with_reducible refine Bx.drew ?_ | with_reducible refine Bx.set ?_ (by omega)))) hb
      clear o_0c o_0f
      have hs1 := H1.size
      have hz1 := hb.size
      (try simp at hz1)
      clear hb
      have h0_1 := (H1.at 0 rfl).c
      have o_1c := o_1.c
      have o_1f := o_1.f
      have o_1l := o_1.lt
      have q1_0 : ¬ (w.heap.size + 1 = w1.heap.size) := by omega
      have q1_1 : ¬ (w1.heap.size = w.heap.size + 1) := by omega
      have q1_2 : w.heap.size + 1 < w1.heap.size := by omega
      have q1_3 : w.heap.size + 1 < w1.heap.size + 1 := by omega
      have q1_4 : ¬ (w.heap.size = w1.heap.size) := by omega
      have q1_5 : ¬ (w1.heap.size = w.heap.size) := by omega
      have q1_6 : w.heap.size < w1.heap.size := by omega
      have q1_7 : w.heap.size < w1.heap.size + 1 := by omega
      have q1_8 : ¬ (w.heap.size + 1 = w.heap.size) := by omega
      have q1_9 : ¬ (w.heap.size = w.heap.size + 1) := by omega
      go_upto_region 6 with fail
      refine region_sets (Cc.I a b p1 q1 p2 q2 p3 q3 E1 E2 E3 w.heap.size w1.heap.size w) (by kernel_rfl) ?_ ?_ ?_
      · refine ⟨false, false, false, false, false, false, false, false, false, false, false, undef, undef, undef, undef, undef, undef, undef, undef, undef, undef, 0, rfl, by simp only [Act.put, List.setIfInBounds_toArray, List.set_cons_zero, List.set_cons_succ], ?_⟩
        constructor
        · (repeat (first | with_reducible exact H1 | with_reducible refine Ho.alc ?_ _ | with_reducible refine Ho.drew ?_ | with_reducible refine Ho.put ?_ (by omega)))
        · (first | (simp; done) | (simp; omega))
        · (omega)
        · (repeat (first | with_reducible exact o_1 | with_reducible refine Bx.alc ?_ _ | with_reducible refine Bx.drew ?_ | with_reducible refine Bx.set ?_ (by omega)))
        · (omega)
        · (omega)
        · (omega)
        · (omega)
        · (intro h; cases h)
        · (intro h; cases h)
        · (intro _; exact Bx.ce (by
          (repeat (first | with_reducible exact Bx.new (by simp) | with_reducible apply Bx.put6 | with_reducible apply Bx.put2 | with_reducible apply Bx.put1 | with_reducible refine Bx.set ?_ (by omega) | with_reducible refine Bx.alc ?_ _ | with_reducible refine Bx.drew ?_))))
        all_goals (intro h; cases h)
      · intro L a' w' hI i hi
        obtain ⟨l0, l1, l2, l3, l4, l5, l6, l7, l8, l9, l10, v0, v1, v2, v3, v4, v5, v6, v7, v8, v9, b9, rfl, rfl, h⟩ := hI
        have hlt := ready_lt hi
        match i, hi, hlt with
        | 0, hi, _ =>
          have l' : l0 = false := (ready_op (o := _) rfl hi).1
          subst l'
          clear hi hlt
          have H := Lib.hid h
          clear h
          refine wpOp_shut rfl (fun K hK => ?_)
          try simp only [Act.put, List.setIfInBounds_toArray, List.set_cons_zero, List.set_cons_succ]
          go_simp
          refine hK.out _ _ ?_
          unfold Cc.I
          refine ⟨true, l1, l2, l3, l4, l5, l6, l7, l8, l9, l10, (.pointer (some ⟨w1.heap.size, 0, none⟩)), v1, v2, v3, v4, v5, v6, v7, v8, v9, b9, rfl, ?_, ?_⟩
          · simp only [Act.put, List.setIfInBounds_toArray, List.set_cons_zero, List.set_cons_succ]
          · exact { H.out with ev0 := fun _ => rfl }
        | 1, hi, _ =>
          have l' : l1 = false := (ready_op (o := _) rfl hi).1
          subst l'
          clear hi hlt
          have H := Lib.hid h
          clear h
          refine wpOp_shut rfl (fun K hK => ?_)
          try simp only [Act.put, List.setIfInBounds_toArray, List.set_cons_zero, List.set_cons_succ]
          go_simp
          refine (one_any _).mono ?_
          rintro e wY ⟨rfl, hb⟩
          try go_simp
          refine hK.out _ _ ?_
          unfold Cc.I
          refine ⟨l0, true, l2, l3, l4, l5, l6, l7, l8, l9, l10, v0, ((iv 16777216 16777216)), v2, v3, v4, v5, v6, v7, v8, v9, b9, rfl, ?_, ?_⟩
          · simp only [Act.put, List.setIfInBounds_toArray, List.set_cons_zero, List.set_cons_succ]
          · exact { (H.out.kept hb) with ev1 := fun _ => rfl }
        | 2, hi, _ =>
          have l' : l2 = false := (ready_op (o := _) rfl hi).1
          subst l'
          clear hi hlt
          have H := Lib.hid h
          clear h
          refine wpOp_shut rfl (fun K hK => ?_)
          try simp only [Act.put, List.setIfInBounds_toArray, List.set_cons_zero, List.set_cons_succ]
          go_simp
          refine hK.out _ _ ?_
          unfold Cc.I
          refine ⟨l0, l1, true, l3, l4, l5, l6, l7, l8, l9, l10, v0, v1, (.pointer (some ⟨w1.heap.size, 0, none⟩)), v3, v4, v5, v6, v7, v8, v9, b9, rfl, ?_, ?_⟩
          · simp only [Act.put, List.setIfInBounds_toArray, List.set_cons_zero, List.set_cons_succ]
          · exact { H.out with ev2 := fun _ => rfl }
        | 3, hi, _ =>
          have l' : l3 = false := (ready_op (o := _) rfl hi).1
          subst l'
          have k1 : l1 = true := (ready_op (o := _) rfl hi).2 { on := 1, ground := .chain } (by simp) rfl
          clear hi hlt
          subst k1
          obtain rfl := h.ev1 rfl
          have H := Lib.hid h
          clear h
          refine wpOp_shut rfl (fun K hK => ?_)
          try simp only [Act.put, List.setIfInBounds_toArray, List.set_cons_zero, List.set_cons_succ]
          go_simp
          refine (one_any _).mono ?_
          rintro e wY ⟨rfl, hb⟩
          try go_simp
          refine hK.out _ _ ?_
          unfold Cc.I
          refine ⟨l0, true, l2, true, l4, l5, l6, l7, l8, l9, l10, v0, ((iv 16777216 16777216)), v2, ((iv 16777216 16777216)), v4, v5, v6, v7, v8, v9, b9, rfl, ?_, ?_⟩
          · simp only [Act.put, List.setIfInBounds_toArray, List.set_cons_zero, List.set_cons_succ]
          · exact { (H.out.kept hb) with ev3 := fun _ => rfl }
        | 4, hi, _ =>
          have l' : l4 = false := (ready_op (o := _) rfl hi).1
          subst l'
          clear hi hlt
          have H := Lib.hid h
          clear h
          refine wpOp_shut rfl (fun K hK => ?_)
          try simp only [Act.put, List.setIfInBounds_toArray, List.set_cons_zero, List.set_cons_succ]
          go_simp
          refine hK.out _ _ ?_
          unfold Cc.I
          refine ⟨l0, l1, l2, l3, true, l5, l6, l7, l8, l9, l10, v0, v1, v2, v3, (.pointer (some ⟨w1.heap.size, 0, none⟩)), v5, v6, v7, v8, v9, b9, rfl, ?_, ?_⟩
          · simp only [Act.put, List.setIfInBounds_toArray, List.set_cons_zero, List.set_cons_succ]
          · exact { H.out with ev4 := fun _ => rfl }
        | 5, hi, _ =>
          have l' : l5 = false := (ready_op (o := _) rfl hi).1
          subst l'
          clear hi hlt
          have c := (h.g.at 0 rfl).c
          have H := Lib.hid h
          clear h
          refine wpOp_shut rfl (fun K hK => ?_)
          try simp only [Act.put, List.setIfInBounds_toArray, List.set_cons_zero, List.set_cons_succ]
          go_simp
          refine hK.out _ _ ?_
          unfold Cc.I
          refine ⟨l0, l1, l2, l3, l4, true, l6, l7, l8, l9, l10, v0, v1, v2, v3, v4, ((iv a b)), v6, v7, v8, v9, b9, rfl, ?_, ?_⟩
          · simp only [Act.put, List.setIfInBounds_toArray, List.set_cons_zero, List.set_cons_succ]
          · exact { H.out with ev5 := fun _ => rfl }
        | 6, hi, _ =>
          have l' : l6 = false := (ready_op (o := _) rfl hi).1
          subst l'
          have k4 : l4 = true := (ready_op (o := _) rfl hi).2 { on := 4, ground := .data } (by simp) rfl
          have k5 : l5 = true := (ready_op (o := _) rfl hi).2 { on := 5, ground := .data } (by simp) rfl
          have k3 : l3 = true := (ready_op (o := _) rfl hi).2 { on := 3, ground := .chain } (by simp) rfl
          clear hi hlt
          subst k4
          subst k5
          subst k3
          obtain rfl := h.ev4 rfl
          obtain rfl := h.ev5 rfl
          obtain rfl := h.ev3 rfl
          have CK := h.k0 rfl
          have H := Lib.hid h
          clear h
          refine wpOp_shut rfl (fun K hK => ?_)
          try simp only [Act.put, List.setIfInBounds_toArray, List.set_cons_zero, List.set_cons_succ]
          go_simp
          refine (csq_any w.heap.size w1.heap.size a b 0 _ CK.v CK.f).mono ?_
          rintro e wY ⟨rfl, st⟩
          rw [X1.out]
          rw [X1.out] at st
          dsimp only
          dsimp only at st
          rw [Y1.out] at st
          try go_simp
          refine hK.out _ _ ?_
          unfold Cc.I
          refine ⟨l0, l1, l2, true, true, true, true, l7, l8, l9, l10, v0, v1, v2, ((iv 16777216 16777216)), (.pointer (some ⟨w1.heap.size, 0, none⟩)), ((iv a b)), ((iv p1 q1)), v7, v8, v9, b9, rfl, ?_, ?_⟩
          · simp only [Act.put, List.setIfInBounds_toArray, List.set_cons_zero, List.set_cons_succ]
          · have h := H.out
            exact { h with g := h.g.step st h.mc, sz := Nat.le_trans h.sz st.size, ev6 := fun _ => rfl, u0 := h.u0.step st h.uc0, k0 := fun p0 => (nomatch p0), k1 := fun p0 p1 => CK.step st, k2 := fun p0 p1 => (nomatch (h.q7 p0)), k3 := fun p0 => (nomatch (h.q7 (h.q8 p0))), q7 := fun _ => rfl, t9 := fun p => Nat.lt_of_lt_of_le (h.t9 p) st.size, z9 := fun p r => (h.z9 p r).step st (Nat.ne_of_gt (Nat.lt_of_lt_of_le h.cn (h.g9 p))), s9 := fun p => (h.s9 p).step st (Nat.ne_of_gt (Nat.lt_of_lt_of_le h.cn (h.g9 (h.o9 p)))) }
        | 7, hi, _ =>
          have l' : l7 = false := (ready_op (o := _) rfl hi).1
          subst l'
          have k2 : l2 = true := (ready_op (o := _) rfl hi).2 { on := 2, ground := .data } (by simp) rfl
          have k3 : l3 = true := (ready_op (o := _) rfl hi).2 { on := 3, ground := .data } (by simp) rfl
          have k6 : l6 = true := (ready_op (o := _) rfl hi).2 { on := 6, ground := .chain } (by simp) rfl
          clear hi hlt
          subst k2
          subst k3
          subst k6
          obtain rfl := h.ev2 rfl
          obtain rfl := h.ev3 rfl
          obtain rfl := h.ev6 rfl
          have CK := h.k1 rfl rfl
          have H := Lib.hid h
          clear h
          refine wpOp_shut rfl (fun K hK => ?_)
          try simp only [Act.put, List.setIfInBounds_toArray, List.set_cons_zero, List.set_cons_succ]
          go_simp
          refine (cdiv_any w.heap.size w1.heap.size 16777216 16777216 p1 q1 E1 _ CK.v CK.f).mono ?_
          rintro e wY ⟨rfl, st⟩
          rw [X2.out]
          rw [X2.out] at st
          dsimp only
          dsimp only at st
          rw [Y2.out] at st
          try go_simp
          refine hK.out _ _ ?_
          unfold Cc.I
          refine ⟨l0, l1, true, true, l4, l5, true, true, l8, l9, l10, v0, v1, (.pointer (some ⟨w1.heap.size, 0, none⟩)), ((iv 16777216 16777216)), v4, v5, ((iv p1 q1)), ((iv p2 q2)), v8, v9, b9, rfl, ?_, ?_⟩
          · simp only [Act.put, List.setIfInBounds_toArray, List.set_cons_zero, List.set_cons_succ]
          · have h := H.out
            exact { h with g := h.g.step st h.mc, sz := Nat.le_trans h.sz st.size, ev7 := fun _ => rfl, u0 := h.u0.step st h.uc0, k0 := fun p0 => (nomatch (Eq.trans (Eq.symm (rfl : true = true)) p0)), k1 := fun p0 p1 => (nomatch p1), k2 := fun p0 p1 => CK.step st, k3 := fun p0 => (nomatch (h.q8 p0)), q7 := fun _ => rfl, q8 := fun _ => rfl, t9 := fun p => Nat.lt_of_lt_of_le (h.t9 p) st.size, z9 := fun p r => (h.z9 p r).step st (Nat.ne_of_gt (Nat.lt_of_lt_of_le h.cn (h.g9 p))), s9 := fun p => (h.s9 p).step st (Nat.ne_of_gt (Nat.lt_of_lt_of_le h.cn (h.g9 (h.o9 p)))) }
        | 8, hi, _ =>
          have l' : l8 = false := (ready_op (o := _) rfl hi).1
          subst l'
          have k0 : l0 = true := (ready_op (o := _) rfl hi).2 { on := 0, ground := .data } (by simp) rfl
          have k1 : l1 = true := (ready_op (o := _) rfl hi).2 { on := 1, ground := .data } (by simp) rfl
          have k7 : l7 = true := (ready_op (o := _) rfl hi).2 { on := 7, ground := .chain } (by simp) rfl
          clear hi hlt
          subst k0
          subst k1
          subst k7
          obtain rfl := h.ev0 rfl
          obtain rfl := h.ev1 rfl
          obtain rfl := h.ev7 rfl
          have CK := h.k2 rfl rfl
          have H := Lib.hid h
          clear h
          refine wpOp_shut rfl (fun K hK => ?_)
          try simp only [Act.put, List.setIfInBounds_toArray, List.set_cons_zero, List.set_cons_succ]
          go_simp
          refine (csub_any w.heap.size w1.heap.size 16777216 16777216 p2 q2 E2 _ CK.v CK.f).mono ?_
          rintro e wY ⟨rfl, st⟩
          rw [X3.out]
          rw [X3.out] at st
          dsimp only
          dsimp only at st
          rw [Y3.out] at st
          try go_simp
          refine hK.out _ _ ?_
          unfold Cc.I
          refine ⟨true, true, l2, l3, l4, l5, l6, true, true, l9, l10, (.pointer (some ⟨w1.heap.size, 0, none⟩)), ((iv 16777216 16777216)), v2, v3, v4, v5, v6, ((iv p2 q2)), ((iv p3 q3)), v9, b9, rfl, ?_, ?_⟩
          · simp only [Act.put, List.setIfInBounds_toArray, List.set_cons_zero, List.set_cons_succ]
          · have h := H.out
            exact { h with g := h.g.step st h.mc, sz := Nat.le_trans h.sz st.size, ev8 := fun _ => rfl, u0 := h.u0.step st h.uc0, k0 := fun p0 => (nomatch (Eq.trans (Eq.symm (h.q7 rfl)) p0)), k1 := fun p0 p1 => (nomatch (Eq.trans (Eq.symm (rfl : true = true)) p1)), k2 := fun p0 p1 => (nomatch p1), k3 := fun p0 => CK.step st, q8 := fun _ => rfl, t9 := fun p => Nat.lt_of_lt_of_le (h.t9 p) st.size, z9 := fun p r => (h.z9 p r).step st (Nat.ne_of_gt (Nat.lt_of_lt_of_le h.cn (h.g9 p))), s9 := fun p => (h.s9 p).step st (Nat.ne_of_gt (Nat.lt_of_lt_of_le h.cn (h.g9 (h.o9 p)))) }
        | 9, hi, _ =>
          have l' : l9 = false := (ready_op (o := _) rfl hi).1
          subst l'
          clear hi hlt
          have H := Lib.hid h
          clear h
          refine wpOp_shut rfl (fun K hK => ?_)
          try simp only [Act.put, List.setIfInBounds_toArray, List.set_cons_zero, List.set_cons_succ]
          go_simp
          refine hK.out _ _ ?_
          unfold Cc.I
          refine ⟨l0, l1, l2, l3, l4, l5, l6, l7, l8, true, l10, v0, v1, v2, v3, v4, v5, v6, v7, v8, (.pointer (some ⟨w'.heap.size, 0, none⟩)), w'.heap.size, rfl, ?_, ?_⟩
          · simp only [Act.put, List.setIfInBounds_toArray, List.set_cons_zero, List.set_cons_succ]
          · have h := H.out
            have h2 := h.kept ((Below.refl _ _).alloc (Nat.le_refl _) (.cells (List.toArray [.int .i64 0, .int .i64 0]) 23))
            exact { h2 with ev9 := fun _ => rfl, g9 := fun _ => h.sz, t9 := fun _ => by simp, o9 := fun p => rfl, z9 := fun _ _ => Bx.new rfl, s9 := fun p => (nomatch (h.o9 p)) }
        | 10, hi, _ =>
          have l' : l10 = false := (ready_op (o := _) rfl hi).1
          subst l'
          have k9 : l9 = true := (ready_op (o := _) rfl hi).2 { on := 9, ground := .phase } (by simp) rfl
          have k8 : l8 = true := (ready_op (o := _) rfl hi).2 { on := 8, ground := .phase } (by simp) rfl
          have k0 : l0 = true := (ready_op (o := _) rfl hi).2 { on := 0, ground := .phase } (by simp) rfl
          have k1 : l1 = true := (ready_op (o := _) rfl hi).2 { on := 1, ground := .phase } (by simp) rfl
          have k2 : l2 = true := (ready_op (o := _) rfl hi).2 { on := 2, ground := .phase } (by simp) rfl
          have k3 : l3 = true := (ready_op (o := _) rfl hi).2 { on := 3, ground := .phase } (by simp) rfl
          have k4 : l4 = true := (ready_op (o := _) rfl hi).2 { on := 4, ground := .phase } (by simp) rfl
          have k5 : l5 = true := (ready_op (o := _) rfl hi).2 { on := 5, ground := .phase } (by simp) rfl
          have k6 : l6 = true := (ready_op (o := _) rfl hi).2 { on := 6, ground := .phase } (by simp) rfl
          have k7 : l7 = true := (ready_op (o := _) rfl hi).2 { on := 7, ground := .phase } (by simp) rfl
          clear hi hlt
          subst k9
          subst k8
          subst k0
          subst k1
          subst k2
          subst k3
          subst k4
          subst k5
          subst k6
          subst k7
          obtain rfl := h.ev9 rfl
          obtain rfl := h.ev8 rfl
          obtain rfl := h.ev0 rfl
          obtain rfl := h.ev1 rfl
          obtain rfl := h.ev2 rfl
          obtain rfl := h.ev3 rfl
          obtain rfl := h.ev4 rfl
          obtain rfl := h.ev5 rfl
          obtain rfl := h.ev6 rfl
          obtain rfl := h.ev7 rfl
          have bz := h.z9 rfl rfl
          have c := bz.c
          have f := bz.f
          clear bz
          have H := Lib.hid h
          clear h
          refine wpOp_shut rfl (fun K hK => ?_)
          try simp only [Act.put, List.setIfInBounds_toArray, List.set_cons_zero, List.set_cons_succ]
          go_simp
          refine hK.out _ _ ?_
          unfold Cc.I
          refine ⟨true, true, true, true, true, true, true, true, true, true, true, (.pointer (some ⟨w1.heap.size, 0, none⟩)), ((iv 16777216 16777216)), (.pointer (some ⟨w1.heap.size, 0, none⟩)), ((iv 16777216 16777216)), (.pointer (some ⟨w1.heap.size, 0, none⟩)), ((iv a b)), ((iv p1 q1)), ((iv p2 q2)), ((iv p3 q3)), (.pointer (some ⟨b9, 0, none⟩)), b9, rfl, ?_, ?_⟩
          · simp only [Act.put, List.setIfInBounds_toArray, List.set_cons_zero, List.set_cons_succ]
          · have h := H.out
            have gb := h.g9 rfl
            have gm := Nat.le_trans h.mn gb
            exact { h with g := ((h.g.put gm).put gm), sz := by simpa using h.sz, o9 := fun _ => rfl, z9 := fun _ p => (nomatch p), s9 := fun _ => (((h.z9 rfl rfl).put).put), t9 := fun p => by simpa using h.t9 p, u0 := ((h.u0.set (Nat.ne_of_lt (Nat.lt_of_lt_of_le h.un0 gb))).set (Nat.ne_of_lt (Nat.lt_of_lt_of_le h.un0 gb))), k0 := fun p0 => (((h.k0 p0).set (Nat.ne_of_lt (Nat.lt_of_lt_of_le h.cn gb))).set (Nat.ne_of_lt (Nat.lt_of_lt_of_le h.cn gb))), k1 := fun p0 p1 => (((h.k1 p0 p1).set (Nat.ne_of_lt (Nat.lt_of_lt_of_le h.cn gb))).set (Nat.ne_of_lt (Nat.lt_of_lt_of_le h.cn gb))), k2 := fun p0 p1 => (((h.k2 p0 p1).set (Nat.ne_of_lt (Nat.lt_of_lt_of_le h.cn gb))).set (Nat.ne_of_lt (Nat.lt_of_lt_of_le h.cn gb))), k3 := fun p0 => (((h.k3 p0).set (Nat.ne_of_lt (Nat.lt_of_lt_of_le h.cn gb))).set (Nat.ne_of_lt (Nat.lt_of_lt_of_le h.cn gb))) }
        | i + 11, _, hlt => exact absurd hlt (by simp)
      · intro L a' w' hI hn
        obtain ⟨l0, l1, l2, l3, l4, l5, l6, l7, l8, l9, l10, v0, v1, v2, v3, v4, v5, v6, v7, v8, v9, b9, rfl, rfl, h⟩ := hI
        have k0 : l0 = true := not_ready (i := 0) (o := _) rfl hn (by simp [Region.binds])
        subst k0
        have k1 : l1 = true := not_ready (i := 1) (o := _) rfl hn (by simp [Region.binds])
        subst k1
        have k2 : l2 = true := not_ready (i := 2) (o := _) rfl hn (by simp [Region.binds])
        subst k2
        have k3 : l3 = true := not_ready (i := 3) (o := _) rfl hn (by simp [Region.binds])
        subst k3
        have k4 : l4 = true := not_ready (i := 4) (o := _) rfl hn (by simp [Region.binds])
        subst k4
        have k5 : l5 = true := not_ready (i := 5) (o := _) rfl hn (by simp [Region.binds])
        subst k5
        have k6 : l6 = true := not_ready (i := 6) (o := _) rfl hn (by simp [Region.binds])
        subst k6
        have k7 : l7 = true := not_ready (i := 7) (o := _) rfl hn (by simp [Region.binds])
        subst k7
        have k8 : l8 = true := not_ready (i := 8) (o := _) rfl hn (by simp [Region.binds])
        subst k8
        have k9 : l9 = true := not_ready (i := 9) (o := _) rfl hn (by simp [Region.binds])
        subst k9
        have k10 : l10 = true := not_ready (i := 10) (o := _) rfl hn (by simp [Region.binds])
        subst k10
        clear hn
        obtain rfl := h.ev0 rfl
        obtain rfl := h.ev1 rfl
        obtain rfl := h.ev2 rfl
        obtain rfl := h.ev3 rfl
        obtain rfl := h.ev4 rfl
        obtain rfl := h.ev5 rfl
        obtain rfl := h.ev6 rfl
        obtain rfl := h.ev7 rfl
        obtain rfl := h.ev8 rfl
        obtain rfl := h.ev9 rfl
        simp only [Act.put, List.setIfInBounds_toArray, List.set_cons_zero, List.set_cons_succ]
        have H6 := h.g
        have o_6 := h.u0
        have C_6 := h.k3 rfl
        have B := h.s9 rfl
        have gB := h.g9 rfl
        clear h
        clear h0_1 o_1c o_1f q1_0 q1_1 q1_2 q1_3 q1_4 q1_5 q1_6 q1_7 q1_8 q1_9
        obtain ⟨w6, hw6⟩ : ∃ x, x = w' := ⟨_, rfl⟩
        rw [← hw6] at H6 o_6 C_6 B ⊢
        clear hw6
        have C_6v := C_6.v
        have Bc := B.c
        have oc := o_6.c
        have of := o_6.f
        have ol := o_6.lt
        have cl := C_6.lt
        have Bl := B.lt
        have hs6 := H6.size
        have r6 : w.heap.size < w6.heap.size := by omega
        have n1 : ¬ (b9 = w.heap.size + 1) := by omega
        have n2 : ¬ (w.heap.size + 1 = b9) := by omega
        by_cases he : E3 = 0
        · subst he
          go_wp2_with fail
          refine (rsqrt_any p3 q3 _).mono ?_
          rintro r w7 ⟨rfl, hb⟩
          rw [X4.out]
          have H7 : Ho w w7 (w.heap.size + 1) [(w.heap.size, [.int .i64 a, .int .i64 b])] := Ho.call (by
            (repeat (first | with_reducible exact H6 | with_reducible refine Ho.alc ?_ _ | with_reducible refine Ho.drew ?_ | with_reducible refine Ho.put ?_ (by omega)))) hb
          have o_7 : Bx w7 (w.heap.size + 1) [.int .i64 0, .int .i64 0] := Bx.kept (by
            (repeat (first | with_reducible exact o_6 | with_reducible refine Bx.alc ?_ _ | with_reducible refine Bx.drew ?_ | with_reducible refine Bx.set ?_ (by omega)))) hb
          clear C_6v Bc oc of
          have hs7 := H7.size
          have hz7 := hb.size
          (try simp at hz7)
          clear hb
          have h0_7 := (H7.at 0 rfl).c
          have o_7c := o_7.c
          have o_7f := o_7.f
          have o_7l := o_7.lt
          have q7_0 : ¬ (w.heap.size + 1 = w7.heap.size) := by omega
          have q7_1 : ¬ (w7.heap.size = w.heap.size + 1) := by omega
          have q7_2 : w.heap.size + 1 < w7.heap.size := by omega
          have q7_3 : w.heap.size + 1 < w7.heap.size + 1 := by omega
          have q7_4 : ¬ (w.heap.size = w7.heap.size) := by omega
          have q7_5 : ¬ (w7.heap.size = w.heap.size) := by omega
          have q7_6 : w.heap.size < w7.heap.size := by omega
          have q7_7 : w.heap.size < w7.heap.size + 1 := by omega
          have q7_8 : ¬ (w.heap.size + 1 = w.heap.size) := by omega
          have q7_9 : ¬ (w.heap.size = w.heap.size + 1) := by omega
          go_wp2_with fail
          refine bodyPost_box (b := w.heap.size + 1) (cs := [.int .i64 p4, .int .i64 q4]) (v := .tuple #[iv p4 q4, .int .i64 e4]) (by
            (repeat (first | with_reducible exact o_7 | with_reducible exact Bx.new (by simp) | with_reducible apply Bx.put6 | with_reducible apply Bx.put2 | with_reducible apply Bx.put1 | with_reducible refine Bx.set ?_ (by omega) | with_reducible refine Bx.alc ?_ _ | with_reducible refine Bx.drew ?_))) (fun X hX => by simp [results, Try.results19, go_sem, hX]) rfl ⟨by simp, by
            refine Ho.below (n := w.heap.size + 1) (l := [(w.heap.size, [.int .i64 a, .int .i64 b])]) ?_
            (repeat (first | with_reducible exact H7 | with_reducible refine Ho.alc ?_ _ | with_reducible refine Ho.drew ?_ | with_reducible refine Ho.put ?_ (by omega)))⟩
        · have nc : ¬ (w1.heap.size = w.heap.size + 1) := by omega
          have he2 : (E3 != 0) = true := by simpa using he
          go_upto_region 8 with fail
          have CX := C_6.drew
          go_region_held3 (fun X => X.cell? ⟨w1.heap.size, 0, none⟩ = some (.int .i64 E3)) (with_reducible first | exact CX.v | exact ((C_6.set nc).set nc).drew.v | exact ((CX.set nc).set nc).v) (fail)
          all_goals go_wp2_with fail
          all_goals refine bodyPost_box (b := w.heap.size + 1) (cs := [.int .i64 0, .int .i64 0]) (v := .tuple #[iv 0 0, .int .i64 E3]) (by
            (repeat (first | with_reducible exact o_6 | with_reducible exact Bx.new (by simp) | with_reducible apply Bx.put6 | with_reducible apply Bx.put2 | with_reducible apply Bx.put1 | with_reducible refine Bx.set ?_ (by omega) | with_reducible refine Bx.alc ?_ _ | with_reducible refine Bx.drew ?_))) (fun X hX => by simp [results, Try.results19, go_sem, hX]) rfl ⟨by first | (simp; done) | simp [he], by
            refine Ho.below (n := w.heap.size + 1) (l := [(w.heap.size, [.int .i64 a, .int .i64 b])]) ?_
            (repeat (first | with_reducible exact H6 | with_reducible refine Ho.alc ?_ _ | with_reducible refine Ho.drew ?_ | with_reducible refine Ho.put ?_ (by omega)))⟩
end Go.Proofs.Ytjppcndhaejfpaa.Iv
