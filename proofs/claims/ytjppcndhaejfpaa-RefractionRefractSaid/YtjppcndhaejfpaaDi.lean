/- Contracts of package refraction's dot and Reflect. -/
import Derived.Test.YtjppcndhaejfpaaWk
import Derived.Test.YtjppcndhaejfpaaDr9
namespace Go.Proofs.Ytjppcndhaejfpaa.Iv
open Go.RowKit

set_option maxRecDepth 100000 in
set_option maxHeartbeats 4000000 in
theorem rdot_any (B c : Nat) (e : Int) (s t : D) (w : World) (hc : w.cell? ⟨c, 0, none⟩ = some (.int .i64 e)) (hf : w.frozen? ⟨c, 0, none⟩ = false) :
    Calls Try.prog 35 #[.pointer (some ⟨c, 0, none⟩), dv s, dv t] w fun r w' => r = .returned (iv (goOn e (dotR s t)).lo (goOn e (dotR s t)).hi) ∧ Step B w c (goOn e (dotR s t)).e w' := by
  by_cases he : e = 0
  · subst he
    rw [show goOn 0 (dotR s t) = dotR s t from if_pos rfl]
    obtain ⟨⟨p, q, ee⟩, hd⟩ : ∃ r : R, dotR s t = r := ⟨_, rfl⟩
    have HD := Lib.hid (show retR (dotR s t) = .returned (.tuple #[iv p q, .int .i64 ee]) from by rw [hd])
    rw [hd]
    clear hd
    have H0 := (((Ho.nil w).bx [.int .i64 s.a, .int .i64 s.b, .int .i64 s.c, .int .i64 s.d, .int .i64 s.e, .int .i64 s.f] 25 (w.heap.size) (by simp)).bx [.int .i64 t.a, .int .i64 t.b, .int .i64 t.c, .int .i64 t.d, .int .i64 t.e, .int .i64 t.f] 25 (w.heap.size + 1) (by simp))
    have o_0 : Bx (((w.alloc (.cells (List.toArray [.int .i64 s.a, .int .i64 s.b, .int .i64 s.c, .int .i64 s.d, .int .i64 s.e, .int .i64 s.f]) 25)).alloc (.cells (List.toArray [.int .i64 t.a, .int .i64 t.b, .int .i64 t.c, .int .i64 t.d, .int .i64 t.e, .int .i64 t.f]) 25)).alloc (.cells (List.toArray [.int .i64 0, .int .i64 0]) 23)) (w.heap.size + 1 + 1) [.int .i64 0, .int .i64 0] := by
      (repeat (first | with_reducible exact Bx.new (by simp) | with_reducible apply Bx.put6 | with_reducible apply Bx.put2 | with_reducible apply Bx.put1 | with_reducible refine Bx.set ?_ (by omega) | with_reducible refine Bx.alc ?_ _ | with_reducible refine Bx.drew ?_))
    have C_0 : Ce (((w.alloc (.cells (List.toArray [.int .i64 s.a, .int .i64 s.b, .int .i64 s.c, .int .i64 s.d, .int .i64 s.e, .int .i64 s.f]) 25)).alloc (.cells (List.toArray [.int .i64 t.a, .int .i64 t.b, .int .i64 t.c, .int .i64 t.d, .int .i64 t.e, .int .i64 t.f]) 25)).alloc (.cells (List.toArray [.int .i64 0, .int .i64 0]) 23)) c 0 := by
      have C : Ce w c 0 := ⟨World.block_lt_of_cell? w _ hc, hc, hf⟩
      (repeat (first | with_reducible exact C | with_reducible refine Ce.alc ?_ _ | with_reducible refine Ce.drew ?_ | with_reducible refine Ce.set ?_ (by omega)))
    have S_0 : Step B w c 0 (((w.alloc (.cells (List.toArray [.int .i64 s.a, .int .i64 s.b, .int .i64 s.c, .int .i64 s.d, .int .i64 s.e, .int .i64 s.f]) 25)).alloc (.cells (List.toArray [.int .i64 t.a, .int .i64 t.b, .int .i64 t.c, .int .i64 t.d, .int .i64 t.e, .int .i64 t.f]) 25)).alloc (.cells (List.toArray [.int .i64 0, .int .i64 0]) 23)) := by
      have S := Step.beg (B := B) hc
      (repeat (first | with_reducible exact S | with_reducible refine Step.alk ?_ _))
    have clt : c < w.heap.size := World.block_lt_of_cell? w _ hc
    go_enter Try.func35, Try.ntmps35
    have o_0c := o_0.c
    have o_0f := o_0.f
    have C_0v := C_0.v
    have C_0f := C_0.f
    have q0_0 : ¬ (w.heap.size + 1 + 1 = c) := by omega
    have q0_1 : ¬ (c = w.heap.size + 1 + 1) := by omega
    go_wp2_with fail
    refine (ddot_any s t _).mono ?_
    rintro r w1 ⟨rfl, hb⟩
    rw [HD.out]
    have H1 : Ho w w1 (w.heap.size + 1 + 1) [(w.heap.size + 1, [.int .i64 t.a, .int .i64 t.b, .int .i64 t.c, .int .i64 t.d, .int .i64 t.e, .int .i64 t.f]), (w.heap.size, [.int .i64 s.a, .int .i64 s.b, .int .i64 s.c, .int .i64 s.d, .int .i64 s.e, .int .i64 s.f])] := Ho.call (by
      (repeat (first | with_reducible exact H0 | with_reducible refine Ho.alc ?_ _ | with_reducible refine Ho.drew ?_ | with_reducible refine Ho.put ?_ (by omega)))) hb
    have o_1 : Bx w1 (w.heap.size + 1 + 1) [.int .i64 0, .int .i64 0] := Bx.kept (by
      (repeat (first | with_reducible exact o_0 | with_reducible refine Bx.alc ?_ _ | with_reducible refine Bx.drew ?_ | with_reducible refine Bx.set ?_ (by omega)))) hb
    have C_1 : Ce w1 c 0 := Ce.kept (by
      (repeat (first | with_reducible exact C_0 | with_reducible refine Ce.alc ?_ _ | with_reducible refine Ce.drew ?_ | with_reducible refine Ce.set ?_ (by omega)))) hb
    have S_1 : Step B w c 0 w1 := Step.kall (by
      (repeat (first | with_reducible exact S_0 | with_reducible refine Step.alk ?_ _ | with_reducible refine Step.drow ?_ | with_reducible refine Step.owns ?_ (by omega) (by omega) | with_reducible apply Step.putc))) hb
    clear o_0c o_0f C_0v C_0f q0_0 q0_1
    have hs1 := H1.size
    have hz1 := hb.size
    (try simp at hz1)
    clear hb
    have h0_1 := (H1.at 1 rfl).c
    have h1_1 := (H1.at 0 rfl).c
    have o_1c := o_1.c
    have o_1f := o_1.f
    have o_1l := o_1.lt
    have C_1v := C_1.v
    have C_1f := C_1.f
    have C_1l := C_1.lt
    have q1_0 : ¬ (w.heap.size + 1 + 1 = w1.heap.size) := by omega
    have q1_1 : ¬ (w1.heap.size = w.heap.size + 1 + 1) := by omega
    have q1_2 : w.heap.size + 1 + 1 < w1.heap.size := by omega
    have q1_3 : w.heap.size + 1 + 1 < w1.heap.size + 1 := by omega
    have q1_4 : ¬ (c = w1.heap.size) := by omega
    have q1_5 : ¬ (w1.heap.size = c) := by omega
    have q1_6 : c < w1.heap.size := by omega
    have q1_7 : c < w1.heap.size + 1 := by omega
    have q1_8 : ¬ (w.heap.size = w1.heap.size) := by omega
    have q1_9 : ¬ (w1.heap.size = w.heap.size) := by omega
    have q1_10 : w.heap.size < w1.heap.size := by omega
    have q1_11 : w.heap.size < w1.heap.size + 1 := by omega
    have q1_12 : ¬ (w.heap.size + 1 = w1.heap.size) := by omega
    have q1_13 : ¬ (w1.heap.size = w.heap.size + 1) := by omega
    have q1_14 : w.heap.size + 1 < w1.heap.size := by omega
    have q1_15 : w.heap.size + 1 < w1.heap.size + 1 := by omega
    have q1_16 : ¬ (w.heap.size + 1 + 1 = c) := by omega
    have q1_17 : ¬ (c = w.heap.size + 1 + 1) := by omega
    have q1_18 : ¬ (w.heap.size + 1 + 1 = w.heap.size) := by omega
    have q1_19 : ¬ (w.heap.size = w.heap.size + 1 + 1) := by omega
    have q1_20 : ¬ (w.heap.size + 1 + 1 = w.heap.size + 1) := by omega
    have q1_21 : ¬ (w.heap.size + 1 = w.heap.size + 1 + 1) := by omega
    have q1_22 : ¬ (c = w.heap.size) := by omega
    have q1_23 : ¬ (w.heap.size = c) := by omega
    have q1_24 : ¬ (c = w.heap.size + 1) := by omega
    have q1_25 : ¬ (w.heap.size + 1 = c) := by omega
    go_wp2_with fail
    refine bodyPost_box (b := w.heap.size + 1 + 1) (cs := [.int .i64 p, .int .i64 q]) (v := iv p q) (by
      (repeat (first | with_reducible exact o_1 | with_reducible apply Bx.put6 | with_reducible apply Bx.put2 | with_reducible apply Bx.put1 | with_reducible refine Bx.set ?_ (by omega) | with_reducible refine Bx.alc ?_ _ | with_reducible refine Bx.drew ?_))) (fun X hX => by simp [results, Try.results35, go_sem, hX]) rfl ⟨rfl, by
      (repeat (first | with_reducible exact S_1 | with_reducible refine Step.alk ?_ _ | with_reducible refine Step.drow ?_ | with_reducible refine Step.owns ?_ (by omega) (by omega) | with_reducible apply Step.putc))⟩
  · rw [show goOn e (dotR s t) = ⟨0, 0, e⟩ from if_neg he]
    have he' : (e == 0) = false := by simpa using he
    have H0 := (((Ho.nil w).bx [.int .i64 s.a, .int .i64 s.b, .int .i64 s.c, .int .i64 s.d, .int .i64 s.e, .int .i64 s.f] 25 (w.heap.size) (by simp)).bx [.int .i64 t.a, .int .i64 t.b, .int .i64 t.c, .int .i64 t.d, .int .i64 t.e, .int .i64 t.f] 25 (w.heap.size + 1) (by simp))
    have o_0 : Bx (((w.alloc (.cells (List.toArray [.int .i64 s.a, .int .i64 s.b, .int .i64 s.c, .int .i64 s.d, .int .i64 s.e, .int .i64 s.f]) 25)).alloc (.cells (List.toArray [.int .i64 t.a, .int .i64 t.b, .int .i64 t.c, .int .i64 t.d, .int .i64 t.e, .int .i64 t.f]) 25)).alloc (.cells (List.toArray [.int .i64 0, .int .i64 0]) 23)) (w.heap.size + 1 + 1) [.int .i64 0, .int .i64 0] := by
      (repeat (first | with_reducible exact Bx.new (by simp) | with_reducible apply Bx.put6 | with_reducible apply Bx.put2 | with_reducible apply Bx.put1 | with_reducible refine Bx.set ?_ (by omega) | with_reducible refine Bx.alc ?_ _ | with_reducible refine Bx.drew ?_))
    have C_0 : Ce (((w.alloc (.cells (List.toArray [.int .i64 s.a, .int .i64 s.b, .int .i64 s.c, .int .i64 s.d, .int .i64 s.e, .int .i64 s.f]) 25)).alloc (.cells (List.toArray [.int .i64 t.a, .int .i64 t.b, .int .i64 t.c, .int .i64 t.d, .int .i64 t.e, .int .i64 t.f]) 25)).alloc (.cells (List.toArray [.int .i64 0, .int .i64 0]) 23)) c e := by
      have C : Ce w c e := ⟨World.block_lt_of_cell? w _ hc, hc, hf⟩
      (repeat (first | with_reducible exact C | with_reducible refine Ce.alc ?_ _ | with_reducible refine Ce.drew ?_ | with_reducible refine Ce.set ?_ (by omega)))
    have S_0 : Step B w c e (((w.alloc (.cells (List.toArray [.int .i64 s.a, .int .i64 s.b, .int .i64 s.c, .int .i64 s.d, .int .i64 s.e, .int .i64 s.f]) 25)).alloc (.cells (List.toArray [.int .i64 t.a, .int .i64 t.b, .int .i64 t.c, .int .i64 t.d, .int .i64 t.e, .int .i64 t.f]) 25)).alloc (.cells (List.toArray [.int .i64 0, .int .i64 0]) 23)) := by
      have S := Step.beg (B := B) hc
      (repeat (first | with_reducible exact S | with_reducible refine Step.alk ?_ _))
    have clt : c < w.heap.size := World.block_lt_of_cell? w _ hc
    go_enter Try.func35, Try.ntmps35
    have o_0c := o_0.c
    have o_0f := o_0.f
    have C_0v := C_0.v
    have C_0f := C_0.f
    have q0_0 : ¬ (w.heap.size + 1 + 1 = c) := by omega
    have q0_1 : ¬ (c = w.heap.size + 1 + 1) := by omega
    go_wp2_with fail
    refine bodyPost_box (b := w.heap.size + 1 + 1) (cs := [.int .i64 0, .int .i64 0]) (v := iv 0 0) (by
      (repeat (first | with_reducible exact o_0 | with_reducible apply Bx.put6 | with_reducible apply Bx.put2 | with_reducible apply Bx.put1 | with_reducible refine Bx.set ?_ (by omega) | with_reducible refine Bx.alc ?_ _ | with_reducible refine Bx.drew ?_))) (fun X hX => by simp [results, Try.results35, go_sem, hX]) rfl ⟨rfl, by
      (repeat (first | with_reducible exact S_0 | with_reducible refine Step.alk ?_ _ | with_reducible refine Step.drow ?_ | with_reducible refine Step.owns ?_ (by omega) (by omega) | with_reducible apply Step.putc))⟩
structure Rr (s t : D) (p1 q1 p2 q2 e1 e2 e3 e4 d0 d1 d2 d3 d4 d5 x0 x1 x2 x3 x4 x5 : Int) (nb cb c : Nat) (w0 w : World) (l0 l1 l2 l3 l4 l5 l6 l7 l8 l9 l10 l11 : Bool) (v0 v1 v2 v3 v4 v5 v6 v7 v8 v9 v10 : Value) (b10 : Nat) : Prop where
  g : Ho w0 w (nb + 1 + 1) [(nb + 1, [.int .i64 t.a, .int .i64 t.b, .int .i64 t.c, .int .i64 t.d, .int .i64 t.e, .int .i64 t.f]), (nb, [.int .i64 s.a, .int .i64 s.b, .int .i64 s.c, .int .i64 s.d, .int .i64 s.e, .int .i64 s.f])]
  sz : (cb + 1) ≤ w.heap.size
  mn : (nb + 1 + 1) ≤ (cb + 1)
  u0 : Bx w (nb + 1 + 1) [.int .i64 0, .int .i64 0, .int .i64 0, .int .i64 0, .int .i64 0, .int .i64 0]
  un0 : (nb + 1 + 1) < (cb + 1)
  uc0 : ¬ ((nb + 1 + 1) = c)
  u1 : Bx w cb [.int .i64 p1, .int .i64 q1]
  un1 : cb < (cb + 1)
  uc1 : ¬ (cb = c)
  mc : (nb + 1 + 1) ≤ c
  cn : c < (cb + 1)
  q8 : l8 = true → l7 = true
  q9 : l9 = true → l8 = true
  k0 : l7 = false → Ce w c e1
  k1 : l7 = true → l8 = false → Ce w c e2
  k2 : l8 = true → l9 = false → Ce w c e3
  k3 : l9 = true → Ce w c e4
  e0 : l0 = true → v0 = .func (.func 34) #[.pointer (some ⟨c, 0, none⟩)] #[]
  e1 : l1 = true → v1 = (dv s)
  e2 : l2 = true → v2 = .func (.func 33) #[.pointer (some ⟨c, 0, none⟩)] #[]
  e3 : l3 = true → v3 = (dv t)
  e4 : l4 = true → v4 = .func (.func 32) #[.pointer (some ⟨c, 0, none⟩)] #[]
  e5 : l5 = true → v5 = (iv p1 q1)
  e6 : l6 = true → v6 = (iv p1 q1)
  e7 : l7 = true → v7 = (iv p2 q2)
  e8 : l8 = true → v8 = (dv ⟨d0, d1, d2, d3, d4, d5⟩)
  e9 : l9 = true → v9 = (dv ⟨x0, x1, x2, x3, x4, x5⟩)
  e10 : l10 = true → v10 = .pointer (some ⟨b10, 0, none⟩)
  g10 : l10 = true → (cb + 1) ≤ b10
  t10 : l10 = true → b10 < w.heap.size
  o10 : l11 = true → l10 = true
  z10 : l10 = true → l11 = false → Bx w b10 [.int .i64 0, .int .i64 0, .int .i64 0, .int .i64 0, .int .i64 0, .int .i64 0]
  s10 : l11 = true → Bx w b10 [.int .i64 x0, .int .i64 x1, .int .i64 x2, .int .i64 x3, .int .i64 x4, .int .i64 x5]
theorem Rr.kept {s t : D} {p1 q1 p2 q2 e1 e2 e3 e4 d0 d1 d2 d3 d4 d5 x0 x1 x2 x3 x4 x5 : Int} {nb cb c : Nat} {w0 w : World} {l0 l1 l2 l3 l4 l5 l6 l7 l8 l9 l10 l11 : Bool} {v0 v1 v2 v3 v4 v5 v6 v7 v8 v9 v10 : Value} {b10 : Nat} {w' : World} (h : Rr s t p1 q1 p2 q2 e1 e2 e3 e4 d0 d1 d2 d3 d4 d5 x0 x1 x2 x3 x4 x5 nb cb c w0 w l0 l1 l2 l3 l4 l5 l6 l7 l8 l9 l10 l11 v0 v1 v2 v3 v4 v5 v6 v7 v8 v9 v10 b10) (hb : Below w.heap.size w w') : Rr s t p1 q1 p2 q2 e1 e2 e3 e4 d0 d1 d2 d3 d4 d5 x0 x1 x2 x3 x4 x5 nb cb c w0 w' l0 l1 l2 l3 l4 l5 l6 l7 l8 l9 l10 l11 v0 v1 v2 v3 v4 v5 v6 v7 v8 v9 v10 b10 :=
  { h with g := h.g.call hb, sz := Nat.le_trans h.sz hb.size, u0 := h.u0.kept hb, u1 := h.u1.kept hb, k0 := fun p0 => (h.k0 p0).kept hb, k1 := fun p0 p1 => (h.k1 p0 p1).kept hb, k2 := fun p0 p1 => (h.k2 p0 p1).kept hb, k3 := fun p0 => (h.k3 p0).kept hb, t10 := fun p => Nat.lt_of_lt_of_le (h.t10 p) hb.size, z10 := fun p q => (h.z10 p q).kept hb, s10 := fun p => (h.s10 p).kept hb }
def Rr.I (s t : D) (p1 q1 p2 q2 e1 e2 e3 e4 d0 d1 d2 d3 d4 d5 x0 x1 x2 x3 x4 x5 : Int) (nb cb c : Nat) (w0 : World) : Act → Array Bool → Act → World → Prop := fun a0 L a w => ∃ (l0 l1 l2 l3 l4 l5 l6 l7 l8 l9 l10 l11 : Bool) (v0 v1 v2 v3 v4 v5 v6 v7 v8 v9 v10 : Value) (b10 : Nat), L = #[l0, l1, l2, l3, l4, l5, l6, l7, l8, l9, l10, l11] ∧ a = (((((((((((a0.put (some 24) v0).put (some 25) v1).put (some 26) v2).put (some 27) v3).put (some 28) v4).put (some 29) v5).put (some 30) v6).put (some 31) v7).put (some 32) v8).put (some 33) v9).put (some 11) v10) ∧ Rr s t p1 q1 p2 q2 e1 e2 e3 e4 d0 d1 d2 d3 d4 d5 x0 x1 x2 x3 x4 x5 nb cb c w0 w l0 l1 l2 l3 l4 l5 l6 l7 l8 l9 l10 l11 v0 v1 v2 v3 v4 v5 v6 v7 v8 v9 v10 b10
/-- the direction of a reflected ray -/
def reflG (s t : D) : RD :=
  let g1 := goOn 0 (dotR s t)
  let g2 := goOn g1.e (addR g1.lo g1.hi g1.lo g1.hi)
  let g3 := goOnD g2.e (scaleD t g2.lo g2.hi)
  goOnD g3.e (subD s g3.d)
def reflR (s t : D) : RD := if (vD s && vD t) = true then reflG s t else ⟨zD, 1⟩
set_option maxRecDepth 100000 in
set_option maxHeartbeats 4000000 in
theorem reflect_any (s t : D) (w : World) :
    Calls Try.prog 9 #[dv s, dv t] w fun e w' => e = retD (reflR s t) ∧ Below w.heap.size w w' := by
  cases hv : (vD s && vD t)
  · rw [show reflR s t = ⟨zD, 1⟩ from if_neg (by rw [hv]; decide)]
    have HV := Lib.hid hv
    clear hv
    have H0 := (((Ho.nil w).bx [.int .i64 s.a, .int .i64 s.b, .int .i64 s.c, .int .i64 s.d, .int .i64 s.e, .int .i64 s.f] 25 (w.heap.size) (by simp)).bx [.int .i64 t.a, .int .i64 t.b, .int .i64 t.c, .int .i64 t.d, .int .i64 t.e, .int .i64 t.f] 25 (w.heap.size + 1) (by simp))
    have o_0 : Bx (((w.alloc (.cells (List.toArray [.int .i64 s.a, .int .i64 s.b, .int .i64 s.c, .int .i64 s.d, .int .i64 s.e, .int .i64 s.f]) 25)).alloc (.cells (List.toArray [.int .i64 t.a, .int .i64 t.b, .int .i64 t.c, .int .i64 t.d, .int .i64 t.e, .int .i64 t.f]) 25)).alloc (.cells (List.toArray [.int .i64 0, .int .i64 0, .int .i64 0, .int .i64 0, .int .i64 0, .int .i64 0]) 25)) (w.heap.size + 1 + 1) [.int .i64 0, .int .i64 0, .int .i64 0, .int .i64 0, .int .i64 0, .int .i64 0] := by
      (repeat (first | with_reducible exact Bx.new (by simp) | with_reducible apply Bx.put6 | with_reducible apply Bx.put2 | with_reducible apply Bx.put1 | with_reducible refine Bx.set ?_ (by omega) | with_reducible refine Bx.alc ?_ _ | with_reducible refine Bx.drew ?_))
    go_enter Try.func9, Try.ntmps9
    have o_0c := o_0.c
    have o_0f := o_0.f
    go_wp2_with fail
    refine (vray_any s t _).mono ?_
    rintro r w1 ⟨rfl, hb⟩
    rw [HV.out]
    have H1 : Ho w w1 (w.heap.size + 1 + 1) [(w.heap.size + 1, [.int .i64 t.a, .int .i64 t.b, .int .i64 t.c, .int .i64 t.d, .int .i64 t.e, .int .i64 t.f]), (w.heap.size, [.int .i64 s.a, .int .i64 s.b, .int .i64 s.c, .int .i64 s.d, .int .i64 s.e, .int .i64 s.f])] := Ho.call (by
      (repeat (first | with_reducible exact H0 | with_reducible refine Ho.alc ?_ _ | with_reducible refine Ho.drew ?_ | with_reducible refine Ho.put ?_ (by omega)))) hb
    have o_1 : Bx w1 (w.heap.size + 1 + 1) [.int .i64 0, .int .i64 0, .int .i64 0, .int .i64 0, .int .i64 0, .int .i64 0] := Bx.kept (by
      (repeat (first | with_reducible exact o_0 | with_reducible refine Bx.alc ?_ _ | with_reducible refine Bx.drew ?_ | with_reducible refine Bx.set ?_ (by omega)))) hb
    clear o_0c o_0f
    have hs1 := H1.size
    have hz1 := hb.size
    (try simp at hz1)
    clear hb
    have h0_1 := (H1.at 1 rfl).c
    have h1_1 := (H1.at 0 rfl).c
    have o_1c := o_1.c
    have o_1f := o_1.f
    have o_1l := o_1.lt
    have q1_0 : ¬ (w.heap.size + 1 + 1 = w1.heap.size) := by omega
    have q1_1 : ¬ (w1.heap.size = w.heap.size + 1 + 1) := by omega
    have q1_2 : w.heap.size + 1 + 1 < w1.heap.size := by omega
    have q1_3 : w.heap.size + 1 + 1 < w1.heap.size + 1 := by omega
    have q1_4 : ¬ (w.heap.size = w1.heap.size) := by omega
    have q1_5 : ¬ (w1.heap.size = w.heap.size) := by omega
    have q1_6 : w.heap.size < w1.heap.size := by omega
    have q1_7 : w.heap.size < w1.heap.size + 1 := by omega
    have q1_8 : ¬ (w.heap.size + 1 = w1.heap.size) := by omega
    have q1_9 : ¬ (w1.heap.size = w.heap.size + 1) := by omega
    have q1_10 : w.heap.size + 1 < w1.heap.size := by omega
    have q1_11 : w.heap.size + 1 < w1.heap.size + 1 := by omega
    have q1_12 : ¬ (w.heap.size + 1 + 1 = w.heap.size) := by omega
    have q1_13 : ¬ (w.heap.size = w.heap.size + 1 + 1) := by omega
    have q1_14 : ¬ (w.heap.size + 1 + 1 = w.heap.size + 1) := by omega
    have q1_15 : ¬ (w.heap.size + 1 = w.heap.size + 1 + 1) := by omega
    go_wp2_with fail
    refine bodyPost_box (b := w.heap.size + 1 + 1) (cs := [.int .i64 0, .int .i64 0, .int .i64 0, .int .i64 0, .int .i64 0, .int .i64 0]) (v := .tuple #[dv zD, .int .i64 1]) (by
      (repeat (first | with_reducible exact o_1 | with_reducible apply Bx.put6 | with_reducible apply Bx.put2 | with_reducible apply Bx.put1 | with_reducible refine Bx.set ?_ (by omega) | with_reducible refine Bx.alc ?_ _ | with_reducible refine Bx.drew ?_))) (fun X hX => by simp [zD, results, Try.results9, go_sem, hX]) rfl ⟨rfl, by
      refine Ho.below (n := w.heap.size + 1 + 1) (l := [(w.heap.size + 1, [.int .i64 t.a, .int .i64 t.b, .int .i64 t.c, .int .i64 t.d, .int .i64 t.e, .int .i64 t.f]), (w.heap.size, [.int .i64 s.a, .int .i64 s.b, .int .i64 s.c, .int .i64 s.d, .int .i64 s.e, .int .i64 s.f])]) ?_
      (repeat (first | with_reducible exact H1 | with_reducible refine Ho.alc ?_ _ | with_reducible refine Ho.drew ?_ | with_reducible refine Ho.put ?_ (by omega)))⟩
  · rw [show reflR s t = reflG s t from if_pos hv]
    obtain ⟨⟨p1, q1, e1⟩, h1⟩ : ∃ r : R, goOn 0 (dotR s t) = r := ⟨_, rfl⟩
    obtain ⟨⟨p2, q2, e2⟩, h2⟩ : ∃ r : R, goOn e1 (addR p1 q1 p1 q1) = r := ⟨_, rfl⟩
    obtain ⟨⟨⟨d0, d1, d2, d3, d4, d5⟩, e3⟩, h3⟩ : ∃ r : RD, goOnD e2 (scaleD t p2 q2) = r := ⟨_, rfl⟩
    obtain ⟨⟨⟨x0, x1, x2, x3, x4, x5⟩, e4⟩, h4⟩ : ∃ r : RD, goOnD e3 (subD s ⟨d0, d1, d2, d3, d4, d5⟩) = r := ⟨_, rfl⟩
    rw [show reflG s t = ⟨⟨x0, x1, x2, x3, x4, x5⟩, e4⟩ from by unfold reflG; simp only [h1, h2, h3, h4]]
    have HV := Lib.hid hv
    have E1 := Lib.hid h1
    have E2 := Lib.hid h2
    have E3 := Lib.hid h3
    have E4 := Lib.hid h4
    clear hv h1 h2 h3 h4
    have H0 := (((Ho.nil w).bx [.int .i64 s.a, .int .i64 s.b, .int .i64 s.c, .int .i64 s.d, .int .i64 s.e, .int .i64 s.f] 25 (w.heap.size) (by simp)).bx [.int .i64 t.a, .int .i64 t.b, .int .i64 t.c, .int .i64 t.d, .int .i64 t.e, .int .i64 t.f] 25 (w.heap.size + 1) (by simp))
    have o_0 : Bx (((w.alloc (.cells (List.toArray [.int .i64 s.a, .int .i64 s.b, .int .i64 s.c, .int .i64 s.d, .int .i64 s.e, .int .i64 s.f]) 25)).alloc (.cells (List.toArray [.int .i64 t.a, .int .i64 t.b, .int .i64 t.c, .int .i64 t.d, .int .i64 t.e, .int .i64 t.f]) 25)).alloc (.cells (List.toArray [.int .i64 0, .int .i64 0, .int .i64 0, .int .i64 0, .int .i64 0, .int .i64 0]) 25)) (w.heap.size + 1 + 1) [.int .i64 0, .int .i64 0, .int .i64 0, .int .i64 0, .int .i64 0, .int .i64 0] := by
      (repeat (first | with_reducible exact Bx.new (by simp) | with_reducible apply Bx.put6 | with_reducible apply Bx.put2 | with_reducible apply Bx.put1 | with_reducible refine Bx.set ?_ (by omega) | with_reducible refine Bx.alc ?_ _ | with_reducible refine Bx.drew ?_))
    go_enter Try.func9, Try.ntmps9
    have o_0c := o_0.c
    have o_0f := o_0.f
    go_wp2_with fail
    refine (vray_any s t _).mono ?_
    rintro r w1 ⟨rfl, hb⟩
    rw [HV.out]
    have H1 : Ho w w1 (w.heap.size + 1 + 1) [(w.heap.size + 1, [.int .i64 t.a, .int .i64 t.b, .int .i64 t.c, .int .i64 t.d, .int .i64 t.e, .int .i64 t.f]), (w.heap.size, [.int .i64 s.a, .int .i64 s.b, .int .i64 s.c, .int .i64 s.d, .int .i64 s.e, .int .i64 s.f])] := Ho.call (by
      (repeat (first | with_reducible exact H0 | with_reducible refine Ho.alc ?_ _ | with_reducible refine Ho.drew ?_ | with_reducible refine Ho.put ?_ (by omega)))) hb
    have o_1 : Bx w1 (w.heap.size + 1 + 1) [.int .i64 0, .int .i64 0, .int .i64 0, .int .i64 0, .int .i64 0, .int .i64 0] := Bx.kept (by
      (repeat (first | with_reducible exact o_0 | with_reducible refine Bx.alc ?_ _ | with_reducible refine Bx.drew ?_ | with_reducible refine Bx.set ?_ (by omega)))) hb
    clear o_0c o_0f
    have hs1 := H1.size
    have hz1 := hb.size
    (try simp at hz1)
    clear hb
    have h0_1 := (H1.at 1 rfl).c
    have h1_1 := (H1.at 0 rfl).c
    have o_1c := o_1.c
    have o_1f := o_1.f
    have o_1l := o_1.lt
    have q1_0 : ¬ (w.heap.size + 1 + 1 = w1.heap.size) := by omega
    have q1_1 : ¬ (w1.heap.size = w.heap.size + 1 + 1) := by omega
    have q1_2 : w.heap.size + 1 + 1 < w1.heap.size := by omega
    have q1_3 : w.heap.size + 1 + 1 < w1.heap.size + 1 := by omega
    have q1_4 : ¬ (w.heap.size = w1.heap.size) := by omega
    have q1_5 : ¬ (w1.heap.size = w.heap.size) := by omega
    have q1_6 : w.heap.size < w1.heap.size := by omega
    have q1_7 : w.heap.size < w1.heap.size + 1 := by omega
    have q1_8 : ¬ (w.heap.size + 1 = w1.heap.size) := by omega
    have q1_9 : ¬ (w1.heap.size = w.heap.size + 1) := by omega
    have q1_10 : w.heap.size + 1 < w1.heap.size := by omega
    have q1_11 : w.heap.size + 1 < w1.heap.size + 1 := by omega
    have q1_12 : ¬ (w.heap.size + 1 + 1 = w.heap.size) := by omega
    have q1_13 : ¬ (w.heap.size = w.heap.size + 1 + 1) := by omega
    have q1_14 : ¬ (w.heap.size + 1 + 1 = w.heap.size + 1) := by omega
    have q1_15 : ¬ (w.heap.size + 1 = w.heap.size + 1 + 1) := by omega
    go_wp2_with fail
    refine (rdot_any w.heap.size w1.heap.size 0 s t _ (by simp [go_sem]) (by simp [go_sem])).mono ?_
    rintro r w2 ⟨rfl, st⟩
    rw [E1.out]
    rw [E1.out] at st
    have H2 : Ho w w2 (w.heap.size + 1 + 1) [(w.heap.size + 1, [.int .i64 t.a, .int .i64 t.b, .int .i64 t.c, .int .i64 t.d, .int .i64 t.e, .int .i64 t.f]), (w.heap.size, [.int .i64 s.a, .int .i64 s.b, .int .i64 s.c, .int .i64 s.d, .int .i64 s.e, .int .i64 s.f])] := Ho.step (by
      (repeat (first | with_reducible exact H1 | with_reducible refine Ho.alc ?_ _ | with_reducible refine Ho.drew ?_ | with_reducible refine Ho.put ?_ (by omega)))) st (by omega)
    have o_2 : Bx w2 (w.heap.size + 1 + 1) [.int .i64 0, .int .i64 0, .int .i64 0, .int .i64 0, .int .i64 0, .int .i64 0] := Bx.step (by
      (repeat (first | with_reducible exact o_1 | with_reducible refine Bx.alc ?_ _ | with_reducible refine Bx.drew ?_ | with_reducible refine Bx.set ?_ (by omega)))) st (by omega)
    have C_2 : Ce w2 (w1.heap.size) e1 := Ce.step (e := 0) (by
      exact Bx.ce (by
        (repeat (first | with_reducible exact Bx.new (by simp) | with_reducible apply Bx.put6 | with_reducible apply Bx.put2 | with_reducible apply Bx.put1 | with_reducible refine Bx.set ?_ (by omega) | with_reducible refine Bx.alc ?_ _ | with_reducible refine Bx.drew ?_)))) st
    clear h0_1 h1_1 o_1c o_1f q1_0 q1_1 q1_2 q1_3 q1_4 q1_5 q1_6 q1_7 q1_8 q1_9 q1_10 q1_11 q1_12 q1_13 q1_14 q1_15
    have hs2 := H2.size
    have hz2 := st.size
    (try simp at hz2)
    clear st
    have h0_2 := (H2.at 1 rfl).c
    have h1_2 := (H2.at 0 rfl).c
    have o_2c := o_2.c
    have o_2f := o_2.f
    have o_2l := o_2.lt
    have C_2v := C_2.v
    have C_2f := C_2.f
    have C_2l := C_2.lt
    have q2_0 : ¬ (w.heap.size + 1 + 1 = w2.heap.size) := by omega
    have q2_1 : ¬ (w2.heap.size = w.heap.size + 1 + 1) := by omega
    have q2_2 : w.heap.size + 1 + 1 < w2.heap.size := by omega
    have q2_3 : w.heap.size + 1 + 1 < w2.heap.size + 1 := by omega
    have q2_4 : ¬ (w1.heap.size = w2.heap.size) := by omega
    have q2_5 : ¬ (w2.heap.size = w1.heap.size) := by omega
    have q2_6 : w1.heap.size < w2.heap.size := by omega
    have q2_7 : w1.heap.size < w2.heap.size + 1 := by omega
    have q2_8 : ¬ (w.heap.size = w2.heap.size) := by omega
    have q2_9 : ¬ (w2.heap.size = w.heap.size) := by omega
    have q2_10 : w.heap.size < w2.heap.size := by omega
    have q2_11 : w.heap.size < w2.heap.size + 1 := by omega
    have q2_12 : ¬ (w.heap.size + 1 = w2.heap.size) := by omega
    have q2_13 : ¬ (w2.heap.size = w.heap.size + 1) := by omega
    have q2_14 : w.heap.size + 1 < w2.heap.size := by omega
    have q2_15 : w.heap.size + 1 < w2.heap.size + 1 := by omega
    have q2_16 : ¬ (w.heap.size + 1 + 1 = w1.heap.size) := by omega
    have q2_17 : ¬ (w1.heap.size = w.heap.size + 1 + 1) := by omega
    have q2_18 : ¬ (w.heap.size + 1 + 1 = w.heap.size) := by omega
    have q2_19 : ¬ (w.heap.size = w.heap.size + 1 + 1) := by omega
    have q2_20 : ¬ (w.heap.size + 1 + 1 = w.heap.size + 1) := by omega
    have q2_21 : ¬ (w.heap.size + 1 = w.heap.size + 1 + 1) := by omega
    have q2_22 : ¬ (w1.heap.size = w.heap.size) := by omega
    have q2_23 : ¬ (w.heap.size = w1.heap.size) := by omega
    have q2_24 : ¬ (w1.heap.size = w.heap.size + 1) := by omega
    have q2_25 : ¬ (w.heap.size + 1 = w1.heap.size) := by omega
    go_upto_region 6 with fail
    refine region_sets (Rr.I s t p1 q1 p2 q2 e1 e2 e3 e4 d0 d1 d2 d3 d4 d5 x0 x1 x2 x3 x4 x5 w.heap.size w2.heap.size w1.heap.size w) (by kernel_rfl) ?_ ?_ ?_
    · refine ⟨false, false, false, false, false, false, false, false, false, false, false, false, undef, undef, undef, undef, undef, undef, undef, undef, undef, undef, undef, 0, rfl, by simp only [Act.put, List.setIfInBounds_toArray, List.set_cons_zero, List.set_cons_succ], ?_⟩
      constructor
      · (repeat (first | with_reducible exact H2 | with_reducible refine Ho.alc ?_ _ | with_reducible refine Ho.drew ?_ | with_reducible refine Ho.put ?_ (by omega)))
      · (simp; done)
      · (omega)
      · (repeat (first | with_reducible exact o_2 | with_reducible refine Bx.alc ?_ _ | with_reducible refine Bx.drew ?_ | with_reducible refine Bx.set ?_ (by omega)))
      · (omega)
      · (omega)
      · (repeat (first | with_reducible exact Bx.new (by simp) | with_reducible apply Bx.put6 | with_reducible apply Bx.put2 | with_reducible apply Bx.put1 | with_reducible refine Bx.set ?_ (by omega) | with_reducible refine Bx.alc ?_ _ | with_reducible refine Bx.drew ?_))
      · (omega)
      · (omega)
      · (omega)
      · (omega)
      · (intro h; cases h)
      · (intro h; cases h)
      · (intro _; (repeat (first | with_reducible exact C_2 | with_reducible refine Ce.alc ?_ _ | with_reducible refine Ce.drew ?_ | with_reducible refine Ce.set ?_ (by omega))))
      all_goals (intro h; cases h)
    · intro L a' w' hI i hi
      obtain ⟨l0, l1, l2, l3, l4, l5, l6, l7, l8, l9, l10, l11, v0, v1, v2, v3, v4, v5, v6, v7, v8, v9, v10, b10, rfl, rfl, h⟩ := hI
      have hlt := ready_lt hi
      match i, hi, hlt with
      | 0, hi, _ =>
        have l' : l0 = false := (ready_op (o := _) rfl hi).1
        subst l'
        clear hi hlt
        have H := Lib.hid h
        clear h
        refine wpOp_shut rfl (fun K hK => ?_)
        try simp only [Act.put, List.setIfInBounds_toArray, List.set_cons_zero, List.set_cons_succ]
        go_simp
        refine hK.out _ _ ?_
        unfold Rr.I
        refine ⟨true, l1, l2, l3, l4, l5, l6, l7, l8, l9, l10, l11, (.func (.func 34) #[.pointer (some ⟨w1.heap.size, 0, none⟩)] #[]), v1, v2, v3, v4, v5, v6, v7, v8, v9, v10, b10, rfl, ?_, ?_⟩
        · simp only [Act.put, List.setIfInBounds_toArray, List.set_cons_zero, List.set_cons_succ]
        · exact { H.out with e0 := fun _ => rfl }
      | 1, hi, _ =>
        have l' : l1 = false := (ready_op (o := _) rfl hi).1
        subst l'
        clear hi hlt
        have c := (h.g.at 1 rfl).c
        have H := Lib.hid h
        clear h
        refine wpOp_shut rfl (fun K hK => ?_)
        try simp only [Act.put, List.setIfInBounds_toArray, List.set_cons_zero, List.set_cons_succ]
        go_simp
        refine hK.out _ _ ?_
        unfold Rr.I
        refine ⟨l0, true, l2, l3, l4, l5, l6, l7, l8, l9, l10, l11, v0, ((dv s)), v2, v3, v4, v5, v6, v7, v8, v9, v10, b10, rfl, ?_, ?_⟩
        · simp only [Act.put, List.setIfInBounds_toArray, List.set_cons_zero, List.set_cons_succ]
        · exact { H.out with e1 := fun _ => rfl }
      | 2, hi, _ =>
        have l' : l2 = false := (ready_op (o := _) rfl hi).1
        subst l'
        clear hi hlt
        have H := Lib.hid h
        clear h
        refine wpOp_shut rfl (fun K hK => ?_)
        try simp only [Act.put, List.setIfInBounds_toArray, List.set_cons_zero, List.set_cons_succ]
        go_simp
        refine hK.out _ _ ?_
        unfold Rr.I
        refine ⟨l0, l1, true, l3, l4, l5, l6, l7, l8, l9, l10, l11, v0, v1, (.func (.func 33) #[.pointer (some ⟨w1.heap.size, 0, none⟩)] #[]), v3, v4, v5, v6, v7, v8, v9, v10, b10, rfl, ?_, ?_⟩
        · simp only [Act.put, List.setIfInBounds_toArray, List.set_cons_zero, List.set_cons_succ]
        · exact { H.out with e2 := fun _ => rfl }
      | 3, hi, _ =>
        have l' : l3 = false := (ready_op (o := _) rfl hi).1
        subst l'
        clear hi hlt
        have c := (h.g.at 0 rfl).c
        have H := Lib.hid h
        clear h
        refine wpOp_shut rfl (fun K hK => ?_)
        try simp only [Act.put, List.setIfInBounds_toArray, List.set_cons_zero, List.set_cons_succ]
        go_simp
        refine hK.out _ _ ?_
        unfold Rr.I
        refine ⟨l0, l1, l2, true, l4, l5, l6, l7, l8, l9, l10, l11, v0, v1, v2, ((dv t)), v4, v5, v6, v7, v8, v9, v10, b10, rfl, ?_, ?_⟩
        · simp only [Act.put, List.setIfInBounds_toArray, List.set_cons_zero, List.set_cons_succ]
        · exact { H.out with e3 := fun _ => rfl }
      | 4, hi, _ =>
        have l' : l4 = false := (ready_op (o := _) rfl hi).1
        subst l'
        clear hi hlt
        have H := Lib.hid h
        clear h
        refine wpOp_shut rfl (fun K hK => ?_)
        try simp only [Act.put, List.setIfInBounds_toArray, List.set_cons_zero, List.set_cons_succ]
        go_simp
        refine hK.out _ _ ?_
        unfold Rr.I
        refine ⟨l0, l1, l2, l3, true, l5, l6, l7, l8, l9, l10, l11, v0, v1, v2, v3, (.func (.func 32) #[.pointer (some ⟨w1.heap.size, 0, none⟩)] #[]), v5, v6, v7, v8, v9, v10, b10, rfl, ?_, ?_⟩
        · simp only [Act.put, List.setIfInBounds_toArray, List.set_cons_zero, List.set_cons_succ]
        · exact { H.out with e4 := fun _ => rfl }
      | 5, hi, _ =>
        have l' : l5 = false := (ready_op (o := _) rfl hi).1
        subst l'
        clear hi hlt
        have c := h.u1.c
        have H := Lib.hid h
        clear h
        refine wpOp_shut rfl (fun K hK => ?_)
        try simp only [Act.put, List.setIfInBounds_toArray, List.set_cons_zero, List.set_cons_succ]
        go_simp
        refine hK.out _ _ ?_
        unfold Rr.I
        refine ⟨l0, l1, l2, l3, l4, true, l6, l7, l8, l9, l10, l11, v0, v1, v2, v3, v4, ((iv p1 q1)), v6, v7, v8, v9, v10, b10, rfl, ?_, ?_⟩
        · simp only [Act.put, List.setIfInBounds_toArray, List.set_cons_zero, List.set_cons_succ]
        · exact { H.out with e5 := fun _ => rfl }
      | 6, hi, _ =>
        have l' : l6 = false := (ready_op (o := _) rfl hi).1
        subst l'
        clear hi hlt
        have c := h.u1.c
        have H := Lib.hid h
        clear h
        refine wpOp_shut rfl (fun K hK => ?_)
        try simp only [Act.put, List.setIfInBounds_toArray, List.set_cons_zero, List.set_cons_succ]
        go_simp
        refine hK.out _ _ ?_
        unfold Rr.I
        refine ⟨l0, l1, l2, l3, l4, l5, true, l7, l8, l9, l10, l11, v0, v1, v2, v3, v4, v5, ((iv p1 q1)), v7, v8, v9, v10, b10, rfl, ?_, ?_⟩
        · simp only [Act.put, List.setIfInBounds_toArray, List.set_cons_zero, List.set_cons_succ]
        · exact { H.out with e6 := fun _ => rfl }
      | 7, hi, _ =>
        have l' : l7 = false := (ready_op (o := _) rfl hi).1
        subst l'
        have k4 : l4 = true := (ready_op (o := _) rfl hi).2 { on := 4, ground := .data } (by simp) rfl
        have k5 : l5 = true := (ready_op (o := _) rfl hi).2 { on := 5, ground := .data } (by simp) rfl
        have k6 : l6 = true := (ready_op (o := _) rfl hi).2 { on := 6, ground := .data } (by simp) rfl
        clear hi hlt
        subst k4
        subst k5
        subst k6
        obtain rfl := h.e4 rfl
        obtain rfl := h.e5 rfl
        obtain rfl := h.e6 rfl
        have CK := h.k0 rfl
        have H := Lib.hid h
        clear h
        refine wpOp_shut rfl (fun K hK => ?_)
        try simp only [Act.put, List.setIfInBounds_toArray, List.set_cons_zero, List.set_cons_succ]
        go_simp
        refine (num_add w.heap.size w1.heap.size p1 q1 p1 q1 e1 _ CK.v CK.f).mono ?_
        rintro e wY ⟨rfl, st⟩
        rw [E2.out]
        rw [E2.out] at st
        dsimp only
        dsimp only at st
        try go_simp
        refine hK.out _ _ ?_
        unfold Rr.I
        refine ⟨l0, l1, l2, l3, true, true, true, true, l8, l9, l10, l11, v0, v1, v2, v3, (.func (.func 32) #[.pointer (some ⟨w1.heap.size, 0, none⟩)] #[]), ((iv p1 q1)), ((iv p1 q1)), ((iv p2 q2)), v8, v9, v10, b10, rfl, ?_, ?_⟩
        · simp only [Act.put, List.setIfInBounds_toArray, List.set_cons_zero, List.set_cons_succ]
        · have h := H.out
          exact { h with g := h.g.step st h.mc, sz := Nat.le_trans h.sz st.size, e7 := fun _ => rfl, u0 := h.u0.step st h.uc0, u1 := h.u1.step st h.uc1, k0 := fun p0 => (nomatch p0), k1 := fun p0 p1 => CK.step st, k2 := fun p0 p1 => (nomatch (h.q8 p0)), k3 := fun p0 => (nomatch (h.q8 (h.q9 p0))), q8 := fun _ => rfl, t10 := fun p => Nat.lt_of_lt_of_le (h.t10 p) st.size, z10 := fun p r => (h.z10 p r).step st (Nat.ne_of_gt (Nat.lt_of_lt_of_le h.cn (h.g10 p))), s10 := fun p => (h.s10 p).step st (Nat.ne_of_gt (Nat.lt_of_lt_of_le h.cn (h.g10 (h.o10 p)))) }
      | 8, hi, _ =>
        have l' : l8 = false := (ready_op (o := _) rfl hi).1
        subst l'
        have k2 : l2 = true := (ready_op (o := _) rfl hi).2 { on := 2, ground := .data } (by simp) rfl
        have k3 : l3 = true := (ready_op (o := _) rfl hi).2 { on := 3, ground := .data } (by simp) rfl
        have k7 : l7 = true := (ready_op (o := _) rfl hi).2 { on := 7, ground := .chain } (by simp) rfl
        clear hi hlt
        subst k2
        subst k3
        subst k7
        obtain rfl := h.e2 rfl
        obtain rfl := h.e3 rfl
        obtain rfl := h.e7 rfl
        have CK := h.k1 rfl rfl
        have H := Lib.hid h
        clear h
        refine wpOp_shut rfl (fun K hK => ?_)
        try simp only [Act.put, List.setIfInBounds_toArray, List.set_cons_zero, List.set_cons_succ]
        go_simp
        refine (rscale_any w.heap.size w1.heap.size e2 t p2 q2 _ CK.v CK.f).mono ?_
        rintro e wY ⟨rfl, st⟩
        rw [E3.out]
        rw [E3.out] at st
        dsimp only
        dsimp only at st
        try go_simp
        refine hK.out _ _ ?_
        unfold Rr.I
        refine ⟨l0, l1, true, true, l4, l5, l6, true, true, l9, l10, l11, v0, v1, (.func (.func 33) #[.pointer (some ⟨w1.heap.size, 0, none⟩)] #[]), ((dv t)), v4, v5, v6, ((iv p2 q2)), ((dv ⟨d0, d1, d2, d3, d4, d5⟩)), v9, v10, b10, rfl, ?_, ?_⟩
        · simp only [Act.put, List.setIfInBounds_toArray, List.set_cons_zero, List.set_cons_succ]
        · have h := H.out
          exact { h with g := h.g.step st h.mc, sz := Nat.le_trans h.sz st.size, e8 := fun _ => rfl, u0 := h.u0.step st h.uc0, u1 := h.u1.step st h.uc1, k0 := fun p0 => (nomatch (Eq.trans (Eq.symm (rfl : true = true)) p0)), k1 := fun p0 p1 => (nomatch p1), k2 := fun p0 p1 => CK.step st, k3 := fun p0 => (nomatch (h.q9 p0)), q8 := fun _ => rfl, q9 := fun _ => rfl, t10 := fun p => Nat.lt_of_lt_of_le (h.t10 p) st.size, z10 := fun p r => (h.z10 p r).step st (Nat.ne_of_gt (Nat.lt_of_lt_of_le h.cn (h.g10 p))), s10 := fun p => (h.s10 p).step st (Nat.ne_of_gt (Nat.lt_of_lt_of_le h.cn (h.g10 (h.o10 p)))) }
      | 9, hi, _ =>
        have l' : l9 = false := (ready_op (o := _) rfl hi).1
        subst l'
        have k0 : l0 = true := (ready_op (o := _) rfl hi).2 { on := 0, ground := .data } (by simp) rfl
        have k1 : l1 = true := (ready_op (o := _) rfl hi).2 { on := 1, ground := .data } (by simp) rfl
        have k8 : l8 = true := (ready_op (o := _) rfl hi).2 { on := 8, ground := .chain } (by simp) rfl
        clear hi hlt
        subst k0
        subst k1
        subst k8
        obtain rfl := h.e0 rfl
        obtain rfl := h.e1 rfl
        obtain rfl := h.e8 rfl
        have CK := h.k2 rfl rfl
        have H := Lib.hid h
        clear h
        refine wpOp_shut rfl (fun K hK => ?_)
        try simp only [Act.put, List.setIfInBounds_toArray, List.set_cons_zero, List.set_cons_succ]
        go_simp
        refine (rvec_sub w.heap.size w1.heap.size e3 s ⟨d0, d1, d2, d3, d4, d5⟩ _ CK.v CK.f).mono ?_
        rintro e wY ⟨rfl, st⟩
        rw [E4.out]
        rw [E4.out] at st
        dsimp only
        dsimp only at st
        try go_simp
        refine hK.out _ _ ?_
        unfold Rr.I
        refine ⟨true, true, l2, l3, l4, l5, l6, l7, true, true, l10, l11, (.func (.func 34) #[.pointer (some ⟨w1.heap.size, 0, none⟩)] #[]), ((dv s)), v2, v3, v4, v5, v6, v7, ((dv ⟨d0, d1, d2, d3, d4, d5⟩)), ((dv ⟨x0, x1, x2, x3, x4, x5⟩)), v10, b10, rfl, ?_, ?_⟩
        · simp only [Act.put, List.setIfInBounds_toArray, List.set_cons_zero, List.set_cons_succ]
        · have h := H.out
          exact { h with g := h.g.step st h.mc, sz := Nat.le_trans h.sz st.size, e9 := fun _ => rfl, u0 := h.u0.step st h.uc0, u1 := h.u1.step st h.uc1, k0 := fun p0 => (nomatch (Eq.trans (Eq.symm (h.q8 rfl)) p0)), k1 := fun p0 p1 => (nomatch (Eq.trans (Eq.symm (rfl : true = true)) p1)), k2 := fun p0 p1 => (nomatch p1), k3 := fun p0 => CK.step st, q9 := fun _ => rfl, t10 := fun p => Nat.lt_of_lt_of_le (h.t10 p) st.size, z10 := fun p r => (h.z10 p r).step st (Nat.ne_of_gt (Nat.lt_of_lt_of_le h.cn (h.g10 p))), s10 := fun p => (h.s10 p).step st (Nat.ne_of_gt (Nat.lt_of_lt_of_le h.cn (h.g10 (h.o10 p)))) }
      | 10, hi, _ =>
        have l' : l10 = false := (ready_op (o := _) rfl hi).1
        subst l'
        clear hi hlt
        have H := Lib.hid h
        clear h
        refine wpOp_shut rfl (fun K hK => ?_)
        try simp only [Act.put, List.setIfInBounds_toArray, List.set_cons_zero, List.set_cons_succ]
        go_simp
        refine hK.out _ _ ?_
        unfold Rr.I
        refine ⟨l0, l1, l2, l3, l4, l5, l6, l7, l8, l9, true, l11, v0, v1, v2, v3, v4, v5, v6, v7, v8, v9, (.pointer (some ⟨w'.heap.size, 0, none⟩)), w'.heap.size, rfl, ?_, ?_⟩
        · simp only [Act.put, List.setIfInBounds_toArray, List.set_cons_zero, List.set_cons_succ]
        · have h := H.out
          have h2 := h.kept ((Below.refl _ _).alloc (Nat.le_refl _) (.cells (List.toArray [.int .i64 0, .int .i64 0, .int .i64 0, .int .i64 0, .int .i64 0, .int .i64 0]) 25))
          exact { h2 with e10 := fun _ => rfl, g10 := fun _ => h.sz, t10 := fun _ => by simp, o10 := fun p => rfl, z10 := fun _ _ => Bx.new rfl, s10 := fun p => (nomatch (h.o10 p)) }
      | 11, hi, _ =>
        have l' : l11 = false := (ready_op (o := _) rfl hi).1
        subst l'
        have k10 : l10 = true := (ready_op (o := _) rfl hi).2 { on := 10, ground := .phase } (by simp) rfl
        have k9 : l9 = true := (ready_op (o := _) rfl hi).2 { on := 9, ground := .phase } (by simp) rfl
        have k0 : l0 = true := (ready_op (o := _) rfl hi).2 { on := 0, ground := .phase } (by simp) rfl
        have k1 : l1 = true := (ready_op (o := _) rfl hi).2 { on := 1, ground := .phase } (by simp) rfl
        have k2 : l2 = true := (ready_op (o := _) rfl hi).2 { on := 2, ground := .phase } (by simp) rfl
        have k3 : l3 = true := (ready_op (o := _) rfl hi).2 { on := 3, ground := .phase } (by simp) rfl
        have k4 : l4 = true := (ready_op (o := _) rfl hi).2 { on := 4, ground := .phase } (by simp) rfl
        have k5 : l5 = true := (ready_op (o := _) rfl hi).2 { on := 5, ground := .phase } (by simp) rfl
        have k6 : l6 = true := (ready_op (o := _) rfl hi).2 { on := 6, ground := .phase } (by simp) rfl
        have k7 : l7 = true := (ready_op (o := _) rfl hi).2 { on := 7, ground := .phase } (by simp) rfl
        have k8 : l8 = true := (ready_op (o := _) rfl hi).2 { on := 8, ground := .phase } (by simp) rfl
        clear hi hlt
        subst k10
        subst k9
        subst k0
        subst k1
        subst k2
        subst k3
        subst k4
        subst k5
        subst k6
        subst k7
        subst k8
        obtain rfl := h.e10 rfl
        obtain rfl := h.e9 rfl
        obtain rfl := h.e0 rfl
        obtain rfl := h.e1 rfl
        obtain rfl := h.e2 rfl
        obtain rfl := h.e3 rfl
        obtain rfl := h.e4 rfl
        obtain rfl := h.e5 rfl
        obtain rfl := h.e6 rfl
        obtain rfl := h.e7 rfl
        obtain rfl := h.e8 rfl
        have bz := h.z10 rfl rfl
        have c := bz.c
        have f := bz.f
        clear bz
        have H := Lib.hid h
        clear h
        refine wpOp_shut rfl (fun K hK => ?_)
        try simp only [Act.put, List.setIfInBounds_toArray, List.set_cons_zero, List.set_cons_succ]
        go_simp
        refine hK.out _ _ ?_
        unfold Rr.I
        refine ⟨true, true, true, true, true, true, true, true, true, true, true, true, (.func (.func 34) #[.pointer (some ⟨w1.heap.size, 0, none⟩)] #[]), ((dv s)), (.func (.func 33) #[.pointer (some ⟨w1.heap.size, 0, none⟩)] #[]), ((dv t)), (.func (.func 32) #[.pointer (some ⟨w1.heap.size, 0, none⟩)] #[]), ((iv p1 q1)), ((iv p1 q1)), ((iv p2 q2)), ((dv ⟨d0, d1, d2, d3, d4, d5⟩)), ((dv ⟨x0, x1, x2, x3, x4, x5⟩)), (.pointer (some ⟨b10, 0, none⟩)), b10, rfl, ?_, ?_⟩
        · simp only [Act.put, List.setIfInBounds_toArray, List.set_cons_zero, List.set_cons_succ]
        · have h := H.out
          have gb := h.g10 rfl
          have gm := Nat.le_trans h.mn gb
          exact { h with g := ((((((h.g.put gm).put gm).put gm).put gm).put gm).put gm), sz := by simpa using h.sz, o10 := fun _ => rfl, z10 := fun _ p => (nomatch p), s10 := fun _ => (((((((h.z10 rfl rfl).put).put).put).put).put).put), t10 := fun p => by simpa using h.t10 p, u0 := ((((((h.u0.set (Nat.ne_of_lt (Nat.lt_of_lt_of_le h.un0 gb))).set (Nat.ne_of_lt (Nat.lt_of_lt_of_le h.un0 gb))).set (Nat.ne_of_lt (Nat.lt_of_lt_of_le h.un0 gb))).set (Nat.ne_of_lt (Nat.lt_of_lt_of_le h.un0 gb))).set (Nat.ne_of_lt (Nat.lt_of_lt_of_le h.un0 gb))).set (Nat.ne_of_lt (Nat.lt_of_lt_of_le h.un0 gb))), u1 := ((((((h.u1.set (Nat.ne_of_lt (Nat.lt_of_lt_of_le h.un1 gb))).set (Nat.ne_of_lt (Nat.lt_of_lt_of_le h.un1 gb))).set (Nat.ne_of_lt (Nat.lt_of_lt_of_le h.un1 gb))).set (Nat.ne_of_lt (Nat.lt_of_lt_of_le h.un1 gb))).set (Nat.ne_of_lt (Nat.lt_of_lt_of_le h.un1 gb))).set (Nat.ne_of_lt (Nat.lt_of_lt_of_le h.un1 gb))), k0 := fun p0 => (((((((h.k0 p0).set (Nat.ne_of_lt (Nat.lt_of_lt_of_le h.cn gb))).set (Nat.ne_of_lt (Nat.lt_of_lt_of_le h.cn gb))).set (Nat.ne_of_lt (Nat.lt_of_lt_of_le h.cn gb))).set (Nat.ne_of_lt (Nat.lt_of_lt_of_le h.cn gb))).set (Nat.ne_of_lt (Nat.lt_of_lt_of_le h.cn gb))).set (Nat.ne_of_lt (Nat.lt_of_lt_of_le h.cn gb))), k1 := fun p0 p1 => (((((((h.k1 p0 p1).set (Nat.ne_of_lt (Nat.lt_of_lt_of_le h.cn gb))).set (Nat.ne_of_lt (Nat.lt_of_lt_of_le h.cn gb))).set (Nat.ne_of_lt (Nat.lt_of_lt_of_le h.cn gb))).set (Nat.ne_of_lt (Nat.lt_of_lt_of_le h.cn gb))).set (Nat.ne_of_lt (Nat.lt_of_lt_of_le h.cn gb))).set (Nat.ne_of_lt (Nat.lt_of_lt_of_le h.cn gb))), k2 := fun p0 p1 => (((((((h.k2 p0 p1).set (Nat.ne_of_lt (Nat.lt_of_lt_of_le h.cn gb))).set (Nat.ne_of_lt (Nat.lt_of_lt_of_le h.cn gb))).set (Nat.ne_of_lt (Nat.lt_of_lt_of_le h.cn gb))).set (Nat.ne_of_lt (Nat.lt_of_lt_of_le h.cn gb))).set (Nat.ne_of_lt (Nat.lt_of_lt_of_le h.cn gb))).set (Nat.ne_of_lt (Nat.lt_of_lt_of_le h.cn gb))), k3 := fun p0 => (((((((h.k3 p0).set (Nat.ne_of_lt (Nat.lt_of_lt_of_le h.cn gb))).set (Nat.ne_of_lt (Nat.lt_of_lt_of_le h.cn gb))).set (Nat.ne_of_lt (Nat.lt_of_lt_of_le h.cn gb))).set (Nat.ne_of_lt (Nat.lt_of_lt_of_le h.cn gb))).set (Nat.ne_of_lt (Nat.lt_of_lt_of_le h.cn gb))).set (Nat.ne_of_lt (Nat.lt_of_lt_of_le h.cn gb))) }
      | i + 12, _, hlt => exact absurd hlt (by simp)
    · intro L a' w' hI hn
      obtain ⟨l0, l1, l2, l3, l4, l5, l6, l7, l8, l9, l10, l11, v0, v1, v2, v3, v4, v5, v6, v7, v8, v9, v10, b10, rfl, rfl, h⟩ := hI
      have k0 : l0 = true := not_ready (i := 0) (o := _) rfl hn (by simp [Region.binds])
      subst k0
      have k1 : l1 = true := not_ready (i := 1) (o := _) rfl hn (by simp [Region.binds])
      subst k1
      have k2 : l2 = true := not_ready (i := 2) (o := _) rfl hn (by simp [Region.binds])
      subst k2
      have k3 : l3 = true := not_ready (i := 3) (o := _) rfl hn (by simp [Region.binds])
      subst k3
      have k4 : l4 = true := not_ready (i := 4) (o := _) rfl hn (by simp [Region.binds])
      subst k4
      have k5 : l5 = true := not_ready (i := 5) (o := _) rfl hn (by simp [Region.binds])
      subst k5
      have k6 : l6 = true := not_ready (i := 6) (o := _) rfl hn (by simp [Region.binds])
      subst k6
      have k7 : l7 = true := not_ready (i := 7) (o := _) rfl hn (by simp [Region.binds])
      subst k7
      have k8 : l8 = true := not_ready (i := 8) (o := _) rfl hn (by simp [Region.binds])
      subst k8
      have k9 : l9 = true := not_ready (i := 9) (o := _) rfl hn (by simp [Region.binds])
      subst k9
      have k10 : l10 = true := not_ready (i := 10) (o := _) rfl hn (by simp [Region.binds])
      subst k10
      have k11 : l11 = true := not_ready (i := 11) (o := _) rfl hn (by simp [Region.binds])
      subst k11
      clear hn
      obtain rfl := h.e0 rfl
      obtain rfl := h.e1 rfl
      obtain rfl := h.e2 rfl
      obtain rfl := h.e3 rfl
      obtain rfl := h.e4 rfl
      obtain rfl := h.e5 rfl
      obtain rfl := h.e6 rfl
      obtain rfl := h.e7 rfl
      obtain rfl := h.e8 rfl
      obtain rfl := h.e9 rfl
      obtain rfl := h.e10 rfl
      simp only [Act.put, List.setIfInBounds_toArray, List.set_cons_zero, List.set_cons_succ]
      have GA := h.g
      have BA := h.s10 rfl
      have CA := h.k3 rfl
      have OA := h.u0
      have gA := h.g10 rfl
      clear h
      have nA : ¬ (b10 = w.heap.size + 1 + 1) := by omega
      have nC : ¬ (w1.heap.size = w.heap.size + 1 + 1) := by omega
      have oc := OA.c
      have of := OA.f
      have hl := OA.lt
      clear h0_2 h1_2 o_2c o_2f C_2v C_2f q2_0 q2_1 q2_2 q2_3 q2_4 q2_5 q2_6 q2_7 q2_8 q2_9 q2_10 q2_11 q2_12 q2_13 q2_14 q2_15 q2_16 q2_17 q2_18 q2_19 q2_20 q2_21 q2_22 q2_23 q2_24 q2_25
      go_upto_region 7 with fail
      go_region_held3 (fun X => (∀ j, X.cell? ⟨b10, j, none⟩ = [.int .i64 x0, .int .i64 x1, .int .i64 x2, .int .i64 x3, .int .i64 x4, .int .i64 x5][j]?) ∧ X.cell? ⟨w1.heap.size, 0, none⟩ = some (.int .i64 e4)) (with_reducible first | exact ⟨BA.drew.c, CA.drew.v⟩ | exact ⟨((((((BA.set nA).set nA).set nA).set nA).set nA).set nA).drew.c, ((((((CA.set nC).set nC).set nC).set nC).set nC).set nC).drew.v⟩) (fail)
      all_goals go_wp2_with fail
      refine bodyPost_box (b := w.heap.size + 1 + 1) (cs := [.int .i64 x0, .int .i64 x1, .int .i64 x2, .int .i64 x3, .int .i64 x4, .int .i64 x5]) (v := .tuple #[dv ⟨x0, x1, x2, x3, x4, x5⟩, .int .i64 e4]) (by
        (repeat (first | with_reducible exact OA | with_reducible apply Bx.put6 | with_reducible refine Bx.drew ?_))) (fun X hX => by simp [results, Try.results9, go_sem, hX]) rfl ⟨rfl, by
        refine Ho.below (n := w.heap.size + 1 + 1) (l := [(w.heap.size + 1, [.int .i64 t.a, .int .i64 t.b, .int .i64 t.c, .int .i64 t.d, .int .i64 t.e, .int .i64 t.f]), (w.heap.size, [.int .i64 s.a, .int .i64 s.b, .int .i64 s.c, .int .i64 s.d, .int .i64 s.e, .int .i64 s.f])]) ?_
        (repeat (first | with_reducible exact GA | with_reducible refine Ho.alc ?_ _ | with_reducible refine Ho.drew ?_ | with_reducible refine Ho.put ?_ (by omega)))⟩
end Go.Proofs.Ytjppcndhaejfpaa.Iv
