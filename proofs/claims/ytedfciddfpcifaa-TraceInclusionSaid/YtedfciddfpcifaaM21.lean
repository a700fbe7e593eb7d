/- Texts Di, DkM, Dj, Drd, Ds. -/
import Derived.Test.YtedfciddfpcifaaM17
import Derived.Test.YtedfciddfpcifaaM12
import Derived.Test.YtedfciddfpcifaaM20
import Derived.Test.YtedfciddfpcifaaM13
import Derived.Test.YtedfciddfpcifaaM11
import Derived.BigQuiet
import Derived.Test.YtedfciddfpcifaaM15

/- Contracts of package refraction's dot and Reflect. -/
namespace Go.Proofs.Ytedfciddfpcifaa.Iv
open Go.RowKit

set_option maxRecDepth 100000 in
set_option maxHeartbeats 4000000 in
theorem rdot_any (B c : Nat) (e : Int) (s t : D) (w : World) (hc : w.cell? ⟨c, 0, none⟩ = some (.int .i64 e)) (hf : w.frozen? ⟨c, 0, none⟩ = false) :
    Calls Try.prog 68 #[.pointer (some ⟨c, 0, none⟩), dv s, dv t] w fun r w' => r = .returned (iv (goOn e (dotR s t)).lo (goOn e (dotR s t)).hi) ∧ Step B w c (goOn e (dotR s t)).e w' := by
  by_cases he : e = 0
  · subst he
    rw [show goOn 0 (dotR s t) = dotR s t from if_pos rfl]
    obtain ⟨⟨p, q, ee⟩, hd⟩ : ∃ r : R, dotR s t = r := ⟨_, rfl⟩
    have HD := Lib.hid (show retR (dotR s t) = .returned (.tuple #[iv p q, .int .i64 ee]) from by rw [hd])
    rw [hd]
    clear hd
    have H0 := (((Ho.nil w).bx [.int .i64 s.a, .int .i64 s.b, .int .i64 s.c, .int .i64 s.d, .int .i64 s.e, .int .i64 s.f] 26 (w.heap.size) (by simp)).bx [.int .i64 t.a, .int .i64 t.b, .int .i64 t.c, .int .i64 t.d, .int .i64 t.e, .int .i64 t.f] 26 (w.heap.size + 1) (by simp))
    have o_0 : Bx (((w.alloc (.cells (List.toArray [.int .i64 s.a, .int .i64 s.b, .int .i64 s.c, .int .i64 s.d, .int .i64 s.e, .int .i64 s.f]) 26)).alloc (.cells (List.toArray [.int .i64 t.a, .int .i64 t.b, .int .i64 t.c, .int .i64 t.d, .int .i64 t.e, .int .i64 t.f]) 26)).alloc (.cells (List.toArray [.int .i64 0, .int .i64 0]) 24)) (w.heap.size + 1 + 1) [.int .i64 0, .int .i64 0] := by
      (repeat (first | with_reducible exact Bx.new (by simp) | with_reducible apply Bx.put6 | with_reducible apply Bx.put2 | with_reducible apply Bx.put1 | with_reducible refine Bx.set ?_ (by omega) | with_reducible refine Bx.alc ?_ _ | with_reducible refine Bx.drew ?_))
    have C_0 : Ce (((w.alloc (.cells (List.toArray [.int .i64 s.a, .int .i64 s.b, .int .i64 s.c, .int .i64 s.d, .int .i64 s.e, .int .i64 s.f]) 26)).alloc (.cells (List.toArray [.int .i64 t.a, .int .i64 t.b, .int .i64 t.c, .int .i64 t.d, .int .i64 t.e, .int .i64 t.f]) 26)).alloc (.cells (List.toArray [.int .i64 0, .int .i64 0]) 24)) c 0 := by
      have C : Ce w c 0 := ⟨World.block_lt_of_cell? w _ hc, hc, hf⟩
      (repeat (first | with_reducible exact C | with_reducible refine Ce.alc ?_ _ | with_reducible refine Ce.drew ?_ | with_reducible refine Ce.set ?_ (by omega)))
    have S_0 : Step B w c 0 (((w.alloc (.cells (List.toArray [.int .i64 s.a, .int .i64 s.b, .int .i64 s.c, .int .i64 s.d, .int .i64 s.e, .int .i64 s.f]) 26)).alloc (.cells (List.toArray [.int .i64 t.a, .int .i64 t.b, .int .i64 t.c, .int .i64 t.d, .int .i64 t.e, .int .i64 t.f]) 26)).alloc (.cells (List.toArray [.int .i64 0, .int .i64 0]) 24)) := by
      have S := Step.beg (B := B) hc
      (repeat (first | with_reducible exact S | with_reducible refine Step.alk ?_ _))
    have clt : c < w.heap.size := World.block_lt_of_cell? w _ hc
    go_enter Try.func68, Try.ntmps68
    have o_0c := o_0.c
    have o_0f := o_0.f
    have C_0v := C_0.v
    have C_0f := C_0.f
    have q0_0 : ¬ (w.heap.size + 1 + 1 = c) := by omega
    have q0_1 : ¬ (c = w.heap.size + 1 + 1) := by omega
    go_wp2_with fail
    refine (ddot_any s t _).mono ?_
    rintro r w1 ⟨rfl, hb⟩
    rw [HD.out]
    have H1 : Ho w w1 (w.heap.size + 1 + 1) [(w.heap.size + 1, [.int .i64 t.a, .int .i64 t.b, .int .i64 t.c, .int .i64 t.d, .int .i64 t.e, .int .i64 t.f]), (w.heap.size, [.int .i64 s.a, .int .i64 s.b, .int .i64 s.c, .int .i64 s.d, .int .i64 s.e, .int .i64 s.f])] := Ho.call (by
      (repeat (first | with_reducible exact H0 | with_reducible refine Ho.alc ?_ _ | with_reducible refine Ho.drew ?_ | with_reducible refine Ho.put ?_ (by omega)))) hb
    have o_1 : Bx w1 (w.heap.size + 1 + 1) [.int .i64 0, .int .i64 0] := Bx.kept (by
      (repeat (first | with_reducible exact o_0 | with_reducible refine Bx.alc ?_ _ | with_reducible refine Bx.drew ?_ | with_reducible refine Bx.set ?_ (by omega)))) hb
    have C_1 : Ce w1 c 0 := Ce.kept (by
      (repeat (first | with_reducible exact C_0 | with_reducible refine Ce.alc ?_ _ | with_reducible refine Ce.drew ?_ | with_reducible refine Ce.set ?_ (by omega)))) hb
    have S_1 : Step B w c 0 w1 := Step.kall (by
      (repeat (first | with_reducible exact S_0 | with_reducible refine Step.alk ?_ _ | with_reducible refine Step.drow ?_ | with_reducible refine Step.owns ?_ (by omega) (by omega) | with_reducible apply Step.putc))) hb
    clear o_0c o_0f C_0v C_0f q0_0 q0_1
    have hs1 := H1.size
    have hz1 := hb.size
    (try simp at hz1)
    clear hb
    have h0_1 := (H1.at 1 rfl).c
    have h1_1 := (H1.at 0 rfl).c
    have o_1c := o_1.c
    have o_1f := o_1.f
    have o_1l := o_1.lt
    have C_1v := C_1.v
    have C_1f := C_1.f
    have C_1l := C_1.lt
    have q1_0 : ¬ (w.heap.size + 1 + 1 = w1.heap.size) := by omega
    have q1_1 : ¬ (w1.heap.size = w.heap.size + 1 + 1) := by omega
    have q1_2 : w.heap.size + 1 + 1 < w1.heap.size := by omega
    have q1_3 : w.heap.size + 1 + 1 < w1.heap.size + 1 := by omega
    have q1_4 : ¬ (c = w1.heap.size) := by omega
    have q1_5 : ¬ (w1.heap.size = c) := by omega
    have q1_6 : c < w1.heap.size := by omega
    have q1_7 : c < w1.heap.size + 1 := by omega
    have q1_8 : ¬ (w.heap.size = w1.heap.size) := by omega
    have q1_9 : ¬ (w1.heap.size = w.heap.size) := by omega
    have q1_10 : w.heap.size < w1.heap.size := by omega
    have q1_11 : w.heap.size < w1.heap.size + 1 := by omega
    have q1_12 : ¬ (w.heap.size + 1 = w1.heap.size) := by omega
    have q1_13 : ¬ (w1.heap.size = w.heap.size + 1) := by omega
    have q1_14 : w.heap.size + 1 < w1.heap.size := by omega
    have q1_15 : w.heap.size + 1 < w1.heap.size + 1 := by omega
    have q1_16 : ¬ (w.heap.size + 1 + 1 = c) := by omega
    have q1_17 : ¬ (c = w.heap.size + 1 + 1) := by omega
    have q1_18 : ¬ (w.heap.size + 1 + 1 = w.heap.size) := by omega
    have q1_19 : ¬ (w.heap.size = w.heap.size + 1 + 1) := by omega
    have q1_20 : ¬ (w.heap.size + 1 + 1 = w.heap.size + 1) := by omega
    have q1_21 : ¬ (w.heap.size + 1 = w.heap.size + 1 + 1) := by omega
    have q1_22 : ¬ (c = w.heap.size) := by omega
    have q1_23 : ¬ (w.heap.size = c) := by omega
    have q1_24 : ¬ (c = w.heap.size + 1) := by omega
    have q1_25 : ¬ (w.heap.size + 1 = c) := by omega
    go_wp2_with fail
    refine bodyPost_box (b := w.heap.size + 1 + 1) (cs := [.int .i64 p, .int .i64 q]) (v := iv p q) (by
      (repeat (first | with_reducible exact o_1 | with_reducible apply Bx.put6 | with_reducible apply Bx.put2 | with_reducible apply Bx.put1 | with_reducible refine Bx.set ?_ (by omega) | with_reducible refine Bx.alc ?_ _ | with_reducible refine Bx.drew ?_))) (fun X hX => by simp [results, Try.results68, go_sem, hX]) rfl ⟨rfl, by
      (repeat (first | with_reducible exact S_1 | with_reducible refine Step.alk ?_ _ | with_reducible refine Step.drow ?_ | with_reducible refine Step.owns ?_ (by omega) (by omega) | with_reducible apply Step.putc))⟩
  · rw [show goOn e (dotR s t) = ⟨0, 0, e⟩ from if_neg he]
    have he' : (e == 0) = false := by simpa using he
    have H0 := (((Ho.nil w).bx [.int .i64 s.a, .int .i64 s.b, .int .i64 s.c, .int .i64 s.d, .int .i64 s.e, .int .i64 s.f] 26 (w.heap.size) (by simp)).bx [.int .i64 t.a, .int .i64 t.b, .int .i64 t.c, .int .i64 t.d, .int .i64 t.e, .int .i64 t.f] 26 (w.heap.size + 1) (by simp))
    have o_0 : Bx (((w.alloc (.cells (List.toArray [.int .i64 s.a, .int .i64 s.b, .int .i64 s.c, .int .i64 s.d, .int .i64 s.e, .int .i64 s.f]) 26)).alloc (.cells (List.toArray [.int .i64 t.a, .int .i64 t.b, .int .i64 t.c, .int .i64 t.d, .int .i64 t.e, .int .i64 t.f]) 26)).alloc (.cells (List.toArray [.int .i64 0, .int .i64 0]) 24)) (w.heap.size + 1 + 1) [.int .i64 0, .int .i64 0] := by
      (repeat (first | with_reducible exact Bx.new (by simp) | with_reducible apply Bx.put6 | with_reducible apply Bx.put2 | with_reducible apply Bx.put1 | with_reducible refine Bx.set ?_ (by omega) | with_reducible refine Bx.alc ?_ _ | with_reducible refine Bx.drew ?_))
    have C_0 : Ce (((w.alloc (.cells (List.toArray [.int .i64 s.a, .int .i64 s.b, .int .i64 s.c, .int .i64 s.d, .int .i64 s.e, .int .i64 s.f]) 26)).alloc (.cells (List.toArray [.int .i64 t.a, .int .i64 t.b, .int .i64 t.c, .int .i64 t.d, .int .i64 t.e, .int .i64 t.f]) 26)).alloc (.cells (List.toArray [.int .i64 0, .int .i64 0]) 24)) c e := by
      have C : Ce w c e := ⟨World.block_lt_of_cell? w _ hc, hc, hf⟩
      (repeat (first | with_reducible exact C | with_reducible refine Ce.alc ?_ _ | with_reducible refine Ce.drew ?_ | with_reducible refine Ce.set ?_ (by omega)))
    have S_0 : Step B w c e (((w.alloc (.cells (List.toArray [.int .i64 s.a, .int .i64 s.b, .int .i64 s.c, .int .i64 s.d, .int .i64 s.e, .int .i64 s.f]) 26)).alloc (.cells (List.toArray [.int .i64 t.a, .int .i64 t.b, .int .i64 t.c, .int .i64 t.d, .int .i64 t.e, .int .i64 t.f]) 26)).alloc (.cells (List.toArray [.int .i64 0, .int .i64 0]) 24)) := by
      have S := Step.beg (B := B) hc
      (repeat (first | with_reducible exact S | with_reducible refine Step.alk ?_ _))
    have clt : c < w.heap.size := World.block_lt_of_cell? w _ hc
    go_enter Try.func68, Try.ntmps68
    have o_0c := o_0.c
    have o_0f := o_0.f
    have C_0v := C_0.v
    have C_0f := C_0.f
    have q0_0 : ¬ (w.heap.size + 1 + 1 = c) := by omega
    have q0_1 : ¬ (c = w.heap.size + 1 + 1) := by omega
    go_wp2_with fail
    refine bodyPost_box (b := w.heap.size + 1 + 1) (cs := [.int .i64 0, .int .i64 0]) (v := iv 0 0) (by
      (repeat (first | with_reducible exact o_0 | with_reducible apply Bx.put6 | with_reducible apply Bx.put2 | with_reducible apply Bx.put1 | with_reducible refine Bx.set ?_ (by omega) | with_reducible refine Bx.alc ?_ _ | with_reducible refine Bx.drew ?_))) (fun X hX => by simp [results, Try.results68, go_sem, hX]) rfl ⟨rfl, by
      (repeat (first | with_reducible exact S_0 | with_reducible refine Step.alk ?_ _ | with_reducible refine Step.drow ?_ | with_reducible refine Step.owns ?_ (by omega) (by omega) | with_reducible apply Step.putc))⟩
structure Rr (s t : D) (p1 q1 p2 q2 e1 e2 e3 e4 d0 d1 d2 d3 d4 d5 x0 x1 x2 x3 x4 x5 : Int) (nb cb c : Nat) (w0 w : World) (l0 l1 l2 l3 l4 l5 l6 l7 l8 l9 l10 l11 : Bool) (v0 v1 v2 v3 v4 v5 v6 v7 v8 v9 v10 : Value) (b10 : Nat) : Prop where
  g : Ho w0 w (nb + 1 + 1) [(nb + 1, [.int .i64 t.a, .int .i64 t.b, .int .i64 t.c, .int .i64 t.d, .int .i64 t.e, .int .i64 t.f]), (nb, [.int .i64 s.a, .int .i64 s.b, .int .i64 s.c, .int .i64 s.d, .int .i64 s.e, .int .i64 s.f])]
  sz : (cb + 1) ≤ w.heap.size
  mn : (nb + 1 + 1) ≤ (cb + 1)
  u0 : Bx w (nb + 1 + 1) [.int .i64 0, .int .i64 0, .int .i64 0, .int .i64 0, .int .i64 0, .int .i64 0]
  un0 : (nb + 1 + 1) < (cb + 1)
  uc0 : ¬ ((nb + 1 + 1) = c)
  u1 : Bx w cb [.int .i64 p1, .int .i64 q1]
  un1 : cb < (cb + 1)
  uc1 : ¬ (cb = c)
  mc : (nb + 1 + 1) ≤ c
  cn : c < (cb + 1)
  q8 : l8 = true → l7 = true
  q9 : l9 = true → l8 = true
  k0 : l7 = false → Ce w c e1
  k1 : l7 = true → l8 = false → Ce w c e2
  k2 : l8 = true → l9 = false → Ce w c e3
  k3 : l9 = true → Ce w c e4
  e0 : l0 = true → v0 = .func (.func 67) #[.pointer (some ⟨c, 0, none⟩)] #[]
  e1 : l1 = true → v1 = (dv s)
  e2 : l2 = true → v2 = .func (.func 66) #[.pointer (some ⟨c, 0, none⟩)] #[]
  e3 : l3 = true → v3 = (dv t)
  e4 : l4 = true → v4 = .func (.func 65) #[.pointer (some ⟨c, 0, none⟩)] #[]
  e5 : l5 = true → v5 = (iv p1 q1)
  e6 : l6 = true → v6 = (iv p1 q1)
  e7 : l7 = true → v7 = (iv p2 q2)
  e8 : l8 = true → v8 = (dv ⟨d0, d1, d2, d3, d4, d5⟩)
  e9 : l9 = true → v9 = (dv ⟨x0, x1, x2, x3, x4, x5⟩)
  e10 : l10 = true → v10 = .pointer (some ⟨b10, 0, none⟩)
  g10 : l10 = true → (cb + 1) ≤ b10
  t10 : l10 = true → b10 < w.heap.size
  o10 : l11 = true → l10 = true
  z10 : l10 = true → l11 = false → Bx w b10 [.int .i64 0, .int .i64 0, .int .i64 0, .int .i64 0, .int .i64 0, .int .i64 0]
  s10 : l11 = true → Bx w b10 [.int .i64 x0, .int .i64 x1, .int .i64 x2, .int .i64 x3, .int .i64 x4, .int .i64 x5]
theorem Rr.kept {s t : D} {p1 q1 p2 q2 e1 e2 e3 e4 d0 d1 d2 d3 d4 d5 x0 x1 x2 x3 x4 x5 : Int} {nb cb c : Nat} {w0 w : World} {l0 l1 l2 l3 l4 l5 l6 l7 l8 l9 l10 l11 : Bool} {v0 v1 v2 v3 v4 v5 v6 v7 v8 v9 v10 : Value} {b10 : Nat} {w' : World} (h : Rr s t p1 q1 p2 q2 e1 e2 e3 e4 d0 d1 d2 d3 d4 d5 x0 x1 x2 x3 x4 x5 nb cb c w0 w l0 l1 l2 l3 l4 l5 l6 l7 l8 l9 l10 l11 v0 v1 v2 v3 v4 v5 v6 v7 v8 v9 v10 b10) (hb : Below w.heap.size w w') : Rr s t p1 q1 p2 q2 e1 e2 e3 e4 d0 d1 d2 d3 d4 d5 x0 x1 x2 x3 x4 x5 nb cb c w0 w' l0 l1 l2 l3 l4 l5 l6 l7 l8 l9 l10 l11 v0 v1 v2 v3 v4 v5 v6 v7 v8 v9 v10 b10 :=
  { h with g := h.g.call hb, sz := Nat.le_trans h.sz hb.size, u0 := h.u0.kept hb, u1 := h.u1.kept hb, k0 := fun p0 => (h.k0 p0).kept hb, k1 := fun p0 p1 => (h.k1 p0 p1).kept hb, k2 := fun p0 p1 => (h.k2 p0 p1).kept hb, k3 := fun p0 => (h.k3 p0).kept hb, t10 := fun p => Nat.lt_of_lt_of_le (h.t10 p) hb.size, z10 := fun p q => (h.z10 p q).kept hb, s10 := fun p => (h.s10 p).kept hb }
def Rr.I (s t : D) (p1 q1 p2 q2 e1 e2 e3 e4 d0 d1 d2 d3 d4 d5 x0 x1 x2 x3 x4 x5 : Int) (nb cb c : Nat) (w0 : World) : Act → Array Bool → Act → World → Prop := fun a0 L a w => ∃ (l0 l1 l2 l3 l4 l5 l6 l7 l8 l9 l10 l11 : Bool) (v0 v1 v2 v3 v4 v5 v6 v7 v8 v9 v10 : Value) (b10 : Nat), L = #[l0, l1, l2, l3, l4, l5, l6, l7, l8, l9, l10, l11] ∧ a = (((((((((((a0.put (some 24) v0).put (some 25) v1).put (some 26) v2).put (some 27) v3).put (some 28) v4).put (some 29) v5).put (some 30) v6).put (some 31) v7).put (some 32) v8).put (some 33) v9).put (some 11) v10) ∧ Rr s t p1 q1 p2 q2 e1 e2 e3 e4 d0 d1 d2 d3 d4 d5 x0 x1 x2 x3 x4 x5 nb cb c w0 w l0 l1 l2 l3 l4 l5 l6 l7 l8 l9 l10 l11 v0 v1 v2 v3 v4 v5 v6 v7 v8 v9 v10 b10
/-- the direction of a reflected ray -/
def reflG (s t : D) : RD :=
  let g1 := goOn 0 (dotR s t)
  let g2 := goOn g1.e (addR g1.lo g1.hi g1.lo g1.hi)
  let g3 := goOnD g2.e (scaleD t g2.lo g2.hi)
  goOnD g3.e (subD s g3.d)
def reflR (s t : D) : RD := if (vD s && vD t) = true then reflG s t else ⟨zD, 1⟩
set_option maxRecDepth 100000 in
set_option maxHeartbeats 4000000 in
theorem reflect_any (s t : D) (w : World) :
    Calls Try.prog 46 #[dv s, dv t] w fun e w' => e = retD (reflR s t) ∧ Below w.heap.size w w' := by
  cases hv : (vD s && vD t)
  · rw [show reflR s t = ⟨zD, 1⟩ from if_neg (by rw [hv]; decide)]
    have HV := Lib.hid hv
    clear hv
    have H0 := (((Ho.nil w).bx [.int .i64 s.a, .int .i64 s.b, .int .i64 s.c, .int .i64 s.d, .int .i64 s.e, .int .i64 s.f] 26 (w.heap.size) (by simp)).bx [.int .i64 t.a, .int .i64 t.b, .int .i64 t.c, .int .i64 t.d, .int .i64 t.e, .int .i64 t.f] 26 (w.heap.size + 1) (by simp))
    have o_0 : Bx (((w.alloc (.cells (List.toArray [.int .i64 s.a, .int .i64 s.b, .int .i64 s.c, .int .i64 s.d, .int .i64 s.e, .int .i64 s.f]) 26)).alloc (.cells (List.toArray [.int .i64 t.a, .int .i64 t.b, .int .i64 t.c, .int .i64 t.d, .int .i64 t.e, .int .i64 t.f]) 26)).alloc (.cells (List.toArray [.int .i64 0, .int .i64 0, .int .i64 0, .int .i64 0, .int .i64 0, .int .i64 0]) 26)) (w.heap.size + 1 + 1) [.int .i64 0, .int .i64 0, .int .i64 0, .int .i64 0, .int .i64 0, .int .i64 0] := by
      (repeat (first | with_reducible exact Bx.new (by simp) | with_reducible apply Bx.put6 | with_reducible apply Bx.put2 | with_reducible apply Bx.put1 | with_reducible refine Bx.set ?_ (by omega) | with_reducible refine Bx.alc ?_ _ | with_reducible refine Bx.drew ?_))
    go_enter Try.func46, Try.ntmps46
    have o_0c := o_0.c
    have o_0f := o_0.f
    go_wp2_with fail
    refine (vray_any s t _).mono ?_
    rintro r w1 ⟨rfl, hb⟩
    rw [HV.out]
    have H1 : Ho w w1 (w.heap.size + 1 + 1) [(w.heap.size + 1, [.int .i64 t.a, .int .i64 t.b, .int .i64 t.c, .int .i64 t.d, .int .i64 t.e, .int .i64 t.f]), (w.heap.size, [.int .i64 s.a, .int .i64 s.b, .int .i64 s.c, .int .i64 s.d, .int .i64 s.e, .int .i64 s.f])] := Ho.call (by
      (repeat (first | with_reducible exact H0 | with_reducible refine Ho.alc ?_ _ | with_reducible refine Ho.drew ?_ | with_reducible refine Ho.put ?_ (by omega)))) hb
    have o_1 : Bx w1 (w.heap.size + 1 + 1) [.int .i64 0, .int .i64 0, .int .i64 0, .int .i64 0, .int .i64 0, .int .i64 0] := Bx.kept (by
      (repeat (first | with_reducible exact o_0 | with_reducible refine Bx.alc ?_ _ | with_reducible refine Bx.drew ?_ | with_reducible refine Bx.set ?_ (by omega)))) hb
    clear o_0c o_0f
    have hs1 := H1.size
    have hz1 := hb.size
    (try simp at hz1)
    clear hb
    have h0_1 := (H1.at 1 rfl).c
    have h1_1 := (H1.at 0 rfl).c
    have o_1c := o_1.c
    have o_1f := o_1.f
    have o_1l := o_1.lt
    have q1_0 : ¬ (w.heap.size + 1 + 1 = w1.heap.size) := by omega
    have q1_1 : ¬ (w1.heap.size = w.heap.size + 1 + 1) := by omega
    have q1_2 : w.heap.size + 1 + 1 < w1.heap.size := by omega
    have q1_3 : w.heap.size + 1 + 1 < w1.heap.size + 1 := by omega
    have q1_4 : ¬ (w.heap.size = w1.heap.size) := by omega
    have q1_5 : ¬ (w1.heap.size = w.heap.size) := by omega
    have q1_6 : w.heap.size < w1.heap.size := by omega
    have q1_7 : w.heap.size < w1.heap.size + 1 := by omega
    have q1_8 : ¬ (w.heap.size + 1 = w1.heap.size) := by omega
    have q1_9 : ¬ (w1.heap.size = w.heap.size + 1) := by omega
    have q1_10 : w.heap.size + 1 < w1.heap.size := by omega
    have q1_11 : w.heap.size + 1 < w1.heap.size + 1 := by omega
    have q1_12 : ¬ (w.heap.size + 1 + 1 = w.heap.size) := by omega
    have q1_13 : ¬ (w.heap.size = w.heap.size + 1 + 1) := by omega
    have q1_14 : ¬ (w.heap.size + 1 + 1 = w.heap.size + 1) := by omega
    have q1_15 : ¬ (w.heap.size + 1 = w.heap.size + 1 + 1) := by omega
    go_wp2_with fail
    refine bodyPost_box (b := w.heap.size + 1 + 1) (cs := [.int .i64 0, .int .i64 0, .int .i64 0, .int .i64 0, .int .i64 0, .int .i64 0]) (v := .tuple #[dv zD, .int .i64 1]) (by
      (repeat (first | with_reducible exact o_1 | with_reducible apply Bx.put6 | with_reducible apply Bx.put2 | with_reducible apply Bx.put1 | with_reducible refine Bx.set ?_ (by omega) | with_reducible refine Bx.alc ?_ _ | with_reducible refine Bx.drew ?_))) (fun X hX => by simp [zD, results, Try.results46, go_sem, hX]) rfl ⟨rfl, by
      refine Ho.below (n := w.heap.size + 1 + 1) (l := [(w.heap.size + 1, [.int .i64 t.a, .int .i64 t.b, .int .i64 t.c, .int .i64 t.d, .int .i64 t.e, .int .i64 t.f]), (w.heap.size, [.int .i64 s.a, .int .i64 s.b, .int .i64 s.c, .int .i64 s.d, .int .i64 s.e, .int .i64 s.f])]) ?_
      (repeat (first | with_reducible exact H1 | with_reducible refine Ho.alc ?_ _ | with_reducible refine Ho.drew ?_ | with_reducible refine Ho.put ?_ (by omega)))⟩
  · rw [show reflR s t = reflG s t from if_pos hv]
    obtain ⟨⟨p1, q1, e1⟩, h1⟩ : ∃ r : R, goOn 0 (dotR s t) = r := ⟨_, rfl⟩
    obtain ⟨⟨p2, q2, e2⟩, h2⟩ : ∃ r : R, goOn e1 (addR p1 q1 p1 q1) = r := ⟨_, rfl⟩
    obtain ⟨⟨⟨d0, d1, d2, d3, d4, d5⟩, e3⟩, h3⟩ : ∃ r : RD, goOnD e2 (scaleD t p2 q2) = r := ⟨_, rfl⟩
    obtain ⟨⟨⟨x0, x1, x2, x3, x4, x5⟩, e4⟩, h4⟩ : ∃ r : RD, goOnD e3 (subD s ⟨d0, d1, d2, d3, d4, d5⟩) = r := ⟨_, rfl⟩
    rw [show reflG s t = ⟨⟨x0, x1, x2, x3, x4, x5⟩, e4⟩ from by unfold reflG; simp only [h1, h2, h3, h4]]
    have HV := Lib.hid hv
    have E1 := Lib.hid h1
    have E2 := Lib.hid h2
    have E3 := Lib.hid h3
    have E4 := Lib.hid h4
    clear hv h1 h2 h3 h4
    have H0 := (((Ho.nil w).bx [.int .i64 s.a, .int .i64 s.b, .int .i64 s.c, .int .i64 s.d, .int .i64 s.e, .int .i64 s.f] 26 (w.heap.size) (by simp)).bx [.int .i64 t.a, .int .i64 t.b, .int .i64 t.c, .int .i64 t.d, .int .i64 t.e, .int .i64 t.f] 26 (w.heap.size + 1) (by simp))
    have o_0 : Bx (((w.alloc (.cells (List.toArray [.int .i64 s.a, .int .i64 s.b, .int .i64 s.c, .int .i64 s.d, .int .i64 s.e, .int .i64 s.f]) 26)).alloc (.cells (List.toArray [.int .i64 t.a, .int .i64 t.b, .int .i64 t.c, .int .i64 t.d, .int .i64 t.e, .int .i64 t.f]) 26)).alloc (.cells (List.toArray [.int .i64 0, .int .i64 0, .int .i64 0, .int .i64 0, .int .i64 0, .int .i64 0]) 26)) (w.heap.size + 1 + 1) [.int .i64 0, .int .i64 0, .int .i64 0, .int .i64 0, .int .i64 0, .int .i64 0] := by
      (repeat (first | with_reducible exact Bx.new (by simp) | with_reducible apply Bx.put6 | with_reducible apply Bx.put2 | with_reducible apply Bx.put1 | with_reducible refine Bx.set ?_ (by omega) | with_reducible refine Bx.alc ?_ _ | with_reducible refine Bx.drew ?_))
    go_enter Try.func46, Try.ntmps46
    have o_0c := o_0.c
    have o_0f := o_0.f
    go_wp2_with fail
    refine (vray_any s t _).mono ?_
    rintro r w1 ⟨rfl, hb⟩
    rw [HV.out]
    have H1 : Ho w w1 (w.heap.size + 1 + 1) [(w.heap.size + 1, [.int .i64 t.a, .int .i64 t.b, .int .i64 t.c, .int .i64 t.d, .int .i64 t.e, .int .i64 t.f]), (w.heap.size, [.int .i64 s.a, .int .i64 s.b, .int .i64 s.c, .int .i64 s.d, .int .i64 s.e, .int .i64 s.f])] := Ho.call (by
      (repeat (first | with_reducible exact H0 | with_reducible refine Ho.alc ?_ _ | with_reducible refine Ho.drew ?_ | with_reducible refine Ho.put ?_ (by omega)))) hb
    have o_1 : Bx w1 (w.heap.size + 1 + 1) [.int .i64 0, .int .i64 0, .int .i64 0, .int .i64 0, .int .i64 0, .int .i64 0] := Bx.kept (by
      (repeat (first | with_reducible exact o_0 | with_reducible refine Bx.alc ?_ _ | with_reducible refine Bx.drew ?_ | with_reducible refine Bx.set ?_ (by omega)))) hb
    clear o_0c o_0f
    have hs1 := H1.size
    have hz1 := hb.size
    (try simp at hz1)
    clear hb
    have h0_1 := (H1.at 1 rfl).c
    have h1_1 := (H1.at 0 rfl).c
    have o_1c := o_1.c
    have o_1f := o_1.f
    have o_1l := o_1.lt
    have q1_0 : ¬ (w.heap.size + 1 + 1 = w1.heap.size) := by omega
    have q1_1 : ¬ (w1.heap.size = w.heap.size + 1 + 1) := by omega
    have q1_2 : w.heap.size + 1 + 1 < w1.heap.size := by omega
    have q1_3 : w.heap.size + 1 + 1 < w1.heap.size + 1 := by omega
    have q1_4 : ¬ (w.heap.size = w1.heap.size) := by omega
    have q1_5 : ¬ (w1.heap.size = w.heap.size) := by omega
    have q1_6 : w.heap.size < w1.heap.size := by omega
    have q1_7 : w.heap.size < w1.heap.size + 1 := by omega
    have q1_8 : ¬ (w.heap.size + 1 = w1.heap.size) := by omega
    have q1_9 : ¬ (w1.heap.size = w.heap.size + 1) := by omega
    have q1_10 : w.heap.size + 1 < w1.heap.size := by omega
    have q1_11 : w.heap.size + 1 < w1.heap.size + 1 := by omega
    have q1_12 : ¬ (w.heap.size + 1 + 1 = w.heap.size) := by omega
    have q1_13 : ¬ (w.heap.size = w.heap.size + 1 + 1) := by omega
    have q1_14 : ¬ (w.heap.size + 1 + 1 = w.heap.size + 1) := by omega
    have q1_15 : ¬ (w.heap.size + 1 = w.heap.size + 1 + 1) := by omega
    go_wp2_with fail
    refine (rdot_any w.heap.size w1.heap.size 0 s t _ (by simp [go_sem]) (by simp [go_sem])).mono ?_
    rintro r w2 ⟨rfl, st⟩
    rw [E1.out]
    rw [E1.out] at st
    have H2 : Ho w w2 (w.heap.size + 1 + 1) [(w.heap.size + 1, [.int .i64 t.a, .int .i64 t.b, .int .i64 t.c, .int .i64 t.d, .int .i64 t.e, .int .i64 t.f]), (w.heap.size, [.int .i64 s.a, .int .i64 s.b, .int .i64 s.c, .int .i64 s.d, .int .i64 s.e, .int .i64 s.f])] := Ho.step (by
      (repeat (first | with_reducible exact H1 | with_reducible refine Ho.alc ?_ _ | with_reducible refine Ho.drew ?_ | with_reducible refine Ho.put ?_ (by omega)))) st (by omega)
    have o_2 : Bx w2 (w.heap.size + 1 + 1) [.int .i64 0, .int .i64 0, .int .i64 0, .int .i64 0, .int .i64 0, .int .i64 0] := Bx.step (by
      (repeat (first | with_reducible exact o_1 | with_reducible refine Bx.alc ?_ _ | with_reducible refine Bx.drew ?_ | with_reducible refine Bx.set ?_ (by omega)))) st (by omega)
    have C_2 : Ce w2 (w1.heap.size) e1 := Ce.step (e := 0) (by
      exact Bx.ce (by
        (repeat (first | with_reducible exact Bx.new (by simp) | with_reducible apply Bx.put6 | with_reducible apply Bx.put2 | with_reducible apply Bx.put1 | with_reducible refine Bx.set ?_ (by omega) | with_reducible refine Bx.alc ?_ _ | with_reducible refine Bx.drew ?_)))) st
    clear h0_1 h1_1 o_1c o_1f q1_0 q1_1 q1_2 q1_3 q1_4 q1_5 q1_6 q1_7 q1_8 q1_9 q1_10 q1_11 q1_12 q1_13 q1_14 q1_15
    have hs2 := H2.size
    have hz2 := st.size
    (try simp at hz2)
    clear st
    have h0_2 := (H2.at 1 rfl).c
    have h1_2 := (H2.at 0 rfl).c
    have o_2c := o_2.c
    have o_2f := o_2.f
    have o_2l := o_2.lt
    have C_2v := C_2.v
    have C_2f := C_2.f
    have C_2l := C_2.lt
    have q2_0 : ¬ (w.heap.size + 1 + 1 = w2.heap.size) := by omega
    have q2_1 : ¬ (w2.heap.size = w.heap.size + 1 + 1) := by omega
    have q2_2 : w.heap.size + 1 + 1 < w2.heap.size := by omega
    have q2_3 : w.heap.size + 1 + 1 < w2.heap.size + 1 := by omega
    have q2_4 : ¬ (w1.heap.size = w2.heap.size) := by omega
    have q2_5 : ¬ (w2.heap.size = w1.heap.size) := by omega
    have q2_6 : w1.heap.size < w2.heap.size := by omega
    have q2_7 : w1.heap.size < w2.heap.size + 1 := by omega
    have q2_8 : ¬ (w.heap.size = w2.heap.size) := by omega
    have q2_9 : ¬ (w2.heap.size = w.heap.size) := by omega
    have q2_10 : w.heap.size < w2.heap.size := by omega
    have q2_11 : w.heap.size < w2.heap.size + 1 := by omega
    have q2_12 : ¬ (w.heap.size + 1 = w2.heap.size) := by omega
    have q2_13 : ¬ (w2.heap.size = w.heap.size + 1) := by omega
    have q2_14 : w.heap.size + 1 < w2.heap.size := by omega
    have q2_15 : w.heap.size + 1 < w2.heap.size + 1 := by omega
    have q2_16 : ¬ (w.heap.size + 1 + 1 = w1.heap.size) := by omega
    have q2_17 : ¬ (w1.heap.size = w.heap.size + 1 + 1) := by omega
    have q2_18 : ¬ (w.heap.size + 1 + 1 = w.heap.size) := by omega
    have q2_19 : ¬ (w.heap.size = w.heap.size + 1 + 1) := by omega
    have q2_20 : ¬ (w.heap.size + 1 + 1 = w.heap.size + 1) := by omega
    have q2_21 : ¬ (w.heap.size + 1 = w.heap.size + 1 + 1) := by omega
    have q2_22 : ¬ (w1.heap.size = w.heap.size) := by omega
    have q2_23 : ¬ (w.heap.size = w1.heap.size) := by omega
    have q2_24 : ¬ (w1.heap.size = w.heap.size + 1) := by omega
    have q2_25 : ¬ (w.heap.size + 1 = w1.heap.size) := by omega
    go_upto_region 6 with fail
    refine region_sets (Rr.I s t p1 q1 p2 q2 e1 e2 e3 e4 d0 d1 d2 d3 d4 d5 x0 x1 x2 x3 x4 x5 w.heap.size w2.heap.size w1.heap.size w) (by kernel_rfl) ?_ ?_ ?_
    · refine ⟨false, false, false, false, false, false, false, false, false, false, false, false, undef, undef, undef, undef, undef, undef, undef, undef, undef, undef, undef, 0, rfl, by simp only [Act.put, List.setIfInBounds_toArray, List.set_cons_zero, List.set_cons_succ], ?_⟩
      constructor
      · (repeat (first | with_reducible exact H2 | with_reducible refine Ho.alc ?_ _ | with_reducible refine Ho.drew ?_ | with_reducible refine Ho.put ?_ (by omega)))
      · (simp; done)
      · (omega)
      · (repeat (first | with_reducible exact o_2 | with_reducible refine Bx.alc ?_ _ | with_reducible refine Bx.drew ?_ | with_reducible refine Bx.set ?_ (by omega)))
      · (omega)
      · (omega)
      · (repeat (first | with_reducible exact Bx.new (by simp) | with_reducible apply Bx.put6 | with_reducible apply Bx.put2 | with_reducible apply Bx.put1 | with_reducible refine Bx.set ?_ (by omega) | with_reducible refine Bx.alc ?_ _ | with_reducible refine Bx.drew ?_))
      · (omega)
      · (omega)
      · (omega)
      · (omega)
      · (intro h; cases h)
      · (intro h; cases h)
      · (intro _; (repeat (first | with_reducible exact C_2 | with_reducible refine Ce.alc ?_ _ | with_reducible refine Ce.drew ?_ | with_reducible refine Ce.set ?_ (by omega))))
      all_goals (intro h; cases h)
    · intro L a' w' hI i hi
      obtain ⟨l0, l1, l2, l3, l4, l5, l6, l7, l8, l9, l10, l11, v0, v1, v2, v3, v4, v5, v6, v7, v8, v9, v10, b10, rfl, rfl, h⟩ := hI
      have hlt := ready_lt hi
      match i, hi, hlt with
      | 0, hi, _ =>
        have l' : l0 = false := (ready_op (o := _) rfl hi).1
        subst l'
        clear hi hlt
        have H := Lib.hid h
        clear h
        refine wpOp_shut rfl (fun K hK => ?_)
        try simp only [Act.put, List.setIfInBounds_toArray, List.set_cons_zero, List.set_cons_succ]
        go_simp
        refine hK.out _ _ ?_
        unfold Rr.I
        refine ⟨true, l1, l2, l3, l4, l5, l6, l7, l8, l9, l10, l11, (.func (.func 67) #[.pointer (some ⟨w1.heap.size, 0, none⟩)] #[]), v1, v2, v3, v4, v5, v6, v7, v8, v9, v10, b10, rfl, ?_, ?_⟩
        · simp only [Act.put, List.setIfInBounds_toArray, List.set_cons_zero, List.set_cons_succ]
        · exact { H.out with e0 := fun _ => rfl }
      | 1, hi, _ =>
        have l' : l1 = false := (ready_op (o := _) rfl hi).1
        subst l'
        clear hi hlt
        have c := (h.g.at 1 rfl).c
        have H := Lib.hid h
        clear h
        refine wpOp_shut rfl (fun K hK => ?_)
        try simp only [Act.put, List.setIfInBounds_toArray, List.set_cons_zero, List.set_cons_succ]
        go_simp
        refine hK.out _ _ ?_
        unfold Rr.I
        refine ⟨l0, true, l2, l3, l4, l5, l6, l7, l8, l9, l10, l11, v0, ((dv s)), v2, v3, v4, v5, v6, v7, v8, v9, v10, b10, rfl, ?_, ?_⟩
        · simp only [Act.put, List.setIfInBounds_toArray, List.set_cons_zero, List.set_cons_succ]
        · exact { H.out with e1 := fun _ => rfl }
      | 2, hi, _ =>
        have l' : l2 = false := (ready_op (o := _) rfl hi).1
        subst l'
        clear hi hlt
        have H := Lib.hid h
        clear h
        refine wpOp_shut rfl (fun K hK => ?_)
        try simp only [Act.put, List.setIfInBounds_toArray, List.set_cons_zero, List.set_cons_succ]
        go_simp
        refine hK.out _ _ ?_
        unfold Rr.I
        refine ⟨l0, l1, true, l3, l4, l5, l6, l7, l8, l9, l10, l11, v0, v1, (.func (.func 66) #[.pointer (some ⟨w1.heap.size, 0, none⟩)] #[]), v3, v4, v5, v6, v7, v8, v9, v10, b10, rfl, ?_, ?_⟩
        · simp only [Act.put, List.setIfInBounds_toArray, List.set_cons_zero, List.set_cons_succ]
        · exact { H.out with e2 := fun _ => rfl }
      | 3, hi, _ =>
        have l' : l3 = false := (ready_op (o := _) rfl hi).1
        subst l'
        clear hi hlt
        have c := (h.g.at 0 rfl).c
        have H := Lib.hid h
        clear h
        refine wpOp_shut rfl (fun K hK => ?_)
        try simp only [Act.put, List.setIfInBounds_toArray, List.set_cons_zero, List.set_cons_succ]
        go_simp
        refine hK.out _ _ ?_
        unfold Rr.I
        refine ⟨l0, l1, l2, true, l4, l5, l6, l7, l8, l9, l10, l11, v0, v1, v2, ((dv t)), v4, v5, v6, v7, v8, v9, v10, b10, rfl, ?_, ?_⟩
        · simp only [Act.put, List.setIfInBounds_toArray, List.set_cons_zero, List.set_cons_succ]
        · exact { H.out with e3 := fun _ => rfl }
      | 4, hi, _ =>
        have l' : l4 = false := (ready_op (o := _) rfl hi).1
        subst l'
        clear hi hlt
        have H := Lib.hid h
        clear h
        refine wpOp_shut rfl (fun K hK => ?_)
        try simp only [Act.put, List.setIfInBounds_toArray, List.set_cons_zero, List.set_cons_succ]
        go_simp
        refine hK.out _ _ ?_
        unfold Rr.I
        refine ⟨l0, l1, l2, l3, true, l5, l6, l7, l8, l9, l10, l11, v0, v1, v2, v3, (.func (.func 65) #[.pointer (some ⟨w1.heap.size, 0, none⟩)] #[]), v5, v6, v7, v8, v9, v10, b10, rfl, ?_, ?_⟩
        · simp only [Act.put, List.setIfInBounds_toArray, List.set_cons_zero, List.set_cons_succ]
        · exact { H.out with e4 := fun _ => rfl }
      | 5, hi, _ =>
        have l' : l5 = false := (ready_op (o := _) rfl hi).1
        subst l'
        clear hi hlt
        have c := h.u1.c
        have H := Lib.hid h
        clear h
        refine wpOp_shut rfl (fun K hK => ?_)
        try simp only [Act.put, List.setIfInBounds_toArray, List.set_cons_zero, List.set_cons_succ]
        go_simp
        refine hK.out _ _ ?_
        unfold Rr.I
        refine ⟨l0, l1, l2, l3, l4, true, l6, l7, l8, l9, l10, l11, v0, v1, v2, v3, v4, ((iv p1 q1)), v6, v7, v8, v9, v10, b10, rfl, ?_, ?_⟩
        · simp only [Act.put, List.setIfInBounds_toArray, List.set_cons_zero, List.set_cons_succ]
        · exact { H.out with e5 := fun _ => rfl }
      | 6, hi, _ =>
        have l' : l6 = false := (ready_op (o := _) rfl hi).1
        subst l'
        clear hi hlt
        have c := h.u1.c
        have H := Lib.hid h
        clear h
        refine wpOp_shut rfl (fun K hK => ?_)
        try simp only [Act.put, List.setIfInBounds_toArray, List.set_cons_zero, List.set_cons_succ]
        go_simp
        refine hK.out _ _ ?_
        unfold Rr.I
        refine ⟨l0, l1, l2, l3, l4, l5, true, l7, l8, l9, l10, l11, v0, v1, v2, v3, v4, v5, ((iv p1 q1)), v7, v8, v9, v10, b10, rfl, ?_, ?_⟩
        · simp only [Act.put, List.setIfInBounds_toArray, List.set_cons_zero, List.set_cons_succ]
        · exact { H.out with e6 := fun _ => rfl }
      | 7, hi, _ =>
        have l' : l7 = false := (ready_op (o := _) rfl hi).1
        subst l'
        have k4 : l4 = true := (ready_op (o := _) rfl hi).2 { on := 4, ground := .data } (by simp) rfl
        have k5 : l5 = true := (ready_op (o := _) rfl hi).2 { on := 5, ground := .data } (by simp) rfl
        have k6 : l6 = true := (ready_op (o := _) rfl hi).2 { on := 6, ground := .data } (by simp) rfl
        clear hi hlt
        subst k4
        subst k5
        subst k6
        obtain rfl := h.e4 rfl
        obtain rfl := h.e5 rfl
        obtain rfl := h.e6 rfl
        have CK := h.k0 rfl
        have H := Lib.hid h
        clear h
        refine wpOp_shut rfl (fun K hK => ?_)
        try simp only [Act.put, List.setIfInBounds_toArray, List.set_cons_zero, List.set_cons_succ]
        go_simp
        refine (num_add w.heap.size w1.heap.size p1 q1 p1 q1 e1 _ CK.v CK.f).mono ?_
        rintro e wY ⟨rfl, st⟩
        rw [E2.out]
        rw [E2.out] at st
        dsimp only
        dsimp only at st
        try go_simp
        refine hK.out _ _ ?_
        unfold Rr.I
        refine ⟨l0, l1, l2, l3, true, true, true, true, l8, l9, l10, l11, v0, v1, v2, v3, (.func (.func 65) #[.pointer (some ⟨w1.heap.size, 0, none⟩)] #[]), ((iv p1 q1)), ((iv p1 q1)), ((iv p2 q2)), v8, v9, v10, b10, rfl, ?_, ?_⟩
        · simp only [Act.put, List.setIfInBounds_toArray, List.set_cons_zero, List.set_cons_succ]
        · have h := H.out
          exact { h with g := h.g.step st h.mc, sz := Nat.le_trans h.sz st.size, e7 := fun _ => rfl, u0 := h.u0.step st h.uc0, u1 := h.u1.step st h.uc1, k0 := fun p0 => (nomatch p0), k1 := fun p0 p1 => CK.step st, k2 := fun p0 p1 => (nomatch (h.q8 p0)), k3 := fun p0 => (nomatch (h.q8 (h.q9 p0))), q8 := fun _ => rfl, t10 := fun p => Nat.lt_of_lt_of_le (h.t10 p) st.size, z10 := fun p r => (h.z10 p r).step st (Nat.ne_of_gt (Nat.lt_of_lt_of_le h.cn (h.g10 p))), s10 := fun p => (h.s10 p).step st (Nat.ne_of_gt (Nat.lt_of_lt_of_le h.cn (h.g10 (h.o10 p)))) }
      | 8, hi, _ =>
        have l' : l8 = false := (ready_op (o := _) rfl hi).1
        subst l'
        have k2 : l2 = true := (ready_op (o := _) rfl hi).2 { on := 2, ground := .data } (by simp) rfl
        have k3 : l3 = true := (ready_op (o := _) rfl hi).2 { on := 3, ground := .data } (by simp) rfl
        have k7 : l7 = true := (ready_op (o := _) rfl hi).2 { on := 7, ground := .chain } (by simp) rfl
        clear hi hlt
        subst k2
        subst k3
        subst k7
        obtain rfl := h.e2 rfl
        obtain rfl := h.e3 rfl
        obtain rfl := h.e7 rfl
        have CK := h.k1 rfl rfl
        have H := Lib.hid h
        clear h
        refine wpOp_shut rfl (fun K hK => ?_)
        try simp only [Act.put, List.setIfInBounds_toArray, List.set_cons_zero, List.set_cons_succ]
        go_simp
        refine (rscale_any w.heap.size w1.heap.size e2 t p2 q2 _ CK.v CK.f).mono ?_
        rintro e wY ⟨rfl, st⟩
        rw [E3.out]
        rw [E3.out] at st
        dsimp only
        dsimp only at st
        try go_simp
        refine hK.out _ _ ?_
        unfold Rr.I
        refine ⟨l0, l1, true, true, l4, l5, l6, true, true, l9, l10, l11, v0, v1, (.func (.func 66) #[.pointer (some ⟨w1.heap.size, 0, none⟩)] #[]), ((dv t)), v4, v5, v6, ((iv p2 q2)), ((dv ⟨d0, d1, d2, d3, d4, d5⟩)), v9, v10, b10, rfl, ?_, ?_⟩
        · simp only [Act.put, List.setIfInBounds_toArray, List.set_cons_zero, List.set_cons_succ]
        · have h := H.out
          exact { h with g := h.g.step st h.mc, sz := Nat.le_trans h.sz st.size, e8 := fun _ => rfl, u0 := h.u0.step st h.uc0, u1 := h.u1.step st h.uc1, k0 := fun p0 => (nomatch (Eq.trans (Eq.symm (rfl : true = true)) p0)), k1 := fun p0 p1 => (nomatch p1), k2 := fun p0 p1 => CK.step st, k3 := fun p0 => (nomatch (h.q9 p0)), q8 := fun _ => rfl, q9 := fun _ => rfl, t10 := fun p => Nat.lt_of_lt_of_le (h.t10 p) st.size, z10 := fun p r => (h.z10 p r).step st (Nat.ne_of_gt (Nat.lt_of_lt_of_le h.cn (h.g10 p))), s10 := fun p => (h.s10 p).step st (Nat.ne_of_gt (Nat.lt_of_lt_of_le h.cn (h.g10 (h.o10 p)))) }
      | 9, hi, _ =>
        have l' : l9 = false := (ready_op (o := _) rfl hi).1
        subst l'
        have k0 : l0 = true := (ready_op (o := _) rfl hi).2 { on := 0, ground := .data } (by simp) rfl
        have k1 : l1 = true := (ready_op (o := _) rfl hi).2 { on := 1, ground := .data } (by simp) rfl
        have k8 : l8 = true := (ready_op (o := _) rfl hi).2 { on := 8, ground := .chain } (by simp) rfl
        clear hi hlt
        subst k0
        subst k1
        subst k8
        obtain rfl := h.e0 rfl
        obtain rfl := h.e1 rfl
        obtain rfl := h.e8 rfl
        have CK := h.k2 rfl rfl
        have H := Lib.hid h
        clear h
        refine wpOp_shut rfl (fun K hK => ?_)
        try simp only [Act.put, List.setIfInBounds_toArray, List.set_cons_zero, List.set_cons_succ]
        go_simp
        refine (rvec_sub w.heap.size w1.heap.size e3 s ⟨d0, d1, d2, d3, d4, d5⟩ _ CK.v CK.f).mono ?_
        rintro e wY ⟨rfl, st⟩
        rw [E4.out]
        rw [E4.out] at st
        dsimp only
        dsimp only at st
        try go_simp
        refine hK.out _ _ ?_
        unfold Rr.I
        refine ⟨true, true, l2, l3, l4, l5, l6, l7, true, true, l10, l11, (.func (.func 67) #[.pointer (some ⟨w1.heap.size, 0, none⟩)] #[]), ((dv s)), v2, v3, v4, v5, v6, v7, ((dv ⟨d0, d1, d2, d3, d4, d5⟩)), ((dv ⟨x0, x1, x2, x3, x4, x5⟩)), v10, b10, rfl, ?_, ?_⟩
        · simp only [Act.put, List.setIfInBounds_toArray, List.set_cons_zero, List.set_cons_succ]
        · have h := H.out
          exact { h with g := h.g.step st h.mc, sz := Nat.le_trans h.sz st.size, e9 := fun _ => rfl, u0 := h.u0.step st h.uc0, u1 := h.u1.step st h.uc1, k0 := fun p0 => (nomatch (Eq.trans (Eq.symm (h.q8 rfl)) p0)), k1 := fun p0 p1 => (nomatch (Eq.trans (Eq.symm (rfl : true = true)) p1)), k2 := fun p0 p1 => (nomatch p1), k3 := fun p0 => CK.step st, q9 := fun _ => rfl, t10 := fun p => Nat.lt_of_lt_of_le (h.t10 p) st.size, z10 := fun p r => (h.z10 p r).step st (Nat.ne_of_gt (Nat.lt_of_lt_of_le h.cn (h.g10 p))), s10 := fun p => (h.s10 p).step st (Nat.ne_of_gt (Nat.lt_of_lt_of_le h.cn (h.g10 (h.o10 p)))) }
      | 10, hi, _ =>
        have l' : l10 = false := (ready_op (o := _) rfl hi).1
        subst l'
        clear hi hlt
        have H := Lib.hid h
        clear h
        refine wpOp_shut rfl (fun K hK => ?_)
        try simp only [Act.put, List.setIfInBounds_toArray, List.set_cons_zero, List.set_cons_succ]
        go_simp
        refine hK.out _ _ ?_
        unfold Rr.I
        refine ⟨l0, l1, l2, l3, l4, l5, l6, l7, l8, l9, true, l11, v0, v1, v2, v3, v4, v5, v6, v7, v8, v9, (.pointer (some ⟨w'.heap.size, 0, none⟩)), w'.heap.size, rfl, ?_, ?_⟩
        · simp only [Act.put, List.setIfInBounds_toArray, List.set_cons_zero, List.set_cons_succ]
        · have h := H.out
          have h2 := h.kept ((Below.refl _ _).alloc (Nat.le_refl _) (.cells (List.toArray [.int .i64 0, .int .i64 0, .int .i64 0, .int .i64 0, .int .i64 0, .int .i64 0]) 26))
          exact { h2 with e10 := fun _ => rfl, g10 := fun _ => h.sz, t10 := fun _ => by simp, o10 := fun p => rfl, z10 := fun _ _ => Bx.new rfl, s10 := fun p => (nomatch (h.o10 p)) }
      | 11, hi, _ =>
        have l' : l11 = false := (ready_op (o := _) rfl hi).1
        subst l'
        have k10 : l10 = true := (ready_op (o := _) rfl hi).2 { on := 10, ground := .phase } (by simp) rfl
        have k9 : l9 = true := (ready_op (o := _) rfl hi).2 { on := 9, ground := .phase } (by simp) rfl
        have k0 : l0 = true := (ready_op (o := _) rfl hi).2 { on := 0, ground := .phase } (by simp) rfl
        have k1 : l1 = true := (ready_op (o := _) rfl hi).2 { on := 1, ground := .phase } (by simp) rfl
        have k2 : l2 = true := (ready_op (o := _) rfl hi).2 { on := 2, ground := .phase } (by simp) rfl
        have k3 : l3 = true := (ready_op (o := _) rfl hi).2 { on := 3, ground := .phase } (by simp) rfl
        have k4 : l4 = true := (ready_op (o := _) rfl hi).2 { on := 4, ground := .phase } (by simp) rfl
        have k5 : l5 = true := (ready_op (o := _) rfl hi).2 { on := 5, ground := .phase } (by simp) rfl
        have k6 : l6 = true := (ready_op (o := _) rfl hi).2 { on := 6, ground := .phase } (by simp) rfl
        have k7 : l7 = true := (ready_op (o := _) rfl hi).2 { on := 7, ground := .phase } (by simp) rfl
        have k8 : l8 = true := (ready_op (o := _) rfl hi).2 { on := 8, ground := .phase } (by simp) rfl
        clear hi hlt
        subst k10
        subst k9
        subst k0
        subst k1
        subst k2
        subst k3
        subst k4
        subst k5
        subst k6
        subst k7
        subst k8
        obtain rfl := h.e10 rfl
        obtain rfl := h.e9 rfl
        obtain rfl := h.e0 rfl
        obtain rfl := h.e1 rfl
        obtain rfl := h.e2 rfl
        obtain rfl := h.e3 rfl
        obtain rfl := h.e4 rfl
        obtain rfl := h.e5 rfl
        obtain rfl := h.e6 rfl
        obtain rfl := h.e7 rfl
        obtain rfl := h.e8 rfl
        have bz := h.z10 rfl rfl
        have c := bz.c
        have f := bz.f
        clear bz
        have H := Lib.hid h
        clear h
        refine wpOp_shut rfl (fun K hK => ?_)
        try simp only [Act.put, List.setIfInBounds_toArray, List.set_cons_zero, List.set_cons_succ]
        go_simp
        refine hK.out _ _ ?_
        unfold Rr.I
        refine ⟨true, true, true, true, true, true, true, true, true, true, true, true, (.func (.func 67) #[.pointer (some ⟨w1.heap.size, 0, none⟩)] #[]), ((dv s)), (.func (.func 66) #[.pointer (some ⟨w1.heap.size, 0, none⟩)] #[]), ((dv t)), (.func (.func 65) #[.pointer (some ⟨w1.heap.size, 0, none⟩)] #[]), ((iv p1 q1)), ((iv p1 q1)), ((iv p2 q2)), ((dv ⟨d0, d1, d2, d3, d4, d5⟩)), ((dv ⟨x0, x1, x2, x3, x4, x5⟩)), (.pointer (some ⟨b10, 0, none⟩)), b10, rfl, ?_, ?_⟩
        · simp only [Act.put, List.setIfInBounds_toArray, List.set_cons_zero, List.set_cons_succ]
        · have h := H.out
          have gb := h.g10 rfl
          have gm := Nat.le_trans h.mn gb
          exact { h with g := ((((((h.g.put gm).put gm).put gm).put gm).put gm).put gm), sz := by simpa using h.sz, o10 := fun _ => rfl, z10 := fun _ p => (nomatch p), s10 := fun _ => (((((((h.z10 rfl rfl).put).put).put).put).put).put), t10 := fun p => by simpa using h.t10 p, u0 := ((((((h.u0.set (Nat.ne_of_lt (Nat.lt_of_lt_of_le h.un0 gb))).set (Nat.ne_of_lt (Nat.lt_of_lt_of_le h.un0 gb))).set (Nat.ne_of_lt (Nat.lt_of_lt_of_le h.un0 gb))).set (Nat.ne_of_lt (Nat.lt_of_lt_of_le h.un0 gb))).set (Nat.ne_of_lt (Nat.lt_of_lt_of_le h.un0 gb))).set (Nat.ne_of_lt (Nat.lt_of_lt_of_le h.un0 gb))), u1 := ((((((h.u1.set (Nat.ne_of_lt (Nat.lt_of_lt_of_le h.un1 gb))).set (Nat.ne_of_lt (Nat.lt_of_lt_of_le h.un1 gb))).set (Nat.ne_of_lt (Nat.lt_of_lt_of_le h.un1 gb))).set (Nat.ne_of_lt (Nat.lt_of_lt_of_le h.un1 gb))).set (Nat.ne_of_lt (Nat.lt_of_lt_of_le h.un1 gb))).set (Nat.ne_of_lt (Nat.lt_of_lt_of_le h.un1 gb))), k0 := fun p0 => (((((((h.k0 p0).set (Nat.ne_of_lt (Nat.lt_of_lt_of_le h.cn gb))).set (Nat.ne_of_lt (Nat.lt_of_lt_of_le h.cn gb))).set (Nat.ne_of_lt (Nat.lt_of_lt_of_le h.cn gb))).set (Nat.ne_of_lt (Nat.lt_of_lt_of_le h.cn gb))).set (Nat.ne_of_lt (Nat.lt_of_lt_of_le h.cn gb))).set (Nat.ne_of_lt (Nat.lt_of_lt_of_le h.cn gb))), k1 := fun p0 p1 => (((((((h.k1 p0 p1).set (Nat.ne_of_lt (Nat.lt_of_lt_of_le h.cn gb))).set (Nat.ne_of_lt (Nat.lt_of_lt_of_le h.cn gb))).set (Nat.ne_of_lt (Nat.lt_of_lt_of_le h.cn gb))).set (Nat.ne_of_lt (Nat.lt_of_lt_of_le h.cn gb))).set (Nat.ne_of_lt (Nat.lt_of_lt_of_le h.cn gb))).set (Nat.ne_of_lt (Nat.lt_of_lt_of_le h.cn gb))), k2 := fun p0 p1 => (((((((h.k2 p0 p1).set (Nat.ne_of_lt (Nat.lt_of_lt_of_le h.cn gb))).set (Nat.ne_of_lt (Nat.lt_of_lt_of_le h.cn gb))).set (Nat.ne_of_lt (Nat.lt_of_lt_of_le h.cn gb))).set (Nat.ne_of_lt (Nat.lt_of_lt_of_le h.cn gb))).set (Nat.ne_of_lt (Nat.lt_of_lt_of_le h.cn gb))).set (Nat.ne_of_lt (Nat.lt_of_lt_of_le h.cn gb))), k3 := fun p0 => (((((((h.k3 p0).set (Nat.ne_of_lt (Nat.lt_of_lt_of_le h.cn gb))).set (Nat.ne_of_lt (Nat.lt_of_lt_of_le h.cn gb))).set (Nat.ne_of_lt (Nat.lt_of_lt_of_le h.cn gb))).set (Nat.ne_of_lt (Nat.lt_of_lt_of_le h.cn gb))).set (Nat.ne_of_lt (Nat.lt_of_lt_of_le h.cn gb))).set (Nat.ne_of_lt (Nat.lt_of_lt_of_le h.cn gb))) }
      | i + 12, _, hlt => exact absurd hlt (by simp)
    · intro L a' w' hI hn
      obtain ⟨l0, l1, l2, l3, l4, l5, l6, l7, l8, l9, l10, l11, v0, v1, v2, v3, v4, v5, v6, v7, v8, v9, v10, b10, rfl, rfl, h⟩ := hI
      have k0 : l0 = true := not_ready (i := 0) (o := _) rfl hn (by simp [Region.binds])
      subst k0
      have k1 : l1 = true := not_ready (i := 1) (o := _) rfl hn (by simp [Region.binds])
      subst k1
      have k2 : l2 = true := not_ready (i := 2) (o := _) rfl hn (by simp [Region.binds])
      subst k2
      have k3 : l3 = true := not_ready (i := 3) (o := _) rfl hn (by simp [Region.binds])
      subst k3
      have k4 : l4 = true := not_ready (i := 4) (o := _) rfl hn (by simp [Region.binds])
      subst k4
      have k5 : l5 = true := not_ready (i := 5) (o := _) rfl hn (by simp [Region.binds])
      subst k5
      have k6 : l6 = true := not_ready (i := 6) (o := _) rfl hn (by simp [Region.binds])
      subst k6
      have k7 : l7 = true := not_ready (i := 7) (o := _) rfl hn (by simp [Region.binds])
      subst k7
      have k8 : l8 = true := not_ready (i := 8) (o := _) rfl hn (by simp [Region.binds])
      subst k8
      have k9 : l9 = true := not_ready (i := 9) (o := _) rfl hn (by simp [Region.binds])
      subst k9
      have k10 : l10 = true := not_ready (i := 10) (o := _) rfl hn (by simp [Region.binds])
      subst k10
      have k11 : l11 = true := not_ready (i := 11) (o := _) rfl hn (by simp [Region.binds])
      subst k11
      clear hn
      obtain rfl := h.e0 rfl
      obtain rfl := h.e1 rfl
      obtain rfl := h.e2 rfl
      obtain rfl := h.e3 rfl
      obtain rfl := h.e4 rfl
      obtain rfl := h.e5 rfl
      obtain rfl := h.e6 rfl
      obtain rfl := h.e7 rfl
      obtain rfl := h.e8 rfl
      obtain rfl := h.e9 rfl
      obtain rfl := h.e10 rfl
      simp only [Act.put, List.setIfInBounds_toArray, List.set_cons_zero, List.set_cons_succ]
      have GA := h.g
      have BA := h.s10 rfl
      have CA := h.k3 rfl
      have OA := h.u0
      have gA := h.g10 rfl
      clear h
      have nA : ¬ (b10 = w.heap.size + 1 + 1) := by omega
      have nC : ¬ (w1.heap.size = w.heap.size + 1 + 1) := by omega
      have oc := OA.c
      have of := OA.f
      have hl := OA.lt
      clear h0_2 h1_2 o_2c o_2f C_2v C_2f q2_0 q2_1 q2_2 q2_3 q2_4 q2_5 q2_6 q2_7 q2_8 q2_9 q2_10 q2_11 q2_12 q2_13 q2_14 q2_15 q2_16 q2_17 q2_18 q2_19 q2_20 q2_21 q2_22 q2_23 q2_24 q2_25
      go_upto_region 7 with fail
      go_region_held3 (fun X => (∀ j, X.cell? ⟨b10, j, none⟩ = [.int .i64 x0, .int .i64 x1, .int .i64 x2, .int .i64 x3, .int .i64 x4, .int .i64 x5][j]?) ∧ X.cell? ⟨w1.heap.size, 0, none⟩ = some (.int .i64 e4)) (with_reducible first | exact ⟨BA.drew.c, CA.drew.v⟩ | exact ⟨((((((BA.set nA).set nA).set nA).set nA).set nA).set nA).drew.c, ((((((CA.set nC).set nC).set nC).set nC).set nC).set nC).drew.v⟩) (fail)
      all_goals go_wp2_with fail
      refine bodyPost_box (b := w.heap.size + 1 + 1) (cs := [.int .i64 x0, .int .i64 x1, .int .i64 x2, .int .i64 x3, .int .i64 x4, .int .i64 x5]) (v := .tuple #[dv ⟨x0, x1, x2, x3, x4, x5⟩, .int .i64 e4]) (by
        (repeat (first | with_reducible exact OA | with_reducible apply Bx.put6 | with_reducible refine Bx.drew ?_))) (fun X hX => by simp [results, Try.results46, go_sem, hX]) rfl ⟨rfl, by
        refine Ho.below (n := w.heap.size + 1 + 1) (l := [(w.heap.size + 1, [.int .i64 t.a, .int .i64 t.b, .int .i64 t.c, .int .i64 t.d, .int .i64 t.e, .int .i64 t.f]), (w.heap.size, [.int .i64 s.a, .int .i64 s.b, .int .i64 s.c, .int .i64 s.d, .int .i64 s.e, .int .i64 s.f])]) ?_
        (repeat (first | with_reducible exact GA | with_reducible refine Ho.alc ?_ _ | with_reducible refine Ho.drew ?_ | with_reducible refine Ho.put ?_ (by omega)))⟩
end Go.Proofs.Ytedfciddfpcifaa.Iv

/- Plain facts: what Reflect, Hits and Refract return for boxes that are contained in others is contained in what they return for these. -/
namespace Go.Proofs.Ytedfciddfpcifaa.Iv

structure SubD (s' s : D) : Prop where
  x : Sub s'.a s'.b s.a s.b
  y : Sub s'.c s'.d s.c s.d
  z : Sub s'.e s'.f s.e s.f
def InclD (r r' : RD) : Prop := r.e = 0 → r'.e = 0 ∧ SubD r'.d r.d
theorem SubD.v {s' s : D} (h : SubD s' s) : vD s = true := by simp [vD, h.x.v, h.y.v, h.z.v]
theorem SubD.v' {s' s : D} (h : SubD s' s) : vD s' = true := by simp [vD, h.x.v', h.y.v', h.z.v']
theorem ins_of_sub {a' b' a b : Int} (h : Sub a' b' a b) : insB a' b' a b = true := by
  simp only [insB, decide_eq_true_eq]; exact ⟨h.v', h.v, h.l, h.r⟩
theorem SubD.ins {s' s : D} (h : SubD s' s) : insD s' s = true := by
  simp [insD, ins_of_sub h.x, ins_of_sub h.y, ins_of_sub h.z]
theorem incl_goOn {e e' : Int} {r r' : R} (h : e = 0 → e' = 0) (k : e = 0 → Incl r r') : Incl (goOn e r) (goOn e' r') := by
  intro h0
  have h1 := goOn_e h0
  subst h1
  have h2 := h rfl
  subst h2
  rw [goOn0] at h0 ⊢
  exact k rfl h0
theorem incl_goOnD {e e' : Int} {r r' : RD} (h : e = 0 → e' = 0) (k : e = 0 → InclD r r') : InclD (goOnD e r) (goOnD e' r') := by
  intro h0
  have h1 := goOnD_e h0
  subst h1
  have h2 := h rfl
  subst h2
  rw [goOnD0] at h0 ⊢
  exact k rfl h0
theorem incl_comb {a b c a' b' c' : R} (h1 : Incl a a') (h2 : Incl b b') (h3 : Incl c c') : InclD (comb a b c) (comb a' b' c') := by
  intro h0
  obtain ⟨x, y, z, e⟩ := comb_v h0
  obtain ⟨x1, x2⟩ := h1 x
  obtain ⟨y1, y2⟩ := h2 y
  obtain ⟨z1, z2⟩ := h3 z
  have h' : comb a' b' c' = ⟨⟨a'.lo, a'.hi, b'.lo, b'.hi, c'.lo, c'.hi⟩, 0⟩ := by
    rw [comb, if_pos x1, if_pos y1, if_pos z1]
  rw [e, h']
  exact ⟨rfl, x2, y2, z2⟩
theorem incl_addD {s t s' t' : D} (h : SubD s' s) (k : SubD t' t) : InclD (addD s t) (addD s' t') := by
  rw [addD, addD, if_pos ⟨h.v, k.v⟩, if_pos ⟨h.v', k.v'⟩]
  exact incl_comb (incl_add h.x k.x) (incl_add h.y k.y) (incl_add h.z k.z)
theorem incl_subD {s t s' t' : D} (h : SubD s' s) (k : SubD t' t) : InclD (subD s t) (subD s' t') := by
  rw [subD, subD, if_pos ⟨h.v, k.v⟩, if_pos ⟨h.v', k.v'⟩]
  exact incl_comb (incl_sub h.x k.x) (incl_sub h.y k.y) (incl_sub h.z k.z)
theorem incl_scaleD {s s' : D} {a b a' b' : Int} (h : SubD s' s) (k : Sub a' b' a b) : InclD (scaleD s a b) (scaleD s' a' b') := by
  rw [scaleD, scaleD, if_pos ⟨h.v, k.v⟩, if_pos ⟨h.v', k.v'⟩]
  exact incl_comb (incl_mul h.x k) (incl_mul h.y k) (incl_mul h.z k)
theorem incl_only {r r' : R} (h : Incl r r') : Incl (onlyR r) (onlyR r') := by
  intro h0
  unfold onlyR at h0 ⊢
  by_cases c : r.e = 0
  · obtain ⟨c', s⟩ := h c
    rw [if_pos c, if_pos c']
    exact ⟨rfl, s⟩
  · rw [if_neg c] at h0; exact absurd h0 c
theorem incl_sumG {e e' : Int} {s s' : D} (h : e = 0 → e' = 0 ∧ SubD s' s) : Incl (sumG e s) (sumG e' s') := by
  have h1 : Incl (goOn e (addR s.a s.b s.c s.d)) (goOn e' (addR s'.a s'.b s'.c s'.d)) := incl_goOn (fun x => (h x).1) (fun x => incl_add (h x).2.x (h x).2.y)
  exact incl_goOn (fun x => (h1 x).1) (fun x => incl_add (h1 x).2 (h (goOn_e x)).2.z)
theorem incl_dot {s t s' t' : D} (h : SubD s' s) (k : SubD t' t) : Incl (dotR s t) (dotR s' t') := by
  rw [dotR, dotR, if_pos ⟨h.v, k.v⟩, if_pos ⟨h.v', k.v'⟩]
  exact incl_only (incl_sumG (incl_comb (incl_mul h.x k.x) (incl_mul h.y k.y) (incl_mul h.z k.z)))
theorem sub_refl {a b : Int} (h : vB a b = true) : Sub a b a b := ⟨h, h, Int.le_refl _, (vB_iff.1 h).2.1, Int.le_refl _⟩
theorem incl_rad {a b x y a' b' : Int} (h : Sub a' b' a b) (k : vB x y = true) : Incl (radR a b x y) (radR a' b' x y) := by
  rw [radR, radR, if_pos ⟨h.v, k⟩, if_pos ⟨h.v', k⟩]
  have one := sub_refl (a := 16777216) (b := 16777216) (by decide)
  have h1 : Incl (goOn 0 (sqR x y)) (goOn 0 (sqR x y)) := incl_goOn id (fun _ => incl_sq (sub_refl k))
  have h2 : Incl (goOn (goOn 0 (sqR x y)).e (sqR a b)) (goOn (goOn 0 (sqR x y)).e (sqR a' b')) := incl_goOn (fun e => (h1 e).1) (fun _ => incl_sq h)
  have h3 := incl_goOn (fun e => (h2 e).1) (fun e => incl_sub one (h2 e).2)
  have h4 := incl_goOn (fun e => (h3 e).1) (fun e => incl_mul (h1 (goOn_e (goOn_e e))).2 (h3 e).2)
  exact incl_goOn (fun e => (h4 e).1) (fun e => incl_sub one (h4 e).2)
theorem incl_refl {s t s' t' : D} (h : SubD s' s) (k : SubD t' t) : InclD (reflR s t) (reflR s' t') := by
  rw [reflR, reflR, if_pos (by simp [h.v, k.v]), if_pos (by simp [h.v', k.v'])]
  have h1 : Incl (goOn 0 (dotR s t)) (goOn 0 (dotR s' t')) := incl_goOn id (fun _ => incl_dot h k)
  have h2 := incl_goOn (fun e => (h1 e).1) (fun e => incl_add (h1 e).2 (h1 e).2)
  have h3 := incl_goOnD (fun e => (h2 e).1) (fun e => incl_scaleD k (h2 e).2)
  exact incl_goOnD (fun e => (h3 e).1) (fun e => incl_subD h (h3 e).2)
theorem sgn_sub {a b a' b' : Int} (h : Sub a' b' a b) : sgn a b = 0 ∨ sgn a' b' = sgn a b := by
  have h1 := h.l
  have h2 := h.m
  have h3 := h.r
  rw [show sgn a b = (if 0 < a then 1 else if b < 0 then -1 else 0) from if_pos h.v, show sgn a' b' = (if 0 < a' then 1 else if b' < 0 then -1 else 0) from if_pos h.v']
  by_cases c : 0 < a
  · right; rw [if_pos c, if_pos (by omega)]
  · rw [if_neg c]
    by_cases d : b < 0
    · right; rw [if_pos d, if_neg (by omega), if_pos (by omega)]
    · left; rw [if_neg d]
theorem dec_sub {a b a' b' : Int} (h : Sub a' b' a b) : decI a b = 3 ∨ decI a' b' = decI a b := by
  rw [decI, decI, if_pos h.v, if_pos h.v']
  rcases sgn_sub h with e | e
  · left; rw [e]; decide
  · right; rw [e]
theorem hits_sub {s t s' t' : D} {a b : Int} (h : SubD s' s) (k : SubD t' t) (v : vB a b = true) (h0 : (hitsR s t a b).e = 0) :
    (hitsR s' t' a b).e = 0 ∧ ((hitsR s t a b).k = 3 ∨ (hitsR s' t' a b).k = (hitsR s t a b).k) := by
  have e1 : (vD s && vD t) = true ∧ vB a b = true := ⟨by simp [h.v, k.v], v⟩
  have e2 : (vD s' && vD t') = true ∧ vB a b = true := ⟨by simp [h.v', k.v'], v⟩
  rw [show hitsR s t a b = _ from if_pos e1] at h0 ⊢
  rw [show hitsR s' t' a b = _ from if_pos e2]
  by_cases c : (dotR s t).e = 0
  · obtain ⟨c1, c2⟩ := incl_dot h k c
    rw [if_pos c] at h0 ⊢
    rw [if_pos c1]
    by_cases d : (radR (dotR s t).lo (dotR s t).hi a b).e = 0
    · obtain ⟨d1, d2⟩ := incl_rad c2 v d
      rw [if_pos d, if_pos d1]
      exact ⟨rfl, dec_sub d2⟩
    · rw [if_neg d] at h0; exact absurd h0 d
  · rw [if_neg c] at h0; exact absurd h0 c
theorem incl_neg {a b a' b' : Int} (h : Sub a' b' a b) : Incl (negR a b) (negR a' b') := by
  intro _
  rw [negR, negR, if_pos h.v, if_pos h.v']
  have x := vB_iff.1 h.v
  have y := vB_iff.1 h.v'
  have l := h.l
  have r := h.r
  exact ⟨rfl, vB_iff.2 ⟨by dsimp only; omega, by dsimp only; omega, by dsimp only; omega⟩, vB_iff.2 ⟨by dsimp only; omega, by dsimp only; omega, by dsimp only; omega⟩, by dsimp only; omega, by dsimp only; omega, by dsimp only; omega⟩
theorem sqrt_e {x y : Int} (h : vB x y = true) (z : ¬ x < 0) : (sqrtR x y).e = 0 := by rw [sqrtR, if_pos h, if_neg z]
theorem after_sub {p q x y p' q' x' y' : Int} (h : Sub p' q' p q) (hg : ¬ sgn p q = 0) (k : Sub x' y' x y) (z : ¬ x < 0) :
    Sub (afterR p' q' x' y').lo (afterR p' q' x' y').hi (afterR p q x y).lo (afterR p q x y).hi := by
  have e : sgn p' q' = sgn p q := (sgn_sub h).resolve_left hg
  have d := (incl_sqrt k (sqrt_e k.v z)).2
  rw [afterR, afterR, e]
  by_cases c : sgn p q < 0
  · rw [if_pos c, if_pos c]
    exact (incl_neg d (by rw [negR, if_pos d.v])).2
  · rw [if_neg c, if_neg c]
    exact d
/-- all of Refract's results -/
structure SubF (f' f : RF) : Prop where
  e : f'.e = 0
  d : SubD f'.d f.d
  b : Sub f'.p f'.q f.p f.q
  a : Sub f'.u f'.v f.u f.v
theorem tail_sub {s t s' t' : D} {a b p q u v p' q' u' v' : Int} (h : SubD s' s) (k : SubD t' t) (vb : vB a b = true) (hp : Sub p' q' p q) (hu : Sub u' v' u v)
    (h0 : (tailF s t a b p q u v).e = 0) : SubF (tailF s' t' a b p' q' u' v') (tailF s t a b p q u v) := by
  have t1 : InclD (goOnD 0 (scaleD s a b)) (goOnD 0 (scaleD s' a b)) := incl_goOnD id (fun _ => incl_scaleD h (sub_refl vb))
  have n1 := incl_goOn (fun e => (t1 e).1) (fun _ => incl_mul (sub_refl vb) hp)
  have n2 := incl_goOn (fun e => (n1 e).1) (fun e => incl_sub hu (n1 e).2)
  have t2 := incl_goOnD (fun e => (n2 e).1) (fun e => incl_scaleD k (n2 e).2)
  have o := incl_goOnD (fun e => (t2 e).1) (fun e => incl_addD (t1 (goOn_e (goOn_e (goOnD_e e)))).2 (t2 e).2)
  unfold tailF at h0 ⊢
  dsimp only at h0 ⊢
  split at h0
  case isFalse x => exact absurd h0 x
  rename_i c
  obtain ⟨c1, c2⟩ := o c
  rw [if_pos c, if_pos c1]
  exact ⟨rfl, c2, hp, hu⟩
theorem fail_e (e : Int) : (failF e).e = e := rfl
theorem refr_sub {s t s' t' : D} {a b : Int} (h : SubD s' s) (k : SubD t' t) (v : vB a b = true) (h0 : (refrR s t a b).e = 0) : SubF (refrR s' t' a b) (refrR s t a b) := by
  have e1 : (vD s && vD t) = true ∧ vB a b = true := ⟨by simp [h.v, k.v], v⟩
  have e2 : (vD s' && vD t') = true ∧ vB a b = true := ⟨by simp [h.v', k.v'], v⟩
  rw [show refrR s t a b = _ from if_pos e1] at h0 ⊢
  rw [show refrR s' t' a b = _ from if_pos e2]
  split at h0
  case isFalse x => exact absurd h0 x
  rename_i c
  obtain ⟨c1, c2⟩ := incl_dot h k c
  split at h0
  case isTrue => exact absurd h0 (by rw [fail_e]; decide)
  rename_i g
  have g' : ¬ sgn (dotR s' t').lo (dotR s' t').hi = 0 := by rw [(sgn_sub c2).resolve_left g]; exact g
  split at h0
  case isFalse x => exact absurd h0 x
  rename_i r
  obtain ⟨r1, r2⟩ := incl_rad c2 v r
  split at h0
  case isTrue => exact absurd h0 (by rw [fail_e]; decide)
  rename_i z
  have z' : ¬ (radR (dotR s' t').lo (dotR s' t').hi a b).lo < 0 := by have := r2.l; omega
  rw [if_pos c, if_neg g, if_pos r, if_neg z, if_pos c1, if_neg g', if_pos r1, if_neg z']
  exact tail_sub h k v c2 (after_sub c2 g r2 z) h0
end Go.Proofs.Ytedfciddfpcifaa.Iv

/- Contracts of the laws' helpers: parts of boxes, the reference's tests of boxes. -/
namespace Go.Proofs.Ytedfciddfpcifaa.Iv
open Go.RowKit
attribute [local go_sem] run_min2' run_max2'

theorem below_dN (w : World) (n : Nat) : Below w.heap.size w (w.drewN n) := ⟨rfl, rfl, rfl, Nat.le_refl _, fun _ _ => rfl⟩
theorem Bx.drewn {W : World} {b : Nat} {cs : List Value} (h : Bx W b cs) (n : Nat) : Bx (W.drewN n) b cs := h.kept (below_dN _ _)
theorem Ho.drewn {w0 W : World} {m : Nat} {l : List (Nat × List Value)} (h : Ho w0 W m l) (n : Nat) : Ho w0 (W.drewN n) m l := h.call (below_dN _ _)
set_option maxRecDepth 100000 in
set_option maxHeartbeats 4000000 in
theorem wit_any (lo hi k l : Int) (w : World) (h : vB lo hi = true) (k0 : 0 ≤ k) (k1 : k ≤ 4294967295) (l0 : 0 ≤ l) (l1 : l ≤ 4294967295) :
    Calls Try.prog 40 #[iv lo hi, .int .u32 k, .int .u32 l] w fun e w' => e = .returned (iv (partLo lo hi k l) (partHi lo hi k l)) ∧ Below w.heap.size w w' := by
  obtain ⟨a1, a2, a3⟩ := vB_iff.1 h
  obtain ⟨b1, b2⟩ := in_ok k a2
  obtain ⟨d1, d2⟩ := in_ok l a2
  have e1 : k.tmod (hi - lo + 1) = k % (hi - lo + 1) := Int.tmod_eq_emod_of_nonneg k0
  have f1 : l.tmod (hi - lo + 1) = l % (hi - lo + 1) := Int.tmod_eq_emod_of_nonneg l0
  have z : (hi - lo + 1 == 0) = false := by simp; omega
  have e0 : IntKind.i64.wrap (hi - lo) = hi - lo := IntWalk.i64_in _ (by omega)
  have e2 : IntKind.i64.wrap (hi - lo + 1) = hi - lo + 1 := IntWalk.i64_in _ (by omega)
  unfold partLo partHi
  unfold inR at b1 b2 d1 d2 ⊢
  obtain ⟨r, hr⟩ : ∃ r, k % (hi - lo + 1) = r := ⟨_, rfl⟩
  obtain ⟨q, hq⟩ : ∃ q, l % (hi - lo + 1) = q := ⟨_, rfl⟩
  rw [hr] at e1 b1 b2 ⊢
  rw [hq] at f1 d1 d2 ⊢
  clear hr hq
  rw [show min (lo + r) (lo + q) = lo + min r q from by omega, show max (lo + r) (lo + q) = lo + max r q from by omega]
  have e3 : IntKind.i64.wrap (lo + r) = lo + r := IntWalk.i64_in _ (by omega)
  have e4 : IntKind.i64.wrap k = k := IntWalk.i64_in _ (by omega)
  have e5 : IntKind.i64.wrap r = r := IntWalk.i64_in _ (by omega)
  have f3 : IntKind.i64.wrap (lo + q) = lo + q := IntWalk.i64_in _ (by omega)
  have f4 : IntKind.i64.wrap l = l := IntWalk.i64_in _ (by omega)
  have f5 : IntKind.i64.wrap q = q := IntWalk.i64_in _ (by omega)
  clear h
  have H0 := (Ho.nil w).bx [.int .i64 lo, .int .i64 hi] 24 (w.heap.size) (by simp)
  have O0 : Bx ((w.alloc (.cells (List.toArray [.int .i64 lo, .int .i64 hi]) 24)).alloc (.cells (List.toArray [.int .i64 0, .int .i64 0]) 24)) (w.heap.size + 1) [.int .i64 0, .int .i64 0] := Bx.new (by simp)
  go_enter Try.func40, Try.ntmps40
  go_wp2_with fail
  go_quiet (fail)
  go_wp2_with fail
  refine bodyPost_box (b := w.heap.size + 1) (cs := [.int .i64 (lo + min r q), .int .i64 (lo + max r q)]) (v := iv (lo + min r q) (lo + max r q)) (by
    (repeat (first | with_reducible exact O0 | with_reducible apply Bx.put2 | with_reducible refine Bx.drewn ?_ _))) (fun X hX => by simp [results, Try.results40, go_sem, hX]) rfl ⟨rfl, by
    refine Ho.below (n := w.heap.size + 1) (l := [(w.heap.size, [.int .i64 lo, .int .i64 hi])]) ?_
    (repeat (first | with_reducible exact H0 | with_reducible refine Ho.drewn ?_ _ | with_reducible refine Ho.alc ?_ _ | with_reducible refine Ho.put ?_ (by omega)))⟩
set_option maxRecDepth 100000 in
set_option maxHeartbeats 4000000 in
theorem rdvalid_any (s : D) (w : World) :
    Calls Try.prog 18 #[dv s] w fun e w' => e = .returned (.bool (vD s)) ∧ Below w.heap.size w w' := by
  cases h1 : vB s.a s.b
  · rw [show vD s = false from by simp [vD, h1]]
    have E1 := Lib.hid h1
    clear h1
    have H0 := ((Ho.nil w).bx [.int .i64 s.a, .int .i64 s.b, .int .i64 s.c, .int .i64 s.d, .int .i64 s.e, .int .i64 s.f] 32 (w.heap.size) (by simp))
    go_enter Try.func18, Try.ntmps18
    go_wp2_with fail
    refine (rvalid_below s.a s.b _).mono ?_
    rintro r w1 ⟨rfl, hb⟩
    rw [E1.out]
    have H1 : Ho w w1 (w.heap.size + 1) [(w.heap.size, [.int .i64 s.a, .int .i64 s.b, .int .i64 s.c, .int .i64 s.d, .int .i64 s.e, .int .i64 s.f])] := Ho.call (by
      (repeat (first | with_reducible exact H0 | with_reducible refine Ho.alc ?_ _ | with_reducible refine Ho.drew ?_ | with_reducible refine Ho.put ?_ (by omega)))) hb
    have hs1 := H1.size
    have hz1 := hb.size
    (try simp at hz1)
    clear hb
    have h0_1 := (H1.at 0 rfl).c
    have q1_0 : ¬ (w.heap.size = w1.heap.size) := by omega
    have q1_1 : ¬ (w1.heap.size = w.heap.size) := by omega
    have q1_2 : w.heap.size < w1.heap.size := by omega
    have q1_3 : w.heap.size < w1.heap.size + 1 := by omega
    go_wp2_with fail
    go_ret
    exact ⟨rfl, H1.below⟩
  · cases h2 : vB s.c s.d
    · rw [show vD s = false from by simp [vD, h2]]
      have E1 := Lib.hid h1
      have E2 := Lib.hid h2
      clear h1 h2
      have H0 := ((Ho.nil w).bx [.int .i64 s.a, .int .i64 s.b, .int .i64 s.c, .int .i64 s.d, .int .i64 s.e, .int .i64 s.f] 32 (w.heap.size) (by simp))
      go_enter Try.func18, Try.ntmps18
      go_wp2_with fail
      refine (rvalid_below s.a s.b _).mono ?_
      rintro r w1 ⟨rfl, hb⟩
      rw [E1.out]
      have H1 : Ho w w1 (w.heap.size + 1) [(w.heap.size, [.int .i64 s.a, .int .i64 s.b, .int .i64 s.c, .int .i64 s.d, .int .i64 s.e, .int .i64 s.f])] := Ho.call (by
        (repeat (first | with_reducible exact H0 | with_reducible refine Ho.alc ?_ _ | with_reducible refine Ho.drew ?_ | with_reducible refine Ho.put ?_ (by omega)))) hb
      have hs1 := H1.size
      have hz1 := hb.size
      (try simp at hz1)
      clear hb
      have h0_1 := (H1.at 0 rfl).c
      have q1_0 : ¬ (w.heap.size = w1.heap.size) := by omega
      have q1_1 : ¬ (w1.heap.size = w.heap.size) := by omega
      have q1_2 : w.heap.size < w1.heap.size := by omega
      have q1_3 : w.heap.size < w1.heap.size + 1 := by omega
      go_wp2_with fail
      refine (rvalid_below s.c s.d _).mono ?_
      rintro r w2 ⟨rfl, hb⟩
      rw [E2.out]
      have H2 : Ho w w2 (w.heap.size + 1) [(w.heap.size, [.int .i64 s.a, .int .i64 s.b, .int .i64 s.c, .int .i64 s.d, .int .i64 s.e, .int .i64 s.f])] := Ho.call (by
        (repeat (first | with_reducible exact H1 | with_reducible refine Ho.alc ?_ _ | with_reducible refine Ho.drew ?_ | with_reducible refine Ho.put ?_ (by omega)))) hb
      clear h0_1 q1_0 q1_1 q1_2 q1_3
      have hs2 := H2.size
      have hz2 := hb.size
      (try simp at hz2)
      clear hb
      have h0_2 := (H2.at 0 rfl).c
      have q2_0 : ¬ (w.heap.size = w2.heap.size) := by omega
      have q2_1 : ¬ (w2.heap.size = w.heap.size) := by omega
      have q2_2 : w.heap.size < w2.heap.size := by omega
      have q2_3 : w.heap.size < w2.heap.size + 1 := by omega
      go_wp2_with fail
      go_ret
      exact ⟨rfl, H2.below⟩
    · rw [show vD s = vB s.e s.f from by simp [vD, h1, h2]]
      have E1 := Lib.hid h1
      have E2 := Lib.hid h2
      clear h1 h2
      have H0 := ((Ho.nil w).bx [.int .i64 s.a, .int .i64 s.b, .int .i64 s.c, .int .i64 s.d, .int .i64 s.e, .int .i64 s.f] 32 (w.heap.size) (by simp))
      go_enter Try.func18, Try.ntmps18
      go_wp2_with fail
      refine (rvalid_below s.a s.b _).mono ?_
      rintro r w1 ⟨rfl, hb⟩
      rw [E1.out]
      have H1 : Ho w w1 (w.heap.size + 1) [(w.heap.size, [.int .i64 s.a, .int .i64 s.b, .int .i64 s.c, .int .i64 s.d, .int .i64 s.e, .int .i64 s.f])] := Ho.call (by
        (repeat (first | with_reducible exact H0 | with_reducible refine Ho.alc ?_ _ | with_reducible refine Ho.drew ?_ | with_reducible refine Ho.put ?_ (by omega)))) hb
      have hs1 := H1.size
      have hz1 := hb.size
      (try simp at hz1)
      clear hb
      have h0_1 := (H1.at 0 rfl).c
      have q1_0 : ¬ (w.heap.size = w1.heap.size) := by omega
      have q1_1 : ¬ (w1.heap.size = w.heap.size) := by omega
      have q1_2 : w.heap.size < w1.heap.size := by omega
      have q1_3 : w.heap.size < w1.heap.size + 1 := by omega
      go_wp2_with fail
      refine (rvalid_below s.c s.d _).mono ?_
      rintro r w2 ⟨rfl, hb⟩
      rw [E2.out]
      have H2 : Ho w w2 (w.heap.size + 1) [(w.heap.size, [.int .i64 s.a, .int .i64 s.b, .int .i64 s.c, .int .i64 s.d, .int .i64 s.e, .int .i64 s.f])] := Ho.call (by
        (repeat (first | with_reducible exact H1 | with_reducible refine Ho.alc ?_ _ | with_reducible refine Ho.drew ?_ | with_reducible refine Ho.put ?_ (by omega)))) hb
      clear h0_1 q1_0 q1_1 q1_2 q1_3
      have hs2 := H2.size
      have hz2 := hb.size
      (try simp at hz2)
      clear hb
      have h0_2 := (H2.at 0 rfl).c
      have q2_0 : ¬ (w.heap.size = w2.heap.size) := by omega
      have q2_1 : ¬ (w2.heap.size = w.heap.size) := by omega
      have q2_2 : w.heap.size < w2.heap.size := by omega
      have q2_3 : w.heap.size < w2.heap.size + 1 := by omega
      go_wp2_with fail
      refine (rvalid_below s.e s.f _).mono ?_
      rintro r w3 ⟨rfl, hb⟩
      have H3 : Ho w w3 (w.heap.size + 1) [(w.heap.size, [.int .i64 s.a, .int .i64 s.b, .int .i64 s.c, .int .i64 s.d, .int .i64 s.e, .int .i64 s.f])] := Ho.call (by
        (repeat (first | with_reducible exact H2 | with_reducible refine Ho.alc ?_ _ | with_reducible refine Ho.drew ?_ | with_reducible refine Ho.put ?_ (by omega)))) hb
      clear h0_2 q2_0 q2_1 q2_2 q2_3
      have hs3 := H3.size
      have hz3 := hb.size
      (try simp at hz3)
      clear hb
      have h0_3 := (H3.at 0 rfl).c
      have q3_0 : ¬ (w.heap.size = w3.heap.size) := by omega
      have q3_1 : ¬ (w3.heap.size = w.heap.size) := by omega
      have q3_2 : w.heap.size < w3.heap.size := by omega
      have q3_3 : w.heap.size < w3.heap.size + 1 := by omega
      go_wp2_with fail
      go_ret
      exact ⟨rfl, H3.below⟩
set_option maxRecDepth 100000 in
set_option maxHeartbeats 4000000 in
theorem rins_any (a b c d : Int) (w : World) (h1 : vB a b = true) (h2 : vB c d = true) (h3 : c ≤ a) (h4 : b ≤ d) :
    Calls Try.prog 32 #[iv a b, iv c d] w fun e w' => e = .returned (.bool true) ∧ Below w.heap.size w w' := by
  have HV := Lib.hid (show (vB a b && vB c d) = true from by rw [h1, h2]; rfl)
  clear h1 h2
  have H0 := (((Ho.nil w).bx [.int .i64 a, .int .i64 b] 24 (w.heap.size) (by simp)).bx [.int .i64 c, .int .i64 d] 24 (w.heap.size + 1) (by simp))
  go_enter Try.func32, Try.ntmps32
  go_wp2_with fail
  refine (both_any a b c d _).mono ?_
  rintro r w1 ⟨rfl, hb⟩
  rw [HV.out]
  have H1 : Ho w w1 (w.heap.size + 1 + 1) [(w.heap.size + 1, [.int .i64 c, .int .i64 d]), (w.heap.size, [.int .i64 a, .int .i64 b])] := Ho.call (by
    (repeat (first | with_reducible exact H0 | with_reducible refine Ho.alc ?_ _ | with_reducible refine Ho.drew ?_ | with_reducible refine Ho.put ?_ (by omega)))) hb
  have hs1 := H1.size
  have hz1 := hb.size
  (try simp at hz1)
  clear hb
  have h0_1 := (H1.at 1 rfl).c
  have h1_1 := (H1.at 0 rfl).c
  have q1_0 : ¬ (w.heap.size = w1.heap.size) := by omega
  have q1_1 : ¬ (w1.heap.size = w.heap.size) := by omega
  have q1_2 : w.heap.size < w1.heap.size := by omega
  have q1_3 : w.heap.size < w1.heap.size + 1 := by omega
  have q1_4 : ¬ (w.heap.size + 1 = w1.heap.size) := by omega
  have q1_5 : ¬ (w1.heap.size = w.heap.size + 1) := by omega
  have q1_6 : w.heap.size + 1 < w1.heap.size := by omega
  have q1_7 : w.heap.size + 1 < w1.heap.size + 1 := by omega
  go_wp2_with fail
  go_ret
  exact ⟨rfl, H1.below⟩
/-- a part of a box -/
def partD (s : D) (k0 k1 k2 k3 k4 k5 : Int) : D := ⟨partLo s.a s.b k0 k1, partHi s.a s.b k0 k1, partLo s.c s.d k2 k3, partHi s.c s.d k2 k3, partLo s.e s.f k4 k5, partHi s.e s.f k4 k5⟩
theorem partD_sub {s : D} (k0 k1 k2 k3 k4 k5 : Int) (h : vD s = true) : SubD (partD s k0 k1 k2 k3 k4 k5) s := by
  have hv : vB s.a s.b = true ∧ vB s.c s.d = true ∧ vB s.e s.f = true := by simpa [vD] using h
  exact ⟨part_sub k0 k1 hv.1, part_sub k2 k3 hv.2.1, part_sub k4 k5 hv.2.2⟩
structure U6 (k0 k1 k2 k3 k4 k5 : Int) : Prop where
  a : 0 ≤ k0 ∧ k0 ≤ 4294967295
  b : 0 ≤ k1 ∧ k1 ≤ 4294967295
  c : 0 ≤ k2 ∧ k2 ≤ 4294967295
  d : 0 ≤ k3 ∧ k3 ≤ 4294967295
  e : 0 ≤ k4 ∧ k4 ≤ 4294967295
  f : 0 ≤ k5 ∧ k5 ≤ 4294967295
set_option maxRecDepth 100000 in
set_option maxHeartbeats 4000000 in
theorem partd_any (s : D) (k0 k1 k2 k3 k4 k5 : Int) (w : World) (h : vD s = true) (u : U6 k0 k1 k2 k3 k4 k5) :
    Calls Try.prog 19 #[dv s, .agg #[.int .u32 k0, .int .u32 k1, .int .u32 k2, .int .u32 k3, .int .u32 k4, .int .u32 k5]] w fun e w' => e = .returned (dv (partD s k0 k1 k2 k3 k4 k5)) ∧ Below w.heap.size w w' := by
  have hv : vB s.a s.b = true ∧ vB s.c s.d = true ∧ vB s.e s.f = true := by simpa [vD] using h
  have V := Lib.hid hv
  have U := Lib.hid u
  clear h hv u
  have H0 := (((Ho.nil w).bx [.int .i64 s.a, .int .i64 s.b, .int .i64 s.c, .int .i64 s.d, .int .i64 s.e, .int .i64 s.f] 26 (w.heap.size) (by simp)).bx [.int .u32 k0, .int .u32 k1, .int .u32 k2, .int .u32 k3, .int .u32 k4, .int .u32 k5] 57 (w.heap.size + 1) (by simp))
  have O0 : Bx (((w.alloc (.cells (List.toArray [.int .i64 s.a, .int .i64 s.b, .int .i64 s.c, .int .i64 s.d, .int .i64 s.e, .int .i64 s.f]) 26)).alloc (.cells (List.toArray [.int .u32 k0, .int .u32 k1, .int .u32 k2, .int .u32 k3, .int .u32 k4, .int .u32 k5]) 57)).alloc (.cells (List.toArray [.int .i64 0, .int .i64 0, .int .i64 0, .int .i64 0, .int .i64 0, .int .i64 0]) 26)) (w.heap.size + 1 + 1) [.int .i64 0, .int .i64 0, .int .i64 0, .int .i64 0, .int .i64 0, .int .i64 0] := Bx.new (by simp)
  have HX := (H0.alc (.cells (List.toArray [.int .i64 0, .int .i64 0, .int .i64 0, .int .i64 0, .int .i64 0, .int .i64 0]) 26)).drew
  have OX := O0.drew
  go_enter Try.func19, Try.ntmps19
  go_upto_region 1 with fail
  go_region_held3 (fun X => (∀ j, X.cell? ⟨w.heap.size, j, none⟩ = [.int .i64 s.a, .int .i64 s.b, .int .i64 s.c, .int .i64 s.d, .int .i64 s.e, .int .i64 s.f][j]?) ∧ (∀ j, X.cell? ⟨w.heap.size + 1, j, none⟩ = [.int .u32 k0, .int .u32 k1, .int .u32 k2, .int .u32 k3, .int .u32 k4, .int .u32 k5][j]?)) (with_reducible first | exact ⟨(HX.at 1 rfl).c, (HX.at 0 rfl).c⟩ | exact ⟨(HA.at 1 rfl).c, (HA.at 0 rfl).c⟩ | exact ⟨(HB.at 1 rfl).c, (HB.at 0 rfl).c⟩ | exact ⟨(HC.at 1 rfl).c, (HC.at 0 rfl).c⟩ | exact ⟨(((((((HC.put (Nat.le_refl _)).put (Nat.le_refl _)).put (Nat.le_refl _)).put (Nat.le_refl _)).put (Nat.le_refl _)).put (Nat.le_refl _)).at 1 rfl).c, (((((((HC.put (Nat.le_refl _)).put (Nat.le_refl _)).put (Nat.le_refl _)).put (Nat.le_refl _)).put (Nat.le_refl _)).put (Nat.le_refl _)).at 0 rfl).c⟩)
    (first
      | (have hm := hmarkB; go_at_call 40; refine (wit_any s.e s.f k4 k5 _ V.out.2.2 U.out.e.1 U.out.e.2 U.out.f.1 U.out.f.2).mono ?_; rintro e wC ⟨rfl, hb⟩; have HC := HB.call hb; have OC := OB.kept hb; have oc := OC.c; have of := OC.f; have ol := OC.lt)
      | (have hm := hmarkA; go_at_call 40; refine (wit_any s.c s.d k2 k3 _ V.out.2.1 U.out.c.1 U.out.c.2 U.out.d.1 U.out.d.2).mono ?_; rintro e wB ⟨rfl, hb⟩; have HB := HA.call hb; have OB := OA.kept hb; have hmarkB : wB = wB := rfl)
      | (go_at_call 40; refine (wit_any s.a s.b k0 k1 _ V.out.1 U.out.a.1 U.out.a.2 U.out.b.1 U.out.b.2).mono ?_; rintro e wA ⟨rfl, hb⟩; have HA := HX.call hb; have OA := OX.kept hb; have hmarkA : wA = wA := rfl))
  go_wp2_with fail
  refine bodyPost_box (b := w.heap.size + 1 + 1) (cs := [.int .i64 (partLo s.a s.b k0 k1), .int .i64 (partHi s.a s.b k0 k1), .int .i64 (partLo s.c s.d k2 k3), .int .i64 (partHi s.c s.d k2 k3), .int .i64 (partLo s.e s.f k4 k5), .int .i64 (partHi s.e s.f k4 k5)]) (v := dv (partD s k0 k1 k2 k3 k4 k5)) (by
    (repeat (first | with_reducible exact OC | with_reducible apply Bx.put6 | with_reducible refine Bx.drew ?_))) (fun X hX => by simp [results, Try.results19, go_sem, hX, partD]) rfl ⟨rfl, by
    refine Ho.below (n := w.heap.size + 1 + 1) (l := [(w.heap.size + 1, [.int .u32 k0, .int .u32 k1, .int .u32 k2, .int .u32 k3, .int .u32 k4, .int .u32 k5]), (w.heap.size, [.int .i64 s.a, .int .i64 s.b, .int .i64 s.c, .int .i64 s.d, .int .i64 s.e, .int .i64 s.f])]) ?_
    (repeat (first | with_reducible exact HC | with_reducible refine Ho.drew ?_ | with_reducible refine Ho.put ?_ (Nat.le_refl _)))⟩
end Go.Proofs.Ytedfciddfpcifaa.Iv

/- The example holds. -/
namespace Go.Proofs.Ytedfciddfpcifaa.Iv
open Go.RowKit

structure Z6 (W : World) (b : Nat) : Prop where
  z0 : W.cell? ⟨b, 0, none⟩ = some (.int .i64 0)
  f0 : W.frozen? ⟨b, 0, none⟩ = false
  z1 : W.cell? ⟨b, 1, none⟩ = some (.int .i64 0)
  f1 : W.frozen? ⟨b, 1, none⟩ = false
  z2 : W.cell? ⟨b, 2, none⟩ = some (.int .i64 0)
  f2 : W.frozen? ⟨b, 2, none⟩ = false
  z3 : W.cell? ⟨b, 3, none⟩ = some (.int .i64 0)
  f3 : W.frozen? ⟨b, 3, none⟩ = false
  z4 : W.cell? ⟨b, 4, none⟩ = some (.int .i64 0)
  f4 : W.frozen? ⟨b, 4, none⟩ = false
  z5 : W.cell? ⟨b, 5, none⟩ = some (.int .i64 0)
  f5 : W.frozen? ⟨b, 5, none⟩ = false
  lt : b < W.heap.size
theorem Z6.new {W : World} {b : Nat} {t : TypeId} (hb : b = W.heap.size) : Z6 (W.alloc (.cells #[.int .i64 0, .int .i64 0, .int .i64 0, .int .i64 0, .int .i64 0, .int .i64 0] t)) b := by
  subst hb
  constructor <;> simp [go_sem]
theorem Z6.kept {W W' : World} {b : Nat} (h : Z6 W b) (hb : Below W.heap.size W W') : Z6 W' b :=
  ⟨(hb.cell (p := ⟨b, 0, none⟩) h.lt).trans h.z0, (hb.frozen (p := ⟨b, 0, none⟩) h.lt).trans h.f0, (hb.cell (p := ⟨b, 1, none⟩) h.lt).trans h.z1, (hb.frozen (p := ⟨b, 1, none⟩) h.lt).trans h.f1, (hb.cell (p := ⟨b, 2, none⟩) h.lt).trans h.z2, (hb.frozen (p := ⟨b, 2, none⟩) h.lt).trans h.f2, (hb.cell (p := ⟨b, 3, none⟩) h.lt).trans h.z3, (hb.frozen (p := ⟨b, 3, none⟩) h.lt).trans h.f3, (hb.cell (p := ⟨b, 4, none⟩) h.lt).trans h.z4, (hb.frozen (p := ⟨b, 4, none⟩) h.lt).trans h.f4, (hb.cell (p := ⟨b, 5, none⟩) h.lt).trans h.z5, (hb.frozen (p := ⟨b, 5, none⟩) h.lt).trans h.f5, Nat.lt_of_lt_of_le h.lt hb.size⟩
theorem Z6.fin {W : World} {b : Nat} (h : Z6 W b) (p q r s t u : Value) : At ((((((W.setCell ⟨b, 0, none⟩ p).setCell ⟨b, 1, none⟩ q).setCell ⟨b, 2, none⟩ r).setCell ⟨b, 3, none⟩ s).setCell ⟨b, 4, none⟩ t).setCell ⟨b, 5, none⟩ u) b [p, q, r, s, t, u] := by
  have z0 := h.z0
  have z1 := h.z1
  have z2 := h.z2
  have z3 := h.z3
  have z4 := h.z4
  have z5 := h.z5
  have lt := h.lt
  refine ⟨by simpa using lt, fun j v hv => ?_⟩
  rcases j with _ | _ | _ | _ | _ | _ | j
  all_goals (simp at hv)
  all_goals (subst hv; simp [go_sem, *])
theorem Z6.alc {W : World} {b : Nat} (h : Z6 W b) (o : Obj) : Z6 (W.alloc o) b := h.kept ((Below.refl _ _).alloc (Nat.le_refl _) o)
theorem Z6.drew {W : World} {b : Nat} (h : Z6 W b) : Z6 W.drew b := h.kept (Below.refl _ _).drew
theorem Zn.alc {W : World} {b : Nat} (h : Zn W b) (o : Obj) : Zn (W.alloc o) b := h.kept ((Below.refl _ _).alloc (Nat.le_refl _) o)
theorem Zn.drew {W : World} {b : Nat} (h : Zn W b) : Zn W.drew b := h.kept (Below.refl _ _).drew
structure Ga (w0 W : World) (b1 : Nat) : Prop where
  T : At W b1 [.int .i64 33554432, .int .i64 33554432]
  ge : w0.heap.size ≤ b1
  below : Below w0.heap.size w0 W
theorem Ga.call {w0 W W' : World} {b1 : Nat} (h : Ga w0 W b1) (hb : Below W.heap.size W W') : Ga w0 W' b1 := ⟨h.T.kept hb, h.ge, h.below.trans (hb.mono (by have := h.T.1; have := h.ge; omega))⟩
theorem Ga.alc {w0 W : World} {b1 : Nat} (h : Ga w0 W b1) (o : Obj) : Ga w0 (W.alloc o) b1 := h.call ((Below.refl _ _).alloc (Nat.le_refl _) o)
theorem Ga.drew {w0 W : World} {b1 : Nat} (h : Ga w0 W b1) : Ga w0 W.drew b1 := h.call (Below.refl _ _).drew
theorem Ga.put {w0 W : World} {b1 d i : Nat} {u : Value} (h : Ga w0 W b1) (lt : b1 < d) : Ga w0 (W.setCell ⟨d, i, none⟩ u) b1 := ⟨h.T.set (Nat.ne_of_lt lt), h.ge, h.below.setCell (by have := h.ge; dsimp only; omega) _⟩
theorem Ga.two {w0 W : World} {b1 : Nat} (h : Ga w0 W b1) : W.cell? ⟨b1, 0, none⟩ = some (.int .i64 33554432) ∧ W.cell? ⟨b1, 1, none⟩ = some (.int .i64 33554432) := ⟨h.T.c0, h.T.c1⟩
structure S3 (b1 : Nat) (w0 w : World) (l0 l1 l2 l3 l4 l5 l6 l7 l8 l9 l10 l11 l12 l13 l14 l15 : Bool) (v0 v1 v2 v3 v4 v5 v6 v7 v8 v9 v10 v11 v15 : Value) (b9 b10 b11 : Nat) : Prop where
  g : Ga w0 w b1
  e0 : l0 = true → v0 = (dv upD)
  e1 : l1 = true → v1 = (dv upD)
  e2 : l2 = true → v2 = iv 33554432 33554432
  e3 : l3 = true → v3 = .tuple #[dv upD, (iv 16777216 16777216), (iv 16777216 16777216), .int .i64 0]
  e4 : l4 = true → v4 = .tuple #[dv upD, (iv 16777216 16777216), (iv 16777216 16777216), .int .i64 0]
  e5 : l5 = true → v5 = dv upD
  e6 : l6 = true → v6 = (iv 16777216 16777216)
  e7 : l7 = true → v7 = (iv 16777216 16777216)
  e8 : l8 = true → v8 = .int .i64 0
  e9 : l9 = true → v9 = .pointer (some ⟨b9, 0, none⟩)
  e10 : l10 = true → v10 = .pointer (some ⟨b10, 0, none⟩)
  e11 : l11 = true → v11 = .pointer (some ⟨b11, 0, none⟩)
  e15 : l15 = true → v15 = .int .i64 0
  g9 : l9 = true → b1 + 1 ≤ b9
  t9 : l9 = true → b9 < w.heap.size
  o9 : l12 = true → l9 = true
  z9 : l9 = true → l12 = false → Bx w b9 [.int .i64 0, .int .i64 0, .int .i64 0, .int .i64 0, .int .i64 0, .int .i64 0]
  s9 : l12 = true → Bx w b9 [.int .i64 0, .int .i64 0, .int .i64 0, .int .i64 0, .int .i64 16777216, .int .i64 16777216]
  g10 : l10 = true → b1 + 1 ≤ b10
  t10 : l10 = true → b10 < w.heap.size
  o10 : l13 = true → l10 = true
  z10 : l10 = true → l13 = false → Bx w b10 [.int .i64 0, .int .i64 0]
  s10 : l13 = true → Bx w b10 [.int .i64 16777216, .int .i64 16777216]
  g11 : l11 = true → b1 + 1 ≤ b11
  t11 : l11 = true → b11 < w.heap.size
  o11 : l14 = true → l11 = true
  z11 : l11 = true → l14 = false → Bx w b11 [.int .i64 0, .int .i64 0]
  s11 : l14 = true → Bx w b11 [.int .i64 16777216, .int .i64 16777216]
  d9_10 : l9 = true → l10 = true → ¬ (b9 = b10)
  d9_11 : l9 = true → l11 = true → ¬ (b9 = b11)
  d10_11 : l10 = true → l11 = true → ¬ (b10 = b11)
theorem S3.kept {b1 : Nat} {w0 w : World} {l0 l1 l2 l3 l4 l5 l6 l7 l8 l9 l10 l11 l12 l13 l14 l15 : Bool} {v0 v1 v2 v3 v4 v5 v6 v7 v8 v9 v10 v11 v15 : Value} {b9 b10 b11 : Nat} {w' : World} (h : S3 b1 w0 w l0 l1 l2 l3 l4 l5 l6 l7 l8 l9 l10 l11 l12 l13 l14 l15 v0 v1 v2 v3 v4 v5 v6 v7 v8 v9 v10 v11 v15 b9 b10 b11) (hb : Below w.heap.size w w') : S3 b1 w0 w' l0 l1 l2 l3 l4 l5 l6 l7 l8 l9 l10 l11 l12 l13 l14 l15 v0 v1 v2 v3 v4 v5 v6 v7 v8 v9 v10 v11 v15 b9 b10 b11 :=
  { h with g := h.g.call hb, t9 := fun p => Nat.lt_of_lt_of_le (h.t9 p) hb.size, z9 := fun p q => (h.z9 p q).kept hb, s9 := fun p => (h.s9 p).kept hb, t10 := fun p => Nat.lt_of_lt_of_le (h.t10 p) hb.size, z10 := fun p q => (h.z10 p q).kept hb, s10 := fun p => (h.s10 p).kept hb, t11 := fun p => Nat.lt_of_lt_of_le (h.t11 p) hb.size, z11 := fun p q => (h.z11 p q).kept hb, s11 := fun p => (h.s11 p).kept hb }
def S3.I (b1 : Nat) (w0 : World) : Act → Array Bool → Act → World → Prop := fun a0 L a w => ∃ (l0 l1 l2 l3 l4 l5 l6 l7 l8 l9 l10 l11 l12 l13 l14 l15 : Bool) (v0 v1 v2 v3 v4 v5 v6 v7 v8 v9 v10 v11 v15 : Value) (b9 b10 b11 : Nat), L = #[l0, l1, l2, l3, l4, l5, l6, l7, l8, l9, l10, l11, l12, l13, l14, l15] ∧ a = (((((((((((((a0.put (some 23) v0).put (some 24) v1).put (some 25) v2).put (some 26) v3).put (some 22) v4).put (some 27) v5).put (some 28) v6).put (some 29) v7).put (some 30) v8).put (some 5) v9).put (some 6) v10).put (some 7) v11).put (some 8) v15) ∧ S3 b1 w0 w l0 l1 l2 l3 l4 l5 l6 l7 l8 l9 l10 l11 l12 l13 l14 l15 v0 v1 v2 v3 v4 v5 v6 v7 v8 v9 v10 v11 v15 b9 b10 b11
theorem le_alc {n : Nat} {W : World} {o : Obj} (h : n ≤ W.heap.size) : n ≤ (W.alloc o).heap.size := by simp; omega
end Go.Proofs.Ytedfciddfpcifaa.Iv

/- RefractionStraight: with the ratio 1, the box of the refracted ray contains that of the ray. -/
namespace Go.Proofs.Ytedfciddfpcifaa.Iv
open Go.RowKit

set_option maxRecDepth 100000 in
theorem dinside_any (s t : D) (w : World) :
    Calls Try.prog 28 #[dv s, dv t] w fun e w' => e = .returned (.bool (insD s t)) ∧ Below w.heap.size w w' := by
  have H0 := ((Ho.nil w).bx [.int .i64 s.a, .int .i64 s.b, .int .i64 s.c, .int .i64 s.d, .int .i64 s.e, .int .i64 s.f] 26 w.heap.size rfl).bx [.int .i64 t.a, .int .i64 t.b, .int .i64 t.c, .int .i64 t.d, .int .i64 t.e, .int .i64 t.f] 26 (w.heap.size + 1) (by simp)
  cases h1 : insB s.a s.b t.a t.b
  · rw [show insD s t = false from by simp [insD, h1]]
    have E1 := Lib.hid h1
    clear h1
    go_enter Try.func28, Try.ntmps28
    go_wp2_with fail
    refine (inside_any s.a s.b t.a t.b _).mono ?_
    rintro e w1 ⟨rfl, hb⟩
    rw [E1.out]
    have H1 := H0.call hb
    clear hb
    have x1 := (H1.at 1 rfl).c
    have y1 := (H1.at 0 rfl).c
    go_wp2_with fail
    go_ret
    exact ⟨rfl, H1.below⟩
  · cases h2 : insB s.c s.d t.c t.d
    · rw [show insD s t = false from by simp [insD, h2]]
      have E1 := Lib.hid h1
      have E2 := Lib.hid h2
      clear h1 h2
      go_enter Try.func28, Try.ntmps28
      go_wp2_with fail
      refine (inside_any s.a s.b t.a t.b _).mono ?_
      rintro e w1 ⟨rfl, hb⟩
      rw [E1.out]
      have H1 := H0.call hb
      clear hb
      have x1 := (H1.at 1 rfl).c
      have y1 := (H1.at 0 rfl).c
      go_wp2_with fail
      refine (inside_any s.c s.d t.c t.d _).mono ?_
      rintro e w2 ⟨rfl, hb⟩
      rw [E2.out]
      have H2 := H1.call hb
      clear hb
      have x2 := (H2.at 1 rfl).c
      have y2 := (H2.at 0 rfl).c
      go_wp2_with fail
      go_ret
      exact ⟨rfl, H2.below⟩
    · rw [show insD s t = insB s.e s.f t.e t.f from by simp [insD, h1, h2]]
      have E1 := Lib.hid h1
      have E2 := Lib.hid h2
      clear h1 h2
      go_enter Try.func28, Try.ntmps28
      go_wp2_with fail
      refine (inside_any s.a s.b t.a t.b _).mono ?_
      rintro e w1 ⟨rfl, hb⟩
      rw [E1.out]
      have H1 := H0.call hb
      clear hb
      have x1 := (H1.at 1 rfl).c
      have y1 := (H1.at 0 rfl).c
      go_wp2_with fail
      refine (inside_any s.c s.d t.c t.d _).mono ?_
      rintro e w2 ⟨rfl, hb⟩
      rw [E2.out]
      have H2 := H1.call hb
      clear hb
      have x2 := (H2.at 1 rfl).c
      have y2 := (H2.at 0 rfl).c
      go_wp2_with fail
      refine (inside_any s.e s.f t.e t.f _).mono ?_
      rintro e w3 ⟨rfl, hb⟩
      have H3 := H2.call hb
      clear hb
      have x3 := (H3.at 1 rfl).c
      have y3 := (H3.at 0 rfl).c
      go_wp2_with fail
      go_ret
      exact ⟨rfl, H3.below⟩
structure S7 (s t : D) (d0 d1 d2 d3 d4 d5 p q u v er : Int) (b0 b1 n0 : Nat) (w0 w : World) (l0 l1 l2 l3 l4 l5 l6 l7 l8 l9 l10 l11 l12 l13 l14 l15 : Bool) (v0 v1 v2 v3 v4 v5 v6 v7 v8 v9 v10 v11 v15 : Value) (b9 b10 b11 : Nat) : Prop where
  g : Ho w0 w n0 [(b1, [.int .i64 t.a, .int .i64 t.b, .int .i64 t.c, .int .i64 t.d, .int .i64 t.e, .int .i64 t.f]), (b0, [.int .i64 s.a, .int .i64 s.b, .int .i64 s.c, .int .i64 s.d, .int .i64 s.e, .int .i64 s.f])]
  e0 : l0 = true → v0 = dv s
  e1 : l1 = true → v1 = dv t
  e2 : l2 = true → v2 = (iv 16777216 16777216)
  e3 : l3 = true → v3 = .tuple #[dv ⟨d0, d1, d2, d3, d4, d5⟩, (iv p q), (iv u v), .int .i64 er]
  e4 : l4 = true → v4 = .tuple #[dv ⟨d0, d1, d2, d3, d4, d5⟩, (iv p q), (iv u v), .int .i64 er]
  e5 : l5 = true → v5 = dv ⟨d0, d1, d2, d3, d4, d5⟩
  e6 : l6 = true → v6 = (iv p q)
  e7 : l7 = true → v7 = (iv u v)
  e8 : l8 = true → v8 = .int .i64 er
  e9 : l9 = true → v9 = .pointer (some ⟨b9, 0, none⟩)
  e10 : l10 = true → v10 = .pointer (some ⟨b10, 0, none⟩)
  e11 : l11 = true → v11 = .pointer (some ⟨b11, 0, none⟩)
  e15 : l15 = true → v15 = .int .i64 er
  g9 : l9 = true → n0 ≤ b9
  t9 : l9 = true → b9 < w.heap.size
  o9 : l12 = true → l9 = true
  z9 : l9 = true → l12 = false → Bx w b9 [.int .i64 0, .int .i64 0, .int .i64 0, .int .i64 0, .int .i64 0, .int .i64 0]
  s9 : l12 = true → Bx w b9 [.int .i64 d0, .int .i64 d1, .int .i64 d2, .int .i64 d3, .int .i64 d4, .int .i64 d5]
  g10 : l10 = true → n0 ≤ b10
  t10 : l10 = true → b10 < w.heap.size
  o10 : l13 = true → l10 = true
  z10 : l10 = true → l13 = false → Bx w b10 [.int .i64 0, .int .i64 0]
  s10 : l13 = true → Bx w b10 [.int .i64 p, .int .i64 q]
  g11 : l11 = true → n0 ≤ b11
  t11 : l11 = true → b11 < w.heap.size
  o11 : l14 = true → l11 = true
  z11 : l11 = true → l14 = false → Bx w b11 [.int .i64 0, .int .i64 0]
  s11 : l14 = true → Bx w b11 [.int .i64 u, .int .i64 v]
  d9_10 : l9 = true → l10 = true → ¬ (b9 = b10)
  d9_11 : l9 = true → l11 = true → ¬ (b9 = b11)
  d10_11 : l10 = true → l11 = true → ¬ (b10 = b11)
theorem S7.kept {s t : D} {d0 d1 d2 d3 d4 d5 p q u v er : Int} {b0 b1 n0 : Nat} {w0 w : World} {l0 l1 l2 l3 l4 l5 l6 l7 l8 l9 l10 l11 l12 l13 l14 l15 : Bool} {v0 v1 v2 v3 v4 v5 v6 v7 v8 v9 v10 v11 v15 : Value} {b9 b10 b11 : Nat} {w' : World} (h : S7 s t d0 d1 d2 d3 d4 d5 p q u v er b0 b1 n0 w0 w l0 l1 l2 l3 l4 l5 l6 l7 l8 l9 l10 l11 l12 l13 l14 l15 v0 v1 v2 v3 v4 v5 v6 v7 v8 v9 v10 v11 v15 b9 b10 b11) (hb : Below w.heap.size w w') : S7 s t d0 d1 d2 d3 d4 d5 p q u v er b0 b1 n0 w0 w' l0 l1 l2 l3 l4 l5 l6 l7 l8 l9 l10 l11 l12 l13 l14 l15 v0 v1 v2 v3 v4 v5 v6 v7 v8 v9 v10 v11 v15 b9 b10 b11 :=
  { h with g := h.g.call hb, t9 := fun p => Nat.lt_of_lt_of_le (h.t9 p) hb.size, z9 := fun p q => (h.z9 p q).kept hb, s9 := fun p => (h.s9 p).kept hb, t10 := fun p => Nat.lt_of_lt_of_le (h.t10 p) hb.size, z10 := fun p q => (h.z10 p q).kept hb, s10 := fun p => (h.s10 p).kept hb, t11 := fun p => Nat.lt_of_lt_of_le (h.t11 p) hb.size, z11 := fun p q => (h.z11 p q).kept hb, s11 := fun p => (h.s11 p).kept hb }
def S7.I (s t : D) (d0 d1 d2 d3 d4 d5 p q u v er : Int) (b0 b1 n0 : Nat) (w0 : World) : Act → Array Bool → Act → World → Prop := fun a0 L a w => ∃ (l0 l1 l2 l3 l4 l5 l6 l7 l8 l9 l10 l11 l12 l13 l14 l15 : Bool) (v0 v1 v2 v3 v4 v5 v6 v7 v8 v9 v10 v11 v15 : Value) (b9 b10 b11 : Nat), L = #[l0, l1, l2, l3, l4, l5, l6, l7, l8, l9, l10, l11, l12, l13, l14, l15] ∧ a = (((((((((((((a0.put (some 12) v0).put (some 13) v1).put (some 14) v2).put (some 15) v3).put (some 11) v4).put (some 16) v5).put (some 17) v6).put (some 18) v7).put (some 19) v8).put (some 5) v9).put (some 6) v10).put (some 7) v11).put (some 8) v15) ∧ S7 s t d0 d1 d2 d3 d4 d5 p q u v er b0 b1 n0 w0 w l0 l1 l2 l3 l4 l5 l6 l7 l8 l9 l10 l11 l12 l13 l14 l15 v0 v1 v2 v3 v4 v5 v6 v7 v8 v9 v10 v11 v15 b9 b10 b11
end Go.Proofs.Ytedfciddfpcifaa.Iv
