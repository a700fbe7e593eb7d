/- Contract of the reference's Refract. -/
import Derived.Test.YtjppcndhaejfpaaRg1
namespace Go.Proofs.Ytjppcndhaejfpaa.Iv
open Go.RowKit

theorem bodyPost_box3 {P : Program} {fn : Func} {R : Ending → World → Prop} {a : Act} {w : World} {v : Value} {b c d : Nat} {cs ds es : List Value} (hB : Bx w b cs) (hC : Bx w c ds) (hD : Bx w d es)
    (hr : ∀ X : World, (∀ j, X.cell? ⟨b, j, none⟩ = cs[j]?) → (∀ j, X.cell? ⟨c, j, none⟩ = ds[j]?) → (∀ j, X.cell? ⟨d, j, none⟩ = es[j]?) → (results fn a.tmps).run P X = .ok v X) (hd : a.defers = []) (hR : R (.returned v) w) : bodyPost P fn R .ret a w := ⟨hd, v, hr w hB.c hC.c hD.c, hR⟩
theorem refr_eq {s t : D} {a b : Int} {c r f n1 n2 : R} {g1 g2 o : RD} {p4 q4 : Int} (v : vB a b = true) (h1 : dotR s t = c) (h2 : radR c.lo c.hi a b = r) (h4 : afterR c.lo c.hi r.lo r.hi = f) (hp : f.lo = p4) (hq : f.hi = q4)
    (h5 : scaleD s a b = g1) (h6 : mulR a b c.lo c.hi = n1) (h7 : subR p4 q4 n1.lo n1.hi = n2) (h8 : scaleD t n2.lo n2.hi = g2) (h9 : addD g1.d g2.d = o) :
    refrR s t a b = if c.e = 0 then (if sgn c.lo c.hi = 0 then failF 9 else if r.e = 0 then (if r.lo < 0 then failF 15 else
      if g1.e = 0 then (if keepE (keepE 0 n1.e) n2.e = 0 then (if g2.e = 0 then (if o.e = 0 then ⟨o.d, c.lo, c.hi, p4, q4, 0⟩ else failF o.e) else failF g2.e) else failF (keepE (keepE 0 n1.e) n2.e)) else failF g1.e) else failF r.e) else failF c.e := by
  subst hp hq
  by_cases h : (vD s && vD t) = true
  · rw [show refrR s t a b = _ from if_pos ⟨h, v⟩, h1, h2, h4]
    by_cases c1 : c.e = 0
    · rw [if_pos c1, if_pos c1]
      by_cases c2 : sgn c.lo c.hi = 0
      · rw [if_pos c2, if_pos c2]
      · rw [if_neg c2, if_neg c2]
        by_cases c3 : r.e = 0
        · rw [if_pos c3, if_pos c3]
          by_cases c4 : r.lo < 0
          · rw [if_pos c4, if_pos c4]
          · rw [if_neg c4, if_neg c4]
            unfold tailF
            dsimp only
            rw [goOnD0, h5]
            by_cases c5 : g1.e = 0
            · rw [if_pos c5, c5, goOn0, h6]
              by_cases c6 : n1.e = 0
              · rw [c6, goOn0, h7, show keepE 0 0 = 0 from rfl, show keepE 0 n2.e = n2.e from if_pos rfl]
                by_cases c7 : n2.e = 0
                · rw [if_pos c7, c7, goOnD0, h8]
                  by_cases c8 : g2.e = 0
                  · rw [if_pos c8, c8, goOnD0, h9]
                  · rw [if_neg c8]
                    simp [goOnD, c8]
                · rw [if_neg c7]
                  simp [goOnD, c7]
              · simp [goOn, goOnD, keepE, c6]
            · rw [if_neg c5]
              simp [goOn, goOnD, c5]
        · rw [if_neg c3, if_neg c3]
    · rw [if_neg c1, if_neg c1]
  · rw [show refrR s t a b = _ from if_neg (fun x => h x.1)]
    have e : dotR s t = ⟨0, 0, 1⟩ := if_neg (fun x => h (by simp [x.1, x.2]))
    rw [e] at h1
    subst h1
    rw [if_neg (by decide)]
structure Rz (s t : D) (a b p1 q1 p2 q2 p4 q4 p6 q6 p7 q7 d0 d1 d2 d3 d4 d5 E3 E4 : Int) (nb bb bq ba bd c n0 : Nat) (w0 w : World) (l0 l1 l2 l3 l4 l5 l6 l7 l8 : Bool) (v0 v1 v2 v3 v4 v5 v6 v7 : Value) (b7 : Nat) : Prop where
  g : Ho w0 w (nb + 1 + 1 + 1) [(nb + 1 + 1, [.int .i64 a, .int .i64 b]), (nb + 1, [.int .i64 t.a, .int .i64 t.b, .int .i64 t.c, .int .i64 t.d, .int .i64 t.e, .int .i64 t.f]), (nb, [.int .i64 s.a, .int .i64 s.b, .int .i64 s.c, .int .i64 s.d, .int .i64 s.e, .int .i64 s.f])]
  sz : n0 ≤ w.heap.size
  mn : (nb + 1 + 1 + 1) ≤ n0
  u0 : Bx w (nb + 1 + 1 + 1) [.int .i64 0, .int .i64 0, .int .i64 0, .int .i64 0, .int .i64 0, .int .i64 0]
  un0 : (nb + 1 + 1 + 1) < n0
  uc0 : ¬ ((nb + 1 + 1 + 1) = c)
  u1 : Bx w (nb + 1 + 1 + 1 + 1) [.int .i64 0, .int .i64 0]
  un1 : (nb + 1 + 1 + 1 + 1) < n0
  uc1 : ¬ ((nb + 1 + 1 + 1 + 1) = c)
  u2 : Bx w (nb + 1 + 1 + 1 + 1 + 1) [.int .i64 0, .int .i64 0]
  un2 : (nb + 1 + 1 + 1 + 1 + 1) < n0
  uc2 : ¬ ((nb + 1 + 1 + 1 + 1 + 1) = c)
  u3 : Bx w (nb + 1 + 1 + 1 + 1 + 1 + 1) [.int .i64 0, .int .i64 0]
  un3 : (nb + 1 + 1 + 1 + 1 + 1 + 1) < n0
  uc3 : ¬ ((nb + 1 + 1 + 1 + 1 + 1 + 1) = c)
  u4 : Bx w bb [.int .i64 p1, .int .i64 q1]
  un4 : bb < n0
  uc4 : ¬ (bb = c)
  u5 : Bx w bq [.int .i64 p2, .int .i64 q2]
  un5 : bq < n0
  uc5 : ¬ (bq = c)
  u6 : Bx w ba [.int .i64 p4, .int .i64 q4]
  un6 : ba < n0
  uc6 : ¬ (ba = c)
  u7 : Bx w bd [.int .i64 d0, .int .i64 d1, .int .i64 d2, .int .i64 d3, .int .i64 d4, .int .i64 d5]
  un7 : bd < n0
  uc7 : ¬ (bd = c)
  mc : (nb + 1 + 1 + 1) ≤ c
  cn : c < n0
  qq6 : l6 = true → l5 = true
  k0 : l5 = false → Ce w c 0
  k1 : l5 = true → l6 = false → Ce w c E3
  k2 : l6 = true → Ce w c E4
  ev0 : l0 = true → v0 = .pointer (some ⟨c, 0, none⟩)
  ev1 : l1 = true → v1 = (iv p4 q4)
  ev2 : l2 = true → v2 = .pointer (some ⟨c, 0, none⟩)
  ev3 : l3 = true → v3 = (iv a b)
  ev4 : l4 = true → v4 = (iv p1 q1)
  ev5 : l5 = true → v5 = (iv p6 q6)
  ev6 : l6 = true → v6 = (iv p7 q7)
  ev7 : l7 = true → v7 = .pointer (some ⟨b7, 0, none⟩)
  g7 : l7 = true → n0 ≤ b7
  t7 : l7 = true → b7 < w.heap.size
  o7 : l8 = true → l7 = true
  z7 : l7 = true → l8 = false → Bx w b7 [.int .i64 0, .int .i64 0]
  s7 : l8 = true → Bx w b7 [.int .i64 p7, .int .i64 q7]
theorem Rz.kept {s t : D} {a b p1 q1 p2 q2 p4 q4 p6 q6 p7 q7 d0 d1 d2 d3 d4 d5 E3 E4 : Int} {nb bb bq ba bd c n0 : Nat} {w0 w : World} {l0 l1 l2 l3 l4 l5 l6 l7 l8 : Bool} {v0 v1 v2 v3 v4 v5 v6 v7 : Value} {b7 : Nat} {w' : World} (h : Rz s t a b p1 q1 p2 q2 p4 q4 p6 q6 p7 q7 d0 d1 d2 d3 d4 d5 E3 E4 nb bb bq ba bd c n0 w0 w l0 l1 l2 l3 l4 l5 l6 l7 l8 v0 v1 v2 v3 v4 v5 v6 v7 b7) (hb : Below w.heap.size w w') : Rz s t a b p1 q1 p2 q2 p4 q4 p6 q6 p7 q7 d0 d1 d2 d3 d4 d5 E3 E4 nb bb bq ba bd c n0 w0 w' l0 l1 l2 l3 l4 l5 l6 l7 l8 v0 v1 v2 v3 v4 v5 v6 v7 b7 :=
  { h with g := h.g.call hb, sz := Nat.le_trans h.sz hb.size, u0 := h.u0.kept hb, u1 := h.u1.kept hb, u2 := h.u2.kept hb, u3 := h.u3.kept hb, u4 := h.u4.kept hb, u5 := h.u5.kept hb, u6 := h.u6.kept hb, u7 := h.u7.kept hb, k0 := fun p0 => (h.k0 p0).kept hb, k1 := fun p0 p1 => (h.k1 p0 p1).kept hb, k2 := fun p0 => (h.k2 p0).kept hb, t7 := fun p => Nat.lt_of_lt_of_le (h.t7 p) hb.size, z7 := fun p q => (h.z7 p q).kept hb, s7 := fun p => (h.s7 p).kept hb }
def Rz.I (s t : D) (a b p1 q1 p2 q2 p4 q4 p6 q6 p7 q7 d0 d1 d2 d3 d4 d5 E3 E4 : Int) (nb bb bq ba bd c n0 : Nat) (w0 : World) : Act → Array Bool → Act → World → Prop := fun aO LX aX w => ∃ (l0 l1 l2 l3 l4 l5 l6 l7 l8 : Bool) (v0 v1 v2 v3 v4 v5 v6 v7 : Value) (b7 : Nat), LX = #[l0, l1, l2, l3, l4, l5, l6, l7, l8] ∧ aX = ((((((((aO.put (some 99) v0).put (some 100) v1).put (some 101) v2).put (some 102) v3).put (some 103) v4).put (some 104) v5).put (some 105) v6).put (some 18) v7) ∧ Rz s t a b p1 q1 p2 q2 p4 q4 p6 q6 p7 q7 d0 d1 d2 d3 d4 d5 E3 E4 nb bb bq ba bd c n0 w0 w l0 l1 l2 l3 l4 l5 l6 l7 l8 v0 v1 v2 v3 v4 v5 v6 v7 b7
set_option maxRecDepth 100000 in
set_option maxHeartbeats 16000000 in
theorem rfrefr_any (s t : D) (a b : Int) (w : World) :
    Calls Try.prog 21 #[dv s, dv t, iv a b] w fun e w' => e = retF (refrR s t a b) ∧ Below w.heap.size w w' := by
  cases hv : vB a b
  · rw [show refrR s t a b = failF 1 from if_neg (by rw [hv]; simp)]
    have VB := Lib.hid hv
    clear hv
    have H0 := ((((Ho.nil w).bx [.int .i64 s.a, .int .i64 s.b, .int .i64 s.c, .int .i64 s.d, .int .i64 s.e, .int .i64 s.f] 30 (w.heap.size) (by simp)).bx [.int .i64 t.a, .int .i64 t.b, .int .i64 t.c, .int .i64 t.d, .int .i64 t.e, .int .i64 t.f] 30 (w.heap.size + 1) (by simp)).bx [.int .i64 a, .int .i64 b] 23 (w.heap.size + 1 + 1) (by simp))
    have o_0 : Bx (((((((w.alloc (.cells (List.toArray [.int .i64 s.a, .int .i64 s.b, .int .i64 s.c, .int .i64 s.d, .int .i64 s.e, .int .i64 s.f]) 30)).alloc (.cells (List.toArray [.int .i64 t.a, .int .i64 t.b, .int .i64 t.c, .int .i64 t.d, .int .i64 t.e, .int .i64 t.f]) 30)).alloc (.cells (List.toArray [.int .i64 a, .int .i64 b]) 23)).alloc (.cells (List.toArray [.int .i64 0, .int .i64 0, .int .i64 0, .int .i64 0, .int .i64 0, .int .i64 0]) 30)).alloc (.cells (List.toArray [.int .i64 0, .int .i64 0]) 23)).alloc (.cells (List.toArray [.int .i64 0, .int .i64 0]) 23)).alloc (.cells (List.toArray [.int .i64 0, .int .i64 0]) 23)) (w.heap.size + 1 + 1 + 1) [.int .i64 0, .int .i64 0, .int .i64 0, .int .i64 0, .int .i64 0, .int .i64 0] := by
      (repeat (first | (with_reducible refine Bx.new ?_; (· (simp; done))) | with_reducible apply Bx.put6 | with_reducible apply Bx.put2 | with_reducible apply Bx.put1 | with_reducible refine Bx.set ?_ (by omega) | with_reducible refine Bx.alc ?_ _ | with_reducible refine Bx.drew ?_))
    have u_0 : Bx (((((((w.alloc (.cells (List.toArray [.int .i64 s.a, .int .i64 s.b, .int .i64 s.c, .int .i64 s.d, .int .i64 s.e, .int .i64 s.f]) 30)).alloc (.cells (List.toArray [.int .i64 t.a, .int .i64 t.b, .int .i64 t.c, .int .i64 t.d, .int .i64 t.e, .int .i64 t.f]) 30)).alloc (.cells (List.toArray [.int .i64 a, .int .i64 b]) 23)).alloc (.cells (List.toArray [.int .i64 0, .int .i64 0, .int .i64 0, .int .i64 0, .int .i64 0, .int .i64 0]) 30)).alloc (.cells (List.toArray [.int .i64 0, .int .i64 0]) 23)).alloc (.cells (List.toArray [.int .i64 0, .int .i64 0]) 23)).alloc (.cells (List.toArray [.int .i64 0, .int .i64 0]) 23)) (w.heap.size + 1 + 1 + 1 + 1) [.int .i64 0, .int .i64 0] := by
      (repeat (first | (with_reducible refine Bx.new ?_; (· (simp; done))) | with_reducible apply Bx.put6 | with_reducible apply Bx.put2 | with_reducible apply Bx.put1 | with_reducible refine Bx.set ?_ (by omega) | with_reducible refine Bx.alc ?_ _ | with_reducible refine Bx.drew ?_))
    have v_0 : Bx (((((((w.alloc (.cells (List.toArray [.int .i64 s.a, .int .i64 s.b, .int .i64 s.c, .int .i64 s.d, .int .i64 s.e, .int .i64 s.f]) 30)).alloc (.cells (List.toArray [.int .i64 t.a, .int .i64 t.b, .int .i64 t.c, .int .i64 t.d, .int .i64 t.e, .int .i64 t.f]) 30)).alloc (.cells (List.toArray [.int .i64 a, .int .i64 b]) 23)).alloc (.cells (List.toArray [.int .i64 0, .int .i64 0, .int .i64 0, .int .i64 0, .int .i64 0, .int .i64 0]) 30)).alloc (.cells (List.toArray [.int .i64 0, .int .i64 0]) 23)).alloc (.cells (List.toArray [.int .i64 0, .int .i64 0]) 23)).alloc (.cells (List.toArray [.int .i64 0, .int .i64 0]) 23)) (w.heap.size + 1 + 1 + 1 + 1 + 1) [.int .i64 0, .int .i64 0] := by
      (repeat (first | (with_reducible refine Bx.new ?_; (· (simp; done))) | with_reducible apply Bx.put6 | with_reducible apply Bx.put2 | with_reducible apply Bx.put1 | with_reducible refine Bx.set ?_ (by omega) | with_reducible refine Bx.alc ?_ _ | with_reducible refine Bx.drew ?_))
    have n_0 : Bx (((((((w.alloc (.cells (List.toArray [.int .i64 s.a, .int .i64 s.b, .int .i64 s.c, .int .i64 s.d, .int .i64 s.e, .int .i64 s.f]) 30)).alloc (.cells (List.toArray [.int .i64 t.a, .int .i64 t.b, .int .i64 t.c, .int .i64 t.d, .int .i64 t.e, .int .i64 t.f]) 30)).alloc (.cells (List.toArray [.int .i64 a, .int .i64 b]) 23)).alloc (.cells (List.toArray [.int .i64 0, .int .i64 0, .int .i64 0, .int .i64 0, .int .i64 0, .int .i64 0]) 30)).alloc (.cells (List.toArray [.int .i64 0, .int .i64 0]) 23)).alloc (.cells (List.toArray [.int .i64 0, .int .i64 0]) 23)).alloc (.cells (List.toArray [.int .i64 0, .int .i64 0]) 23)) (w.heap.size + 1 + 1 + 1 + 1 + 1 + 1) [.int .i64 0, .int .i64 0] := by
      (repeat (first | (with_reducible refine Bx.new ?_; (· (simp; done))) | with_reducible apply Bx.put6 | with_reducible apply Bx.put2 | with_reducible apply Bx.put1 | with_reducible refine Bx.set ?_ (by omega) | with_reducible refine Bx.alc ?_ _ | with_reducible refine Bx.drew ?_))
    go_enter Try.func21, Try.ntmps21
    go_wp2_with fail
    refine (rvalid_below a b _).mono ?_
    rintro r w1 ⟨rfl, hb⟩
    rw [VB.out]
    have H1 : Ho w w1 (w.heap.size + 1 + 1 + 1) [(w.heap.size + 1 + 1, [.int .i64 a, .int .i64 b]), (w.heap.size + 1, [.int .i64 t.a, .int .i64 t.b, .int .i64 t.c, .int .i64 t.d, .int .i64 t.e, .int .i64 t.f]), (w.heap.size, [.int .i64 s.a, .int .i64 s.b, .int .i64 s.c, .int .i64 s.d, .int .i64 s.e, .int .i64 s.f])] := Ho.call (by
      (repeat (first | with_reducible exact H0 | with_reducible refine Ho.alc ?_ _ | with_reducible refine Ho.drew ?_ | with_reducible refine Ho.put ?_ (by omega)))) hb
    have o_1 : Bx w1 (w.heap.size + 1 + 1 + 1) [.int .i64 0, .int .i64 0, .int .i64 0, .int .i64 0, .int .i64 0, .int .i64 0] := Bx.kept (by
      (repeat (first | with_reducible exact o_0 | with_reducible refine Bx.alc ?_ _ | with_reducible refine Bx.drew ?_ | with_reducible refine Bx.set ?_ (by omega)))) hb
    have u_1 : Bx w1 (w.heap.size + 1 + 1 + 1 + 1) [.int .i64 0, .int .i64 0] := Bx.kept (by
      (repeat (first | with_reducible exact u_0 | with_reducible refine Bx.alc ?_ _ | with_reducible refine Bx.drew ?_ | with_reducible refine Bx.set ?_ (by omega)))) hb
    have v_1 : Bx w1 (w.heap.size + 1 + 1 + 1 + 1 + 1) [.int .i64 0, .int .i64 0] := Bx.kept (by
      (repeat (first | with_reducible exact v_0 | with_reducible refine Bx.alc ?_ _ | with_reducible refine Bx.drew ?_ | with_reducible refine Bx.set ?_ (by omega)))) hb
    have n_1 : Bx w1 (w.heap.size + 1 + 1 + 1 + 1 + 1 + 1) [.int .i64 0, .int .i64 0] := Bx.kept (by
      (repeat (first | with_reducible exact n_0 | with_reducible refine Bx.alc ?_ _ | with_reducible refine Bx.drew ?_ | with_reducible refine Bx.set ?_ (by omega)))) hb
    have hz1 := hb.size
    (try simp at hz1)
    clear hb
    have hs1 := H1.size
    have o_1l := o_1.lt
    have u_1l := u_1.lt
    have v_1l := v_1.lt
    have n_1l := n_1.lt
    have oc := o_1.c
    have of := o_1.f
    have om : w.heap.size + 1 + 1 + 1 < w1.heap.size + 1 := by omega
    have uc := u_1.c
    have uf := u_1.f
    have um : w.heap.size + 1 + 1 + 1 + 1 < w1.heap.size + 1 := by omega
    have vc := v_1.c
    have vf := v_1.f
    have vm : w.heap.size + 1 + 1 + 1 + 1 + 1 < w1.heap.size + 1 := by omega
    have nc := n_1.c
    have nf := n_1.f
    have nm : w.heap.size + 1 + 1 + 1 + 1 + 1 + 1 < w1.heap.size + 1 := by omega
    have npq0 : ¬ (w.heap.size + 1 + 1 + 1 = w.heap.size + 1 + 1 + 1 + 1) := by omega
    have npq1 : ¬ (w.heap.size + 1 + 1 + 1 = w.heap.size + 1 + 1 + 1 + 1 + 1) := by omega
    have npq2 : ¬ (w.heap.size + 1 + 1 + 1 = w.heap.size + 1 + 1 + 1 + 1 + 1 + 1) := by omega
    have npq3 : ¬ (w.heap.size + 1 + 1 + 1 + 1 = w.heap.size + 1 + 1 + 1) := by omega
    have npq4 : ¬ (w.heap.size + 1 + 1 + 1 + 1 = w.heap.size + 1 + 1 + 1 + 1 + 1) := by omega
    have npq5 : ¬ (w.heap.size + 1 + 1 + 1 + 1 = w.heap.size + 1 + 1 + 1 + 1 + 1 + 1) := by omega
    have npq6 : ¬ (w.heap.size + 1 + 1 + 1 + 1 + 1 = w.heap.size + 1 + 1 + 1) := by omega
    have npq7 : ¬ (w.heap.size + 1 + 1 + 1 + 1 + 1 = w.heap.size + 1 + 1 + 1 + 1) := by omega
    have npq8 : ¬ (w.heap.size + 1 + 1 + 1 + 1 + 1 = w.heap.size + 1 + 1 + 1 + 1 + 1 + 1) := by omega
    have npq9 : ¬ (w.heap.size + 1 + 1 + 1 + 1 + 1 + 1 = w.heap.size + 1 + 1 + 1) := by omega
    have npq10 : ¬ (w.heap.size + 1 + 1 + 1 + 1 + 1 + 1 = w.heap.size + 1 + 1 + 1 + 1) := by omega
    have npq11 : ¬ (w.heap.size + 1 + 1 + 1 + 1 + 1 + 1 = w.heap.size + 1 + 1 + 1 + 1 + 1) := by omega
    go_upto_region 3 with fail
    have NX : Bx w1.drew (w.heap.size + 1 + 1 + 1 + 1 + 1 + 1) [.int .i64 0, .int .i64 0] := by
      (repeat (first | with_reducible exact n_1 | with_reducible apply Bx.put6 | with_reducible apply Bx.put2 | with_reducible refine Bx.set ?_ (by omega) | with_reducible refine Bx.alc ?_ _ | with_reducible refine Bx.drew ?_))
    have pn0 : ¬ (w.heap.size + 1 + 1 + 1 + 1 + 1 + 1 = w.heap.size + 1 + 1 + 1) := by omega
    have pn1 : ¬ (w.heap.size + 1 + 1 + 1 + 1 + 1 + 1 = w.heap.size + 1 + 1 + 1 + 1) := by omega
    have pn2 : ¬ (w.heap.size + 1 + 1 + 1 + 1 + 1 + 1 = w.heap.size + 1 + 1 + 1 + 1 + 1) := by omega
    have N0 : Bx w1 (w.heap.size + 1 + 1 + 1 + 1 + 1 + 1) [.int .i64 0, .int .i64 0] := by
      (repeat (first | with_reducible exact n_1 | with_reducible apply Bx.put6 | with_reducible apply Bx.put2 | with_reducible refine Bx.set ?_ (by omega) | with_reducible refine Bx.alc ?_ _ | with_reducible refine Bx.drew ?_))
    go_region_held3 (fun X => (∀ j, X.cell? ⟨w.heap.size + 1 + 1 + 1 + 1 + 1 + 1, j, none⟩ = [.int .i64 0, .int .i64 0][j]?)) (with_reducible first | exact NX.c | exact ((((((NX.set pn0).set pn0).set pn0).set pn0).set pn0).set pn0).c | exact ((((((N0.set pn0).set pn0).set pn0).set pn0).set pn0).set pn0).drew.c | exact ((((((((NX.set pn0).set pn0).set pn0).set pn0).set pn0).set pn0).set pn1).set pn1).c | exact ((((((((N0.set pn0).set pn0).set pn0).set pn0).set pn0).set pn0).set pn1).set pn1).drew.c | exact ((((((((((NX.set pn0).set pn0).set pn0).set pn0).set pn0).set pn0).set pn1).set pn1).set pn2).set pn2).c | exact ((((((((((N0.set pn0).set pn0).set pn0).set pn0).set pn0).set pn0).set pn1).set pn1).set pn2).set pn2).drew.c) (fail)
    all_goals go_wp2_with fail
    all_goals refine bodyPost_box3 (b := w.heap.size + 1 + 1 + 1) (c := w.heap.size + 1 + 1 + 1 + 1) (d := w.heap.size + 1 + 1 + 1 + 1 + 1) (cs := [.int .i64 0, .int .i64 0, .int .i64 0, .int .i64 0, .int .i64 0, .int .i64 0]) (ds := [.int .i64 0, .int .i64 0]) (es := [.int .i64 0, .int .i64 0]) (v := .tuple #[dv zD, iv 0 0, iv 0 0, .int .i64 1]) (by
      (repeat (first | with_reducible exact o_1 | with_reducible apply Bx.put6 | with_reducible apply Bx.put2 | with_reducible refine Bx.set ?_ (by omega) | with_reducible refine Bx.alc ?_ _ | with_reducible refine Bx.drew ?_))) (by
      (repeat (first | with_reducible exact u_1 | with_reducible apply Bx.put6 | with_reducible apply Bx.put2 | with_reducible refine Bx.set ?_ (by omega) | with_reducible refine Bx.alc ?_ _ | with_reducible refine Bx.drew ?_))) (by
      (repeat (first | with_reducible exact v_1 | with_reducible apply Bx.put6 | with_reducible apply Bx.put2 | with_reducible refine Bx.set ?_ (by omega) | with_reducible refine Bx.alc ?_ _ | with_reducible refine Bx.drew ?_))) (fun X hX hY hZ => by simp [results, Try.results21, go_sem, hX, hY, hZ, zD]) rfl ⟨rfl, by
      refine Ho.below (n := w.heap.size + 1 + 1 + 1) (l := [(w.heap.size + 1 + 1, [.int .i64 a, .int .i64 b]), (w.heap.size + 1, [.int .i64 t.a, .int .i64 t.b, .int .i64 t.c, .int .i64 t.d, .int .i64 t.e, .int .i64 t.f]), (w.heap.size, [.int .i64 s.a, .int .i64 s.b, .int .i64 s.c, .int .i64 s.d, .int .i64 s.e, .int .i64 s.f])]) ?_
      (repeat (first | with_reducible exact H1 | with_reducible refine Ho.alc ?_ _ | with_reducible refine Ho.drew ?_ | with_reducible refine Ho.put ?_ (by omega)))⟩
  · obtain ⟨⟨p1, q1, e1⟩, h1⟩ : ∃ r : R, dotR s t = r := ⟨_, rfl⟩
    obtain ⟨⟨p2, q2, e2⟩, h2⟩ : ∃ r : R, radR p1 q1 a b = r := ⟨_, rfl⟩
    obtain ⟨⟨p4, q4, f4⟩, h4⟩ : ∃ r : R, afterR p1 q1 p2 q2 = r := ⟨_, rfl⟩
    obtain ⟨⟨⟨d0, d1, d2, d3, d4, d5⟩, e5⟩, h5⟩ : ∃ r : RD, scaleD s a b = r := ⟨_, rfl⟩
    obtain ⟨⟨p6, q6, f6⟩, h6⟩ : ∃ r : R, mulR a b p1 q1 = r := ⟨_, rfl⟩
    obtain ⟨⟨p7, q7, f7⟩, h7⟩ : ∃ r : R, subR p4 q4 p6 q6 = r := ⟨_, rfl⟩
    obtain ⟨⟨⟨g0, g1, g2, g3, g4, g5⟩, e8⟩, h8⟩ : ∃ r : RD, scaleD t p7 q7 = r := ⟨_, rfl⟩
    obtain ⟨⟨⟨x0, x1, x2, x3, x4, x5⟩, e9⟩, h9⟩ : ∃ r : RD, addD ⟨d0, d1, d2, d3, d4, d5⟩ ⟨g0, g1, g2, g3, g4, g5⟩ = r := ⟨_, rfl⟩
    obtain ⟨E3, k3⟩ : ∃ E, keepE 0 f6 = E := ⟨_, rfl⟩
    obtain ⟨E4, k4⟩ : ∃ E, keepE E3 f7 = E := ⟨_, rfl⟩
    have hk := refr_eq hv h1 h2 h4 rfl rfl h5 h6 h7 h8 h9
    dsimp only at hk
    rw [k3, k4] at hk
    have hsq : e1 = 0 → e2 = 0 → ¬ p2 < 0 → (sqrtR p2 q2).e = 0 ∧ (negR (sqrtR p2 q2).lo (sqrtR p2 q2).hi).e = 0 := by
      intro z1 z2 z3
      have hd : vD s = true ∧ vD t = true := by
        by_cases h : vD s = true ∧ vD t = true
        · exact h
        · have e : dotR s t = ⟨0, 0, 1⟩ := if_neg h
          rw [e] at h1
          injection h1 with _ _ h1
          rw [← h1] at z1
          exact absurd z1 (by decide)
      have hs : SubD s s := ⟨sub_refl (by have := hd.1; simp [vD] at this; exact this.1), sub_refl (by have := hd.1; simp [vD] at this; exact this.2.1), sub_refl (by have := hd.1; simp [vD] at this; exact this.2.2)⟩
      have ht : SubD t t := ⟨sub_refl (by have := hd.2; simp [vD] at this; exact this.1), sub_refl (by have := hd.2; simp [vD] at this; exact this.2.1), sub_refl (by have := hd.2; simp [vD] at this; exact this.2.2)⟩
      have y1 := (incl_dot hs ht (by rw [h1]; exact z1)).2
      rw [h1] at y1
      have y2 := (incl_rad y1 hv (by rw [h2]; exact z2)).2
      rw [h2] at y2
      have y3 := sqrt_e y2.v z3
      have y4 := (incl_sqrt y2 y3).2
      exact ⟨y3, by rw [negR, if_pos y4.v]⟩
    rw [hk]
    clear hk
    obtain ⟨⟨p3, q3, f3⟩, h3⟩ : ∃ r : R, sqrtR p2 q2 = r := ⟨_, rfl⟩
    rw [h3] at hsq
    dsimp only at hsq
    have ha : (sgn p1 q1 < 0 → negR p3 q3 = ⟨p4, q4, f4⟩) ∧ (¬ sgn p1 q1 < 0 → p3 = p4 ∧ q3 = q4) := by
      constructor
      · intro hlt
        rw [afterR, if_pos hlt, h3] at h4
        exact h4
      · intro hlt
        rw [afterR, if_neg hlt, h3] at h4
        injection h4 with y1 y2 _
        exact ⟨y1, y2⟩
    obtain ⟨sg, hsg⟩ : ∃ x, sgn p1 q1 = x := ⟨_, rfl⟩
    rw [hsg] at ha ⊢
    have VB := Lib.hid hv
    have HA := Lib.hid ha
    have HQ := Lib.hid hsq
    have XS := Lib.hid hsg
    have X1 := Lib.hid h1
    have X2 := Lib.hid h2
    have X3 := Lib.hid h3
    have X4 := Lib.hid h4
    have X5 := Lib.hid h5
    have X6 := Lib.hid h6
    have X7 := Lib.hid h7
    have X8 := Lib.hid h8
    have X9 := Lib.hid h9
    have Y3 := Lib.hid k3
    have Y4 := Lib.hid k4
    clear hv ha hsq hsg h1 h2 h3 h4 h5 h6 h7 h8 h9 k3 k4
    have H0 := ((((Ho.nil w).bx [.int .i64 s.a, .int .i64 s.b, .int .i64 s.c, .int .i64 s.d, .int .i64 s.e, .int .i64 s.f] 30 (w.heap.size) (by simp)).bx [.int .i64 t.a, .int .i64 t.b, .int .i64 t.c, .int .i64 t.d, .int .i64 t.e, .int .i64 t.f] 30 (w.heap.size + 1) (by simp)).bx [.int .i64 a, .int .i64 b] 23 (w.heap.size + 1 + 1) (by simp))
    have o_0 : Bx (((((((w.alloc (.cells (List.toArray [.int .i64 s.a, .int .i64 s.b, .int .i64 s.c, .int .i64 s.d, .int .i64 s.e, .int .i64 s.f]) 30)).alloc (.cells (List.toArray [.int .i64 t.a, .int .i64 t.b, .int .i64 t.c, .int .i64 t.d, .int .i64 t.e, .int .i64 t.f]) 30)).alloc (.cells (List.toArray [.int .i64 a, .int .i64 b]) 23)).alloc (.cells (List.toArray [.int .i64 0, .int .i64 0, .int .i64 0, .int .i64 0, .int .i64 0, .int .i64 0]) 30)).alloc (.cells (List.toArray [.int .i64 0, .int .i64 0]) 23)).alloc (.cells (List.toArray [.int .i64 0, .int .i64 0]) 23)).alloc (.cells (List.toArray [.int .i64 0, .int .i64 0]) 23)) (w.heap.size + 1 + 1 + 1) [.int .i64 0, .int .i64 0, .int .i64 0, .int .i64 0, .int .i64 0, .int .i64 0] := by
      (repeat (first | (with_reducible refine Bx.new ?_; (· (simp; done))) | with_reducible apply Bx.put6 | with_reducible apply Bx.put2 | with_reducible apply Bx.put1 | with_reducible refine Bx.set ?_ (by omega) | with_reducible refine Bx.alc ?_ _ | with_reducible refine Bx.drew ?_))
    have u_0 : Bx (((((((w.alloc (.cells (List.toArray [.int .i64 s.a, .int .i64 s.b, .int .i64 s.c, .int .i64 s.d, .int .i64 s.e, .int .i64 s.f]) 30)).alloc (.cells (List.toArray [.int .i64 t.a, .int .i64 t.b, .int .i64 t.c, .int .i64 t.d, .int .i64 t.e, .int .i64 t.f]) 30)).alloc (.cells (List.toArray [.int .i64 a, .int .i64 b]) 23)).alloc (.cells (List.toArray [.int .i64 0, .int .i64 0, .int .i64 0, .int .i64 0, .int .i64 0, .int .i64 0]) 30)).alloc (.cells (List.toArray [.int .i64 0, .int .i64 0]) 23)).alloc (.cells (List.toArray [.int .i64 0, .int .i64 0]) 23)).alloc (.cells (List.toArray [.int .i64 0, .int .i64 0]) 23)) (w.heap.size + 1 + 1 + 1 + 1) [.int .i64 0, .int .i64 0] := by
      (repeat (first | (with_reducible refine Bx.new ?_; (· (simp; done))) | with_reducible apply Bx.put6 | with_reducible apply Bx.put2 | with_reducible apply Bx.put1 | with_reducible refine Bx.set ?_ (by omega) | with_reducible refine Bx.alc ?_ _ | with_reducible refine Bx.drew ?_))
    have v_0 : Bx (((((((w.alloc (.cells (List.toArray [.int .i64 s.a, .int .i64 s.b, .int .i64 s.c, .int .i64 s.d, .int .i64 s.e, .int .i64 s.f]) 30)).alloc (.cells (List.toArray [.int .i64 t.a, .int .i64 t.b, .int .i64 t.c, .int .i64 t.d, .int .i64 t.e, .int .i64 t.f]) 30)).alloc (.cells (List.toArray [.int .i64 a, .int .i64 b]) 23)).alloc (.cells (List.toArray [.int .i64 0, .int .i64 0, .int .i64 0, .int .i64 0, .int .i64 0, .int .i64 0]) 30)).alloc (.cells (List.toArray [.int .i64 0, .int .i64 0]) 23)).alloc (.cells (List.toArray [.int .i64 0, .int .i64 0]) 23)).alloc (.cells (List.toArray [.int .i64 0, .int .i64 0]) 23)) (w.heap.size + 1 + 1 + 1 + 1 + 1) [.int .i64 0, .int .i64 0] := by
      (repeat (first | (with_reducible refine Bx.new ?_; (· (simp; done))) | with_reducible apply Bx.put6 | with_reducible apply Bx.put2 | with_reducible apply Bx.put1 | with_reducible refine Bx.set ?_ (by omega) | with_reducible refine Bx.alc ?_ _ | with_reducible refine Bx.drew ?_))
    have n_0 : Bx (((((((w.alloc (.cells (List.toArray [.int .i64 s.a, .int .i64 s.b, .int .i64 s.c, .int .i64 s.d, .int .i64 s.e, .int .i64 s.f]) 30)).alloc (.cells (List.toArray [.int .i64 t.a, .int .i64 t.b, .int .i64 t.c, .int .i64 t.d, .int .i64 t.e, .int .i64 t.f]) 30)).alloc (.cells (List.toArray [.int .i64 a, .int .i64 b]) 23)).alloc (.cells (List.toArray [.int .i64 0, .int .i64 0, .int .i64 0, .int .i64 0, .int .i64 0, .int .i64 0]) 30)).alloc (.cells (List.toArray [.int .i64 0, .int .i64 0]) 23)).alloc (.cells (List.toArray [.int .i64 0, .int .i64 0]) 23)).alloc (.cells (List.toArray [.int .i64 0, .int .i64 0]) 23)) (w.heap.size + 1 + 1 + 1 + 1 + 1 + 1) [.int .i64 0, .int .i64 0] := by
      (repeat (first | (with_reducible refine Bx.new ?_; (· (simp; done))) | with_reducible apply Bx.put6 | with_reducible apply Bx.put2 | with_reducible apply Bx.put1 | with_reducible refine Bx.set ?_ (by omega) | with_reducible refine Bx.alc ?_ _ | with_reducible refine Bx.drew ?_))
    go_enter Try.func21, Try.ntmps21
    go_wp2_with fail
    refine (rvalid_below a b _).mono ?_
    rintro r w1 ⟨rfl, hb⟩
    rw [VB.out]
    have H1 : Ho w w1 (w.heap.size + 1 + 1 + 1) [(w.heap.size + 1 + 1, [.int .i64 a, .int .i64 b]), (w.heap.size + 1, [.int .i64 t.a, .int .i64 t.b, .int .i64 t.c, .int .i64 t.d, .int .i64 t.e, .int .i64 t.f]), (w.heap.size, [.int .i64 s.a, .int .i64 s.b, .int .i64 s.c, .int .i64 s.d, .int .i64 s.e, .int .i64 s.f])] := Ho.call (by
      (repeat (first | with_reducible exact H0 | with_reducible refine Ho.alc ?_ _ | with_reducible refine Ho.drew ?_ | with_reducible refine Ho.put ?_ (by omega)))) hb
    have o_1 : Bx w1 (w.heap.size + 1 + 1 + 1) [.int .i64 0, .int .i64 0, .int .i64 0, .int .i64 0, .int .i64 0, .int .i64 0] := Bx.kept (by
      (repeat (first | with_reducible exact o_0 | with_reducible refine Bx.alc ?_ _ | with_reducible refine Bx.drew ?_ | with_reducible refine Bx.set ?_ (by omega)))) hb
    have u_1 : Bx w1 (w.heap.size + 1 + 1 + 1 + 1) [.int .i64 0, .int .i64 0] := Bx.kept (by
      (repeat (first | with_reducible exact u_0 | with_reducible refine Bx.alc ?_ _ | with_reducible refine Bx.drew ?_ | with_reducible refine Bx.set ?_ (by omega)))) hb
    have v_1 : Bx w1 (w.heap.size + 1 + 1 + 1 + 1 + 1) [.int .i64 0, .int .i64 0] := Bx.kept (by
      (repeat (first | with_reducible exact v_0 | with_reducible refine Bx.alc ?_ _ | with_reducible refine Bx.drew ?_ | with_reducible refine Bx.set ?_ (by omega)))) hb
    have n_1 : Bx w1 (w.heap.size + 1 + 1 + 1 + 1 + 1 + 1) [.int .i64 0, .int .i64 0] := Bx.kept (by
      (repeat (first | with_reducible exact n_0 | with_reducible refine Bx.alc ?_ _ | with_reducible refine Bx.drew ?_ | with_reducible refine Bx.set ?_ (by omega)))) hb
    have hz1 := hb.size
    (try simp at hz1)
    clear hb
    have hs1 := H1.size
    have o_1l := o_1.lt
    have u_1l := u_1.lt
    have v_1l := v_1.lt
    have n_1l := n_1.lt
    have h0_1 := (H1.at 2 rfl).c
    have hl0_1 := (H1.at 2 rfl).lt
    have h1_1 := (H1.at 1 rfl).c
    have hl1_1 := (H1.at 1 rfl).lt
    go_wp2_with fail
    refine (rfdot_any s t _).mono ?_
    rintro r w2 ⟨rfl, hb⟩
    rw [X1.out]
    have H2 : Ho w w2 (w.heap.size + 1 + 1 + 1) [(w.heap.size + 1 + 1, [.int .i64 a, .int .i64 b]), (w.heap.size + 1, [.int .i64 t.a, .int .i64 t.b, .int .i64 t.c, .int .i64 t.d, .int .i64 t.e, .int .i64 t.f]), (w.heap.size, [.int .i64 s.a, .int .i64 s.b, .int .i64 s.c, .int .i64 s.d, .int .i64 s.e, .int .i64 s.f])] := Ho.call (by
      (repeat (first | with_reducible exact H1 | with_reducible refine Ho.alc ?_ _ | with_reducible refine Ho.drew ?_ | with_reducible refine Ho.put ?_ (by omega)))) hb
    have o_2 : Bx w2 (w.heap.size + 1 + 1 + 1) [.int .i64 0, .int .i64 0, .int .i64 0, .int .i64 0, .int .i64 0, .int .i64 0] := Bx.kept (by
      (repeat (first | with_reducible exact o_1 | with_reducible refine Bx.alc ?_ _ | with_reducible refine Bx.drew ?_ | with_reducible refine Bx.set ?_ (by omega)))) hb
    have u_2 : Bx w2 (w.heap.size + 1 + 1 + 1 + 1) [.int .i64 0, .int .i64 0] := Bx.kept (by
      (repeat (first | with_reducible exact u_1 | with_reducible refine Bx.alc ?_ _ | with_reducible refine Bx.drew ?_ | with_reducible refine Bx.set ?_ (by omega)))) hb
    have v_2 : Bx w2 (w.heap.size + 1 + 1 + 1 + 1 + 1) [.int .i64 0, .int .i64 0] := Bx.kept (by
      (repeat (first | with_reducible exact v_1 | with_reducible refine Bx.alc ?_ _ | with_reducible refine Bx.drew ?_ | with_reducible refine Bx.set ?_ (by omega)))) hb
    have n_2 : Bx w2 (w.heap.size + 1 + 1 + 1 + 1 + 1 + 1) [.int .i64 0, .int .i64 0] := Bx.kept (by
      (repeat (first | with_reducible exact n_1 | with_reducible refine Bx.alc ?_ _ | with_reducible refine Bx.drew ?_ | with_reducible refine Bx.set ?_ (by omega)))) hb
    have hz2 := hb.size
    (try simp at hz2)
    clear hb
    clear h0_1 hl0_1 h1_1 hl1_1
    have hs2 := H2.size
    have o_2l := o_2.lt
    have u_2l := u_2.lt
    have v_2l := v_2.lt
    have n_2l := n_2.lt
    by_cases he1 : e1 = 0
    · subst he1
      go_wp2_with fail
      refine (rsign_any p1 q1 _).mono ?_
      rintro r w3 ⟨rfl, hb⟩
      rw [XS.out]
      have H3 : Ho w w3 (w.heap.size + 1 + 1 + 1) [(w.heap.size + 1 + 1, [.int .i64 a, .int .i64 b]), (w.heap.size + 1, [.int .i64 t.a, .int .i64 t.b, .int .i64 t.c, .int .i64 t.d, .int .i64 t.e, .int .i64 t.f]), (w.heap.size, [.int .i64 s.a, .int .i64 s.b, .int .i64 s.c, .int .i64 s.d, .int .i64 s.e, .int .i64 s.f])] := Ho.call (by
        (repeat (first | with_reducible exact H2 | with_reducible refine Ho.alc ?_ _ | with_reducible refine Ho.drew ?_ | with_reducible refine Ho.put ?_ (by omega)))) hb
      have o_3 : Bx w3 (w.heap.size + 1 + 1 + 1) [.int .i64 0, .int .i64 0, .int .i64 0, .int .i64 0, .int .i64 0, .int .i64 0] := Bx.kept (by
        (repeat (first | with_reducible exact o_2 | with_reducible refine Bx.alc ?_ _ | with_reducible refine Bx.drew ?_ | with_reducible refine Bx.set ?_ (by omega)))) hb
      have u_3 : Bx w3 (w.heap.size + 1 + 1 + 1 + 1) [.int .i64 0, .int .i64 0] := Bx.kept (by
        (repeat (first | with_reducible exact u_2 | with_reducible refine Bx.alc ?_ _ | with_reducible refine Bx.drew ?_ | with_reducible refine Bx.set ?_ (by omega)))) hb
      have v_3 : Bx w3 (w.heap.size + 1 + 1 + 1 + 1 + 1) [.int .i64 0, .int .i64 0] := Bx.kept (by
        (repeat (first | with_reducible exact v_2 | with_reducible refine Bx.alc ?_ _ | with_reducible refine Bx.drew ?_ | with_reducible refine Bx.set ?_ (by omega)))) hb
      have n_3 : Bx w3 (w.heap.size + 1 + 1 + 1 + 1 + 1 + 1) [.int .i64 0, .int .i64 0] := Bx.kept (by
        (repeat (first | with_reducible exact n_2 | with_reducible refine Bx.alc ?_ _ | with_reducible refine Bx.drew ?_ | with_reducible refine Bx.set ?_ (by omega)))) hb
      have B_3 : Bx w3 (w2.heap.size) [.int .i64 p1, .int .i64 q1] := Bx.kept (by
        (repeat (first | (with_reducible refine Bx.new ?_; (· (simp; done))) | with_reducible apply Bx.put6 | with_reducible apply Bx.put2 | with_reducible apply Bx.put1 | with_reducible refine Bx.set ?_ (by omega) | with_reducible refine Bx.alc ?_ _ | with_reducible refine Bx.drew ?_))) hb
      have hz3 := hb.size
      (try simp at hz3)
      clear hb
      have hs3 := H3.size
      have o_3l := o_3.lt
      have u_3l := u_3.lt
      have v_3l := v_3.lt
      have n_3l := n_3.lt
      have B_3l := B_3.lt
      have h2_3 := (H3.at 0 rfl).c
      have hl2_3 := (H3.at 0 rfl).lt
      have B_3c := B_3.c
      have B_3f := B_3.f
      have B_3m : w2.heap.size < w3.heap.size + 1 := by omega
      by_cases hsz : sg = 0
      · subst hsz
        have oc := o_3.c
        have of := o_3.f
        have om : w.heap.size + 1 + 1 + 1 < w3.heap.size + 1 := by omega
        have uc := u_3.c
        have uf := u_3.f
        have um : w.heap.size + 1 + 1 + 1 + 1 < w3.heap.size + 1 := by omega
        have vc := v_3.c
        have vf := v_3.f
        have vm : w.heap.size + 1 + 1 + 1 + 1 + 1 < w3.heap.size + 1 := by omega
        have nc := n_3.c
        have nf := n_3.f
        have nm : w.heap.size + 1 + 1 + 1 + 1 + 1 + 1 < w3.heap.size + 1 := by omega
        have npq0 : ¬ (w.heap.size + 1 + 1 + 1 = w.heap.size + 1 + 1 + 1 + 1) := by omega
        have npq1 : ¬ (w.heap.size + 1 + 1 + 1 = w.heap.size + 1 + 1 + 1 + 1 + 1) := by omega
        have npq2 : ¬ (w.heap.size + 1 + 1 + 1 = w.heap.size + 1 + 1 + 1 + 1 + 1 + 1) := by omega
        have npq3 : ¬ (w.heap.size + 1 + 1 + 1 + 1 = w.heap.size + 1 + 1 + 1) := by omega
        have npq4 : ¬ (w.heap.size + 1 + 1 + 1 + 1 = w.heap.size + 1 + 1 + 1 + 1 + 1) := by omega
        have npq5 : ¬ (w.heap.size + 1 + 1 + 1 + 1 = w.heap.size + 1 + 1 + 1 + 1 + 1 + 1) := by omega
        have npq6 : ¬ (w.heap.size + 1 + 1 + 1 + 1 + 1 = w.heap.size + 1 + 1 + 1) := by omega
        have npq7 : ¬ (w.heap.size + 1 + 1 + 1 + 1 + 1 = w.heap.size + 1 + 1 + 1 + 1) := by omega
        have npq8 : ¬ (w.heap.size + 1 + 1 + 1 + 1 + 1 = w.heap.size + 1 + 1 + 1 + 1 + 1 + 1) := by omega
        have npq9 : ¬ (w.heap.size + 1 + 1 + 1 + 1 + 1 + 1 = w.heap.size + 1 + 1 + 1) := by omega
        have npq10 : ¬ (w.heap.size + 1 + 1 + 1 + 1 + 1 + 1 = w.heap.size + 1 + 1 + 1 + 1) := by omega
        have npq11 : ¬ (w.heap.size + 1 + 1 + 1 + 1 + 1 + 1 = w.heap.size + 1 + 1 + 1 + 1 + 1) := by omega
        go_upto_region 9 with fail
        have NX : Bx w3.drew (w.heap.size + 1 + 1 + 1 + 1 + 1 + 1) [.int .i64 0, .int .i64 0] := by
          (repeat (first | with_reducible exact n_3 | with_reducible apply Bx.put6 | with_reducible apply Bx.put2 | with_reducible refine Bx.set ?_ (by omega) | with_reducible refine Bx.alc ?_ _ | with_reducible refine Bx.drew ?_))
        have pn0 : ¬ (w.heap.size + 1 + 1 + 1 + 1 + 1 + 1 = w.heap.size + 1 + 1 + 1) := by omega
        have pn1 : ¬ (w.heap.size + 1 + 1 + 1 + 1 + 1 + 1 = w.heap.size + 1 + 1 + 1 + 1) := by omega
        have pn2 : ¬ (w.heap.size + 1 + 1 + 1 + 1 + 1 + 1 = w.heap.size + 1 + 1 + 1 + 1 + 1) := by omega
        have N0 : Bx w3 (w.heap.size + 1 + 1 + 1 + 1 + 1 + 1) [.int .i64 0, .int .i64 0] := by
          (repeat (first | with_reducible exact n_3 | with_reducible apply Bx.put6 | with_reducible apply Bx.put2 | with_reducible refine Bx.set ?_ (by omega) | with_reducible refine Bx.alc ?_ _ | with_reducible refine Bx.drew ?_))
        go_region_held3 (fun X => (∀ j, X.cell? ⟨w.heap.size + 1 + 1 + 1 + 1 + 1 + 1, j, none⟩ = [.int .i64 0, .int .i64 0][j]?)) (with_reducible first | exact NX.c | exact ((((((NX.set pn0).set pn0).set pn0).set pn0).set pn0).set pn0).c | exact ((((((N0.set pn0).set pn0).set pn0).set pn0).set pn0).set pn0).drew.c | exact ((((((((NX.set pn0).set pn0).set pn0).set pn0).set pn0).set pn0).set pn1).set pn1).c | exact ((((((((N0.set pn0).set pn0).set pn0).set pn0).set pn0).set pn0).set pn1).set pn1).drew.c | exact ((((((((((NX.set pn0).set pn0).set pn0).set pn0).set pn0).set pn0).set pn1).set pn1).set pn2).set pn2).c | exact ((((((((((N0.set pn0).set pn0).set pn0).set pn0).set pn0).set pn0).set pn1).set pn1).set pn2).set pn2).drew.c) (fail)
        all_goals go_wp2_with fail
        all_goals refine bodyPost_box3 (b := w.heap.size + 1 + 1 + 1) (c := w.heap.size + 1 + 1 + 1 + 1) (d := w.heap.size + 1 + 1 + 1 + 1 + 1) (cs := [.int .i64 0, .int .i64 0, .int .i64 0, .int .i64 0, .int .i64 0, .int .i64 0]) (ds := [.int .i64 0, .int .i64 0]) (es := [.int .i64 0, .int .i64 0]) (v := .tuple #[dv zD, iv 0 0, iv 0 0, .int .i64 9]) (by
          (repeat (first | with_reducible exact o_3 | with_reducible apply Bx.put6 | with_reducible apply Bx.put2 | with_reducible refine Bx.set ?_ (by omega) | with_reducible refine Bx.alc ?_ _ | with_reducible refine Bx.drew ?_))) (by
          (repeat (first | with_reducible exact u_3 | with_reducible apply Bx.put6 | with_reducible apply Bx.put2 | with_reducible refine Bx.set ?_ (by omega) | with_reducible refine Bx.alc ?_ _ | with_reducible refine Bx.drew ?_))) (by
          (repeat (first | with_reducible exact v_3 | with_reducible apply Bx.put6 | with_reducible apply Bx.put2 | with_reducible refine Bx.set ?_ (by omega) | with_reducible refine Bx.alc ?_ _ | with_reducible refine Bx.drew ?_))) (fun X hX hY hZ => by simp [results, Try.results21, go_sem, hX, hY, hZ, zD]) rfl ⟨by first | rfl | (simp [retF, failF]; done), by
          refine Ho.below (n := w.heap.size + 1 + 1 + 1) (l := [(w.heap.size + 1 + 1, [.int .i64 a, .int .i64 b]), (w.heap.size + 1, [.int .i64 t.a, .int .i64 t.b, .int .i64 t.c, .int .i64 t.d, .int .i64 t.e, .int .i64 t.f]), (w.heap.size, [.int .i64 s.a, .int .i64 s.b, .int .i64 s.c, .int .i64 s.d, .int .i64 s.e, .int .i64 s.f])]) ?_
          (repeat (first | with_reducible exact H3 | with_reducible refine Ho.alc ?_ _ | with_reducible refine Ho.drew ?_ | with_reducible refine Ho.put ?_ (by omega)))⟩
      · have zsz : (sg == 0) = false := by simpa using hsz
        go_wp2_with fail
        refine (rfrad_any p1 q1 a b _).mono ?_
        rintro r w4 ⟨rfl, hb⟩
        rw [X2.out]
        have H4 : Ho w w4 (w.heap.size + 1 + 1 + 1) [(w.heap.size + 1 + 1, [.int .i64 a, .int .i64 b]), (w.heap.size + 1, [.int .i64 t.a, .int .i64 t.b, .int .i64 t.c, .int .i64 t.d, .int .i64 t.e, .int .i64 t.f]), (w.heap.size, [.int .i64 s.a, .int .i64 s.b, .int .i64 s.c, .int .i64 s.d, .int .i64 s.e, .int .i64 s.f])] := Ho.call (by
          (repeat (first | with_reducible exact H3 | with_reducible refine Ho.alc ?_ _ | with_reducible refine Ho.drew ?_ | with_reducible refine Ho.put ?_ (by omega)))) hb
        have o_4 : Bx w4 (w.heap.size + 1 + 1 + 1) [.int .i64 0, .int .i64 0, .int .i64 0, .int .i64 0, .int .i64 0, .int .i64 0] := Bx.kept (by
          (repeat (first | with_reducible exact o_3 | with_reducible refine Bx.alc ?_ _ | with_reducible refine Bx.drew ?_ | with_reducible refine Bx.set ?_ (by omega)))) hb
        have u_4 : Bx w4 (w.heap.size + 1 + 1 + 1 + 1) [.int .i64 0, .int .i64 0] := Bx.kept (by
          (repeat (first | with_reducible exact u_3 | with_reducible refine Bx.alc ?_ _ | with_reducible refine Bx.drew ?_ | with_reducible refine Bx.set ?_ (by omega)))) hb
        have v_4 : Bx w4 (w.heap.size + 1 + 1 + 1 + 1 + 1) [.int .i64 0, .int .i64 0] := Bx.kept (by
          (repeat (first | with_reducible exact v_3 | with_reducible refine Bx.alc ?_ _ | with_reducible refine Bx.drew ?_ | with_reducible refine Bx.set ?_ (by omega)))) hb
        have n_4 : Bx w4 (w.heap.size + 1 + 1 + 1 + 1 + 1 + 1) [.int .i64 0, .int .i64 0] := Bx.kept (by
          (repeat (first | with_reducible exact n_3 | with_reducible refine Bx.alc ?_ _ | with_reducible refine Bx.drew ?_ | with_reducible refine Bx.set ?_ (by omega)))) hb
        have B_4 : Bx w4 (w2.heap.size) [.int .i64 p1, .int .i64 q1] := Bx.kept (by
          (repeat (first | with_reducible exact B_3 | with_reducible refine Bx.alc ?_ _ | with_reducible refine Bx.drew ?_ | with_reducible refine Bx.set ?_ (by omega)))) hb
        have hz4 := hb.size
        (try simp at hz4)
        clear hb
        clear h2_3 hl2_3 B_3c B_3f B_3m
        have hs4 := H4.size
        have o_4l := o_4.lt
        have u_4l := u_4.lt
        have v_4l := v_4.lt
        have n_4l := n_4.lt
        have B_4l := B_4.lt
        by_cases he2 : e2 = 0
        · subst he2
          by_cases hp2 : p2 < 0
          · have hp2' : (decide (p2 < 0)) = true := by simpa using hp2
            have oc := o_4.c
            have of := o_4.f
            have om : w.heap.size + 1 + 1 + 1 < w4.heap.size + 1 := by omega
            have uc := u_4.c
            have uf := u_4.f
            have um : w.heap.size + 1 + 1 + 1 + 1 < w4.heap.size + 1 := by omega
            have vc := v_4.c
            have vf := v_4.f
            have vm : w.heap.size + 1 + 1 + 1 + 1 + 1 < w4.heap.size + 1 := by omega
            have nc := n_4.c
            have nf := n_4.f
            have nm : w.heap.size + 1 + 1 + 1 + 1 + 1 + 1 < w4.heap.size + 1 := by omega
            have npq0 : ¬ (w.heap.size + 1 + 1 + 1 = w.heap.size + 1 + 1 + 1 + 1) := by omega
            have npq1 : ¬ (w.heap.size + 1 + 1 + 1 = w.heap.size + 1 + 1 + 1 + 1 + 1) := by omega
            have npq2 : ¬ (w.heap.size + 1 + 1 + 1 = w.heap.size + 1 + 1 + 1 + 1 + 1 + 1) := by omega
            have npq3 : ¬ (w.heap.size + 1 + 1 + 1 + 1 = w.heap.size + 1 + 1 + 1) := by omega
            have npq4 : ¬ (w.heap.size + 1 + 1 + 1 + 1 = w.heap.size + 1 + 1 + 1 + 1 + 1) := by omega
            have npq5 : ¬ (w.heap.size + 1 + 1 + 1 + 1 = w.heap.size + 1 + 1 + 1 + 1 + 1 + 1) := by omega
            have npq6 : ¬ (w.heap.size + 1 + 1 + 1 + 1 + 1 = w.heap.size + 1 + 1 + 1) := by omega
            have npq7 : ¬ (w.heap.size + 1 + 1 + 1 + 1 + 1 = w.heap.size + 1 + 1 + 1 + 1) := by omega
            have npq8 : ¬ (w.heap.size + 1 + 1 + 1 + 1 + 1 = w.heap.size + 1 + 1 + 1 + 1 + 1 + 1) := by omega
            have npq9 : ¬ (w.heap.size + 1 + 1 + 1 + 1 + 1 + 1 = w.heap.size + 1 + 1 + 1) := by omega
            have npq10 : ¬ (w.heap.size + 1 + 1 + 1 + 1 + 1 + 1 = w.heap.size + 1 + 1 + 1 + 1) := by omega
            have npq11 : ¬ (w.heap.size + 1 + 1 + 1 + 1 + 1 + 1 = w.heap.size + 1 + 1 + 1 + 1 + 1) := by omega
            go_upto_region 14 with fail
            have NX : Bx (w4.alloc (.cells (List.toArray [.int .i64 p2, .int .i64 q2]) 23)).drew (w.heap.size + 1 + 1 + 1 + 1 + 1 + 1) [.int .i64 0, .int .i64 0] := by
              (repeat (first | with_reducible exact n_4 | with_reducible apply Bx.put6 | with_reducible apply Bx.put2 | with_reducible refine Bx.set ?_ (by omega) | with_reducible refine Bx.alc ?_ _ | with_reducible refine Bx.drew ?_))
            have pn0 : ¬ (w.heap.size + 1 + 1 + 1 + 1 + 1 + 1 = w.heap.size + 1 + 1 + 1) := by omega
            have pn1 : ¬ (w.heap.size + 1 + 1 + 1 + 1 + 1 + 1 = w.heap.size + 1 + 1 + 1 + 1) := by omega
            have pn2 : ¬ (w.heap.size + 1 + 1 + 1 + 1 + 1 + 1 = w.heap.size + 1 + 1 + 1 + 1 + 1) := by omega
            have N0 : Bx (w4.alloc (.cells (List.toArray [.int .i64 p2, .int .i64 q2]) 23)) (w.heap.size + 1 + 1 + 1 + 1 + 1 + 1) [.int .i64 0, .int .i64 0] := by
              (repeat (first | with_reducible exact n_4 | with_reducible apply Bx.put6 | with_reducible apply Bx.put2 | with_reducible refine Bx.set ?_ (by omega) | with_reducible refine Bx.alc ?_ _ | with_reducible refine Bx.drew ?_))
            go_region_held3 (fun X => (∀ j, X.cell? ⟨w.heap.size + 1 + 1 + 1 + 1 + 1 + 1, j, none⟩ = [.int .i64 0, .int .i64 0][j]?)) (with_reducible first | exact NX.c | exact (n_4.alc _).drew.c | exact ((((((NX.set pn0).set pn0).set pn0).set pn0).set pn0).set pn0).c | exact ((((((N0.set pn0).set pn0).set pn0).set pn0).set pn0).set pn0).drew.c | exact (((((((n_4.set pn0).set pn0).set pn0).set pn0).set pn0).set pn0).alc _).drew.c | exact ((((((((NX.set pn0).set pn0).set pn0).set pn0).set pn0).set pn0).set pn1).set pn1).c | exact ((((((((N0.set pn0).set pn0).set pn0).set pn0).set pn0).set pn0).set pn1).set pn1).drew.c | exact (((((((((n_4.set pn0).set pn0).set pn0).set pn0).set pn0).set pn0).set pn1).set pn1).alc _).drew.c | exact ((((((((((NX.set pn0).set pn0).set pn0).set pn0).set pn0).set pn0).set pn1).set pn1).set pn2).set pn2).c | exact ((((((((((N0.set pn0).set pn0).set pn0).set pn0).set pn0).set pn0).set pn1).set pn1).set pn2).set pn2).drew.c | exact (((((((((((n_4.set pn0).set pn0).set pn0).set pn0).set pn0).set pn0).set pn1).set pn1).set pn2).set pn2).alc _).drew.c) (fail)
            all_goals go_wp2_with fail
            all_goals refine bodyPost_box3 (b := w.heap.size + 1 + 1 + 1) (c := w.heap.size + 1 + 1 + 1 + 1) (d := w.heap.size + 1 + 1 + 1 + 1 + 1) (cs := [.int .i64 0, .int .i64 0, .int .i64 0, .int .i64 0, .int .i64 0, .int .i64 0]) (ds := [.int .i64 0, .int .i64 0]) (es := [.int .i64 0, .int .i64 0]) (v := .tuple #[dv zD, iv 0 0, iv 0 0, .int .i64 15]) (by
              (repeat (first | with_reducible exact o_4 | with_reducible apply Bx.put6 | with_reducible apply Bx.put2 | with_reducible refine Bx.set ?_ (by omega) | with_reducible refine Bx.alc ?_ _ | with_reducible refine Bx.drew ?_))) (by
              (repeat (first | with_reducible exact u_4 | with_reducible apply Bx.put6 | with_reducible apply Bx.put2 | with_reducible refine Bx.set ?_ (by omega) | with_reducible refine Bx.alc ?_ _ | with_reducible refine Bx.drew ?_))) (by
              (repeat (first | with_reducible exact v_4 | with_reducible apply Bx.put6 | with_reducible apply Bx.put2 | with_reducible refine Bx.set ?_ (by omega) | with_reducible refine Bx.alc ?_ _ | with_reducible refine Bx.drew ?_))) (fun X hX hY hZ => by simp [results, Try.results21, go_sem, hX, hY, hZ, zD]) rfl ⟨by first | rfl | (simp [retF, failF]; done) | (simp [retF, failF, hsz]; done) | (simp [retF, failF, hp2]; done) | (simp [retF, failF, hsz, hp2]; done), by
              refine Ho.below (n := w.heap.size + 1 + 1 + 1) (l := [(w.heap.size + 1 + 1, [.int .i64 a, .int .i64 b]), (w.heap.size + 1, [.int .i64 t.a, .int .i64 t.b, .int .i64 t.c, .int .i64 t.d, .int .i64 t.e, .int .i64 t.f]), (w.heap.size, [.int .i64 s.a, .int .i64 s.b, .int .i64 s.c, .int .i64 s.d, .int .i64 s.e, .int .i64 s.f])]) ?_
              (repeat (first | with_reducible exact H4 | with_reducible refine Ho.alc ?_ _ | with_reducible refine Ho.drew ?_ | with_reducible refine Ho.put ?_ (by omega)))⟩
          · have hp2' : (decide (p2 < 0)) = false := by simpa using hp2
            obtain ⟨zf3, zf4⟩ := HQ.out (by first | trivial | rfl) (by first | trivial | rfl) (by omega)
            subst zf3
            have ZF := Lib.hid zf4
            clear zf4
            go_wp2_with fail
            refine (csqrt_any w.heap.size (w4.heap.size + 1) p2 q2 0 _ (by simp [go_sem]) (by simp [go_sem])).mono ?_
            rintro r w5 ⟨rfl, st⟩
            rw [X3.out]
            rw [X3.out] at st
            dsimp only
            dsimp only at st
            rw [show keepE 0 0 = 0 from rfl] at st
            have H5 : Ho w w5 (w.heap.size + 1 + 1 + 1) [(w.heap.size + 1 + 1, [.int .i64 a, .int .i64 b]), (w.heap.size + 1, [.int .i64 t.a, .int .i64 t.b, .int .i64 t.c, .int .i64 t.d, .int .i64 t.e, .int .i64 t.f]), (w.heap.size, [.int .i64 s.a, .int .i64 s.b, .int .i64 s.c, .int .i64 s.d, .int .i64 s.e, .int .i64 s.f])] := Ho.step (by
              (repeat (first | with_reducible exact H4 | with_reducible refine Ho.alc ?_ _ | with_reducible refine Ho.drew ?_ | with_reducible refine Ho.put ?_ (by omega)))) st (by omega)
            have o_5 : Bx w5 (w.heap.size + 1 + 1 + 1) [.int .i64 0, .int .i64 0, .int .i64 0, .int .i64 0, .int .i64 0, .int .i64 0] := Bx.step (by
              (repeat (first | with_reducible exact o_4 | with_reducible refine Bx.alc ?_ _ | with_reducible refine Bx.drew ?_ | with_reducible refine Bx.set ?_ (by omega)))) st (by omega)
            have u_5 : Bx w5 (w.heap.size + 1 + 1 + 1 + 1) [.int .i64 0, .int .i64 0] := Bx.step (by
              (repeat (first | with_reducible exact u_4 | with_reducible refine Bx.alc ?_ _ | with_reducible refine Bx.drew ?_ | with_reducible refine Bx.set ?_ (by omega)))) st (by omega)
            have v_5 : Bx w5 (w.heap.size + 1 + 1 + 1 + 1 + 1) [.int .i64 0, .int .i64 0] := Bx.step (by
              (repeat (first | with_reducible exact v_4 | with_reducible refine Bx.alc ?_ _ | with_reducible refine Bx.drew ?_ | with_reducible refine Bx.set ?_ (by omega)))) st (by omega)
            have n_5 : Bx w5 (w.heap.size + 1 + 1 + 1 + 1 + 1 + 1) [.int .i64 0, .int .i64 0] := Bx.step (by
              (repeat (first | with_reducible exact n_4 | with_reducible refine Bx.alc ?_ _ | with_reducible refine Bx.drew ?_ | with_reducible refine Bx.set ?_ (by omega)))) st (by omega)
            have B_5 : Bx w5 (w2.heap.size) [.int .i64 p1, .int .i64 q1] := Bx.step (by
              (repeat (first | with_reducible exact B_4 | with_reducible refine Bx.alc ?_ _ | with_reducible refine Bx.drew ?_ | with_reducible refine Bx.set ?_ (by omega)))) st (by omega)
            have Q_5 : Bx w5 (w4.heap.size) [.int .i64 p2, .int .i64 q2] := Bx.step (by
              (repeat (first | (with_reducible refine Bx.new ?_; (· (simp; done))) | with_reducible apply Bx.put6 | with_reducible apply Bx.put2 | with_reducible apply Bx.put1 | with_reducible refine Bx.set ?_ (by omega) | with_reducible refine Bx.alc ?_ _ | with_reducible refine Bx.drew ?_))) st (by omega)
            have C_5 : Ce w5 (w4.heap.size + 1) 0 := Ce.step (e := 0) (by exact Bx.ce (by
              (repeat (first | (with_reducible refine Bx.new ?_; (· (simp; done))) | with_reducible apply Bx.put6 | with_reducible apply Bx.put2 | with_reducible apply Bx.put1 | with_reducible refine Bx.set ?_ (by omega) | with_reducible refine Bx.alc ?_ _ | with_reducible refine Bx.drew ?_)))) st
            have hz5 := st.size
            (try simp at hz5)
            clear st
            have hs5 := H5.size
            have o_5l := o_5.lt
            have u_5l := u_5.lt
            have v_5l := v_5.lt
            have n_5l := n_5.lt
            have B_5l := B_5.lt
            have Q_5l := Q_5.lt
            have h0_5 := (H5.at 2 rfl).c
            have hl0_5 := (H5.at 2 rfl).lt
            have h2_5 := (H5.at 0 rfl).c
            have hl2_5 := (H5.at 0 rfl).lt
            by_cases hlt : sg < 0
            · have zlt : (decide (sg < 0)) = true := by simpa using hlt
              have hn := HA.out.1 (by omega)
              have XN := Lib.hid hn
              have fz : f4 = 0 := by
                have := ZF.out
                rw [hn] at this
                exact this
              subst fz
              clear hn
              have C_5v := C_5.v
              have C_5f := C_5.f
              go_wp2_with fail
              have CW : Ce (w5.alloc (.cells (List.toArray [.int .i64 p3, .int .i64 q3]) 23)) (w4.heap.size + 1) 0 := C_5.alc _
              refine (cneg_any w.heap.size (w4.heap.size + 1) p3 q3 0 _ CW.v CW.f).mono ?_
              rintro r w6 ⟨rfl, st⟩
              rw [XN.out]
              rw [XN.out] at st
              dsimp only
              dsimp only at st
              rw [show keepE 0 0 = 0 from rfl] at st
              have H6 : Ho w w6 (w.heap.size + 1 + 1 + 1) [(w.heap.size + 1 + 1, [.int .i64 a, .int .i64 b]), (w.heap.size + 1, [.int .i64 t.a, .int .i64 t.b, .int .i64 t.c, .int .i64 t.d, .int .i64 t.e, .int .i64 t.f]), (w.heap.size, [.int .i64 s.a, .int .i64 s.b, .int .i64 s.c, .int .i64 s.d, .int .i64 s.e, .int .i64 s.f])] := Ho.step (by
                (repeat (first | with_reducible exact H5 | with_reducible refine Ho.alc ?_ _ | with_reducible refine Ho.drew ?_ | with_reducible refine Ho.put ?_ (by omega)))) st (by omega)
              have o_6 : Bx w6 (w.heap.size + 1 + 1 + 1) [.int .i64 0, .int .i64 0, .int .i64 0, .int .i64 0, .int .i64 0, .int .i64 0] := Bx.step (by
                (repeat (first | with_reducible exact o_5 | with_reducible refine Bx.alc ?_ _ | with_reducible refine Bx.drew ?_ | with_reducible refine Bx.set ?_ (by omega)))) st (by omega)
              have u_6 : Bx w6 (w.heap.size + 1 + 1 + 1 + 1) [.int .i64 0, .int .i64 0] := Bx.step (by
                (repeat (first | with_reducible exact u_5 | with_reducible refine Bx.alc ?_ _ | with_reducible refine Bx.drew ?_ | with_reducible refine Bx.set ?_ (by omega)))) st (by omega)
              have v_6 : Bx w6 (w.heap.size + 1 + 1 + 1 + 1 + 1) [.int .i64 0, .int .i64 0] := Bx.step (by
                (repeat (first | with_reducible exact v_5 | with_reducible refine Bx.alc ?_ _ | with_reducible refine Bx.drew ?_ | with_reducible refine Bx.set ?_ (by omega)))) st (by omega)
              have n_6 : Bx w6 (w.heap.size + 1 + 1 + 1 + 1 + 1 + 1) [.int .i64 0, .int .i64 0] := Bx.step (by
                (repeat (first | with_reducible exact n_5 | with_reducible refine Bx.alc ?_ _ | with_reducible refine Bx.drew ?_ | with_reducible refine Bx.set ?_ (by omega)))) st (by omega)
              have B_6 : Bx w6 (w2.heap.size) [.int .i64 p1, .int .i64 q1] := Bx.step (by
                (repeat (first | with_reducible exact B_5 | with_reducible refine Bx.alc ?_ _ | with_reducible refine Bx.drew ?_ | with_reducible refine Bx.set ?_ (by omega)))) st (by omega)
              have Q_6 : Bx w6 (w4.heap.size) [.int .i64 p2, .int .i64 q2] := Bx.step (by
                (repeat (first | with_reducible exact Q_5 | with_reducible refine Bx.alc ?_ _ | with_reducible refine Bx.drew ?_ | with_reducible refine Bx.set ?_ (by omega)))) st (by omega)
              have A_6 : Bx w6 (w5.heap.size) [.int .i64 p3, .int .i64 q3] := Bx.step (by
                (repeat (first | (with_reducible refine Bx.new ?_; (· (simp; done))) | with_reducible apply Bx.put6 | with_reducible apply Bx.put2 | with_reducible apply Bx.put1 | with_reducible refine Bx.set ?_ (by omega) | with_reducible refine Bx.alc ?_ _ | with_reducible refine Bx.drew ?_))) st (by omega)
              have C_6 : Ce w6 (w4.heap.size + 1) 0 := Ce.step (e := 0) CW st
              have hz6 := st.size
              (try simp at hz6)
              clear st C_5v C_5f
              clear h0_5 hl0_5 h2_5 hl2_5
              have hs6 := H6.size
              have o_6l := o_6.lt
              have u_6l := u_6.lt
              have v_6l := v_6.lt
              have n_6l := n_6.lt
              have B_6l := B_6.lt
              have Q_6l := Q_6.lt
              have A_6l := A_6.lt
              have h0_6 := (H6.at 2 rfl).c
              have hl0_6 := (H6.at 2 rfl).lt
              have h2_6 := (H6.at 0 rfl).c
              have hl2_6 := (H6.at 0 rfl).lt
              have A_6c := A_6.c
              have A_6f := A_6.f
              have A_6m : w5.heap.size < w6.heap.size + 1 := by omega
              have C_6v := C_6.v
              have C_6l := C_6.lt
              go_wp2_with fail
              refine (rfscale_any s a b _).mono ?_
              rintro r w7 ⟨rfl, hb⟩
              rw [X5.out]
              have C_7 : Ce w7 (w4.heap.size + 1) 0 := Ce.kept (by
                (repeat (first | with_reducible exact C_6 | with_reducible refine Ce.alc ?_ _ | with_reducible refine Ce.drew ?_ | with_reducible refine Ce.set ?_ (by omega)))) hb
              have H7 : Ho w w7 (w.heap.size + 1 + 1 + 1) [(w.heap.size + 1 + 1, [.int .i64 a, .int .i64 b]), (w.heap.size + 1, [.int .i64 t.a, .int .i64 t.b, .int .i64 t.c, .int .i64 t.d, .int .i64 t.e, .int .i64 t.f]), (w.heap.size, [.int .i64 s.a, .int .i64 s.b, .int .i64 s.c, .int .i64 s.d, .int .i64 s.e, .int .i64 s.f])] := Ho.call (by
                (repeat (first | with_reducible exact H6 | with_reducible refine Ho.alc ?_ _ | with_reducible refine Ho.drew ?_ | with_reducible refine Ho.put ?_ (by omega)))) hb
              have o_7 : Bx w7 (w.heap.size + 1 + 1 + 1) [.int .i64 0, .int .i64 0, .int .i64 0, .int .i64 0, .int .i64 0, .int .i64 0] := Bx.kept (by
                (repeat (first | with_reducible exact o_6 | with_reducible refine Bx.alc ?_ _ | with_reducible refine Bx.drew ?_ | with_reducible refine Bx.set ?_ (by omega)))) hb
              have u_7 : Bx w7 (w.heap.size + 1 + 1 + 1 + 1) [.int .i64 0, .int .i64 0] := Bx.kept (by
                (repeat (first | with_reducible exact u_6 | with_reducible refine Bx.alc ?_ _ | with_reducible refine Bx.drew ?_ | with_reducible refine Bx.set ?_ (by omega)))) hb
              have v_7 : Bx w7 (w.heap.size + 1 + 1 + 1 + 1 + 1) [.int .i64 0, .int .i64 0] := Bx.kept (by
                (repeat (first | with_reducible exact v_6 | with_reducible refine Bx.alc ?_ _ | with_reducible refine Bx.drew ?_ | with_reducible refine Bx.set ?_ (by omega)))) hb
              have n_7 : Bx w7 (w.heap.size + 1 + 1 + 1 + 1 + 1 + 1) [.int .i64 0, .int .i64 0] := Bx.kept (by
                (repeat (first | with_reducible exact n_6 | with_reducible refine Bx.alc ?_ _ | with_reducible refine Bx.drew ?_ | with_reducible refine Bx.set ?_ (by omega)))) hb
              have B_7 : Bx w7 (w2.heap.size) [.int .i64 p1, .int .i64 q1] := Bx.kept (by
                (repeat (first | with_reducible exact B_6 | with_reducible refine Bx.alc ?_ _ | with_reducible refine Bx.drew ?_ | with_reducible refine Bx.set ?_ (by omega)))) hb
              have Q_7 : Bx w7 (w4.heap.size) [.int .i64 p2, .int .i64 q2] := Bx.kept (by
                (repeat (first | with_reducible exact Q_6 | with_reducible refine Bx.alc ?_ _ | with_reducible refine Bx.drew ?_ | with_reducible refine Bx.set ?_ (by omega)))) hb
              have A_7 : Bx w7 (w5.heap.size) [.int .i64 p4, .int .i64 q4] := Bx.kept (by
                (repeat (first | with_reducible exact A_6 | with_reducible apply Bx.put6 | with_reducible apply Bx.put2 | with_reducible refine Bx.alc ?_ _ | with_reducible refine Bx.set ?_ (by omega)))) hb
              have hz7 := hb.size
              (try simp at hz7)
              clear hb
              clear h0_6 hl0_6 h2_6 hl2_6 A_6c A_6f A_6m C_6v
              have hs7 := H7.size
              have o_7l := o_7.lt
              have u_7l := u_7.lt
              have v_7l := v_7.lt
              have n_7l := n_7.lt
              have B_7l := B_7.lt
              have Q_7l := Q_7.lt
              have A_7l := A_7.lt
              have h1_7 := (H7.at 1 rfl).c
              have hl1_7 := (H7.at 1 rfl).lt
              have h2_7 := (H7.at 0 rfl).c
              have hl2_7 := (H7.at 0 rfl).lt
              have A_7c := A_7.c
              have A_7f := A_7.f
              have B_7c := B_7.c
              have B_7f := B_7.f
              have A_7m : w5.heap.size < w7.heap.size + 1 := by omega
              have B_7m : w2.heap.size < w7.heap.size + 1 := by omega
              have C_7v := C_7.v
              have C_7l := C_7.lt
              have C_7f := C_7.f
              by_cases he5 : e5 = 0
              · subst he5
                go_upto_region 24 with fail
                refine region_sets (Rz.I s t a b p1 q1 p2 q2 p4 q4 p6 q6 p7 q7 d0 d1 d2 d3 d4 d5 E3 E4 w.heap.size w2.heap.size w4.heap.size w5.heap.size w7.heap.size (w4.heap.size + 1) (w7.heap.size + 1) w) (by kernel_rfl) ?_ ?_ ?_
                · refine ⟨false, false, false, false, false, false, false, false, false, undef, undef, undef, undef, undef, undef, undef, undef, 0, rfl, by simp only [Act.put, List.setIfInBounds_toArray, List.set_cons_zero, List.set_cons_succ], ?_⟩
                  constructor
                  · (repeat (first | with_reducible exact H7 | with_reducible refine Ho.alc ?_ _ | with_reducible refine Ho.drew ?_ | with_reducible refine Ho.put ?_ (by omega)))
                  · (first | (simp; done) | (simp; omega))
                  · (omega)
                  · (repeat (first | with_reducible exact o_7 | with_reducible refine Bx.alc ?_ _ | with_reducible refine Bx.drew ?_ | with_reducible refine Bx.set ?_ (by omega)))
                  · (omega)
                  · (omega)
                  · (repeat (first | with_reducible exact u_7 | with_reducible refine Bx.alc ?_ _ | with_reducible refine Bx.drew ?_ | with_reducible refine Bx.set ?_ (by omega)))
                  · (omega)
                  · (omega)
                  · (repeat (first | with_reducible exact v_7 | with_reducible refine Bx.alc ?_ _ | with_reducible refine Bx.drew ?_ | with_reducible refine Bx.set ?_ (by omega)))
                  · (omega)
                  · (omega)
                  · (repeat (first | with_reducible exact n_7 | with_reducible refine Bx.alc ?_ _ | with_reducible refine Bx.drew ?_ | with_reducible refine Bx.set ?_ (by omega)))
                  · (omega)
                  · (omega)
                  · (repeat (first | with_reducible exact B_7 | with_reducible refine Bx.alc ?_ _ | with_reducible refine Bx.drew ?_ | with_reducible refine Bx.set ?_ (by omega)))
                  · (omega)
                  · (omega)
                  · (repeat (first | with_reducible exact Q_7 | with_reducible refine Bx.alc ?_ _ | with_reducible refine Bx.drew ?_ | with_reducible refine Bx.set ?_ (by omega)))
                  · (omega)
                  · (omega)
                  · (repeat (first | with_reducible exact A_7 | with_reducible refine Bx.alc ?_ _ | with_reducible refine Bx.drew ?_ | with_reducible refine Bx.set ?_ (by omega)))
                  · (omega)
                  · (omega)
                  · (repeat (first | (with_reducible refine Bx.new ?_; (· (simp; done))) | with_reducible apply Bx.put6 | with_reducible apply Bx.put2 | with_reducible apply Bx.put1 | with_reducible refine Bx.set ?_ (by omega) | with_reducible refine Bx.alc ?_ _ | with_reducible refine Bx.drew ?_))
                  · (omega)
                  · (omega)
                  · (omega)
                  · (omega)
                  · (intro h; cases h)
                  · (intro _; (repeat (first | with_reducible exact C_7 | with_reducible refine Ce.alc ?_ _ | with_reducible refine Ce.drew ?_ | with_reducible refine Ce.set ?_ (by omega))))
                  all_goals (intro h; cases h)
                · intro L a' w' hI i hi
                  obtain ⟨l0, l1, l2, l3, l4, l5, l6, l7, l8, v0, v1, v2, v3, v4, v5, v6, v7, b7, rfl, rfl, h⟩ := hI
                  have hlt := ready_lt hi
                  match i, hi, hlt with
                  | 0, hi, _ =>
                    have l' : l0 = false := (ready_op (o := _) rfl hi).1
                    subst l'
                    clear hi hlt
                    have H := Lib.hid h
                    clear h
                    refine wpOp_shut rfl (fun K hK => ?_)
                    try simp only [Act.put, List.setIfInBounds_toArray, List.set_cons_zero, List.set_cons_succ]
                    go_simp
                    refine hK.out _ _ ?_
                    unfold Rz.I
                    refine ⟨true, l1, l2, l3, l4, l5, l6, l7, l8, (.pointer (some ⟨(w4.heap.size + 1), 0, none⟩)), v1, v2, v3, v4, v5, v6, v7, b7, rfl, ?_, ?_⟩
                    · simp only [Act.put, List.setIfInBounds_toArray, List.set_cons_zero, List.set_cons_succ]
                    · exact { H.out with ev0 := fun _ => rfl }
                  | 1, hi, _ =>
                    have l' : l1 = false := (ready_op (o := _) rfl hi).1
                    subst l'
                    clear hi hlt
                    have c := h.u6.c
                    have H := Lib.hid h
                    clear h
                    refine wpOp_shut rfl (fun K hK => ?_)
                    try simp only [Act.put, List.setIfInBounds_toArray, List.set_cons_zero, List.set_cons_succ]
                    go_simp
                    refine hK.out _ _ ?_
                    unfold Rz.I
                    refine ⟨l0, true, l2, l3, l4, l5, l6, l7, l8, v0, ((iv p4 q4)), v2, v3, v4, v5, v6, v7, b7, rfl, ?_, ?_⟩
                    · simp only [Act.put, List.setIfInBounds_toArray, List.set_cons_zero, List.set_cons_succ]
                    · exact { H.out with ev1 := fun _ => rfl }
                  | 2, hi, _ =>
                    have l' : l2 = false := (ready_op (o := _) rfl hi).1
                    subst l'
                    clear hi hlt
                    have H := Lib.hid h
                    clear h
                    refine wpOp_shut rfl (fun K hK => ?_)
                    try simp only [Act.put, List.setIfInBounds_toArray, List.set_cons_zero, List.set_cons_succ]
                    go_simp
                    refine hK.out _ _ ?_
                    unfold Rz.I
                    refine ⟨l0, l1, true, l3, l4, l5, l6, l7, l8, v0, v1, (.pointer (some ⟨(w4.heap.size + 1), 0, none⟩)), v3, v4, v5, v6, v7, b7, rfl, ?_, ?_⟩
                    · simp only [Act.put, List.setIfInBounds_toArray, List.set_cons_zero, List.set_cons_succ]
                    · exact { H.out with ev2 := fun _ => rfl }
                  | 3, hi, _ =>
                    have l' : l3 = false := (ready_op (o := _) rfl hi).1
                    subst l'
                    clear hi hlt
                    have c := (h.g.at 0 rfl).c
                    have H := Lib.hid h
                    clear h
                    refine wpOp_shut rfl (fun K hK => ?_)
                    try simp only [Act.put, List.setIfInBounds_toArray, List.set_cons_zero, List.set_cons_succ]
                    go_simp
                    refine hK.out _ _ ?_
                    unfold Rz.I
                    refine ⟨l0, l1, l2, true, l4, l5, l6, l7, l8, v0, v1, v2, ((iv a b)), v4, v5, v6, v7, b7, rfl, ?_, ?_⟩
                    · simp only [Act.put, List.setIfInBounds_toArray, List.set_cons_zero, List.set_cons_succ]
                    · exact { H.out with ev3 := fun _ => rfl }
                  | 4, hi, _ =>
                    have l' : l4 = false := (ready_op (o := _) rfl hi).1
                    subst l'
                    clear hi hlt
                    have c := h.u4.c
                    have H := Lib.hid h
                    clear h
                    refine wpOp_shut rfl (fun K hK => ?_)
                    try simp only [Act.put, List.setIfInBounds_toArray, List.set_cons_zero, List.set_cons_succ]
                    go_simp
                    refine hK.out _ _ ?_
                    unfold Rz.I
                    refine ⟨l0, l1, l2, l3, true, l5, l6, l7, l8, v0, v1, v2, v3, ((iv p1 q1)), v5, v6, v7, b7, rfl, ?_, ?_⟩
                    · simp only [Act.put, List.setIfInBounds_toArray, List.set_cons_zero, List.set_cons_succ]
                    · exact { H.out with ev4 := fun _ => rfl }
                  | 5, hi, _ =>
                    have l' : l5 = false := (ready_op (o := _) rfl hi).1
                    subst l'
                    have k2 : l2 = true := (ready_op (o := _) rfl hi).2 { on := 2, ground := .data } (by simp) rfl
                    have k3 : l3 = true := (ready_op (o := _) rfl hi).2 { on := 3, ground := .data } (by simp) rfl
                    have k4 : l4 = true := (ready_op (o := _) rfl hi).2 { on := 4, ground := .data } (by simp) rfl
                    clear hi hlt
                    subst k2
                    subst k3
                    subst k4
                    obtain rfl := h.ev2 rfl
                    obtain rfl := h.ev3 rfl
                    obtain rfl := h.ev4 rfl
                    have CK := h.k0 rfl
                    have H := Lib.hid h
                    clear h
                    refine wpOp_shut rfl (fun K hK => ?_)
                    try simp only [Act.put, List.setIfInBounds_toArray, List.set_cons_zero, List.set_cons_succ]
                    go_simp
                    refine (cmul_any w.heap.size (w4.heap.size + 1) a b p1 q1 0 _ CK.v CK.f).mono ?_
                    rintro e wY ⟨rfl, st⟩
                    rw [X6.out]
                    rw [X6.out] at st
                    dsimp only
                    dsimp only at st
                    rw [Y3.out] at st
                    try go_simp
                    refine hK.out _ _ ?_
                    unfold Rz.I
                    refine ⟨l0, l1, true, true, true, true, l6, l7, l8, v0, v1, (.pointer (some ⟨(w4.heap.size + 1), 0, none⟩)), ((iv a b)), ((iv p1 q1)), ((iv p6 q6)), v6, v7, b7, rfl, ?_, ?_⟩
                    · simp only [Act.put, List.setIfInBounds_toArray, List.set_cons_zero, List.set_cons_succ]
                    · have h := H.out
                      exact { h with g := h.g.step st h.mc, sz := Nat.le_trans h.sz st.size, ev5 := fun _ => rfl, u0 := h.u0.step st h.uc0, u1 := h.u1.step st h.uc1, u2 := h.u2.step st h.uc2, u3 := h.u3.step st h.uc3, u4 := h.u4.step st h.uc4, u5 := h.u5.step st h.uc5, u6 := h.u6.step st h.uc6, u7 := h.u7.step st h.uc7, k0 := fun p0 => (nomatch p0), k1 := fun p0 p1 => CK.step st, k2 := fun p0 => (nomatch (h.qq6 p0)), qq6 := fun _ => rfl, t7 := fun p => Nat.lt_of_lt_of_le (h.t7 p) st.size, z7 := fun p r => (h.z7 p r).step st (Nat.ne_of_gt (Nat.lt_of_lt_of_le h.cn (h.g7 p))), s7 := fun p => (h.s7 p).step st (Nat.ne_of_gt (Nat.lt_of_lt_of_le h.cn (h.g7 (h.o7 p)))) }
                  | 6, hi, _ =>
                    have l' : l6 = false := (ready_op (o := _) rfl hi).1
                    subst l'
                    have k0 : l0 = true := (ready_op (o := _) rfl hi).2 { on := 0, ground := .data } (by simp) rfl
                    have k1 : l1 = true := (ready_op (o := _) rfl hi).2 { on := 1, ground := .data } (by simp) rfl
                    have k5 : l5 = true := (ready_op (o := _) rfl hi).2 { on := 5, ground := .chain } (by simp) rfl
                    clear hi hlt
                    subst k0
                    subst k1
                    subst k5
                    obtain rfl := h.ev0 rfl
                    obtain rfl := h.ev1 rfl
                    obtain rfl := h.ev5 rfl
                    have CK := h.k1 rfl rfl
                    have H := Lib.hid h
                    clear h
                    refine wpOp_shut rfl (fun K hK => ?_)
                    try simp only [Act.put, List.setIfInBounds_toArray, List.set_cons_zero, List.set_cons_succ]
                    go_simp
                    refine (csub_any w.heap.size (w4.heap.size + 1) p4 q4 p6 q6 E3 _ CK.v CK.f).mono ?_
                    rintro e wY ⟨rfl, st⟩
                    rw [X7.out]
                    rw [X7.out] at st
                    dsimp only
                    dsimp only at st
                    rw [Y4.out] at st
                    try go_simp
                    refine hK.out _ _ ?_
                    unfold Rz.I
                    refine ⟨true, true, l2, l3, l4, true, true, l7, l8, (.pointer (some ⟨(w4.heap.size + 1), 0, none⟩)), ((iv p4 q4)), v2, v3, v4, ((iv p6 q6)), ((iv p7 q7)), v7, b7, rfl, ?_, ?_⟩
                    · simp only [Act.put, List.setIfInBounds_toArray, List.set_cons_zero, List.set_cons_succ]
                    · have h := H.out
                      exact { h with g := h.g.step st h.mc, sz := Nat.le_trans h.sz st.size, ev6 := fun _ => rfl, u0 := h.u0.step st h.uc0, u1 := h.u1.step st h.uc1, u2 := h.u2.step st h.uc2, u3 := h.u3.step st h.uc3, u4 := h.u4.step st h.uc4, u5 := h.u5.step st h.uc5, u6 := h.u6.step st h.uc6, u7 := h.u7.step st h.uc7, k0 := fun p0 => (nomatch (Eq.trans (Eq.symm (rfl : true = true)) p0)), k1 := fun p0 p1 => (nomatch p1), k2 := fun p0 => CK.step st, qq6 := fun _ => rfl, t7 := fun p => Nat.lt_of_lt_of_le (h.t7 p) st.size, z7 := fun p r => (h.z7 p r).step st (Nat.ne_of_gt (Nat.lt_of_lt_of_le h.cn (h.g7 p))), s7 := fun p => (h.s7 p).step st (Nat.ne_of_gt (Nat.lt_of_lt_of_le h.cn (h.g7 (h.o7 p)))) }
                  | 7, hi, _ =>
                    have l' : l7 = false := (ready_op (o := _) rfl hi).1
                    subst l'
                    clear hi hlt
                    have H := Lib.hid h
                    clear h
                    refine wpOp_shut rfl (fun K hK => ?_)
                    try simp only [Act.put, List.setIfInBounds_toArray, List.set_cons_zero, List.set_cons_succ]
                    go_simp
                    refine hK.out _ _ ?_
                    unfold Rz.I
                    refine ⟨l0, l1, l2, l3, l4, l5, l6, true, l8, v0, v1, v2, v3, v4, v5, v6, (.pointer (some ⟨w'.heap.size, 0, none⟩)), w'.heap.size, rfl, ?_, ?_⟩
                    · simp only [Act.put, List.setIfInBounds_toArray, List.set_cons_zero, List.set_cons_succ]
                    · have h := H.out
                      have h2 := h.kept ((Below.refl _ _).alloc (Nat.le_refl _) (.cells (List.toArray [.int .i64 0, .int .i64 0]) 23))
                      exact { h2 with ev7 := fun _ => rfl, g7 := fun _ => h.sz, t7 := fun _ => by simp, o7 := fun p => rfl, z7 := fun _ _ => Bx.new rfl, s7 := fun p => (nomatch (h.o7 p)) }
                  | 8, hi, _ =>
                    have l' : l8 = false := (ready_op (o := _) rfl hi).1
                    subst l'
                    have k7 : l7 = true := (ready_op (o := _) rfl hi).2 { on := 7, ground := .phase } (by simp) rfl
                    have k6 : l6 = true := (ready_op (o := _) rfl hi).2 { on := 6, ground := .phase } (by simp) rfl
                    have k0 : l0 = true := (ready_op (o := _) rfl hi).2 { on := 0, ground := .phase } (by simp) rfl
                    have k1 : l1 = true := (ready_op (o := _) rfl hi).2 { on := 1, ground := .phase } (by simp) rfl
                    have k2 : l2 = true := (ready_op (o := _) rfl hi).2 { on := 2, ground := .phase } (by simp) rfl
                    have k3 : l3 = true := (ready_op (o := _) rfl hi).2 { on := 3, ground := .phase } (by simp) rfl
                    have k4 : l4 = true := (ready_op (o := _) rfl hi).2 { on := 4, ground := .phase } (by simp) rfl
                    have k5 : l5 = true := (ready_op (o := _) rfl hi).2 { on := 5, ground := .phase } (by simp) rfl
                    clear hi hlt
                    subst k7
                    subst k6
                    subst k0
                    subst k1
                    subst k2
                    subst k3
                    subst k4
                    subst k5
                    obtain rfl := h.ev7 rfl
                    obtain rfl := h.ev6 rfl
                    obtain rfl := h.ev0 rfl
                    obtain rfl := h.ev1 rfl
                    obtain rfl := h.ev2 rfl
                    obtain rfl := h.ev3 rfl
                    obtain rfl := h.ev4 rfl
                    obtain rfl := h.ev5 rfl
                    have bz := h.z7 rfl rfl
                    have c := bz.c
                    have f := bz.f
                    clear bz
                    have H := Lib.hid h
                    clear h
                    refine wpOp_shut rfl (fun K hK => ?_)
                    try simp only [Act.put, List.setIfInBounds_toArray, List.set_cons_zero, List.set_cons_succ]
                    go_simp
                    refine hK.out _ _ ?_
                    unfold Rz.I
                    refine ⟨true, true, true, true, true, true, true, true, true, (.pointer (some ⟨(w4.heap.size + 1), 0, none⟩)), ((iv p4 q4)), (.pointer (some ⟨(w4.heap.size + 1), 0, none⟩)), ((iv a b)), ((iv p1 q1)), ((iv p6 q6)), ((iv p7 q7)), (.pointer (some ⟨b7, 0, none⟩)), b7, rfl, ?_, ?_⟩
                    · simp only [Act.put, List.setIfInBounds_toArray, List.set_cons_zero, List.set_cons_succ]
                    · have h := H.out
                      have gb := h.g7 rfl
                      have gm := Nat.le_trans h.mn gb
                      exact { h with g := ((h.g.put gm).put gm), sz := by simpa using h.sz, o7 := fun _ => rfl, z7 := fun _ p => (nomatch p), s7 := fun _ => (((h.z7 rfl rfl).put).put), t7 := fun p => by simpa using h.t7 p, u0 := ((h.u0.set (Nat.ne_of_lt (Nat.lt_of_lt_of_le h.un0 gb))).set (Nat.ne_of_lt (Nat.lt_of_lt_of_le h.un0 gb))), u1 := ((h.u1.set (Nat.ne_of_lt (Nat.lt_of_lt_of_le h.un1 gb))).set (Nat.ne_of_lt (Nat.lt_of_lt_of_le h.un1 gb))), u2 := ((h.u2.set (Nat.ne_of_lt (Nat.lt_of_lt_of_le h.un2 gb))).set (Nat.ne_of_lt (Nat.lt_of_lt_of_le h.un2 gb))), u3 := ((h.u3.set (Nat.ne_of_lt (Nat.lt_of_lt_of_le h.un3 gb))).set (Nat.ne_of_lt (Nat.lt_of_lt_of_le h.un3 gb))), u4 := ((h.u4.set (Nat.ne_of_lt (Nat.lt_of_lt_of_le h.un4 gb))).set (Nat.ne_of_lt (Nat.lt_of_lt_of_le h.un4 gb))), u5 := ((h.u5.set (Nat.ne_of_lt (Nat.lt_of_lt_of_le h.un5 gb))).set (Nat.ne_of_lt (Nat.lt_of_lt_of_le h.un5 gb))), u6 := ((h.u6.set (Nat.ne_of_lt (Nat.lt_of_lt_of_le h.un6 gb))).set (Nat.ne_of_lt (Nat.lt_of_lt_of_le h.un6 gb))), u7 := ((h.u7.set (Nat.ne_of_lt (Nat.lt_of_lt_of_le h.un7 gb))).set (Nat.ne_of_lt (Nat.lt_of_lt_of_le h.un7 gb))), k0 := fun p0 => (((h.k0 p0).set (Nat.ne_of_lt (Nat.lt_of_lt_of_le h.cn gb))).set (Nat.ne_of_lt (Nat.lt_of_lt_of_le h.cn gb))), k1 := fun p0 p1 => (((h.k1 p0 p1).set (Nat.ne_of_lt (Nat.lt_of_lt_of_le h.cn gb))).set (Nat.ne_of_lt (Nat.lt_of_lt_of_le h.cn gb))), k2 := fun p0 => (((h.k2 p0).set (Nat.ne_of_lt (Nat.lt_of_lt_of_le h.cn gb))).set (Nat.ne_of_lt (Nat.lt_of_lt_of_le h.cn gb))) }
                  | i + 9, _, hlt => exact absurd hlt (by simp)
                · intro L a' w' hI hn
                  obtain ⟨l0, l1, l2, l3, l4, l5, l6, l7, l8, v0, v1, v2, v3, v4, v5, v6, v7, b7, rfl, rfl, h⟩ := hI
                  have k0 : l0 = true := not_ready (i := 0) (o := _) rfl hn (by simp [Region.binds])
                  subst k0
                  have k1 : l1 = true := not_ready (i := 1) (o := _) rfl hn (by simp [Region.binds])
                  subst k1
                  have k2 : l2 = true := not_ready (i := 2) (o := _) rfl hn (by simp [Region.binds])
                  subst k2
                  have k3 : l3 = true := not_ready (i := 3) (o := _) rfl hn (by simp [Region.binds])
                  subst k3
                  have k4 : l4 = true := not_ready (i := 4) (o := _) rfl hn (by simp [Region.binds])
                  subst k4
                  have k5 : l5 = true := not_ready (i := 5) (o := _) rfl hn (by simp [Region.binds])
                  subst k5
                  have k6 : l6 = true := not_ready (i := 6) (o := _) rfl hn (by simp [Region.binds])
                  subst k6
                  have k7 : l7 = true := not_ready (i := 7) (o := _) rfl hn (by simp [Region.binds])
                  subst k7
                  have k8 : l8 = true := not_ready (i := 8) (o := _) rfl hn (by simp [Region.binds])
                  subst k8
                  clear hn
                  obtain rfl := h.ev0 rfl
                  obtain rfl := h.ev1 rfl
                  obtain rfl := h.ev2 rfl
                  obtain rfl := h.ev3 rfl
                  obtain rfl := h.ev4 rfl
                  obtain rfl := h.ev5 rfl
                  obtain rfl := h.ev6 rfl
                  obtain rfl := h.ev7 rfl
                  simp only [Act.put, List.setIfInBounds_toArray, List.set_cons_zero, List.set_cons_succ]
                  have H9 := h.g
                  have o_9 := h.u0
                  have u_9 := h.u1
                  have v_9 := h.u2
                  have n_9 := h.u3
                  have B_9 := h.u4
                  have Q_9 := h.u5
                  have A_9 := h.u6
                  have D_9 := h.u7
                  have C_9 := h.k2 rfl
                  have G_9 := h.s7 rfl
                  have gg := h.g7 rfl
                  clear h
                  clear h1_7 hl1_7 h2_7 hl2_7 A_7c A_7f B_7c B_7f A_7m B_7m C_7v C_7f
                  obtain ⟨w9, hw9⟩ : ∃ x, x = w' := ⟨_, rfl⟩
                  rw [← hw9] at H9 C_9 G_9 o_9 u_9 v_9 n_9 B_9 Q_9 A_9 D_9 ⊢
                  clear hw9
                  have hs9 := H9.size
                  have o_9l := o_9.lt
                  have u_9l := u_9.lt
                  have v_9l := v_9.lt
                  have n_9l := n_9.lt
                  have B_9l := B_9.lt
                  have Q_9l := Q_9.lt
                  have A_9l := A_9.lt
                  have D_9l := D_9.lt
                  have G_9l := G_9.lt
                  have h1_9 := (H9.at 1 rfl).c
                  have hl1_9 := (H9.at 1 rfl).lt
                  have G_9c := G_9.c
                  have G_9f := G_9.f
                  have D_9c := D_9.c
                  have D_9f := D_9.f
                  have G_9m : b7 < w9.heap.size + 1 := by omega
                  have D_9m : w7.heap.size < w9.heap.size + 1 := by omega
                  have C_9v := C_9.v
                  have C_9l := C_9.lt
                  by_cases he6 : E4 = 0
                  · subst he6
                    go_wp2_with fail
                    refine (rfscale_any t p7 q7 _).mono ?_
                    rintro r w10 ⟨rfl, hb⟩
                    rw [X8.out]
                    have H10 : Ho w w10 (w.heap.size + 1 + 1 + 1) [(w.heap.size + 1 + 1, [.int .i64 a, .int .i64 b]), (w.heap.size + 1, [.int .i64 t.a, .int .i64 t.b, .int .i64 t.c, .int .i64 t.d, .int .i64 t.e, .int .i64 t.f]), (w.heap.size, [.int .i64 s.a, .int .i64 s.b, .int .i64 s.c, .int .i64 s.d, .int .i64 s.e, .int .i64 s.f])] := Ho.call (by
                      (repeat (first | with_reducible exact H9 | with_reducible refine Ho.alc ?_ _ | with_reducible refine Ho.drew ?_ | with_reducible refine Ho.put ?_ (by omega)))) hb
                    have o_10 : Bx w10 (w.heap.size + 1 + 1 + 1) [.int .i64 0, .int .i64 0, .int .i64 0, .int .i64 0, .int .i64 0, .int .i64 0] := Bx.kept (by
                      (repeat (first | with_reducible exact o_9 | with_reducible refine Bx.alc ?_ _ | with_reducible refine Bx.drew ?_ | with_reducible refine Bx.set ?_ (by omega)))) hb
                    have u_10 : Bx w10 (w.heap.size + 1 + 1 + 1 + 1) [.int .i64 0, .int .i64 0] := Bx.kept (by
                      (repeat (first | with_reducible exact u_9 | with_reducible refine Bx.alc ?_ _ | with_reducible refine Bx.drew ?_ | with_reducible refine Bx.set ?_ (by omega)))) hb
                    have v_10 : Bx w10 (w.heap.size + 1 + 1 + 1 + 1 + 1) [.int .i64 0, .int .i64 0] := Bx.kept (by
                      (repeat (first | with_reducible exact v_9 | with_reducible refine Bx.alc ?_ _ | with_reducible refine Bx.drew ?_ | with_reducible refine Bx.set ?_ (by omega)))) hb
                    have n_10 : Bx w10 (w.heap.size + 1 + 1 + 1 + 1 + 1 + 1) [.int .i64 0, .int .i64 0] := Bx.kept (by
                      (repeat (first | with_reducible exact n_9 | with_reducible refine Bx.alc ?_ _ | with_reducible refine Bx.drew ?_ | with_reducible refine Bx.set ?_ (by omega)))) hb
                    have B_10 : Bx w10 (w2.heap.size) [.int .i64 p1, .int .i64 q1] := Bx.kept (by
                      (repeat (first | with_reducible exact B_9 | with_reducible refine Bx.alc ?_ _ | with_reducible refine Bx.drew ?_ | with_reducible refine Bx.set ?_ (by omega)))) hb
                    have Q_10 : Bx w10 (w4.heap.size) [.int .i64 p2, .int .i64 q2] := Bx.kept (by
                      (repeat (first | with_reducible exact Q_9 | with_reducible refine Bx.alc ?_ _ | with_reducible refine Bx.drew ?_ | with_reducible refine Bx.set ?_ (by omega)))) hb
                    have A_10 : Bx w10 (w5.heap.size) [.int .i64 p4, .int .i64 q4] := Bx.kept (by
                      (repeat (first | with_reducible exact A_9 | with_reducible refine Bx.alc ?_ _ | with_reducible refine Bx.drew ?_ | with_reducible refine Bx.set ?_ (by omega)))) hb
                    have D_10 : Bx w10 (w7.heap.size) [.int .i64 d0, .int .i64 d1, .int .i64 d2, .int .i64 d3, .int .i64 d4, .int .i64 d5] := Bx.kept (by
                      (repeat (first | with_reducible exact D_9 | with_reducible refine Bx.alc ?_ _ | with_reducible refine Bx.drew ?_ | with_reducible refine Bx.set ?_ (by omega)))) hb
                    have G_10 : Bx w10 (b7) [.int .i64 p7, .int .i64 q7] := Bx.kept (by
                      (repeat (first | with_reducible exact G_9 | with_reducible refine Bx.alc ?_ _ | with_reducible refine Bx.drew ?_ | with_reducible refine Bx.set ?_ (by omega)))) hb
                    have hz10 := hb.size
                    (try simp at hz10)
                    clear hb
                    clear h1_9 hl1_9 G_9c G_9f D_9c D_9f G_9m D_9m
                    have hs10 := H10.size
                    have o_10l := o_10.lt
                    have u_10l := u_10.lt
                    have v_10l := v_10.lt
                    have n_10l := n_10.lt
                    have B_10l := B_10.lt
                    have Q_10l := Q_10.lt
                    have A_10l := A_10.lt
                    have D_10l := D_10.lt
                    have G_10l := G_10.lt
                    have D_10c := D_10.c
                    have D_10f := D_10.f
                    have D_10m : w7.heap.size < w10.heap.size + 1 := by omega
                    by_cases he8 : e8 = 0
                    · subst he8
                      go_wp2_with fail
                      refine (rfadd_any ⟨d0, d1, d2, d3, d4, d5⟩ ⟨g0, g1, g2, g3, g4, g5⟩ _).mono ?_
                      rintro r w11 ⟨rfl, hb⟩
                      rw [X9.out]
                      have H11 : Ho w w11 (w.heap.size + 1 + 1 + 1) [(w.heap.size + 1 + 1, [.int .i64 a, .int .i64 b]), (w.heap.size + 1, [.int .i64 t.a, .int .i64 t.b, .int .i64 t.c, .int .i64 t.d, .int .i64 t.e, .int .i64 t.f]), (w.heap.size, [.int .i64 s.a, .int .i64 s.b, .int .i64 s.c, .int .i64 s.d, .int .i64 s.e, .int .i64 s.f])] := Ho.call (by
                        (repeat (first | with_reducible exact H10 | with_reducible refine Ho.alc ?_ _ | with_reducible refine Ho.drew ?_ | with_reducible refine Ho.put ?_ (by omega)))) hb
                      have o_11 : Bx w11 (w.heap.size + 1 + 1 + 1) [.int .i64 0, .int .i64 0, .int .i64 0, .int .i64 0, .int .i64 0, .int .i64 0] := Bx.kept (by
                        (repeat (first | with_reducible exact o_10 | with_reducible refine Bx.alc ?_ _ | with_reducible refine Bx.drew ?_ | with_reducible refine Bx.set ?_ (by omega)))) hb
                      have u_11 : Bx w11 (w.heap.size + 1 + 1 + 1 + 1) [.int .i64 0, .int .i64 0] := Bx.kept (by
                        (repeat (first | with_reducible exact u_10 | with_reducible refine Bx.alc ?_ _ | with_reducible refine Bx.drew ?_ | with_reducible refine Bx.set ?_ (by omega)))) hb
                      have v_11 : Bx w11 (w.heap.size + 1 + 1 + 1 + 1 + 1) [.int .i64 0, .int .i64 0] := Bx.kept (by
                        (repeat (first | with_reducible exact v_10 | with_reducible refine Bx.alc ?_ _ | with_reducible refine Bx.drew ?_ | with_reducible refine Bx.set ?_ (by omega)))) hb
                      have n_11 : Bx w11 (w.heap.size + 1 + 1 + 1 + 1 + 1 + 1) [.int .i64 0, .int .i64 0] := Bx.kept (by
                        (repeat (first | with_reducible exact n_10 | with_reducible refine Bx.alc ?_ _ | with_reducible refine Bx.drew ?_ | with_reducible refine Bx.set ?_ (by omega)))) hb
                      have B_11 : Bx w11 (w2.heap.size) [.int .i64 p1, .int .i64 q1] := Bx.kept (by
                        (repeat (first | with_reducible exact B_10 | with_reducible refine Bx.alc ?_ _ | with_reducible refine Bx.drew ?_ | with_reducible refine Bx.set ?_ (by omega)))) hb
                      have Q_11 : Bx w11 (w4.heap.size) [.int .i64 p2, .int .i64 q2] := Bx.kept (by
                        (repeat (first | with_reducible exact Q_10 | with_reducible refine Bx.alc ?_ _ | with_reducible refine Bx.drew ?_ | with_reducible refine Bx.set ?_ (by omega)))) hb
                      have A_11 : Bx w11 (w5.heap.size) [.int .i64 p4, .int .i64 q4] := Bx.kept (by
                        (repeat (first | with_reducible exact A_10 | with_reducible refine Bx.alc ?_ _ | with_reducible refine Bx.drew ?_ | with_reducible refine Bx.set ?_ (by omega)))) hb
                      have D_11 : Bx w11 (w7.heap.size) [.int .i64 d0, .int .i64 d1, .int .i64 d2, .int .i64 d3, .int .i64 d4, .int .i64 d5] := Bx.kept (by
                        (repeat (first | with_reducible exact D_10 | with_reducible refine Bx.alc ?_ _ | with_reducible refine Bx.drew ?_ | with_reducible refine Bx.set ?_ (by omega)))) hb
                      have G_11 : Bx w11 (b7) [.int .i64 p7, .int .i64 q7] := Bx.kept (by
                        (repeat (first | with_reducible exact G_10 | with_reducible refine Bx.alc ?_ _ | with_reducible refine Bx.drew ?_ | with_reducible refine Bx.set ?_ (by omega)))) hb
                      have F_11 : Bx w11 (w10.heap.size) [.int .i64 g0, .int .i64 g1, .int .i64 g2, .int .i64 g3, .int .i64 g4, .int .i64 g5] := Bx.kept (by
                        (repeat (first | (with_reducible refine Bx.new ?_; (· (simp; done))) | with_reducible apply Bx.put6 | with_reducible apply Bx.put2 | with_reducible apply Bx.put1 | with_reducible refine Bx.set ?_ (by omega) | with_reducible refine Bx.alc ?_ _ | with_reducible refine Bx.drew ?_))) hb
                      have hz11 := hb.size
                      (try simp at hz11)
                      clear hb
                      clear D_10c D_10f D_10m
                      have hs11 := H11.size
                      have o_11l := o_11.lt
                      have u_11l := u_11.lt
                      have v_11l := v_11.lt
                      have n_11l := n_11.lt
                      have B_11l := B_11.lt
                      have Q_11l := Q_11.lt
                      have A_11l := A_11.lt
                      have D_11l := D_11.lt
                      have G_11l := G_11.lt
                      have F_11l := F_11.lt
                      by_cases he9 : e9 = 0
                      · subst he9
                        have oc := o_11.c
                        have of := o_11.f
                        have om : w.heap.size + 1 + 1 + 1 < w11.heap.size + 1 := by omega
                        have uc := u_11.c
                        have uf := u_11.f
                        have um : w.heap.size + 1 + 1 + 1 + 1 < w11.heap.size + 1 := by omega
                        have vc := v_11.c
                        have vf := v_11.f
                        have vm : w.heap.size + 1 + 1 + 1 + 1 + 1 < w11.heap.size + 1 := by omega
                        have npq0 : ¬ (w.heap.size + 1 + 1 + 1 = w.heap.size + 1 + 1 + 1 + 1) := by omega
                        have npq1 : ¬ (w.heap.size + 1 + 1 + 1 = w.heap.size + 1 + 1 + 1 + 1 + 1) := by omega
                        have npq2 : ¬ (w.heap.size + 1 + 1 + 1 + 1 = w.heap.size + 1 + 1 + 1) := by omega
                        have npq3 : ¬ (w.heap.size + 1 + 1 + 1 + 1 = w.heap.size + 1 + 1 + 1 + 1 + 1) := by omega
                        have npq4 : ¬ (w.heap.size + 1 + 1 + 1 + 1 + 1 = w.heap.size + 1 + 1 + 1) := by omega
                        have npq5 : ¬ (w.heap.size + 1 + 1 + 1 + 1 + 1 = w.heap.size + 1 + 1 + 1 + 1) := by omega
                        go_upto_region 33 with fail
                        have XX : Bx (w11.alloc (.cells (List.toArray [.int .i64 x0, .int .i64 x1, .int .i64 x2, .int .i64 x3, .int .i64 x4, .int .i64 x5]) 30)) (w11.heap.size) [.int .i64 x0, .int .i64 x1, .int .i64 x2, .int .i64 x3, .int .i64 x4, .int .i64 x5] := Bx.new rfl
                        have BB : Bx (w11.alloc (.cells (List.toArray [.int .i64 x0, .int .i64 x1, .int .i64 x2, .int .i64 x3, .int .i64 x4, .int .i64 x5]) 30)) (w2.heap.size) [.int .i64 p1, .int .i64 q1] := by
                          (repeat (first | with_reducible exact B_11 | with_reducible apply Bx.put6 | with_reducible apply Bx.put2 | with_reducible refine Bx.set ?_ (by omega) | with_reducible refine Bx.alc ?_ _ | with_reducible refine Bx.drew ?_))
                        have AA : Bx (w11.alloc (.cells (List.toArray [.int .i64 x0, .int .i64 x1, .int .i64 x2, .int .i64 x3, .int .i64 x4, .int .i64 x5]) 30)) (w5.heap.size) [.int .i64 p4, .int .i64 q4] := by
                          (repeat (first | with_reducible exact A_11 | with_reducible apply Bx.put6 | with_reducible apply Bx.put2 | with_reducible refine Bx.set ?_ (by omega) | with_reducible refine Bx.alc ?_ _ | with_reducible refine Bx.drew ?_))
                        have px0 : ¬ (w11.heap.size = w.heap.size + 1 + 1 + 1) := by omega
                        have pb0 : ¬ (w2.heap.size = w.heap.size + 1 + 1 + 1) := by omega
                        have pa0 : ¬ (w5.heap.size = w.heap.size + 1 + 1 + 1) := by omega
                        have px1 : ¬ (w11.heap.size = w.heap.size + 1 + 1 + 1 + 1) := by omega
                        have pb1 : ¬ (w2.heap.size = w.heap.size + 1 + 1 + 1 + 1) := by omega
                        have pa1 : ¬ (w5.heap.size = w.heap.size + 1 + 1 + 1 + 1) := by omega
                        have px2 : ¬ (w11.heap.size = w.heap.size + 1 + 1 + 1 + 1 + 1) := by omega
                        have pb2 : ¬ (w2.heap.size = w.heap.size + 1 + 1 + 1 + 1 + 1) := by omega
                        have pa2 : ¬ (w5.heap.size = w.heap.size + 1 + 1 + 1 + 1 + 1) := by omega
                        go_region_held3 (fun X => (∀ j, X.cell? ⟨w11.heap.size, j, none⟩ = [.int .i64 x0, .int .i64 x1, .int .i64 x2, .int .i64 x3, .int .i64 x4, .int .i64 x5][j]?) ∧ (∀ j, X.cell? ⟨w2.heap.size, j, none⟩ = [.int .i64 p1, .int .i64 q1][j]?) ∧ (∀ j, X.cell? ⟨w5.heap.size, j, none⟩ = [.int .i64 p4, .int .i64 q4][j]?)) (with_reducible first | exact ⟨XX.drew.c, BB.drew.c, AA.drew.c⟩ | exact ⟨((((((XX.set px0).set px0).set px0).set px0).set px0).set px0).drew.c, ((((((BB.set pb0).set pb0).set pb0).set pb0).set pb0).set pb0).drew.c, ((((((AA.set pa0).set pa0).set pa0).set pa0).set pa0).set pa0).drew.c⟩ | exact ⟨((((((XX.drew.set px0).set px0).set px0).set px0).set px0).set px0).c, ((((((BB.drew.set pb0).set pb0).set pb0).set pb0).set pb0).set pb0).c, ((((((AA.drew.set pa0).set pa0).set pa0).set pa0).set pa0).set pa0).c⟩ | exact ⟨(Bx.new (by simp)).drew.c, (((((((B_11.set pb0).set pb0).set pb0).set pb0).set pb0).set pb0).alc _).drew.c, (((((((A_11.set pa0).set pa0).set pa0).set pa0).set pa0).set pa0).alc _).drew.c⟩ | exact ⟨((((((((XX.set px0).set px0).set px0).set px0).set px0).set px0).set px1).set px1).drew.c, ((((((((BB.set pb0).set pb0).set pb0).set pb0).set pb0).set pb0).set pb1).set pb1).drew.c, ((((((((AA.set pa0).set pa0).set pa0).set pa0).set pa0).set pa0).set pa1).set pa1).drew.c⟩ | exact ⟨((((((((XX.drew.set px0).set px0).set px0).set px0).set px0).set px0).set px1).set px1).c, ((((((((BB.drew.set pb0).set pb0).set pb0).set pb0).set pb0).set pb0).set pb1).set pb1).c, ((((((((AA.drew.set pa0).set pa0).set pa0).set pa0).set pa0).set pa0).set pa1).set pa1).c⟩ | exact ⟨(Bx.new (by simp)).drew.c, (((((((((B_11.set pb0).set pb0).set pb0).set pb0).set pb0).set pb0).set pb1).set pb1).alc _).drew.c, (((((((((A_11.set pa0).set pa0).set pa0).set pa0).set pa0).set pa0).set pa1).set pa1).alc _).drew.c⟩ | exact ⟨((((((((((XX.set px0).set px0).set px0).set px0).set px0).set px0).set px1).set px1).set px2).set px2).drew.c, ((((((((((BB.set pb0).set pb0).set pb0).set pb0).set pb0).set pb0).set pb1).set pb1).set pb2).set pb2).drew.c, ((((((((((AA.set pa0).set pa0).set pa0).set pa0).set pa0).set pa0).set pa1).set pa1).set pa2).set pa2).drew.c⟩ | exact ⟨((((((((((XX.drew.set px0).set px0).set px0).set px0).set px0).set px0).set px1).set px1).set px2).set px2).c, ((((((((((BB.drew.set pb0).set pb0).set pb0).set pb0).set pb0).set pb0).set pb1).set pb1).set pb2).set pb2).c, ((((((((((AA.drew.set pa0).set pa0).set pa0).set pa0).set pa0).set pa0).set pa1).set pa1).set pa2).set pa2).c⟩ | exact ⟨(Bx.new (by simp)).drew.c, (((((((((((B_11.set pb0).set pb0).set pb0).set pb0).set pb0).set pb0).set pb1).set pb1).set pb2).set pb2).alc _).drew.c, (((((((((((A_11.set pa0).set pa0).set pa0).set pa0).set pa0).set pa0).set pa1).set pa1).set pa2).set pa2).alc _).drew.c⟩) (fail)
                        all_goals go_wp2_with fail
                        all_goals refine bodyPost_box3 (b := w.heap.size + 1 + 1 + 1) (c := w.heap.size + 1 + 1 + 1 + 1) (d := w.heap.size + 1 + 1 + 1 + 1 + 1) (cs := [.int .i64 x0, .int .i64 x1, .int .i64 x2, .int .i64 x3, .int .i64 x4, .int .i64 x5]) (ds := [.int .i64 p1, .int .i64 q1]) (es := [.int .i64 p4, .int .i64 q4]) (v := .tuple #[dv ⟨x0, x1, x2, x3, x4, x5⟩, iv p1 q1, iv p4 q4, .int .i64 0]) (by
                          (repeat (first | with_reducible exact o_11 | with_reducible apply Bx.put6 | with_reducible apply Bx.put2 | with_reducible refine Bx.set ?_ (by omega) | with_reducible refine Bx.alc ?_ _ | with_reducible refine Bx.drew ?_))) (by
                          (repeat (first | with_reducible exact u_11 | with_reducible apply Bx.put6 | with_reducible apply Bx.put2 | with_reducible refine Bx.set ?_ (by omega) | with_reducible refine Bx.alc ?_ _ | with_reducible refine Bx.drew ?_))) (by
                          (repeat (first | with_reducible exact v_11 | with_reducible apply Bx.put6 | with_reducible apply Bx.put2 | with_reducible refine Bx.set ?_ (by omega) | with_reducible refine Bx.alc ?_ _ | with_reducible refine Bx.drew ?_))) (fun X hX hY hZ => by simp [results, Try.results21, go_sem, hX, hY, hZ]) rfl ⟨by first | rfl | (simp [retF, failF]; done) | (simp [retF, failF, hsz]; done) | (simp [retF, failF, hp2]; done) | (simp [retF, failF, hsz, hp2]; done), by
                          refine Ho.below (n := w.heap.size + 1 + 1 + 1) (l := [(w.heap.size + 1 + 1, [.int .i64 a, .int .i64 b]), (w.heap.size + 1, [.int .i64 t.a, .int .i64 t.b, .int .i64 t.c, .int .i64 t.d, .int .i64 t.e, .int .i64 t.f]), (w.heap.size, [.int .i64 s.a, .int .i64 s.b, .int .i64 s.c, .int .i64 s.d, .int .i64 s.e, .int .i64 s.f])]) ?_
                          (repeat (first | with_reducible exact H11 | with_reducible refine Ho.alc ?_ _ | with_reducible refine Ho.drew ?_ | with_reducible refine Ho.put ?_ (by omega)))⟩
                      · have zhe9 : (e9 != 0) = true := by simpa using he9
                        have oc := o_11.c
                        have of := o_11.f
                        have om : w.heap.size + 1 + 1 + 1 < w11.heap.size + 1 := by omega
                        have uc := u_11.c
                        have uf := u_11.f
                        have um : w.heap.size + 1 + 1 + 1 + 1 < w11.heap.size + 1 := by omega
                        have vc := v_11.c
                        have vf := v_11.f
                        have vm : w.heap.size + 1 + 1 + 1 + 1 + 1 < w11.heap.size + 1 := by omega
                        have nc := n_11.c
                        have nf := n_11.f
                        have nm : w.heap.size + 1 + 1 + 1 + 1 + 1 + 1 < w11.heap.size + 1 := by omega
                        have npq0 : ¬ (w.heap.size + 1 + 1 + 1 = w.heap.size + 1 + 1 + 1 + 1) := by omega
                        have npq1 : ¬ (w.heap.size + 1 + 1 + 1 = w.heap.size + 1 + 1 + 1 + 1 + 1) := by omega
                        have npq2 : ¬ (w.heap.size + 1 + 1 + 1 = w.heap.size + 1 + 1 + 1 + 1 + 1 + 1) := by omega
                        have npq3 : ¬ (w.heap.size + 1 + 1 + 1 + 1 = w.heap.size + 1 + 1 + 1) := by omega
                        have npq4 : ¬ (w.heap.size + 1 + 1 + 1 + 1 = w.heap.size + 1 + 1 + 1 + 1 + 1) := by omega
                        have npq5 : ¬ (w.heap.size + 1 + 1 + 1 + 1 = w.heap.size + 1 + 1 + 1 + 1 + 1 + 1) := by omega
                        have npq6 : ¬ (w.heap.size + 1 + 1 + 1 + 1 + 1 = w.heap.size + 1 + 1 + 1) := by omega
                        have npq7 : ¬ (w.heap.size + 1 + 1 + 1 + 1 + 1 = w.heap.size + 1 + 1 + 1 + 1) := by omega
                        have npq8 : ¬ (w.heap.size + 1 + 1 + 1 + 1 + 1 = w.heap.size + 1 + 1 + 1 + 1 + 1 + 1) := by omega
                        have npq9 : ¬ (w.heap.size + 1 + 1 + 1 + 1 + 1 + 1 = w.heap.size + 1 + 1 + 1) := by omega
                        have npq10 : ¬ (w.heap.size + 1 + 1 + 1 + 1 + 1 + 1 = w.heap.size + 1 + 1 + 1 + 1) := by omega
                        have npq11 : ¬ (w.heap.size + 1 + 1 + 1 + 1 + 1 + 1 = w.heap.size + 1 + 1 + 1 + 1 + 1) := by omega
                        go_upto_region 32 with fail
                        have NX : Bx (w11.alloc (.cells (List.toArray [.int .i64 x0, .int .i64 x1, .int .i64 x2, .int .i64 x3, .int .i64 x4, .int .i64 x5]) 30)).drew (w.heap.size + 1 + 1 + 1 + 1 + 1 + 1) [.int .i64 0, .int .i64 0] := by
                          (repeat (first | with_reducible exact n_11 | with_reducible apply Bx.put6 | with_reducible apply Bx.put2 | with_reducible refine Bx.set ?_ (by omega) | with_reducible refine Bx.alc ?_ _ | with_reducible refine Bx.drew ?_))
                        have pn0 : ¬ (w.heap.size + 1 + 1 + 1 + 1 + 1 + 1 = w.heap.size + 1 + 1 + 1) := by omega
                        have pn1 : ¬ (w.heap.size + 1 + 1 + 1 + 1 + 1 + 1 = w.heap.size + 1 + 1 + 1 + 1) := by omega
                        have pn2 : ¬ (w.heap.size + 1 + 1 + 1 + 1 + 1 + 1 = w.heap.size + 1 + 1 + 1 + 1 + 1) := by omega
                        have N0 : Bx (w11.alloc (.cells (List.toArray [.int .i64 x0, .int .i64 x1, .int .i64 x2, .int .i64 x3, .int .i64 x4, .int .i64 x5]) 30)) (w.heap.size + 1 + 1 + 1 + 1 + 1 + 1) [.int .i64 0, .int .i64 0] := by
                          (repeat (first | with_reducible exact n_11 | with_reducible apply Bx.put6 | with_reducible apply Bx.put2 | with_reducible refine Bx.set ?_ (by omega) | with_reducible refine Bx.alc ?_ _ | with_reducible refine Bx.drew ?_))
                        go_region_held3 (fun X => (∀ j, X.cell? ⟨w.heap.size + 1 + 1 + 1 + 1 + 1 + 1, j, none⟩ = [.int .i64 0, .int .i64 0][j]?)) (with_reducible first | exact NX.c | exact (n_11.alc _).drew.c | exact ((((((NX.set pn0).set pn0).set pn0).set pn0).set pn0).set pn0).c | exact ((((((N0.set pn0).set pn0).set pn0).set pn0).set pn0).set pn0).drew.c | exact (((((((n_11.set pn0).set pn0).set pn0).set pn0).set pn0).set pn0).alc _).drew.c | exact ((((((((NX.set pn0).set pn0).set pn0).set pn0).set pn0).set pn0).set pn1).set pn1).c | exact ((((((((N0.set pn0).set pn0).set pn0).set pn0).set pn0).set pn0).set pn1).set pn1).drew.c | exact (((((((((n_11.set pn0).set pn0).set pn0).set pn0).set pn0).set pn0).set pn1).set pn1).alc _).drew.c | exact ((((((((((NX.set pn0).set pn0).set pn0).set pn0).set pn0).set pn0).set pn1).set pn1).set pn2).set pn2).c | exact ((((((((((N0.set pn0).set pn0).set pn0).set pn0).set pn0).set pn0).set pn1).set pn1).set pn2).set pn2).drew.c | exact (((((((((((n_11.set pn0).set pn0).set pn0).set pn0).set pn0).set pn0).set pn1).set pn1).set pn2).set pn2).alc _).drew.c) (fail)
                        all_goals go_wp2_with fail
                        all_goals refine bodyPost_box3 (b := w.heap.size + 1 + 1 + 1) (c := w.heap.size + 1 + 1 + 1 + 1) (d := w.heap.size + 1 + 1 + 1 + 1 + 1) (cs := [.int .i64 0, .int .i64 0, .int .i64 0, .int .i64 0, .int .i64 0, .int .i64 0]) (ds := [.int .i64 0, .int .i64 0]) (es := [.int .i64 0, .int .i64 0]) (v := .tuple #[dv zD, iv 0 0, iv 0 0, .int .i64 e9]) (by
                          (repeat (first | with_reducible exact o_11 | with_reducible apply Bx.put6 | with_reducible apply Bx.put2 | with_reducible refine Bx.set ?_ (by omega) | with_reducible refine Bx.alc ?_ _ | with_reducible refine Bx.drew ?_))) (by
                          (repeat (first | with_reducible exact u_11 | with_reducible apply Bx.put6 | with_reducible apply Bx.put2 | with_reducible refine Bx.set ?_ (by omega) | with_reducible refine Bx.alc ?_ _ | with_reducible refine Bx.drew ?_))) (by
                          (repeat (first | with_reducible exact v_11 | with_reducible apply Bx.put6 | with_reducible apply Bx.put2 | with_reducible refine Bx.set ?_ (by omega) | with_reducible refine Bx.alc ?_ _ | with_reducible refine Bx.drew ?_))) (fun X hX hY hZ => by simp [results, Try.results21, go_sem, hX, hY, hZ, zD]) rfl ⟨by first | rfl | (simp [retF, failF]; done) | (simp [retF, failF, hsz]; done) | (simp [retF, failF, hp2]; done) | (simp [retF, failF, he9]; done) | (simp [retF, failF, hsz, hp2]; done) | (simp [retF, failF, hsz, he9]; done) | (simp [retF, failF, hp2, he9]; done) | (simp [retF, failF, hsz, hp2, he9]; done), by
                          refine Ho.below (n := w.heap.size + 1 + 1 + 1) (l := [(w.heap.size + 1 + 1, [.int .i64 a, .int .i64 b]), (w.heap.size + 1, [.int .i64 t.a, .int .i64 t.b, .int .i64 t.c, .int .i64 t.d, .int .i64 t.e, .int .i64 t.f]), (w.heap.size, [.int .i64 s.a, .int .i64 s.b, .int .i64 s.c, .int .i64 s.d, .int .i64 s.e, .int .i64 s.f])]) ?_
                          (repeat (first | with_reducible exact H11 | with_reducible refine Ho.alc ?_ _ | with_reducible refine Ho.drew ?_ | with_reducible refine Ho.put ?_ (by omega)))⟩
                    · have zhe8 : (e8 != 0) = true := by simpa using he8
                      have oc := o_10.c
                      have of := o_10.f
                      have om : w.heap.size + 1 + 1 + 1 < w10.heap.size + 1 := by omega
                      have uc := u_10.c
                      have uf := u_10.f
                      have um : w.heap.size + 1 + 1 + 1 + 1 < w10.heap.size + 1 := by omega
                      have vc := v_10.c
                      have vf := v_10.f
                      have vm : w.heap.size + 1 + 1 + 1 + 1 + 1 < w10.heap.size + 1 := by omega
                      have nc := n_10.c
                      have nf := n_10.f
                      have nm : w.heap.size + 1 + 1 + 1 + 1 + 1 + 1 < w10.heap.size + 1 := by omega
                      have npq0 : ¬ (w.heap.size + 1 + 1 + 1 = w.heap.size + 1 + 1 + 1 + 1) := by omega
                      have npq1 : ¬ (w.heap.size + 1 + 1 + 1 = w.heap.size + 1 + 1 + 1 + 1 + 1) := by omega
                      have npq2 : ¬ (w.heap.size + 1 + 1 + 1 = w.heap.size + 1 + 1 + 1 + 1 + 1 + 1) := by omega
                      have npq3 : ¬ (w.heap.size + 1 + 1 + 1 + 1 = w.heap.size + 1 + 1 + 1) := by omega
                      have npq4 : ¬ (w.heap.size + 1 + 1 + 1 + 1 = w.heap.size + 1 + 1 + 1 + 1 + 1) := by omega
                      have npq5 : ¬ (w.heap.size + 1 + 1 + 1 + 1 = w.heap.size + 1 + 1 + 1 + 1 + 1 + 1) := by omega
                      have npq6 : ¬ (w.heap.size + 1 + 1 + 1 + 1 + 1 = w.heap.size + 1 + 1 + 1) := by omega
                      have npq7 : ¬ (w.heap.size + 1 + 1 + 1 + 1 + 1 = w.heap.size + 1 + 1 + 1 + 1) := by omega
                      have npq8 : ¬ (w.heap.size + 1 + 1 + 1 + 1 + 1 = w.heap.size + 1 + 1 + 1 + 1 + 1 + 1) := by omega
                      have npq9 : ¬ (w.heap.size + 1 + 1 + 1 + 1 + 1 + 1 = w.heap.size + 1 + 1 + 1) := by omega
                      have npq10 : ¬ (w.heap.size + 1 + 1 + 1 + 1 + 1 + 1 = w.heap.size + 1 + 1 + 1 + 1) := by omega
                      have npq11 : ¬ (w.heap.size + 1 + 1 + 1 + 1 + 1 + 1 = w.heap.size + 1 + 1 + 1 + 1 + 1) := by omega
                      go_upto_region 29 with fail
                      have NX : Bx (w10.alloc (.cells (List.toArray [.int .i64 g0, .int .i64 g1, .int .i64 g2, .int .i64 g3, .int .i64 g4, .int .i64 g5]) 30)).drew (w.heap.size + 1 + 1 + 1 + 1 + 1 + 1) [.int .i64 0, .int .i64 0] := by
                        (repeat (first | with_reducible exact n_10 | with_reducible apply Bx.put6 | with_reducible apply Bx.put2 | with_reducible refine Bx.set ?_ (by omega) | with_reducible refine Bx.alc ?_ _ | with_reducible refine Bx.drew ?_))
                      have pn0 : ¬ (w.heap.size + 1 + 1 + 1 + 1 + 1 + 1 = w.heap.size + 1 + 1 + 1) := by omega
                      have pn1 : ¬ (w.heap.size + 1 + 1 + 1 + 1 + 1 + 1 = w.heap.size + 1 + 1 + 1 + 1) := by omega
                      have pn2 : ¬ (w.heap.size + 1 + 1 + 1 + 1 + 1 + 1 = w.heap.size + 1 + 1 + 1 + 1 + 1) := by omega
                      have N0 : Bx (w10.alloc (.cells (List.toArray [.int .i64 g0, .int .i64 g1, .int .i64 g2, .int .i64 g3, .int .i64 g4, .int .i64 g5]) 30)) (w.heap.size + 1 + 1 + 1 + 1 + 1 + 1) [.int .i64 0, .int .i64 0] := by
                        (repeat (first | with_reducible exact n_10 | with_reducible apply Bx.put6 | with_reducible apply Bx.put2 | with_reducible refine Bx.set ?_ (by omega) | with_reducible refine Bx.alc ?_ _ | with_reducible refine Bx.drew ?_))
                      go_region_held3 (fun X => (∀ j, X.cell? ⟨w.heap.size + 1 + 1 + 1 + 1 + 1 + 1, j, none⟩ = [.int .i64 0, .int .i64 0][j]?)) (with_reducible first | exact NX.c | exact (n_10.alc _).drew.c | exact ((((((NX.set pn0).set pn0).set pn0).set pn0).set pn0).set pn0).c | exact ((((((N0.set pn0).set pn0).set pn0).set pn0).set pn0).set pn0).drew.c | exact (((((((n_10.set pn0).set pn0).set pn0).set pn0).set pn0).set pn0).alc _).drew.c | exact ((((((((NX.set pn0).set pn0).set pn0).set pn0).set pn0).set pn0).set pn1).set pn1).c | exact ((((((((N0.set pn0).set pn0).set pn0).set pn0).set pn0).set pn0).set pn1).set pn1).drew.c | exact (((((((((n_10.set pn0).set pn0).set pn0).set pn0).set pn0).set pn0).set pn1).set pn1).alc _).drew.c | exact ((((((((((NX.set pn0).set pn0).set pn0).set pn0).set pn0).set pn0).set pn1).set pn1).set pn2).set pn2).c | exact ((((((((((N0.set pn0).set pn0).set pn0).set pn0).set pn0).set pn0).set pn1).set pn1).set pn2).set pn2).drew.c | exact (((((((((((n_10.set pn0).set pn0).set pn0).set pn0).set pn0).set pn0).set pn1).set pn1).set pn2).set pn2).alc _).drew.c) (fail)
                      all_goals go_wp2_with fail
                      all_goals refine bodyPost_box3 (b := w.heap.size + 1 + 1 + 1) (c := w.heap.size + 1 + 1 + 1 + 1) (d := w.heap.size + 1 + 1 + 1 + 1 + 1) (cs := [.int .i64 0, .int .i64 0, .int .i64 0, .int .i64 0, .int .i64 0, .int .i64 0]) (ds := [.int .i64 0, .int .i64 0]) (es := [.int .i64 0, .int .i64 0]) (v := .tuple #[dv zD, iv 0 0, iv 0 0, .int .i64 e8]) (by
                        (repeat (first | with_reducible exact o_10 | with_reducible apply Bx.put6 | with_reducible apply Bx.put2 | with_reducible refine Bx.set ?_ (by omega) | with_reducible refine Bx.alc ?_ _ | with_reducible refine Bx.drew ?_))) (by
                        (repeat (first | with_reducible exact u_10 | with_reducible apply Bx.put6 | with_reducible apply Bx.put2 | with_reducible refine Bx.set ?_ (by omega) | with_reducible refine Bx.alc ?_ _ | with_reducible refine Bx.drew ?_))) (by
                        (repeat (first | with_reducible exact v_10 | with_reducible apply Bx.put6 | with_reducible apply Bx.put2 | with_reducible refine Bx.set ?_ (by omega) | with_reducible refine Bx.alc ?_ _ | with_reducible refine Bx.drew ?_))) (fun X hX hY hZ => by simp [results, Try.results21, go_sem, hX, hY, hZ, zD]) rfl ⟨by first | rfl | (simp [retF, failF]; done) | (simp [retF, failF, hsz]; done) | (simp [retF, failF, hp2]; done) | (simp [retF, failF, he8]; done) | (simp [retF, failF, hsz, hp2]; done) | (simp [retF, failF, hsz, he8]; done) | (simp [retF, failF, hp2, he8]; done) | (simp [retF, failF, hsz, hp2, he8]; done), by
                        refine Ho.below (n := w.heap.size + 1 + 1 + 1) (l := [(w.heap.size + 1 + 1, [.int .i64 a, .int .i64 b]), (w.heap.size + 1, [.int .i64 t.a, .int .i64 t.b, .int .i64 t.c, .int .i64 t.d, .int .i64 t.e, .int .i64 t.f]), (w.heap.size, [.int .i64 s.a, .int .i64 s.b, .int .i64 s.c, .int .i64 s.d, .int .i64 s.e, .int .i64 s.f])]) ?_
                        (repeat (first | with_reducible exact H10 | with_reducible refine Ho.alc ?_ _ | with_reducible refine Ho.drew ?_ | with_reducible refine Ho.put ?_ (by omega)))⟩
                  · have zhe6 : (E4 != 0) = true := by simpa using he6
                    have oc := o_9.c
                    have of := o_9.f
                    have om : w.heap.size + 1 + 1 + 1 < w9.heap.size + 1 := by omega
                    have uc := u_9.c
                    have uf := u_9.f
                    have um : w.heap.size + 1 + 1 + 1 + 1 < w9.heap.size + 1 := by omega
                    have vc := v_9.c
                    have vf := v_9.f
                    have vm : w.heap.size + 1 + 1 + 1 + 1 + 1 < w9.heap.size + 1 := by omega
                    have nc := n_9.c
                    have nf := n_9.f
                    have nm : w.heap.size + 1 + 1 + 1 + 1 + 1 + 1 < w9.heap.size + 1 := by omega
                    have npq0 : ¬ (w.heap.size + 1 + 1 + 1 = w.heap.size + 1 + 1 + 1 + 1) := by omega
                    have npq1 : ¬ (w.heap.size + 1 + 1 + 1 = w.heap.size + 1 + 1 + 1 + 1 + 1) := by omega
                    have npq2 : ¬ (w.heap.size + 1 + 1 + 1 = w.heap.size + 1 + 1 + 1 + 1 + 1 + 1) := by omega
                    have npq3 : ¬ (w.heap.size + 1 + 1 + 1 + 1 = w.heap.size + 1 + 1 + 1) := by omega
                    have npq4 : ¬ (w.heap.size + 1 + 1 + 1 + 1 = w.heap.size + 1 + 1 + 1 + 1 + 1) := by omega
                    have npq5 : ¬ (w.heap.size + 1 + 1 + 1 + 1 = w.heap.size + 1 + 1 + 1 + 1 + 1 + 1) := by omega
                    have npq6 : ¬ (w.heap.size + 1 + 1 + 1 + 1 + 1 = w.heap.size + 1 + 1 + 1) := by omega
                    have npq7 : ¬ (w.heap.size + 1 + 1 + 1 + 1 + 1 = w.heap.size + 1 + 1 + 1 + 1) := by omega
                    have npq8 : ¬ (w.heap.size + 1 + 1 + 1 + 1 + 1 = w.heap.size + 1 + 1 + 1 + 1 + 1 + 1) := by omega
                    have npq9 : ¬ (w.heap.size + 1 + 1 + 1 + 1 + 1 + 1 = w.heap.size + 1 + 1 + 1) := by omega
                    have npq10 : ¬ (w.heap.size + 1 + 1 + 1 + 1 + 1 + 1 = w.heap.size + 1 + 1 + 1 + 1) := by omega
                    have npq11 : ¬ (w.heap.size + 1 + 1 + 1 + 1 + 1 + 1 = w.heap.size + 1 + 1 + 1 + 1 + 1) := by omega
                    go_upto_region 26 with fail
                    have NX : Bx w9.drew (w.heap.size + 1 + 1 + 1 + 1 + 1 + 1) [.int .i64 0, .int .i64 0] := by
                      (repeat (first | with_reducible exact n_9 | with_reducible apply Bx.put6 | with_reducible apply Bx.put2 | with_reducible refine Bx.set ?_ (by omega) | with_reducible refine Bx.alc ?_ _ | with_reducible refine Bx.drew ?_))
                    have pn0 : ¬ (w.heap.size + 1 + 1 + 1 + 1 + 1 + 1 = w.heap.size + 1 + 1 + 1) := by omega
                    have pn1 : ¬ (w.heap.size + 1 + 1 + 1 + 1 + 1 + 1 = w.heap.size + 1 + 1 + 1 + 1) := by omega
                    have pn2 : ¬ (w.heap.size + 1 + 1 + 1 + 1 + 1 + 1 = w.heap.size + 1 + 1 + 1 + 1 + 1) := by omega
                    have CX : Ce w9.drew ((w4.heap.size + 1)) E4 := by
                      (repeat (first | with_reducible exact C_9 | with_reducible refine Ce.alc ?_ _ | with_reducible refine Ce.drew ?_ | with_reducible refine Ce.set ?_ (by omega)))
                    have pc0 : ¬ ((w4.heap.size + 1) = w.heap.size + 1 + 1 + 1) := by omega
                    have pc1 : ¬ ((w4.heap.size + 1) = w.heap.size + 1 + 1 + 1 + 1) := by omega
                    have pc2 : ¬ ((w4.heap.size + 1) = w.heap.size + 1 + 1 + 1 + 1 + 1) := by omega
                    have N0 : Bx w9 (w.heap.size + 1 + 1 + 1 + 1 + 1 + 1) [.int .i64 0, .int .i64 0] := by
                      (repeat (first | with_reducible exact n_9 | with_reducible apply Bx.put6 | with_reducible apply Bx.put2 | with_reducible refine Bx.set ?_ (by omega) | with_reducible refine Bx.alc ?_ _ | with_reducible refine Bx.drew ?_))
                    have C0 : Ce w9 ((w4.heap.size + 1)) E4 := by
                      (repeat (first | with_reducible exact C_9 | with_reducible refine Ce.alc ?_ _ | with_reducible refine Ce.drew ?_ | with_reducible refine Ce.set ?_ (by omega)))
                    go_region_held3 (fun X => (∀ j, X.cell? ⟨w.heap.size + 1 + 1 + 1 + 1 + 1 + 1, j, none⟩ = [.int .i64 0, .int .i64 0][j]?) ∧ X.cell? ⟨(w4.heap.size + 1), 0, none⟩ = some (.int .i64 E4)) (with_reducible first | exact ⟨NX.c, CX.v⟩ | exact ⟨((((((NX.set pn0).set pn0).set pn0).set pn0).set pn0).set pn0).c, ((((((CX.set pc0).set pc0).set pc0).set pc0).set pc0).set pc0).v⟩ | exact ⟨((((((N0.set pn0).set pn0).set pn0).set pn0).set pn0).set pn0).drew.c, ((((((C0.set pc0).set pc0).set pc0).set pc0).set pc0).set pc0).drew.v⟩ | exact ⟨((((((((NX.set pn0).set pn0).set pn0).set pn0).set pn0).set pn0).set pn1).set pn1).c, ((((((((CX.set pc0).set pc0).set pc0).set pc0).set pc0).set pc0).set pc1).set pc1).v⟩ | exact ⟨((((((((N0.set pn0).set pn0).set pn0).set pn0).set pn0).set pn0).set pn1).set pn1).drew.c, ((((((((C0.set pc0).set pc0).set pc0).set pc0).set pc0).set pc0).set pc1).set pc1).drew.v⟩ | exact ⟨((((((((((NX.set pn0).set pn0).set pn0).set pn0).set pn0).set pn0).set pn1).set pn1).set pn2).set pn2).c, ((((((((((CX.set pc0).set pc0).set pc0).set pc0).set pc0).set pc0).set pc1).set pc1).set pc2).set pc2).v⟩ | exact ⟨((((((((((N0.set pn0).set pn0).set pn0).set pn0).set pn0).set pn0).set pn1).set pn1).set pn2).set pn2).drew.c, ((((((((((C0.set pc0).set pc0).set pc0).set pc0).set pc0).set pc0).set pc1).set pc1).set pc2).set pc2).drew.v⟩) (fail)
                    all_goals go_wp2_with fail
                    all_goals refine bodyPost_box3 (b := w.heap.size + 1 + 1 + 1) (c := w.heap.size + 1 + 1 + 1 + 1) (d := w.heap.size + 1 + 1 + 1 + 1 + 1) (cs := [.int .i64 0, .int .i64 0, .int .i64 0, .int .i64 0, .int .i64 0, .int .i64 0]) (ds := [.int .i64 0, .int .i64 0]) (es := [.int .i64 0, .int .i64 0]) (v := .tuple #[dv zD, iv 0 0, iv 0 0, .int .i64 E4]) (by
                      (repeat (first | with_reducible exact o_9 | with_reducible apply Bx.put6 | with_reducible apply Bx.put2 | with_reducible refine Bx.set ?_ (by omega) | with_reducible refine Bx.alc ?_ _ | with_reducible refine Bx.drew ?_))) (by
                      (repeat (first | with_reducible exact u_9 | with_reducible apply Bx.put6 | with_reducible apply Bx.put2 | with_reducible refine Bx.set ?_ (by omega) | with_reducible refine Bx.alc ?_ _ | with_reducible refine Bx.drew ?_))) (by
                      (repeat (first | with_reducible exact v_9 | with_reducible apply Bx.put6 | with_reducible apply Bx.put2 | with_reducible refine Bx.set ?_ (by omega) | with_reducible refine Bx.alc ?_ _ | with_reducible refine Bx.drew ?_))) (fun X hX hY hZ => by simp [results, Try.results21, go_sem, hX, hY, hZ, zD]) rfl ⟨by first | rfl | (simp [retF, failF]; done) | (simp [retF, failF, hsz]; done) | (simp [retF, failF, hp2]; done) | (simp [retF, failF, he6]; done) | (simp [retF, failF, hsz, hp2]; done) | (simp [retF, failF, hsz, he6]; done) | (simp [retF, failF, hp2, he6]; done) | (simp [retF, failF, hsz, hp2, he6]; done), by
                      refine Ho.below (n := w.heap.size + 1 + 1 + 1) (l := [(w.heap.size + 1 + 1, [.int .i64 a, .int .i64 b]), (w.heap.size + 1, [.int .i64 t.a, .int .i64 t.b, .int .i64 t.c, .int .i64 t.d, .int .i64 t.e, .int .i64 t.f]), (w.heap.size, [.int .i64 s.a, .int .i64 s.b, .int .i64 s.c, .int .i64 s.d, .int .i64 s.e, .int .i64 s.f])]) ?_
                      (repeat (first | with_reducible exact H9 | with_reducible refine Ho.alc ?_ _ | with_reducible refine Ho.drew ?_ | with_reducible refine Ho.put ?_ (by omega)))⟩
              · have zhe5 : (e5 != 0) = true := by simpa using he5
                clear C_7v C_7f
                have oc := o_7.c
                have of := o_7.f
                have om : w.heap.size + 1 + 1 + 1 < w7.heap.size + 1 := by omega
                have uc := u_7.c
                have uf := u_7.f
                have um : w.heap.size + 1 + 1 + 1 + 1 < w7.heap.size + 1 := by omega
                have vc := v_7.c
                have vf := v_7.f
                have vm : w.heap.size + 1 + 1 + 1 + 1 + 1 < w7.heap.size + 1 := by omega
                have nc := n_7.c
                have nf := n_7.f
                have nm : w.heap.size + 1 + 1 + 1 + 1 + 1 + 1 < w7.heap.size + 1 := by omega
                have npq0 : ¬ (w.heap.size + 1 + 1 + 1 = w.heap.size + 1 + 1 + 1 + 1) := by omega
                have npq1 : ¬ (w.heap.size + 1 + 1 + 1 = w.heap.size + 1 + 1 + 1 + 1 + 1) := by omega
                have npq2 : ¬ (w.heap.size + 1 + 1 + 1 = w.heap.size + 1 + 1 + 1 + 1 + 1 + 1) := by omega
                have npq3 : ¬ (w.heap.size + 1 + 1 + 1 + 1 = w.heap.size + 1 + 1 + 1) := by omega
                have npq4 : ¬ (w.heap.size + 1 + 1 + 1 + 1 = w.heap.size + 1 + 1 + 1 + 1 + 1) := by omega
                have npq5 : ¬ (w.heap.size + 1 + 1 + 1 + 1 = w.heap.size + 1 + 1 + 1 + 1 + 1 + 1) := by omega
                have npq6 : ¬ (w.heap.size + 1 + 1 + 1 + 1 + 1 = w.heap.size + 1 + 1 + 1) := by omega
                have npq7 : ¬ (w.heap.size + 1 + 1 + 1 + 1 + 1 = w.heap.size + 1 + 1 + 1 + 1) := by omega
                have npq8 : ¬ (w.heap.size + 1 + 1 + 1 + 1 + 1 = w.heap.size + 1 + 1 + 1 + 1 + 1 + 1) := by omega
                have npq9 : ¬ (w.heap.size + 1 + 1 + 1 + 1 + 1 + 1 = w.heap.size + 1 + 1 + 1) := by omega
                have npq10 : ¬ (w.heap.size + 1 + 1 + 1 + 1 + 1 + 1 = w.heap.size + 1 + 1 + 1 + 1) := by omega
                have npq11 : ¬ (w.heap.size + 1 + 1 + 1 + 1 + 1 + 1 = w.heap.size + 1 + 1 + 1 + 1 + 1) := by omega
                go_upto_region 23 with fail
                have NX : Bx (w7.alloc (.cells (List.toArray [.int .i64 d0, .int .i64 d1, .int .i64 d2, .int .i64 d3, .int .i64 d4, .int .i64 d5]) 30)).drew (w.heap.size + 1 + 1 + 1 + 1 + 1 + 1) [.int .i64 0, .int .i64 0] := by
                  (repeat (first | with_reducible exact n_7 | with_reducible apply Bx.put6 | with_reducible apply Bx.put2 | with_reducible refine Bx.set ?_ (by omega) | with_reducible refine Bx.alc ?_ _ | with_reducible refine Bx.drew ?_))
                have pn0 : ¬ (w.heap.size + 1 + 1 + 1 + 1 + 1 + 1 = w.heap.size + 1 + 1 + 1) := by omega
                have pn1 : ¬ (w.heap.size + 1 + 1 + 1 + 1 + 1 + 1 = w.heap.size + 1 + 1 + 1 + 1) := by omega
                have pn2 : ¬ (w.heap.size + 1 + 1 + 1 + 1 + 1 + 1 = w.heap.size + 1 + 1 + 1 + 1 + 1) := by omega
                have N0 : Bx (w7.alloc (.cells (List.toArray [.int .i64 d0, .int .i64 d1, .int .i64 d2, .int .i64 d3, .int .i64 d4, .int .i64 d5]) 30)) (w.heap.size + 1 + 1 + 1 + 1 + 1 + 1) [.int .i64 0, .int .i64 0] := by
                  (repeat (first | with_reducible exact n_7 | with_reducible apply Bx.put6 | with_reducible apply Bx.put2 | with_reducible refine Bx.set ?_ (by omega) | with_reducible refine Bx.alc ?_ _ | with_reducible refine Bx.drew ?_))
                go_region_held3 (fun X => (∀ j, X.cell? ⟨w.heap.size + 1 + 1 + 1 + 1 + 1 + 1, j, none⟩ = [.int .i64 0, .int .i64 0][j]?)) (with_reducible first | exact NX.c | exact (n_7.alc _).drew.c | exact ((((((NX.set pn0).set pn0).set pn0).set pn0).set pn0).set pn0).c | exact ((((((N0.set pn0).set pn0).set pn0).set pn0).set pn0).set pn0).drew.c | exact (((((((n_7.set pn0).set pn0).set pn0).set pn0).set pn0).set pn0).alc _).drew.c | exact ((((((((NX.set pn0).set pn0).set pn0).set pn0).set pn0).set pn0).set pn1).set pn1).c | exact ((((((((N0.set pn0).set pn0).set pn0).set pn0).set pn0).set pn0).set pn1).set pn1).drew.c | exact (((((((((n_7.set pn0).set pn0).set pn0).set pn0).set pn0).set pn0).set pn1).set pn1).alc _).drew.c | exact ((((((((((NX.set pn0).set pn0).set pn0).set pn0).set pn0).set pn0).set pn1).set pn1).set pn2).set pn2).c | exact ((((((((((N0.set pn0).set pn0).set pn0).set pn0).set pn0).set pn0).set pn1).set pn1).set pn2).set pn2).drew.c | exact (((((((((((n_7.set pn0).set pn0).set pn0).set pn0).set pn0).set pn0).set pn1).set pn1).set pn2).set pn2).alc _).drew.c) (fail)
                all_goals go_wp2_with fail
                all_goals refine bodyPost_box3 (b := w.heap.size + 1 + 1 + 1) (c := w.heap.size + 1 + 1 + 1 + 1) (d := w.heap.size + 1 + 1 + 1 + 1 + 1) (cs := [.int .i64 0, .int .i64 0, .int .i64 0, .int .i64 0, .int .i64 0, .int .i64 0]) (ds := [.int .i64 0, .int .i64 0]) (es := [.int .i64 0, .int .i64 0]) (v := .tuple #[dv zD, iv 0 0, iv 0 0, .int .i64 e5]) (by
                  (repeat (first | with_reducible exact o_7 | with_reducible apply Bx.put6 | with_reducible apply Bx.put2 | with_reducible refine Bx.set ?_ (by omega) | with_reducible refine Bx.alc ?_ _ | with_reducible refine Bx.drew ?_))) (by
                  (repeat (first | with_reducible exact u_7 | with_reducible apply Bx.put6 | with_reducible apply Bx.put2 | with_reducible refine Bx.set ?_ (by omega) | with_reducible refine Bx.alc ?_ _ | with_reducible refine Bx.drew ?_))) (by
                  (repeat (first | with_reducible exact v_7 | with_reducible apply Bx.put6 | with_reducible apply Bx.put2 | with_reducible refine Bx.set ?_ (by omega) | with_reducible refine Bx.alc ?_ _ | with_reducible refine Bx.drew ?_))) (fun X hX hY hZ => by simp [results, Try.results21, go_sem, hX, hY, hZ, zD]) rfl ⟨by first | rfl | (simp [retF, failF]; done) | (simp [retF, failF, hsz]; done) | (simp [retF, failF, hp2]; done) | (simp [retF, failF, he5]; done) | (simp [retF, failF, hsz, hp2]; done) | (simp [retF, failF, hsz, he5]; done) | (simp [retF, failF, hp2, he5]; done) | (simp [retF, failF, hsz, hp2, he5]; done), by
                  refine Ho.below (n := w.heap.size + 1 + 1 + 1) (l := [(w.heap.size + 1 + 1, [.int .i64 a, .int .i64 b]), (w.heap.size + 1, [.int .i64 t.a, .int .i64 t.b, .int .i64 t.c, .int .i64 t.d, .int .i64 t.e, .int .i64 t.f]), (w.heap.size, [.int .i64 s.a, .int .i64 s.b, .int .i64 s.c, .int .i64 s.d, .int .i64 s.e, .int .i64 s.f])]) ?_
                  (repeat (first | with_reducible exact H7 | with_reducible refine Ho.alc ?_ _ | with_reducible refine Ho.drew ?_ | with_reducible refine Ho.put ?_ (by omega)))⟩
            · have zlt : (decide (sg < 0)) = false := by simpa using hlt
              obtain ⟨z3, z4⟩ := HA.out.2 (by omega)
              subst z3 z4
              go_upto_region 19 with fail
              have H6x : Ho w (w5.alloc (.cells (List.toArray [.int .i64 p3, .int .i64 q3]) 23)) (w.heap.size + 1 + 1 + 1) [(w.heap.size + 1 + 1, [.int .i64 a, .int .i64 b]), (w.heap.size + 1, [.int .i64 t.a, .int .i64 t.b, .int .i64 t.c, .int .i64 t.d, .int .i64 t.e, .int .i64 t.f]), (w.heap.size, [.int .i64 s.a, .int .i64 s.b, .int .i64 s.c, .int .i64 s.d, .int .i64 s.e, .int .i64 s.f])] := by
                (repeat (first | with_reducible exact H5 | with_reducible refine Ho.alc ?_ _ | with_reducible refine Ho.drew ?_ | with_reducible refine Ho.put ?_ (by omega)))
              have o_6x : Bx (w5.alloc (.cells (List.toArray [.int .i64 p3, .int .i64 q3]) 23)) (w.heap.size + 1 + 1 + 1) [.int .i64 0, .int .i64 0, .int .i64 0, .int .i64 0, .int .i64 0, .int .i64 0] := by
                (repeat (first | with_reducible exact o_5 | with_reducible refine Bx.alc ?_ _ | with_reducible refine Bx.drew ?_ | with_reducible refine Bx.set ?_ (by omega)))
              have u_6x : Bx (w5.alloc (.cells (List.toArray [.int .i64 p3, .int .i64 q3]) 23)) (w.heap.size + 1 + 1 + 1 + 1) [.int .i64 0, .int .i64 0] := by
                (repeat (first | with_reducible exact u_5 | with_reducible refine Bx.alc ?_ _ | with_reducible refine Bx.drew ?_ | with_reducible refine Bx.set ?_ (by omega)))
              have v_6x : Bx (w5.alloc (.cells (List.toArray [.int .i64 p3, .int .i64 q3]) 23)) (w.heap.size + 1 + 1 + 1 + 1 + 1) [.int .i64 0, .int .i64 0] := by
                (repeat (first | with_reducible exact v_5 | with_reducible refine Bx.alc ?_ _ | with_reducible refine Bx.drew ?_ | with_reducible refine Bx.set ?_ (by omega)))
              have n_6x : Bx (w5.alloc (.cells (List.toArray [.int .i64 p3, .int .i64 q3]) 23)) (w.heap.size + 1 + 1 + 1 + 1 + 1 + 1) [.int .i64 0, .int .i64 0] := by
                (repeat (first | with_reducible exact n_5 | with_reducible refine Bx.alc ?_ _ | with_reducible refine Bx.drew ?_ | with_reducible refine Bx.set ?_ (by omega)))
              have B_6x : Bx (w5.alloc (.cells (List.toArray [.int .i64 p3, .int .i64 q3]) 23)) (w2.heap.size) [.int .i64 p1, .int .i64 q1] := by
                (repeat (first | with_reducible exact B_5 | with_reducible refine Bx.alc ?_ _ | with_reducible refine Bx.drew ?_ | with_reducible refine Bx.set ?_ (by omega)))
              have Q_6x : Bx (w5.alloc (.cells (List.toArray [.int .i64 p3, .int .i64 q3]) 23)) (w4.heap.size) [.int .i64 p2, .int .i64 q2] := by
                (repeat (first | with_reducible exact Q_5 | with_reducible refine Bx.alc ?_ _ | with_reducible refine Bx.drew ?_ | with_reducible refine Bx.set ?_ (by omega)))
              have A_6x : Bx (w5.alloc (.cells (List.toArray [.int .i64 p3, .int .i64 q3]) 23)) (w5.heap.size) [.int .i64 p3, .int .i64 q3] := Bx.new rfl
              have C_6x : Ce (w5.alloc (.cells (List.toArray [.int .i64 p3, .int .i64 q3]) 23)) (w4.heap.size + 1) 0 := C_5.alc _
              clear h0_5 hl0_5 h2_5 hl2_5
              obtain ⟨w6, hw6⟩ : ∃ x, x = (w5.alloc (.cells (List.toArray [.int .i64 p3, .int .i64 q3]) 23)) := ⟨_, rfl⟩
              rw [← hw6] at H6x C_6x o_6x u_6x v_6x n_6x B_6x Q_6x A_6x
              rw [← hw6]
              clear hw6
              have H6 := H6x
              have o_6 := o_6x
              have u_6 := u_6x
              have v_6 := v_6x
              have n_6 := n_6x
              have B_6 := B_6x
              have Q_6 := Q_6x
              have A_6 := A_6x
              have C_6 := C_6x
              clear H6x C_6x o_6x u_6x v_6x n_6x B_6x Q_6x A_6x
              have hs6 := H6.size
              have o_6l := o_6.lt
              have u_6l := u_6.lt
              have v_6l := v_6.lt
              have n_6l := n_6.lt
              have B_6l := B_6.lt
              have Q_6l := Q_6.lt
              have A_6l := A_6.lt
              have h0_6 := (H6.at 2 rfl).c
              have hl0_6 := (H6.at 2 rfl).lt
              have h2_6 := (H6.at 0 rfl).c
              have hl2_6 := (H6.at 0 rfl).lt
              have A_6c := A_6.c
              have A_6f := A_6.f
              have A_6m : w5.heap.size < w6.heap.size + 1 := by omega
              have C_6v := C_6.v
              have C_6l := C_6.lt
              go_wp2_with fail
              refine (rfscale_any s a b _).mono ?_
              rintro r w7 ⟨rfl, hb⟩
              rw [X5.out]
              have C_7 : Ce w7 (w4.heap.size + 1) 0 := Ce.kept (by
                (repeat (first | with_reducible exact C_6 | with_reducible refine Ce.alc ?_ _ | with_reducible refine Ce.drew ?_ | with_reducible refine Ce.set ?_ (by omega)))) hb
              have H7 : Ho w w7 (w.heap.size + 1 + 1 + 1) [(w.heap.size + 1 + 1, [.int .i64 a, .int .i64 b]), (w.heap.size + 1, [.int .i64 t.a, .int .i64 t.b, .int .i64 t.c, .int .i64 t.d, .int .i64 t.e, .int .i64 t.f]), (w.heap.size, [.int .i64 s.a, .int .i64 s.b, .int .i64 s.c, .int .i64 s.d, .int .i64 s.e, .int .i64 s.f])] := Ho.call (by
                (repeat (first | with_reducible exact H6 | with_reducible refine Ho.alc ?_ _ | with_reducible refine Ho.drew ?_ | with_reducible refine Ho.put ?_ (by omega)))) hb
              have o_7 : Bx w7 (w.heap.size + 1 + 1 + 1) [.int .i64 0, .int .i64 0, .int .i64 0, .int .i64 0, .int .i64 0, .int .i64 0] := Bx.kept (by
                (repeat (first | with_reducible exact o_6 | with_reducible refine Bx.alc ?_ _ | with_reducible refine Bx.drew ?_ | with_reducible refine Bx.set ?_ (by omega)))) hb
              have u_7 : Bx w7 (w.heap.size + 1 + 1 + 1 + 1) [.int .i64 0, .int .i64 0] := Bx.kept (by
                (repeat (first | with_reducible exact u_6 | with_reducible refine Bx.alc ?_ _ | with_reducible refine Bx.drew ?_ | with_reducible refine Bx.set ?_ (by omega)))) hb
              have v_7 : Bx w7 (w.heap.size + 1 + 1 + 1 + 1 + 1) [.int .i64 0, .int .i64 0] := Bx.kept (by
                (repeat (first | with_reducible exact v_6 | with_reducible refine Bx.alc ?_ _ | with_reducible refine Bx.drew ?_ | with_reducible refine Bx.set ?_ (by omega)))) hb
              have n_7 : Bx w7 (w.heap.size + 1 + 1 + 1 + 1 + 1 + 1) [.int .i64 0, .int .i64 0] := Bx.kept (by
                (repeat (first | with_reducible exact n_6 | with_reducible refine Bx.alc ?_ _ | with_reducible refine Bx.drew ?_ | with_reducible refine Bx.set ?_ (by omega)))) hb
              have B_7 : Bx w7 (w2.heap.size) [.int .i64 p1, .int .i64 q1] := Bx.kept (by
                (repeat (first | with_reducible exact B_6 | with_reducible refine Bx.alc ?_ _ | with_reducible refine Bx.drew ?_ | with_reducible refine Bx.set ?_ (by omega)))) hb
              have Q_7 : Bx w7 (w4.heap.size) [.int .i64 p2, .int .i64 q2] := Bx.kept (by
                (repeat (first | with_reducible exact Q_6 | with_reducible refine Bx.alc ?_ _ | with_reducible refine Bx.drew ?_ | with_reducible refine Bx.set ?_ (by omega)))) hb
              have A_7 : Bx w7 (w5.heap.size) [.int .i64 p3, .int .i64 q3] := Bx.kept (by
                (repeat (first | with_reducible exact A_6 | with_reducible refine Bx.alc ?_ _ | with_reducible refine Bx.drew ?_ | with_reducible refine Bx.set ?_ (by omega)))) hb
              have hz7 := hb.size
              (try simp at hz7)
              clear hb
              clear h0_6 hl0_6 h2_6 hl2_6 A_6c A_6f A_6m C_6v
              have hs7 := H7.size
              have o_7l := o_7.lt
              have u_7l := u_7.lt
              have v_7l := v_7.lt
              have n_7l := n_7.lt
              have B_7l := B_7.lt
              have Q_7l := Q_7.lt
              have A_7l := A_7.lt
              have h1_7 := (H7.at 1 rfl).c
              have hl1_7 := (H7.at 1 rfl).lt
              have h2_7 := (H7.at 0 rfl).c
              have hl2_7 := (H7.at 0 rfl).lt
              have A_7c := A_7.c
              have A_7f := A_7.f
              have B_7c := B_7.c
              have B_7f := B_7.f
              have A_7m : w5.heap.size < w7.heap.size + 1 := by omega
              have B_7m : w2.heap.size < w7.heap.size + 1 := by omega
              have C_7v := C_7.v
              have C_7l := C_7.lt
              have C_7f := C_7.f
              by_cases he5 : e5 = 0
              · subst he5
                go_upto_region 24 with fail
                refine region_sets (Rz.I s t a b p1 q1 p2 q2 p3 q3 p6 q6 p7 q7 d0 d1 d2 d3 d4 d5 E3 E4 w.heap.size w2.heap.size w4.heap.size w5.heap.size w7.heap.size (w4.heap.size + 1) (w7.heap.size + 1) w) (by kernel_rfl) ?_ ?_ ?_
                · refine ⟨false, false, false, false, false, false, false, false, false, undef, undef, undef, undef, undef, undef, undef, undef, 0, rfl, by simp only [Act.put, List.setIfInBounds_toArray, List.set_cons_zero, List.set_cons_succ], ?_⟩
                  constructor
                  · (repeat (first | with_reducible exact H7 | with_reducible refine Ho.alc ?_ _ | with_reducible refine Ho.drew ?_ | with_reducible refine Ho.put ?_ (by omega)))
                  · (first | (simp; done) | (simp; omega))
                  · (omega)
                  · (repeat (first | with_reducible exact o_7 | with_reducible refine Bx.alc ?_ _ | with_reducible refine Bx.drew ?_ | with_reducible refine Bx.set ?_ (by omega)))
                  · (omega)
                  · (omega)
                  · (repeat (first | with_reducible exact u_7 | with_reducible refine Bx.alc ?_ _ | with_reducible refine Bx.drew ?_ | with_reducible refine Bx.set ?_ (by omega)))
                  · (omega)
                  · (omega)
                  · (repeat (first | with_reducible exact v_7 | with_reducible refine Bx.alc ?_ _ | with_reducible refine Bx.drew ?_ | with_reducible refine Bx.set ?_ (by omega)))
                  · (omega)
                  · (omega)
                  · (repeat (first | with_reducible exact n_7 | with_reducible refine Bx.alc ?_ _ | with_reducible refine Bx.drew ?_ | with_reducible refine Bx.set ?_ (by omega)))
                  · (omega)
                  · (omega)
                  · (repeat (first | with_reducible exact B_7 | with_reducible refine Bx.alc ?_ _ | with_reducible refine Bx.drew ?_ | with_reducible refine Bx.set ?_ (by omega)))
                  · (omega)
                  · (omega)
                  · (repeat (first | with_reducible exact Q_7 | with_reducible refine Bx.alc ?_ _ | with_reducible refine Bx.drew ?_ | with_reducible refine Bx.set ?_ (by omega)))
                  · (omega)
                  · (omega)
                  · (repeat (first | with_reducible exact A_7 | with_reducible refine Bx.alc ?_ _ | with_reducible refine Bx.drew ?_ | with_reducible refine Bx.set ?_ (by omega)))
                  · (omega)
                  · (omega)
                  · (repeat (first | (with_reducible refine Bx.new ?_; (· (simp; done))) | with_reducible apply Bx.put6 | with_reducible apply Bx.put2 | with_reducible apply Bx.put1 | with_reducible refine Bx.set ?_ (by omega) | with_reducible refine Bx.alc ?_ _ | with_reducible refine Bx.drew ?_))
                  · (omega)
                  · (omega)
                  · (omega)
                  · (omega)
                  · (intro h; cases h)
                  · (intro _; (repeat (first | with_reducible exact C_7 | with_reducible refine Ce.alc ?_ _ | with_reducible refine Ce.drew ?_ | with_reducible refine Ce.set ?_ (by omega))))
                  all_goals (intro h; cases h)
                · intro L a' w' hI i hi
                  obtain ⟨l0, l1, l2, l3, l4, l5, l6, l7, l8, v0, v1, v2, v3, v4, v5, v6, v7, b7, rfl, rfl, h⟩ := hI
                  have hlt := ready_lt hi
                  match i, hi, hlt with
                  | 0, hi, _ =>
                    have l' : l0 = false := (ready_op (o := _) rfl hi).1
                    subst l'
                    clear hi hlt
                    have H := Lib.hid h
                    clear h
                    refine wpOp_shut rfl (fun K hK => ?_)
                    try simp only [Act.put, List.setIfInBounds_toArray, List.set_cons_zero, List.set_cons_succ]
                    go_simp
                    refine hK.out _ _ ?_
                    unfold Rz.I
                    refine ⟨true, l1, l2, l3, l4, l5, l6, l7, l8, (.pointer (some ⟨(w4.heap.size + 1), 0, none⟩)), v1, v2, v3, v4, v5, v6, v7, b7, rfl, ?_, ?_⟩
                    · simp only [Act.put, List.setIfInBounds_toArray, List.set_cons_zero, List.set_cons_succ]
                    · exact { H.out with ev0 := fun _ => rfl }
                  | 1, hi, _ =>
                    have l' : l1 = false := (ready_op (o := _) rfl hi).1
                    subst l'
                    clear hi hlt
                    have c := h.u6.c
                    have H := Lib.hid h
                    clear h
                    refine wpOp_shut rfl (fun K hK => ?_)
                    try simp only [Act.put, List.setIfInBounds_toArray, List.set_cons_zero, List.set_cons_succ]
                    go_simp
                    refine hK.out _ _ ?_
                    unfold Rz.I
                    refine ⟨l0, true, l2, l3, l4, l5, l6, l7, l8, v0, ((iv p3 q3)), v2, v3, v4, v5, v6, v7, b7, rfl, ?_, ?_⟩
                    · simp only [Act.put, List.setIfInBounds_toArray, List.set_cons_zero, List.set_cons_succ]
                    · exact { H.out with ev1 := fun _ => rfl }
                  | 2, hi, _ =>
                    have l' : l2 = false := (ready_op (o := _) rfl hi).1
                    subst l'
                    clear hi hlt
                    have H := Lib.hid h
                    clear h
                    refine wpOp_shut rfl (fun K hK => ?_)
                    try simp only [Act.put, List.setIfInBounds_toArray, List.set_cons_zero, List.set_cons_succ]
                    go_simp
                    refine hK.out _ _ ?_
                    unfold Rz.I
                    refine ⟨l0, l1, true, l3, l4, l5, l6, l7, l8, v0, v1, (.pointer (some ⟨(w4.heap.size + 1), 0, none⟩)), v3, v4, v5, v6, v7, b7, rfl, ?_, ?_⟩
                    · simp only [Act.put, List.setIfInBounds_toArray, List.set_cons_zero, List.set_cons_succ]
                    · exact { H.out with ev2 := fun _ => rfl }
                  | 3, hi, _ =>
                    have l' : l3 = false := (ready_op (o := _) rfl hi).1
                    subst l'
                    clear hi hlt
                    have c := (h.g.at 0 rfl).c
                    have H := Lib.hid h
                    clear h
                    refine wpOp_shut rfl (fun K hK => ?_)
                    try simp only [Act.put, List.setIfInBounds_toArray, List.set_cons_zero, List.set_cons_succ]
                    go_simp
                    refine hK.out _ _ ?_
                    unfold Rz.I
                    refine ⟨l0, l1, l2, true, l4, l5, l6, l7, l8, v0, v1, v2, ((iv a b)), v4, v5, v6, v7, b7, rfl, ?_, ?_⟩
                    · simp only [Act.put, List.setIfInBounds_toArray, List.set_cons_zero, List.set_cons_succ]
                    · exact { H.out with ev3 := fun _ => rfl }
                  | 4, hi, _ =>
                    have l' : l4 = false := (ready_op (o := _) rfl hi).1
                    subst l'
                    clear hi hlt
                    have c := h.u4.c
                    have H := Lib.hid h
                    clear h
                    refine wpOp_shut rfl (fun K hK => ?_)
                    try simp only [Act.put, List.setIfInBounds_toArray, List.set_cons_zero, List.set_cons_succ]
                    go_simp
                    refine hK.out _ _ ?_
                    unfold Rz.I
                    refine ⟨l0, l1, l2, l3, true, l5, l6, l7, l8, v0, v1, v2, v3, ((iv p1 q1)), v5, v6, v7, b7, rfl, ?_, ?_⟩
                    · simp only [Act.put, List.setIfInBounds_toArray, List.set_cons_zero, List.set_cons_succ]
                    · exact { H.out with ev4 := fun _ => rfl }
                  | 5, hi, _ =>
                    have l' : l5 = false := (ready_op (o := _) rfl hi).1
                    subst l'
                    have k2 : l2 = true := (ready_op (o := _) rfl hi).2 { on := 2, ground := .data } (by simp) rfl
                    have k3 : l3 = true := (ready_op (o := _) rfl hi).2 { on := 3, ground := .data } (by simp) rfl
                    have k4 : l4 = true := (ready_op (o := _) rfl hi).2 { on := 4, ground := .data } (by simp) rfl
                    clear hi hlt
                    subst k2
                    subst k3
                    subst k4
                    obtain rfl := h.ev2 rfl
                    obtain rfl := h.ev3 rfl
                    obtain rfl := h.ev4 rfl
                    have CK := h.k0 rfl
                    have H := Lib.hid h
                    clear h
                    refine wpOp_shut rfl (fun K hK => ?_)
                    try simp only [Act.put, List.setIfInBounds_toArray, List.set_cons_zero, List.set_cons_succ]
                    go_simp
                    refine (cmul_any w.heap.size (w4.heap.size + 1) a b p1 q1 0 _ CK.v CK.f).mono ?_
                    rintro e wY ⟨rfl, st⟩
                    rw [X6.out]
                    rw [X6.out] at st
                    dsimp only
                    dsimp only at st
                    rw [Y3.out] at st
                    try go_simp
                    refine hK.out _ _ ?_
                    unfold Rz.I
                    refine ⟨l0, l1, true, true, true, true, l6, l7, l8, v0, v1, (.pointer (some ⟨(w4.heap.size + 1), 0, none⟩)), ((iv a b)), ((iv p1 q1)), ((iv p6 q6)), v6, v7, b7, rfl, ?_, ?_⟩
                    · simp only [Act.put, List.setIfInBounds_toArray, List.set_cons_zero, List.set_cons_succ]
                    · have h := H.out
                      exact { h with g := h.g.step st h.mc, sz := Nat.le_trans h.sz st.size, ev5 := fun _ => rfl, u0 := h.u0.step st h.uc0, u1 := h.u1.step st h.uc1, u2 := h.u2.step st h.uc2, u3 := h.u3.step st h.uc3, u4 := h.u4.step st h.uc4, u5 := h.u5.step st h.uc5, u6 := h.u6.step st h.uc6, u7 := h.u7.step st h.uc7, k0 := fun p0 => (nomatch p0), k1 := fun p0 p1 => CK.step st, k2 := fun p0 => (nomatch (h.qq6 p0)), qq6 := fun _ => rfl, t7 := fun p => Nat.lt_of_lt_of_le (h.t7 p) st.size, z7 := fun p r => (h.z7 p r).step st (Nat.ne_of_gt (Nat.lt_of_lt_of_le h.cn (h.g7 p))), s7 := fun p => (h.s7 p).step st (Nat.ne_of_gt (Nat.lt_of_lt_of_le h.cn (h.g7 (h.o7 p)))) }
                  | 6, hi, _ =>
                    have l' : l6 = false := (ready_op (o := _) rfl hi).1
                    subst l'
                    have k0 : l0 = true := (ready_op (o := _) rfl hi).2 { on := 0, ground := .data } (by simp) rfl
                    have k1 : l1 = true := (ready_op (o := _) rfl hi).2 { on := 1, ground := .data } (by simp) rfl
                    have k5 : l5 = true := (ready_op (o := _) rfl hi).2 { on := 5, ground := .chain } (by simp) rfl
                    clear hi hlt
                    subst k0
                    subst k1
                    subst k5
                    obtain rfl := h.ev0 rfl
                    obtain rfl := h.ev1 rfl
                    obtain rfl := h.ev5 rfl
                    have CK := h.k1 rfl rfl
                    have H := Lib.hid h
                    clear h
                    refine wpOp_shut rfl (fun K hK => ?_)
                    try simp only [Act.put, List.setIfInBounds_toArray, List.set_cons_zero, List.set_cons_succ]
                    go_simp
                    refine (csub_any w.heap.size (w4.heap.size + 1) p3 q3 p6 q6 E3 _ CK.v CK.f).mono ?_
                    rintro e wY ⟨rfl, st⟩
                    rw [X7.out]
                    rw [X7.out] at st
                    dsimp only
                    dsimp only at st
                    rw [Y4.out] at st
                    try go_simp
                    refine hK.out _ _ ?_
                    unfold Rz.I
                    refine ⟨true, true, l2, l3, l4, true, true, l7, l8, (.pointer (some ⟨(w4.heap.size + 1), 0, none⟩)), ((iv p3 q3)), v2, v3, v4, ((iv p6 q6)), ((iv p7 q7)), v7, b7, rfl, ?_, ?_⟩
                    · simp only [Act.put, List.setIfInBounds_toArray, List.set_cons_zero, List.set_cons_succ]
                    · have h := H.out
                      exact { h with g := h.g.step st h.mc, sz := Nat.le_trans h.sz st.size, ev6 := fun _ => rfl, u0 := h.u0.step st h.uc0, u1 := h.u1.step st h.uc1, u2 := h.u2.step st h.uc2, u3 := h.u3.step st h.uc3, u4 := h.u4.step st h.uc4, u5 := h.u5.step st h.uc5, u6 := h.u6.step st h.uc6, u7 := h.u7.step st h.uc7, k0 := fun p0 => (nomatch (Eq.trans (Eq.symm (rfl : true = true)) p0)), k1 := fun p0 p1 => (nomatch p1), k2 := fun p0 => CK.step st, qq6 := fun _ => rfl, t7 := fun p => Nat.lt_of_lt_of_le (h.t7 p) st.size, z7 := fun p r => (h.z7 p r).step st (Nat.ne_of_gt (Nat.lt_of_lt_of_le h.cn (h.g7 p))), s7 := fun p => (h.s7 p).step st (Nat.ne_of_gt (Nat.lt_of_lt_of_le h.cn (h.g7 (h.o7 p)))) }
                  | 7, hi, _ =>
                    have l' : l7 = false := (ready_op (o := _) rfl hi).1
                    subst l'
                    clear hi hlt
                    have H := Lib.hid h
                    clear h
                    refine wpOp_shut rfl (fun K hK => ?_)
                    try simp only [Act.put, List.setIfInBounds_toArray, List.set_cons_zero, List.set_cons_succ]
                    go_simp
                    refine hK.out _ _ ?_
                    unfold Rz.I
                    refine ⟨l0, l1, l2, l3, l4, l5, l6, true, l8, v0, v1, v2, v3, v4, v5, v6, (.pointer (some ⟨w'.heap.size, 0, none⟩)), w'.heap.size, rfl, ?_, ?_⟩
                    · simp only [Act.put, List.setIfInBounds_toArray, List.set_cons_zero, List.set_cons_succ]
                    · have h := H.out
                      have h2 := h.kept ((Below.refl _ _).alloc (Nat.le_refl _) (.cells (List.toArray [.int .i64 0, .int .i64 0]) 23))
                      exact { h2 with ev7 := fun _ => rfl, g7 := fun _ => h.sz, t7 := fun _ => by simp, o7 := fun p => rfl, z7 := fun _ _ => Bx.new rfl, s7 := fun p => (nomatch (h.o7 p)) }
                  | 8, hi, _ =>
                    have l' : l8 = false := (ready_op (o := _) rfl hi).1
                    subst l'
                    have k7 : l7 = true := (ready_op (o := _) rfl hi).2 { on := 7, ground := .phase } (by simp) rfl
                    have k6 : l6 = true := (ready_op (o := _) rfl hi).2 { on := 6, ground := .phase } (by simp) rfl
                    have k0 : l0 = true := (ready_op (o := _) rfl hi).2 { on := 0, ground := .phase } (by simp) rfl
                    have k1 : l1 = true := (ready_op (o := _) rfl hi).2 { on := 1, ground := .phase } (by simp) rfl
                    have k2 : l2 = true := (ready_op (o := _) rfl hi).2 { on := 2, ground := .phase } (by simp) rfl
                    have k3 : l3 = true := (ready_op (o := _) rfl hi).2 { on := 3, ground := .phase } (by simp) rfl
                    have k4 : l4 = true := (ready_op (o := _) rfl hi).2 { on := 4, ground := .phase } (by simp) rfl
                    have k5 : l5 = true := (ready_op (o := _) rfl hi).2 { on := 5, ground := .phase } (by simp) rfl
                    clear hi hlt
                    subst k7
                    subst k6
                    subst k0
                    subst k1
                    subst k2
                    subst k3
                    subst k4
                    subst k5
                    obtain rfl := h.ev7 rfl
                    obtain rfl := h.ev6 rfl
                    obtain rfl := h.ev0 rfl
                    obtain rfl := h.ev1 rfl
                    obtain rfl := h.ev2 rfl
                    obtain rfl := h.ev3 rfl
                    obtain rfl := h.ev4 rfl
                    obtain rfl := h.ev5 rfl
                    have bz := h.z7 rfl rfl
                    have c := bz.c
                    have f := bz.f
                    clear bz
                    have H := Lib.hid h
                    clear h
                    refine wpOp_shut rfl (fun K hK => ?_)
                    try simp only [Act.put, List.setIfInBounds_toArray, List.set_cons_zero, List.set_cons_succ]
                    go_simp
                    refine hK.out _ _ ?_
                    unfold Rz.I
                    refine ⟨true, true, true, true, true, true, true, true, true, (.pointer (some ⟨(w4.heap.size + 1), 0, none⟩)), ((iv p3 q3)), (.pointer (some ⟨(w4.heap.size + 1), 0, none⟩)), ((iv a b)), ((iv p1 q1)), ((iv p6 q6)), ((iv p7 q7)), (.pointer (some ⟨b7, 0, none⟩)), b7, rfl, ?_, ?_⟩
                    · simp only [Act.put, List.setIfInBounds_toArray, List.set_cons_zero, List.set_cons_succ]
                    · have h := H.out
                      have gb := h.g7 rfl
                      have gm := Nat.le_trans h.mn gb
                      exact { h with g := ((h.g.put gm).put gm), sz := by simpa using h.sz, o7 := fun _ => rfl, z7 := fun _ p => (nomatch p), s7 := fun _ => (((h.z7 rfl rfl).put).put), t7 := fun p => by simpa using h.t7 p, u0 := ((h.u0.set (Nat.ne_of_lt (Nat.lt_of_lt_of_le h.un0 gb))).set (Nat.ne_of_lt (Nat.lt_of_lt_of_le h.un0 gb))), u1 := ((h.u1.set (Nat.ne_of_lt (Nat.lt_of_lt_of_le h.un1 gb))).set (Nat.ne_of_lt (Nat.lt_of_lt_of_le h.un1 gb))), u2 := ((h.u2.set (Nat.ne_of_lt (Nat.lt_of_lt_of_le h.un2 gb))).set (Nat.ne_of_lt (Nat.lt_of_lt_of_le h.un2 gb))), u3 := ((h.u3.set (Nat.ne_of_lt (Nat.lt_of_lt_of_le h.un3 gb))).set (Nat.ne_of_lt (Nat.lt_of_lt_of_le h.un3 gb))), u4 := ((h.u4.set (Nat.ne_of_lt (Nat.lt_of_lt_of_le h.un4 gb))).set (Nat.ne_of_lt (Nat.lt_of_lt_of_le h.un4 gb))), u5 := ((h.u5.set (Nat.ne_of_lt (Nat.lt_of_lt_of_le h.un5 gb))).set (Nat.ne_of_lt (Nat.lt_of_lt_of_le h.un5 gb))), u6 := ((h.u6.set (Nat.ne_of_lt (Nat.lt_of_lt_of_le h.un6 gb))).set (Nat.ne_of_lt (Nat.lt_of_lt_of_le h.un6 gb))), u7 := ((h.u7.set (Nat.ne_of_lt (Nat.lt_of_lt_of_le h.un7 gb))).set (Nat.ne_of_lt (Nat.lt_of_lt_of_le h.un7 gb))), k0 := fun p0 => (((h.k0 p0).set (Nat.ne_of_lt (Nat.lt_of_lt_of_le h.cn gb))).set (Nat.ne_of_lt (Nat.lt_of_lt_of_le h.cn gb))), k1 := fun p0 p1 => (((h.k1 p0 p1).set (Nat.ne_of_lt (Nat.lt_of_lt_of_le h.cn gb))).set (Nat.ne_of_lt (Nat.lt_of_lt_of_le h.cn gb))), k2 := fun p0 => (((h.k2 p0).set (Nat.ne_of_lt (Nat.lt_of_lt_of_le h.cn gb))).set (Nat.ne_of_lt (Nat.lt_of_lt_of_le h.cn gb))) }
                  | i + 9, _, hlt => exact absurd hlt (by simp)
                · intro L a' w' hI hn
                  obtain ⟨l0, l1, l2, l3, l4, l5, l6, l7, l8, v0, v1, v2, v3, v4, v5, v6, v7, b7, rfl, rfl, h⟩ := hI
                  have k0 : l0 = true := not_ready (i := 0) (o := _) rfl hn (by simp [Region.binds])
                  subst k0
                  have k1 : l1 = true := not_ready (i := 1) (o := _) rfl hn (by simp [Region.binds])
                  subst k1
                  have k2 : l2 = true := not_ready (i := 2) (o := _) rfl hn (by simp [Region.binds])
                  subst k2
                  have k3 : l3 = true := not_ready (i := 3) (o := _) rfl hn (by simp [Region.binds])
                  subst k3
                  have k4 : l4 = true := not_ready (i := 4) (o := _) rfl hn (by simp [Region.binds])
                  subst k4
                  have k5 : l5 = true := not_ready (i := 5) (o := _) rfl hn (by simp [Region.binds])
                  subst k5
                  have k6 : l6 = true := not_ready (i := 6) (o := _) rfl hn (by simp [Region.binds])
                  subst k6
                  have k7 : l7 = true := not_ready (i := 7) (o := _) rfl hn (by simp [Region.binds])
                  subst k7
                  have k8 : l8 = true := not_ready (i := 8) (o := _) rfl hn (by simp [Region.binds])
                  subst k8
                  clear hn
                  obtain rfl := h.ev0 rfl
                  obtain rfl := h.ev1 rfl
                  obtain rfl := h.ev2 rfl
                  obtain rfl := h.ev3 rfl
                  obtain rfl := h.ev4 rfl
                  obtain rfl := h.ev5 rfl
                  obtain rfl := h.ev6 rfl
                  obtain rfl := h.ev7 rfl
                  simp only [Act.put, List.setIfInBounds_toArray, List.set_cons_zero, List.set_cons_succ]
                  have H9 := h.g
                  have o_9 := h.u0
                  have u_9 := h.u1
                  have v_9 := h.u2
                  have n_9 := h.u3
                  have B_9 := h.u4
                  have Q_9 := h.u5
                  have A_9 := h.u6
                  have D_9 := h.u7
                  have C_9 := h.k2 rfl
                  have G_9 := h.s7 rfl
                  have gg := h.g7 rfl
                  clear h
                  clear h1_7 hl1_7 h2_7 hl2_7 A_7c A_7f B_7c B_7f A_7m B_7m C_7v C_7f
                  obtain ⟨w9, hw9⟩ : ∃ x, x = w' := ⟨_, rfl⟩
                  rw [← hw9] at H9 C_9 G_9 o_9 u_9 v_9 n_9 B_9 Q_9 A_9 D_9 ⊢
                  clear hw9
                  have hs9 := H9.size
                  have o_9l := o_9.lt
                  have u_9l := u_9.lt
                  have v_9l := v_9.lt
                  have n_9l := n_9.lt
                  have B_9l := B_9.lt
                  have Q_9l := Q_9.lt
                  have A_9l := A_9.lt
                  have D_9l := D_9.lt
                  have G_9l := G_9.lt
                  have h1_9 := (H9.at 1 rfl).c
                  have hl1_9 := (H9.at 1 rfl).lt
                  have G_9c := G_9.c
                  have G_9f := G_9.f
                  have D_9c := D_9.c
                  have D_9f := D_9.f
                  have G_9m : b7 < w9.heap.size + 1 := by omega
                  have D_9m : w7.heap.size < w9.heap.size + 1 := by omega
                  have C_9v := C_9.v
                  have C_9l := C_9.lt
                  by_cases he6 : E4 = 0
                  · subst he6
                    go_wp2_with fail
                    refine (rfscale_any t p7 q7 _).mono ?_
                    rintro r w10 ⟨rfl, hb⟩
                    rw [X8.out]
                    have H10 : Ho w w10 (w.heap.size + 1 + 1 + 1) [(w.heap.size + 1 + 1, [.int .i64 a, .int .i64 b]), (w.heap.size + 1, [.int .i64 t.a, .int .i64 t.b, .int .i64 t.c, .int .i64 t.d, .int .i64 t.e, .int .i64 t.f]), (w.heap.size, [.int .i64 s.a, .int .i64 s.b, .int .i64 s.c, .int .i64 s.d, .int .i64 s.e, .int .i64 s.f])] := Ho.call (by
                      (repeat (first | with_reducible exact H9 | with_reducible refine Ho.alc ?_ _ | with_reducible refine Ho.drew ?_ | with_reducible refine Ho.put ?_ (by omega)))) hb
                    have o_10 : Bx w10 (w.heap.size + 1 + 1 + 1) [.int .i64 0, .int .i64 0, .int .i64 0, .int .i64 0, .int .i64 0, .int .i64 0] := Bx.kept (by
                      (repeat (first | with_reducible exact o_9 | with_reducible refine Bx.alc ?_ _ | with_reducible refine Bx.drew ?_ | with_reducible refine Bx.set ?_ (by omega)))) hb
                    have u_10 : Bx w10 (w.heap.size + 1 + 1 + 1 + 1) [.int .i64 0, .int .i64 0] := Bx.kept (by
                      (repeat (first | with_reducible exact u_9 | with_reducible refine Bx.alc ?_ _ | with_reducible refine Bx.drew ?_ | with_reducible refine Bx.set ?_ (by omega)))) hb
                    have v_10 : Bx w10 (w.heap.size + 1 + 1 + 1 + 1 + 1) [.int .i64 0, .int .i64 0] := Bx.kept (by
                      (repeat (first | with_reducible exact v_9 | with_reducible refine Bx.alc ?_ _ | with_reducible refine Bx.drew ?_ | with_reducible refine Bx.set ?_ (by omega)))) hb
                    have n_10 : Bx w10 (w.heap.size + 1 + 1 + 1 + 1 + 1 + 1) [.int .i64 0, .int .i64 0] := Bx.kept (by
                      (repeat (first | with_reducible exact n_9 | with_reducible refine Bx.alc ?_ _ | with_reducible refine Bx.drew ?_ | with_reducible refine Bx.set ?_ (by omega)))) hb
                    have B_10 : Bx w10 (w2.heap.size) [.int .i64 p1, .int .i64 q1] := Bx.kept (by
                      (repeat (first | with_reducible exact B_9 | with_reducible refine Bx.alc ?_ _ | with_reducible refine Bx.drew ?_ | with_reducible refine Bx.set ?_ (by omega)))) hb
                    have Q_10 : Bx w10 (w4.heap.size) [.int .i64 p2, .int .i64 q2] := Bx.kept (by
                      (repeat (first | with_reducible exact Q_9 | with_reducible refine Bx.alc ?_ _ | with_reducible refine Bx.drew ?_ | with_reducible refine Bx.set ?_ (by omega)))) hb
                    have A_10 : Bx w10 (w5.heap.size) [.int .i64 p3, .int .i64 q3] := Bx.kept (by
                      (repeat (first | with_reducible exact A_9 | with_reducible refine Bx.alc ?_ _ | with_reducible refine Bx.drew ?_ | with_reducible refine Bx.set ?_ (by omega)))) hb
                    have D_10 : Bx w10 (w7.heap.size) [.int .i64 d0, .int .i64 d1, .int .i64 d2, .int .i64 d3, .int .i64 d4, .int .i64 d5] := Bx.kept (by
                      (repeat (first | with_reducible exact D_9 | with_reducible refine Bx.alc ?_ _ | with_reducible refine Bx.drew ?_ | with_reducible refine Bx.set ?_ (by omega)))) hb
                    have G_10 : Bx w10 (b7) [.int .i64 p7, .int .i64 q7] := Bx.kept (by
                      (repeat (first | with_reducible exact G_9 | with_reducible refine Bx.alc ?_ _ | with_reducible refine Bx.drew ?_ | with_reducible refine Bx.set ?_ (by omega)))) hb
                    have hz10 := hb.size
                    (try simp at hz10)
                    clear hb
                    clear h1_9 hl1_9 G_9c G_9f D_9c D_9f G_9m D_9m
                    have hs10 := H10.size
                    have o_10l := o_10.lt
                    have u_10l := u_10.lt
                    have v_10l := v_10.lt
                    have n_10l := n_10.lt
                    have B_10l := B_10.lt
                    have Q_10l := Q_10.lt
                    have A_10l := A_10.lt
                    have D_10l := D_10.lt
                    have G_10l := G_10.lt
                    have D_10c := D_10.c
                    have D_10f := D_10.f
                    have D_10m : w7.heap.size < w10.heap.size + 1 := by omega
                    by_cases he8 : e8 = 0
                    · subst he8
                      go_wp2_with fail
                      refine (rfadd_any ⟨d0, d1, d2, d3, d4, d5⟩ ⟨g0, g1, g2, g3, g4, g5⟩ _).mono ?_
                      rintro r w11 ⟨rfl, hb⟩
                      rw [X9.out]
                      have H11 : Ho w w11 (w.heap.size + 1 + 1 + 1) [(w.heap.size + 1 + 1, [.int .i64 a, .int .i64 b]), (w.heap.size + 1, [.int .i64 t.a, .int .i64 t.b, .int .i64 t.c, .int .i64 t.d, .int .i64 t.e, .int .i64 t.f]), (w.heap.size, [.int .i64 s.a, .int .i64 s.b, .int .i64 s.c, .int .i64 s.d, .int .i64 s.e, .int .i64 s.f])] := Ho.call (by
                        (repeat (first | with_reducible exact H10 | with_reducible refine Ho.alc ?_ _ | with_reducible refine Ho.drew ?_ | with_reducible refine Ho.put ?_ (by omega)))) hb
                      have o_11 : Bx w11 (w.heap.size + 1 + 1 + 1) [.int .i64 0, .int .i64 0, .int .i64 0, .int .i64 0, .int .i64 0, .int .i64 0] := Bx.kept (by
                        (repeat (first | with_reducible exact o_10 | with_reducible refine Bx.alc ?_ _ | with_reducible refine Bx.drew ?_ | with_reducible refine Bx.set ?_ (by omega)))) hb
                      have u_11 : Bx w11 (w.heap.size + 1 + 1 + 1 + 1) [.int .i64 0, .int .i64 0] := Bx.kept (by
                        (repeat (first | with_reducible exact u_10 | with_reducible refine Bx.alc ?_ _ | with_reducible refine Bx.drew ?_ | with_reducible refine Bx.set ?_ (by omega)))) hb
                      have v_11 : Bx w11 (w.heap.size + 1 + 1 + 1 + 1 + 1) [.int .i64 0, .int .i64 0] := Bx.kept (by
                        (repeat (first | with_reducible exact v_10 | with_reducible refine Bx.alc ?_ _ | with_reducible refine Bx.drew ?_ | with_reducible refine Bx.set ?_ (by omega)))) hb
                      have n_11 : Bx w11 (w.heap.size + 1 + 1 + 1 + 1 + 1 + 1) [.int .i64 0, .int .i64 0] := Bx.kept (by
                        (repeat (first | with_reducible exact n_10 | with_reducible refine Bx.alc ?_ _ | with_reducible refine Bx.drew ?_ | with_reducible refine Bx.set ?_ (by omega)))) hb
                      have B_11 : Bx w11 (w2.heap.size) [.int .i64 p1, .int .i64 q1] := Bx.kept (by
                        (repeat (first | with_reducible exact B_10 | with_reducible refine Bx.alc ?_ _ | with_reducible refine Bx.drew ?_ | with_reducible refine Bx.set ?_ (by omega)))) hb
                      have Q_11 : Bx w11 (w4.heap.size) [.int .i64 p2, .int .i64 q2] := Bx.kept (by
                        (repeat (first | with_reducible exact Q_10 | with_reducible refine Bx.alc ?_ _ | with_reducible refine Bx.drew ?_ | with_reducible refine Bx.set ?_ (by omega)))) hb
                      have A_11 : Bx w11 (w5.heap.size) [.int .i64 p3, .int .i64 q3] := Bx.kept (by
                        (repeat (first | with_reducible exact A_10 | with_reducible refine Bx.alc ?_ _ | with_reducible refine Bx.drew ?_ | with_reducible refine Bx.set ?_ (by omega)))) hb
                      have D_11 : Bx w11 (w7.heap.size) [.int .i64 d0, .int .i64 d1, .int .i64 d2, .int .i64 d3, .int .i64 d4, .int .i64 d5] := Bx.kept (by
                        (repeat (first | with_reducible exact D_10 | with_reducible refine Bx.alc ?_ _ | with_reducible refine Bx.drew ?_ | with_reducible refine Bx.set ?_ (by omega)))) hb
                      have G_11 : Bx w11 (b7) [.int .i64 p7, .int .i64 q7] := Bx.kept (by
                        (repeat (first | with_reducible exact G_10 | with_reducible refine Bx.alc ?_ _ | with_reducible refine Bx.drew ?_ | with_reducible refine Bx.set ?_ (by omega)))) hb
                      have F_11 : Bx w11 (w10.heap.size) [.int .i64 g0, .int .i64 g1, .int .i64 g2, .int .i64 g3, .int .i64 g4, .int .i64 g5] := Bx.kept (by
                        (repeat (first | (with_reducible refine Bx.new ?_; (· (simp; done))) | with_reducible apply Bx.put6 | with_reducible apply Bx.put2 | with_reducible apply Bx.put1 | with_reducible refine Bx.set ?_ (by omega) | with_reducible refine Bx.alc ?_ _ | with_reducible refine Bx.drew ?_))) hb
                      have hz11 := hb.size
                      (try simp at hz11)
                      clear hb
                      clear D_10c D_10f D_10m
                      have hs11 := H11.size
                      have o_11l := o_11.lt
                      have u_11l := u_11.lt
                      have v_11l := v_11.lt
                      have n_11l := n_11.lt
                      have B_11l := B_11.lt
                      have Q_11l := Q_11.lt
                      have A_11l := A_11.lt
                      have D_11l := D_11.lt
                      have G_11l := G_11.lt
                      have F_11l := F_11.lt
                      by_cases he9 : e9 = 0
                      · subst he9
                        have oc := o_11.c
                        have of := o_11.f
                        have om : w.heap.size + 1 + 1 + 1 < w11.heap.size + 1 := by omega
                        have uc := u_11.c
                        have uf := u_11.f
                        have um : w.heap.size + 1 + 1 + 1 + 1 < w11.heap.size + 1 := by omega
                        have vc := v_11.c
                        have vf := v_11.f
                        have vm : w.heap.size + 1 + 1 + 1 + 1 + 1 < w11.heap.size + 1 := by omega
                        have npq0 : ¬ (w.heap.size + 1 + 1 + 1 = w.heap.size + 1 + 1 + 1 + 1) := by omega
                        have npq1 : ¬ (w.heap.size + 1 + 1 + 1 = w.heap.size + 1 + 1 + 1 + 1 + 1) := by omega
                        have npq2 : ¬ (w.heap.size + 1 + 1 + 1 + 1 = w.heap.size + 1 + 1 + 1) := by omega
                        have npq3 : ¬ (w.heap.size + 1 + 1 + 1 + 1 = w.heap.size + 1 + 1 + 1 + 1 + 1) := by omega
                        have npq4 : ¬ (w.heap.size + 1 + 1 + 1 + 1 + 1 = w.heap.size + 1 + 1 + 1) := by omega
                        have npq5 : ¬ (w.heap.size + 1 + 1 + 1 + 1 + 1 = w.heap.size + 1 + 1 + 1 + 1) := by omega
                        go_upto_region 33 with fail
                        have XX : Bx (w11.alloc (.cells (List.toArray [.int .i64 x0, .int .i64 x1, .int .i64 x2, .int .i64 x3, .int .i64 x4, .int .i64 x5]) 30)) (w11.heap.size) [.int .i64 x0, .int .i64 x1, .int .i64 x2, .int .i64 x3, .int .i64 x4, .int .i64 x5] := Bx.new rfl
                        have BB : Bx (w11.alloc (.cells (List.toArray [.int .i64 x0, .int .i64 x1, .int .i64 x2, .int .i64 x3, .int .i64 x4, .int .i64 x5]) 30)) (w2.heap.size) [.int .i64 p1, .int .i64 q1] := by
                          (repeat (first | with_reducible exact B_11 | with_reducible apply Bx.put6 | with_reducible apply Bx.put2 | with_reducible refine Bx.set ?_ (by omega) | with_reducible refine Bx.alc ?_ _ | with_reducible refine Bx.drew ?_))
                        have AA : Bx (w11.alloc (.cells (List.toArray [.int .i64 x0, .int .i64 x1, .int .i64 x2, .int .i64 x3, .int .i64 x4, .int .i64 x5]) 30)) (w5.heap.size) [.int .i64 p3, .int .i64 q3] := by
                          (repeat (first | with_reducible exact A_11 | with_reducible apply Bx.put6 | with_reducible apply Bx.put2 | with_reducible refine Bx.set ?_ (by omega) | with_reducible refine Bx.alc ?_ _ | with_reducible refine Bx.drew ?_))
                        have px0 : ¬ (w11.heap.size = w.heap.size + 1 + 1 + 1) := by omega
                        have pb0 : ¬ (w2.heap.size = w.heap.size + 1 + 1 + 1) := by omega
                        have pa0 : ¬ (w5.heap.size = w.heap.size + 1 + 1 + 1) := by omega
                        have px1 : ¬ (w11.heap.size = w.heap.size + 1 + 1 + 1 + 1) := by omega
                        have pb1 : ¬ (w2.heap.size = w.heap.size + 1 + 1 + 1 + 1) := by omega
                        have pa1 : ¬ (w5.heap.size = w.heap.size + 1 + 1 + 1 + 1) := by omega
                        have px2 : ¬ (w11.heap.size = w.heap.size + 1 + 1 + 1 + 1 + 1) := by omega
                        have pb2 : ¬ (w2.heap.size = w.heap.size + 1 + 1 + 1 + 1 + 1) := by omega
                        have pa2 : ¬ (w5.heap.size = w.heap.size + 1 + 1 + 1 + 1 + 1) := by omega
                        go_region_held3 (fun X => (∀ j, X.cell? ⟨w11.heap.size, j, none⟩ = [.int .i64 x0, .int .i64 x1, .int .i64 x2, .int .i64 x3, .int .i64 x4, .int .i64 x5][j]?) ∧ (∀ j, X.cell? ⟨w2.heap.size, j, none⟩ = [.int .i64 p1, .int .i64 q1][j]?) ∧ (∀ j, X.cell? ⟨w5.heap.size, j, none⟩ = [.int .i64 p3, .int .i64 q3][j]?)) (with_reducible first | exact ⟨XX.drew.c, BB.drew.c, AA.drew.c⟩ | exact ⟨((((((XX.set px0).set px0).set px0).set px0).set px0).set px0).drew.c, ((((((BB.set pb0).set pb0).set pb0).set pb0).set pb0).set pb0).drew.c, ((((((AA.set pa0).set pa0).set pa0).set pa0).set pa0).set pa0).drew.c⟩ | exact ⟨((((((XX.drew.set px0).set px0).set px0).set px0).set px0).set px0).c, ((((((BB.drew.set pb0).set pb0).set pb0).set pb0).set pb0).set pb0).c, ((((((AA.drew.set pa0).set pa0).set pa0).set pa0).set pa0).set pa0).c⟩ | exact ⟨(Bx.new (by simp)).drew.c, (((((((B_11.set pb0).set pb0).set pb0).set pb0).set pb0).set pb0).alc _).drew.c, (((((((A_11.set pa0).set pa0).set pa0).set pa0).set pa0).set pa0).alc _).drew.c⟩ | exact ⟨((((((((XX.set px0).set px0).set px0).set px0).set px0).set px0).set px1).set px1).drew.c, ((((((((BB.set pb0).set pb0).set pb0).set pb0).set pb0).set pb0).set pb1).set pb1).drew.c, ((((((((AA.set pa0).set pa0).set pa0).set pa0).set pa0).set pa0).set pa1).set pa1).drew.c⟩ | exact ⟨((((((((XX.drew.set px0).set px0).set px0).set px0).set px0).set px0).set px1).set px1).c, ((((((((BB.drew.set pb0).set pb0).set pb0).set pb0).set pb0).set pb0).set pb1).set pb1).c, ((((((((AA.drew.set pa0).set pa0).set pa0).set pa0).set pa0).set pa0).set pa1).set pa1).c⟩ | exact ⟨(Bx.new (by simp)).drew.c, (((((((((B_11.set pb0).set pb0).set pb0).set pb0).set pb0).set pb0).set pb1).set pb1).alc _).drew.c, (((((((((A_11.set pa0).set pa0).set pa0).set pa0).set pa0).set pa0).set pa1).set pa1).alc _).drew.c⟩ | exact ⟨((((((((((XX.set px0).set px0).set px0).set px0).set px0).set px0).set px1).set px1).set px2).set px2).drew.c, ((((((((((BB.set pb0).set pb0).set pb0).set pb0).set pb0).set pb0).set pb1).set pb1).set pb2).set pb2).drew.c, ((((((((((AA.set pa0).set pa0).set pa0).set pa0).set pa0).set pa0).set pa1).set pa1).set pa2).set pa2).drew.c⟩ | exact ⟨((((((((((XX.drew.set px0).set px0).set px0).set px0).set px0).set px0).set px1).set px1).set px2).set px2).c, ((((((((((BB.drew.set pb0).set pb0).set pb0).set pb0).set pb0).set pb0).set pb1).set pb1).set pb2).set pb2).c, ((((((((((AA.drew.set pa0).set pa0).set pa0).set pa0).set pa0).set pa0).set pa1).set pa1).set pa2).set pa2).c⟩ | exact ⟨(Bx.new (by simp)).drew.c, (((((((((((B_11.set pb0).set pb0).set pb0).set pb0).set pb0).set pb0).set pb1).set pb1).set pb2).set pb2).alc _).drew.c, (((((((((((A_11.set pa0).set pa0).set pa0).set pa0).set pa0).set pa0).set pa1).set pa1).set pa2).set pa2).alc _).drew.c⟩) (fail)
                        all_goals go_wp2_with fail
                        all_goals refine bodyPost_box3 (b := w.heap.size + 1 + 1 + 1) (c := w.heap.size + 1 + 1 + 1 + 1) (d := w.heap.size + 1 + 1 + 1 + 1 + 1) (cs := [.int .i64 x0, .int .i64 x1, .int .i64 x2, .int .i64 x3, .int .i64 x4, .int .i64 x5]) (ds := [.int .i64 p1, .int .i64 q1]) (es := [.int .i64 p3, .int .i64 q3]) (v := .tuple #[dv ⟨x0, x1, x2, x3, x4, x5⟩, iv p1 q1, iv p3 q3, .int .i64 0]) (by
                          (repeat (first | with_reducible exact o_11 | with_reducible apply Bx.put6 | with_reducible apply Bx.put2 | with_reducible refine Bx.set ?_ (by omega) | with_reducible refine Bx.alc ?_ _ | with_reducible refine Bx.drew ?_))) (by
                          (repeat (first | with_reducible exact u_11 | with_reducible apply Bx.put6 | with_reducible apply Bx.put2 | with_reducible refine Bx.set ?_ (by omega) | with_reducible refine Bx.alc ?_ _ | with_reducible refine Bx.drew ?_))) (by
                          (repeat (first | with_reducible exact v_11 | with_reducible apply Bx.put6 | with_reducible apply Bx.put2 | with_reducible refine Bx.set ?_ (by omega) | with_reducible refine Bx.alc ?_ _ | with_reducible refine Bx.drew ?_))) (fun X hX hY hZ => by simp [results, Try.results21, go_sem, hX, hY, hZ]) rfl ⟨by first | rfl | (simp [retF, failF]; done) | (simp [retF, failF, hsz]; done) | (simp [retF, failF, hp2]; done) | (simp [retF, failF, hsz, hp2]; done), by
                          refine Ho.below (n := w.heap.size + 1 + 1 + 1) (l := [(w.heap.size + 1 + 1, [.int .i64 a, .int .i64 b]), (w.heap.size + 1, [.int .i64 t.a, .int .i64 t.b, .int .i64 t.c, .int .i64 t.d, .int .i64 t.e, .int .i64 t.f]), (w.heap.size, [.int .i64 s.a, .int .i64 s.b, .int .i64 s.c, .int .i64 s.d, .int .i64 s.e, .int .i64 s.f])]) ?_
                          (repeat (first | with_reducible exact H11 | with_reducible refine Ho.alc ?_ _ | with_reducible refine Ho.drew ?_ | with_reducible refine Ho.put ?_ (by omega)))⟩
                      · have zhe9 : (e9 != 0) = true := by simpa using he9
                        have oc := o_11.c
                        have of := o_11.f
                        have om : w.heap.size + 1 + 1 + 1 < w11.heap.size + 1 := by omega
                        have uc := u_11.c
                        have uf := u_11.f
                        have um : w.heap.size + 1 + 1 + 1 + 1 < w11.heap.size + 1 := by omega
                        have vc := v_11.c
                        have vf := v_11.f
                        have vm : w.heap.size + 1 + 1 + 1 + 1 + 1 < w11.heap.size + 1 := by omega
                        have nc := n_11.c
                        have nf := n_11.f
                        have nm : w.heap.size + 1 + 1 + 1 + 1 + 1 + 1 < w11.heap.size + 1 := by omega
                        have npq0 : ¬ (w.heap.size + 1 + 1 + 1 = w.heap.size + 1 + 1 + 1 + 1) := by omega
                        have npq1 : ¬ (w.heap.size + 1 + 1 + 1 = w.heap.size + 1 + 1 + 1 + 1 + 1) := by omega
                        have npq2 : ¬ (w.heap.size + 1 + 1 + 1 = w.heap.size + 1 + 1 + 1 + 1 + 1 + 1) := by omega
                        have npq3 : ¬ (w.heap.size + 1 + 1 + 1 + 1 = w.heap.size + 1 + 1 + 1) := by omega
                        have npq4 : ¬ (w.heap.size + 1 + 1 + 1 + 1 = w.heap.size + 1 + 1 + 1 + 1 + 1) := by omega
                        have npq5 : ¬ (w.heap.size + 1 + 1 + 1 + 1 = w.heap.size + 1 + 1 + 1 + 1 + 1 + 1) := by omega
                        have npq6 : ¬ (w.heap.size + 1 + 1 + 1 + 1 + 1 = w.heap.size + 1 + 1 + 1) := by omega
                        have npq7 : ¬ (w.heap.size + 1 + 1 + 1 + 1 + 1 = w.heap.size + 1 + 1 + 1 + 1) := by omega
                        have npq8 : ¬ (w.heap.size + 1 + 1 + 1 + 1 + 1 = w.heap.size + 1 + 1 + 1 + 1 + 1 + 1) := by omega
                        have npq9 : ¬ (w.heap.size + 1 + 1 + 1 + 1 + 1 + 1 = w.heap.size + 1 + 1 + 1) := by omega
                        have npq10 : ¬ (w.heap.size + 1 + 1 + 1 + 1 + 1 + 1 = w.heap.size + 1 + 1 + 1 + 1) := by omega
                        have npq11 : ¬ (w.heap.size + 1 + 1 + 1 + 1 + 1 + 1 = w.heap.size + 1 + 1 + 1 + 1 + 1) := by omega
                        go_upto_region 32 with fail
                        have NX : Bx (w11.alloc (.cells (List.toArray [.int .i64 x0, .int .i64 x1, .int .i64 x2, .int .i64 x3, .int .i64 x4, .int .i64 x5]) 30)).drew (w.heap.size + 1 + 1 + 1 + 1 + 1 + 1) [.int .i64 0, .int .i64 0] := by
                          (repeat (first | with_reducible exact n_11 | with_reducible apply Bx.put6 | with_reducible apply Bx.put2 | with_reducible refine Bx.set ?_ (by omega) | with_reducible refine Bx.alc ?_ _ | with_reducible refine Bx.drew ?_))
                        have pn0 : ¬ (w.heap.size + 1 + 1 + 1 + 1 + 1 + 1 = w.heap.size + 1 + 1 + 1) := by omega
                        have pn1 : ¬ (w.heap.size + 1 + 1 + 1 + 1 + 1 + 1 = w.heap.size + 1 + 1 + 1 + 1) := by omega
                        have pn2 : ¬ (w.heap.size + 1 + 1 + 1 + 1 + 1 + 1 = w.heap.size + 1 + 1 + 1 + 1 + 1) := by omega
                        have N0 : Bx (w11.alloc (.cells (List.toArray [.int .i64 x0, .int .i64 x1, .int .i64 x2, .int .i64 x3, .int .i64 x4, .int .i64 x5]) 30)) (w.heap.size + 1 + 1 + 1 + 1 + 1 + 1) [.int .i64 0, .int .i64 0] := by
                          (repeat (first | with_reducible exact n_11 | with_reducible apply Bx.put6 | with_reducible apply Bx.put2 | with_reducible refine Bx.set ?_ (by omega) | with_reducible refine Bx.alc ?_ _ | with_reducible refine Bx.drew ?_))
                        go_region_held3 (fun X => (∀ j, X.cell? ⟨w.heap.size + 1 + 1 + 1 + 1 + 1 + 1, j, none⟩ = [.int .i64 0, .int .i64 0][j]?)) (with_reducible first | exact NX.c | exact (n_11.alc _).drew.c | exact ((((((NX.set pn0).set pn0).set pn0).set pn0).set pn0).set pn0).c | exact ((((((N0.set pn0).set pn0).set pn0).set pn0).set pn0).set pn0).drew.c | exact (((((((n_11.set pn0).set pn0).set pn0).set pn0).set pn0).set pn0).alc _).drew.c | exact ((((((((NX.set pn0).set pn0).set pn0).set pn0).set pn0).set pn0).set pn1).set pn1).c | exact ((((((((N0.set pn0).set pn0).set pn0).set pn0).set pn0).set pn0).set pn1).set pn1).drew.c | exact (((((((((n_11.set pn0).set pn0).set pn0).set pn0).set pn0).set pn0).set pn1).set pn1).alc _).drew.c | exact ((((((((((NX.set pn0).set pn0).set pn0).set pn0).set pn0).set pn0).set pn1).set pn1).set pn2).set pn2).c | exact ((((((((((N0.set pn0).set pn0).set pn0).set pn0).set pn0).set pn0).set pn1).set pn1).set pn2).set pn2).drew.c | exact (((((((((((n_11.set pn0).set pn0).set pn0).set pn0).set pn0).set pn0).set pn1).set pn1).set pn2).set pn2).alc _).drew.c) (fail)
                        all_goals go_wp2_with fail
                        all_goals refine bodyPost_box3 (b := w.heap.size + 1 + 1 + 1) (c := w.heap.size + 1 + 1 + 1 + 1) (d := w.heap.size + 1 + 1 + 1 + 1 + 1) (cs := [.int .i64 0, .int .i64 0, .int .i64 0, .int .i64 0, .int .i64 0, .int .i64 0]) (ds := [.int .i64 0, .int .i64 0]) (es := [.int .i64 0, .int .i64 0]) (v := .tuple #[dv zD, iv 0 0, iv 0 0, .int .i64 e9]) (by
                          (repeat (first | with_reducible exact o_11 | with_reducible apply Bx.put6 | with_reducible apply Bx.put2 | with_reducible refine Bx.set ?_ (by omega) | with_reducible refine Bx.alc ?_ _ | with_reducible refine Bx.drew ?_))) (by
                          (repeat (first | with_reducible exact u_11 | with_reducible apply Bx.put6 | with_reducible apply Bx.put2 | with_reducible refine Bx.set ?_ (by omega) | with_reducible refine Bx.alc ?_ _ | with_reducible refine Bx.drew ?_))) (by
                          (repeat (first | with_reducible exact v_11 | with_reducible apply Bx.put6 | with_reducible apply Bx.put2 | with_reducible refine Bx.set ?_ (by omega) | with_reducible refine Bx.alc ?_ _ | with_reducible refine Bx.drew ?_))) (fun X hX hY hZ => by simp [results, Try.results21, go_sem, hX, hY, hZ, zD]) rfl ⟨by first | rfl | (simp [retF, failF]; done) | (simp [retF, failF, hsz]; done) | (simp [retF, failF, hp2]; done) | (simp [retF, failF, he9]; done) | (simp [retF, failF, hsz, hp2]; done) | (simp [retF, failF, hsz, he9]; done) | (simp [retF, failF, hp2, he9]; done) | (simp [retF, failF, hsz, hp2, he9]; done), by
                          refine Ho.below (n := w.heap.size + 1 + 1 + 1) (l := [(w.heap.size + 1 + 1, [.int .i64 a, .int .i64 b]), (w.heap.size + 1, [.int .i64 t.a, .int .i64 t.b, .int .i64 t.c, .int .i64 t.d, .int .i64 t.e, .int .i64 t.f]), (w.heap.size, [.int .i64 s.a, .int .i64 s.b, .int .i64 s.c, .int .i64 s.d, .int .i64 s.e, .int .i64 s.f])]) ?_
                          (repeat (first | with_reducible exact H11 | with_reducible refine Ho.alc ?_ _ | with_reducible refine Ho.drew ?_ | with_reducible refine Ho.put ?_ (by omega)))⟩
                    · have zhe8 : (e8 != 0) = true := by simpa using he8
                      have oc := o_10.c
                      have of := o_10.f
                      have om : w.heap.size + 1 + 1 + 1 < w10.heap.size + 1 := by omega
                      have uc := u_10.c
                      have uf := u_10.f
                      have um : w.heap.size + 1 + 1 + 1 + 1 < w10.heap.size + 1 := by omega
                      have vc := v_10.c
                      have vf := v_10.f
                      have vm : w.heap.size + 1 + 1 + 1 + 1 + 1 < w10.heap.size + 1 := by omega
                      have nc := n_10.c
                      have nf := n_10.f
                      have nm : w.heap.size + 1 + 1 + 1 + 1 + 1 + 1 < w10.heap.size + 1 := by omega
                      have npq0 : ¬ (w.heap.size + 1 + 1 + 1 = w.heap.size + 1 + 1 + 1 + 1) := by omega
                      have npq1 : ¬ (w.heap.size + 1 + 1 + 1 = w.heap.size + 1 + 1 + 1 + 1 + 1) := by omega
                      have npq2 : ¬ (w.heap.size + 1 + 1 + 1 = w.heap.size + 1 + 1 + 1 + 1 + 1 + 1) := by omega
                      have npq3 : ¬ (w.heap.size + 1 + 1 + 1 + 1 = w.heap.size + 1 + 1 + 1) := by omega
                      have npq4 : ¬ (w.heap.size + 1 + 1 + 1 + 1 = w.heap.size + 1 + 1 + 1 + 1 + 1) := by omega
                      have npq5 : ¬ (w.heap.size + 1 + 1 + 1 + 1 = w.heap.size + 1 + 1 + 1 + 1 + 1 + 1) := by omega
                      have npq6 : ¬ (w.heap.size + 1 + 1 + 1 + 1 + 1 = w.heap.size + 1 + 1 + 1) := by omega
                      have npq7 : ¬ (w.heap.size + 1 + 1 + 1 + 1 + 1 = w.heap.size + 1 + 1 + 1 + 1) := by omega
                      have npq8 : ¬ (w.heap.size + 1 + 1 + 1 + 1 + 1 = w.heap.size + 1 + 1 + 1 + 1 + 1 + 1) := by omega
                      have npq9 : ¬ (w.heap.size + 1 + 1 + 1 + 1 + 1 + 1 = w.heap.size + 1 + 1 + 1) := by omega
                      have npq10 : ¬ (w.heap.size + 1 + 1 + 1 + 1 + 1 + 1 = w.heap.size + 1 + 1 + 1 + 1) := by omega
                      have npq11 : ¬ (w.heap.size + 1 + 1 + 1 + 1 + 1 + 1 = w.heap.size + 1 + 1 + 1 + 1 + 1) := by omega
                      go_upto_region 29 with fail
                      have NX : Bx (w10.alloc (.cells (List.toArray [.int .i64 g0, .int .i64 g1, .int .i64 g2, .int .i64 g3, .int .i64 g4, .int .i64 g5]) 30)).drew (w.heap.size + 1 + 1 + 1 + 1 + 1 + 1) [.int .i64 0, .int .i64 0] := by
                        (repeat (first | with_reducible exact n_10 | with_reducible apply Bx.put6 | with_reducible apply Bx.put2 | with_reducible refine Bx.set ?_ (by omega) | with_reducible refine Bx.alc ?_ _ | with_reducible refine Bx.drew ?_))
                      have pn0 : ¬ (w.heap.size + 1 + 1 + 1 + 1 + 1 + 1 = w.heap.size + 1 + 1 + 1) := by omega
                      have pn1 : ¬ (w.heap.size + 1 + 1 + 1 + 1 + 1 + 1 = w.heap.size + 1 + 1 + 1 + 1) := by omega
                      have pn2 : ¬ (w.heap.size + 1 + 1 + 1 + 1 + 1 + 1 = w.heap.size + 1 + 1 + 1 + 1 + 1) := by omega
                      have N0 : Bx (w10.alloc (.cells (List.toArray [.int .i64 g0, .int .i64 g1, .int .i64 g2, .int .i64 g3, .int .i64 g4, .int .i64 g5]) 30)) (w.heap.size + 1 + 1 + 1 + 1 + 1 + 1) [.int .i64 0, .int .i64 0] := by
                        (repeat (first | with_reducible exact n_10 | with_reducible apply Bx.put6 | with_reducible apply Bx.put2 | with_reducible refine Bx.set ?_ (by omega) | with_reducible refine Bx.alc ?_ _ | with_reducible refine Bx.drew ?_))
                      go_region_held3 (fun X => (∀ j, X.cell? ⟨w.heap.size + 1 + 1 + 1 + 1 + 1 + 1, j, none⟩ = [.int .i64 0, .int .i64 0][j]?)) (with_reducible first | exact NX.c | exact (n_10.alc _).drew.c | exact ((((((NX.set pn0).set pn0).set pn0).set pn0).set pn0).set pn0).c | exact ((((((N0.set pn0).set pn0).set pn0).set pn0).set pn0).set pn0).drew.c | exact (((((((n_10.set pn0).set pn0).set pn0).set pn0).set pn0).set pn0).alc _).drew.c | exact ((((((((NX.set pn0).set pn0).set pn0).set pn0).set pn0).set pn0).set pn1).set pn1).c | exact ((((((((N0.set pn0).set pn0).set pn0).set pn0).set pn0).set pn0).set pn1).set pn1).drew.c | exact (((((((((n_10.set pn0).set pn0).set pn0).set pn0).set pn0).set pn0).set pn1).set pn1).alc _).drew.c | exact ((((((((((NX.set pn0).set pn0).set pn0).set pn0).set pn0).set pn0).set pn1).set pn1).set pn2).set pn2).c | exact ((((((((((N0.set pn0).set pn0).set pn0).set pn0).set pn0).set pn0).set pn1).set pn1).set pn2).set pn2).drew.c | exact (((((((((((n_10.set pn0).set pn0).set pn0).set pn0).set pn0).set pn0).set pn1).set pn1).set pn2).set pn2).alc _).drew.c) (fail)
                      all_goals go_wp2_with fail
                      all_goals refine bodyPost_box3 (b := w.heap.size + 1 + 1 + 1) (c := w.heap.size + 1 + 1 + 1 + 1) (d := w.heap.size + 1 + 1 + 1 + 1 + 1) (cs := [.int .i64 0, .int .i64 0, .int .i64 0, .int .i64 0, .int .i64 0, .int .i64 0]) (ds := [.int .i64 0, .int .i64 0]) (es := [.int .i64 0, .int .i64 0]) (v := .tuple #[dv zD, iv 0 0, iv 0 0, .int .i64 e8]) (by
                        (repeat (first | with_reducible exact o_10 | with_reducible apply Bx.put6 | with_reducible apply Bx.put2 | with_reducible refine Bx.set ?_ (by omega) | with_reducible refine Bx.alc ?_ _ | with_reducible refine Bx.drew ?_))) (by
                        (repeat (first | with_reducible exact u_10 | with_reducible apply Bx.put6 | with_reducible apply Bx.put2 | with_reducible refine Bx.set ?_ (by omega) | with_reducible refine Bx.alc ?_ _ | with_reducible refine Bx.drew ?_))) (by
                        (repeat (first | with_reducible exact v_10 | with_reducible apply Bx.put6 | with_reducible apply Bx.put2 | with_reducible refine Bx.set ?_ (by omega) | with_reducible refine Bx.alc ?_ _ | with_reducible refine Bx.drew ?_))) (fun X hX hY hZ => by simp [results, Try.results21, go_sem, hX, hY, hZ, zD]) rfl ⟨by first | rfl | (simp [retF, failF]; done) | (simp [retF, failF, hsz]; done) | (simp [retF, failF, hp2]; done) | (simp [retF, failF, he8]; done) | (simp [retF, failF, hsz, hp2]; done) | (simp [retF, failF, hsz, he8]; done) | (simp [retF, failF, hp2, he8]; done) | (simp [retF, failF, hsz, hp2, he8]; done), by
                        refine Ho.below (n := w.heap.size + 1 + 1 + 1) (l := [(w.heap.size + 1 + 1, [.int .i64 a, .int .i64 b]), (w.heap.size + 1, [.int .i64 t.a, .int .i64 t.b, .int .i64 t.c, .int .i64 t.d, .int .i64 t.e, .int .i64 t.f]), (w.heap.size, [.int .i64 s.a, .int .i64 s.b, .int .i64 s.c, .int .i64 s.d, .int .i64 s.e, .int .i64 s.f])]) ?_
                        (repeat (first | with_reducible exact H10 | with_reducible refine Ho.alc ?_ _ | with_reducible refine Ho.drew ?_ | with_reducible refine Ho.put ?_ (by omega)))⟩
                  · have zhe6 : (E4 != 0) = true := by simpa using he6
                    have oc := o_9.c
                    have of := o_9.f
                    have om : w.heap.size + 1 + 1 + 1 < w9.heap.size + 1 := by omega
                    have uc := u_9.c
                    have uf := u_9.f
                    have um : w.heap.size + 1 + 1 + 1 + 1 < w9.heap.size + 1 := by omega
                    have vc := v_9.c
                    have vf := v_9.f
                    have vm : w.heap.size + 1 + 1 + 1 + 1 + 1 < w9.heap.size + 1 := by omega
                    have nc := n_9.c
                    have nf := n_9.f
                    have nm : w.heap.size + 1 + 1 + 1 + 1 + 1 + 1 < w9.heap.size + 1 := by omega
                    have npq0 : ¬ (w.heap.size + 1 + 1 + 1 = w.heap.size + 1 + 1 + 1 + 1) := by omega
                    have npq1 : ¬ (w.heap.size + 1 + 1 + 1 = w.heap.size + 1 + 1 + 1 + 1 + 1) := by omega
                    have npq2 : ¬ (w.heap.size + 1 + 1 + 1 = w.heap.size + 1 + 1 + 1 + 1 + 1 + 1) := by omega
                    have npq3 : ¬ (w.heap.size + 1 + 1 + 1 + 1 = w.heap.size + 1 + 1 + 1) := by omega
                    have npq4 : ¬ (w.heap.size + 1 + 1 + 1 + 1 = w.heap.size + 1 + 1 + 1 + 1 + 1) := by omega
                    have npq5 : ¬ (w.heap.size + 1 + 1 + 1 + 1 = w.heap.size + 1 + 1 + 1 + 1 + 1 + 1) := by omega
                    have npq6 : ¬ (w.heap.size + 1 + 1 + 1 + 1 + 1 = w.heap.size + 1 + 1 + 1) := by omega
                    have npq7 : ¬ (w.heap.size + 1 + 1 + 1 + 1 + 1 = w.heap.size + 1 + 1 + 1 + 1) := by omega
                    have npq8 : ¬ (w.heap.size + 1 + 1 + 1 + 1 + 1 = w.heap.size + 1 + 1 + 1 + 1 + 1 + 1) := by omega
                    have npq9 : ¬ (w.heap.size + 1 + 1 + 1 + 1 + 1 + 1 = w.heap.size + 1 + 1 + 1) := by omega
                    have npq10 : ¬ (w.heap.size + 1 + 1 + 1 + 1 + 1 + 1 = w.heap.size + 1 + 1 + 1 + 1) := by omega
                    have npq11 : ¬ (w.heap.size + 1 + 1 + 1 + 1 + 1 + 1 = w.heap.size + 1 + 1 + 1 + 1 + 1) := by omega
                    go_upto_region 26 with fail
                    have NX : Bx w9.drew (w.heap.size + 1 + 1 + 1 + 1 + 1 + 1) [.int .i64 0, .int .i64 0] := by
                      (repeat (first | with_reducible exact n_9 | with_reducible apply Bx.put6 | with_reducible apply Bx.put2 | with_reducible refine Bx.set ?_ (by omega) | with_reducible refine Bx.alc ?_ _ | with_reducible refine Bx.drew ?_))
                    have pn0 : ¬ (w.heap.size + 1 + 1 + 1 + 1 + 1 + 1 = w.heap.size + 1 + 1 + 1) := by omega
                    have pn1 : ¬ (w.heap.size + 1 + 1 + 1 + 1 + 1 + 1 = w.heap.size + 1 + 1 + 1 + 1) := by omega
                    have pn2 : ¬ (w.heap.size + 1 + 1 + 1 + 1 + 1 + 1 = w.heap.size + 1 + 1 + 1 + 1 + 1) := by omega
                    have CX : Ce w9.drew ((w4.heap.size + 1)) E4 := by
                      (repeat (first | with_reducible exact C_9 | with_reducible refine Ce.alc ?_ _ | with_reducible refine Ce.drew ?_ | with_reducible refine Ce.set ?_ (by omega)))
                    have pc0 : ¬ ((w4.heap.size + 1) = w.heap.size + 1 + 1 + 1) := by omega
                    have pc1 : ¬ ((w4.heap.size + 1) = w.heap.size + 1 + 1 + 1 + 1) := by omega
                    have pc2 : ¬ ((w4.heap.size + 1) = w.heap.size + 1 + 1 + 1 + 1 + 1) := by omega
                    have N0 : Bx w9 (w.heap.size + 1 + 1 + 1 + 1 + 1 + 1) [.int .i64 0, .int .i64 0] := by
                      (repeat (first | with_reducible exact n_9 | with_reducible apply Bx.put6 | with_reducible apply Bx.put2 | with_reducible refine Bx.set ?_ (by omega) | with_reducible refine Bx.alc ?_ _ | with_reducible refine Bx.drew ?_))
                    have C0 : Ce w9 ((w4.heap.size + 1)) E4 := by
                      (repeat (first | with_reducible exact C_9 | with_reducible refine Ce.alc ?_ _ | with_reducible refine Ce.drew ?_ | with_reducible refine Ce.set ?_ (by omega)))
                    go_region_held3 (fun X => (∀ j, X.cell? ⟨w.heap.size + 1 + 1 + 1 + 1 + 1 + 1, j, none⟩ = [.int .i64 0, .int .i64 0][j]?) ∧ X.cell? ⟨(w4.heap.size + 1), 0, none⟩ = some (.int .i64 E4)) (with_reducible first | exact ⟨NX.c, CX.v⟩ | exact ⟨((((((NX.set pn0).set pn0).set pn0).set pn0).set pn0).set pn0).c, ((((((CX.set pc0).set pc0).set pc0).set pc0).set pc0).set pc0).v⟩ | exact ⟨((((((N0.set pn0).set pn0).set pn0).set pn0).set pn0).set pn0).drew.c, ((((((C0.set pc0).set pc0).set pc0).set pc0).set pc0).set pc0).drew.v⟩ | exact ⟨((((((((NX.set pn0).set pn0).set pn0).set pn0).set pn0).set pn0).set pn1).set pn1).c, ((((((((CX.set pc0).set pc0).set pc0).set pc0).set pc0).set pc0).set pc1).set pc1).v⟩ | exact ⟨((((((((N0.set pn0).set pn0).set pn0).set pn0).set pn0).set pn0).set pn1).set pn1).drew.c, ((((((((C0.set pc0).set pc0).set pc0).set pc0).set pc0).set pc0).set pc1).set pc1).drew.v⟩ | exact ⟨((((((((((NX.set pn0).set pn0).set pn0).set pn0).set pn0).set pn0).set pn1).set pn1).set pn2).set pn2).c, ((((((((((CX.set pc0).set pc0).set pc0).set pc0).set pc0).set pc0).set pc1).set pc1).set pc2).set pc2).v⟩ | exact ⟨((((((((((N0.set pn0).set pn0).set pn0).set pn0).set pn0).set pn0).set pn1).set pn1).set pn2).set pn2).drew.c, ((((((((((C0.set pc0).set pc0).set pc0).set pc0).set pc0).set pc0).set pc1).set pc1).set pc2).set pc2).drew.v⟩) (fail)
                    all_goals go_wp2_with fail
                    all_goals refine bodyPost_box3 (b := w.heap.size + 1 + 1 + 1) (c := w.heap.size + 1 + 1 + 1 + 1) (d := w.heap.size + 1 + 1 + 1 + 1 + 1) (cs := [.int .i64 0, .int .i64 0, .int .i64 0, .int .i64 0, .int .i64 0, .int .i64 0]) (ds := [.int .i64 0, .int .i64 0]) (es := [.int .i64 0, .int .i64 0]) (v := .tuple #[dv zD, iv 0 0, iv 0 0, .int .i64 E4]) (by
                      (repeat (first | with_reducible exact o_9 | with_reducible apply Bx.put6 | with_reducible apply Bx.put2 | with_reducible refine Bx.set ?_ (by omega) | with_reducible refine Bx.alc ?_ _ | with_reducible refine Bx.drew ?_))) (by
                      (repeat (first | with_reducible exact u_9 | with_reducible apply Bx.put6 | with_reducible apply Bx.put2 | with_reducible refine Bx.set ?_ (by omega) | with_reducible refine Bx.alc ?_ _ | with_reducible refine Bx.drew ?_))) (by
                      (repeat (first | with_reducible exact v_9 | with_reducible apply Bx.put6 | with_reducible apply Bx.put2 | with_reducible refine Bx.set ?_ (by omega) | with_reducible refine Bx.alc ?_ _ | with_reducible refine Bx.drew ?_))) (fun X hX hY hZ => by simp [results, Try.results21, go_sem, hX, hY, hZ, zD]) rfl ⟨by first | rfl | (simp [retF, failF]; done) | (simp [retF, failF, hsz]; done) | (simp [retF, failF, hp2]; done) | (simp [retF, failF, he6]; done) | (simp [retF, failF, hsz, hp2]; done) | (simp [retF, failF, hsz, he6]; done) | (simp [retF, failF, hp2, he6]; done) | (simp [retF, failF, hsz, hp2, he6]; done), by
                      refine Ho.below (n := w.heap.size + 1 + 1 + 1) (l := [(w.heap.size + 1 + 1, [.int .i64 a, .int .i64 b]), (w.heap.size + 1, [.int .i64 t.a, .int .i64 t.b, .int .i64 t.c, .int .i64 t.d, .int .i64 t.e, .int .i64 t.f]), (w.heap.size, [.int .i64 s.a, .int .i64 s.b, .int .i64 s.c, .int .i64 s.d, .int .i64 s.e, .int .i64 s.f])]) ?_
                      (repeat (first | with_reducible exact H9 | with_reducible refine Ho.alc ?_ _ | with_reducible refine Ho.drew ?_ | with_reducible refine Ho.put ?_ (by omega)))⟩
              · have zhe5 : (e5 != 0) = true := by simpa using he5
                clear C_7v C_7f
                have oc := o_7.c
                have of := o_7.f
                have om : w.heap.size + 1 + 1 + 1 < w7.heap.size + 1 := by omega
                have uc := u_7.c
                have uf := u_7.f
                have um : w.heap.size + 1 + 1 + 1 + 1 < w7.heap.size + 1 := by omega
                have vc := v_7.c
                have vf := v_7.f
                have vm : w.heap.size + 1 + 1 + 1 + 1 + 1 < w7.heap.size + 1 := by omega
                have nc := n_7.c
                have nf := n_7.f
                have nm : w.heap.size + 1 + 1 + 1 + 1 + 1 + 1 < w7.heap.size + 1 := by omega
                have npq0 : ¬ (w.heap.size + 1 + 1 + 1 = w.heap.size + 1 + 1 + 1 + 1) := by omega
                have npq1 : ¬ (w.heap.size + 1 + 1 + 1 = w.heap.size + 1 + 1 + 1 + 1 + 1) := by omega
                have npq2 : ¬ (w.heap.size + 1 + 1 + 1 = w.heap.size + 1 + 1 + 1 + 1 + 1 + 1) := by omega
                have npq3 : ¬ (w.heap.size + 1 + 1 + 1 + 1 = w.heap.size + 1 + 1 + 1) := by omega
                have npq4 : ¬ (w.heap.size + 1 + 1 + 1 + 1 = w.heap.size + 1 + 1 + 1 + 1 + 1) := by omega
                have npq5 : ¬ (w.heap.size + 1 + 1 + 1 + 1 = w.heap.size + 1 + 1 + 1 + 1 + 1 + 1) := by omega
                have npq6 : ¬ (w.heap.size + 1 + 1 + 1 + 1 + 1 = w.heap.size + 1 + 1 + 1) := by omega
                have npq7 : ¬ (w.heap.size + 1 + 1 + 1 + 1 + 1 = w.heap.size + 1 + 1 + 1 + 1) := by omega
                have npq8 : ¬ (w.heap.size + 1 + 1 + 1 + 1 + 1 = w.heap.size + 1 + 1 + 1 + 1 + 1 + 1) := by omega
                have npq9 : ¬ (w.heap.size + 1 + 1 + 1 + 1 + 1 + 1 = w.heap.size + 1 + 1 + 1) := by omega
                have npq10 : ¬ (w.heap.size + 1 + 1 + 1 + 1 + 1 + 1 = w.heap.size + 1 + 1 + 1 + 1) := by omega
                have npq11 : ¬ (w.heap.size + 1 + 1 + 1 + 1 + 1 + 1 = w.heap.size + 1 + 1 + 1 + 1 + 1) := by omega
                go_upto_region 23 with fail
                have NX : Bx (w7.alloc (.cells (List.toArray [.int .i64 d0, .int .i64 d1, .int .i64 d2, .int .i64 d3, .int .i64 d4, .int .i64 d5]) 30)).drew (w.heap.size + 1 + 1 + 1 + 1 + 1 + 1) [.int .i64 0, .int .i64 0] := by
                  (repeat (first | with_reducible exact n_7 | with_reducible apply Bx.put6 | with_reducible apply Bx.put2 | with_reducible refine Bx.set ?_ (by omega) | with_reducible refine Bx.alc ?_ _ | with_reducible refine Bx.drew ?_))
                have pn0 : ¬ (w.heap.size + 1 + 1 + 1 + 1 + 1 + 1 = w.heap.size + 1 + 1 + 1) := by omega
                have pn1 : ¬ (w.heap.size + 1 + 1 + 1 + 1 + 1 + 1 = w.heap.size + 1 + 1 + 1 + 1) := by omega
                have pn2 : ¬ (w.heap.size + 1 + 1 + 1 + 1 + 1 + 1 = w.heap.size + 1 + 1 + 1 + 1 + 1) := by omega
                have N0 : Bx (w7.alloc (.cells (List.toArray [.int .i64 d0, .int .i64 d1, .int .i64 d2, .int .i64 d3, .int .i64 d4, .int .i64 d5]) 30)) (w.heap.size + 1 + 1 + 1 + 1 + 1 + 1) [.int .i64 0, .int .i64 0] := by
                  (repeat (first | with_reducible exact n_7 | with_reducible apply Bx.put6 | with_reducible apply Bx.put2 | with_reducible refine Bx.set ?_ (by omega) | with_reducible refine Bx.alc ?_ _ | with_reducible refine Bx.drew ?_))
                go_region_held3 (fun X => (∀ j, X.cell? ⟨w.heap.size + 1 + 1 + 1 + 1 + 1 + 1, j, none⟩ = [.int .i64 0, .int .i64 0][j]?)) (with_reducible first | exact NX.c | exact (n_7.alc _).drew.c | exact ((((((NX.set pn0).set pn0).set pn0).set pn0).set pn0).set pn0).c | exact ((((((N0.set pn0).set pn0).set pn0).set pn0).set pn0).set pn0).drew.c | exact (((((((n_7.set pn0).set pn0).set pn0).set pn0).set pn0).set pn0).alc _).drew.c | exact ((((((((NX.set pn0).set pn0).set pn0).set pn0).set pn0).set pn0).set pn1).set pn1).c | exact ((((((((N0.set pn0).set pn0).set pn0).set pn0).set pn0).set pn0).set pn1).set pn1).drew.c | exact (((((((((n_7.set pn0).set pn0).set pn0).set pn0).set pn0).set pn0).set pn1).set pn1).alc _).drew.c | exact ((((((((((NX.set pn0).set pn0).set pn0).set pn0).set pn0).set pn0).set pn1).set pn1).set pn2).set pn2).c | exact ((((((((((N0.set pn0).set pn0).set pn0).set pn0).set pn0).set pn0).set pn1).set pn1).set pn2).set pn2).drew.c | exact (((((((((((n_7.set pn0).set pn0).set pn0).set pn0).set pn0).set pn0).set pn1).set pn1).set pn2).set pn2).alc _).drew.c) (fail)
                all_goals go_wp2_with fail
                all_goals refine bodyPost_box3 (b := w.heap.size + 1 + 1 + 1) (c := w.heap.size + 1 + 1 + 1 + 1) (d := w.heap.size + 1 + 1 + 1 + 1 + 1) (cs := [.int .i64 0, .int .i64 0, .int .i64 0, .int .i64 0, .int .i64 0, .int .i64 0]) (ds := [.int .i64 0, .int .i64 0]) (es := [.int .i64 0, .int .i64 0]) (v := .tuple #[dv zD, iv 0 0, iv 0 0, .int .i64 e5]) (by
                  (repeat (first | with_reducible exact o_7 | with_reducible apply Bx.put6 | with_reducible apply Bx.put2 | with_reducible refine Bx.set ?_ (by omega) | with_reducible refine Bx.alc ?_ _ | with_reducible refine Bx.drew ?_))) (by
                  (repeat (first | with_reducible exact u_7 | with_reducible apply Bx.put6 | with_reducible apply Bx.put2 | with_reducible refine Bx.set ?_ (by omega) | with_reducible refine Bx.alc ?_ _ | with_reducible refine Bx.drew ?_))) (by
                  (repeat (first | with_reducible exact v_7 | with_reducible apply Bx.put6 | with_reducible apply Bx.put2 | with_reducible refine Bx.set ?_ (by omega) | with_reducible refine Bx.alc ?_ _ | with_reducible refine Bx.drew ?_))) (fun X hX hY hZ => by simp [results, Try.results21, go_sem, hX, hY, hZ, zD]) rfl ⟨by first | rfl | (simp [retF, failF]; done) | (simp [retF, failF, hsz]; done) | (simp [retF, failF, hp2]; done) | (simp [retF, failF, he5]; done) | (simp [retF, failF, hsz, hp2]; done) | (simp [retF, failF, hsz, he5]; done) | (simp [retF, failF, hp2, he5]; done) | (simp [retF, failF, hsz, hp2, he5]; done), by
                  refine Ho.below (n := w.heap.size + 1 + 1 + 1) (l := [(w.heap.size + 1 + 1, [.int .i64 a, .int .i64 b]), (w.heap.size + 1, [.int .i64 t.a, .int .i64 t.b, .int .i64 t.c, .int .i64 t.d, .int .i64 t.e, .int .i64 t.f]), (w.heap.size, [.int .i64 s.a, .int .i64 s.b, .int .i64 s.c, .int .i64 s.d, .int .i64 s.e, .int .i64 s.f])]) ?_
                  (repeat (first | with_reducible exact H7 | with_reducible refine Ho.alc ?_ _ | with_reducible refine Ho.drew ?_ | with_reducible refine Ho.put ?_ (by omega)))⟩
        · have zhe2 : (e2 != 0) = true := by simpa using he2
          have oc := o_4.c
          have of := o_4.f
          have om : w.heap.size + 1 + 1 + 1 < w4.heap.size + 1 := by omega
          have uc := u_4.c
          have uf := u_4.f
          have um : w.heap.size + 1 + 1 + 1 + 1 < w4.heap.size + 1 := by omega
          have vc := v_4.c
          have vf := v_4.f
          have vm : w.heap.size + 1 + 1 + 1 + 1 + 1 < w4.heap.size + 1 := by omega
          have nc := n_4.c
          have nf := n_4.f
          have nm : w.heap.size + 1 + 1 + 1 + 1 + 1 + 1 < w4.heap.size + 1 := by omega
          have npq0 : ¬ (w.heap.size + 1 + 1 + 1 = w.heap.size + 1 + 1 + 1 + 1) := by omega
          have npq1 : ¬ (w.heap.size + 1 + 1 + 1 = w.heap.size + 1 + 1 + 1 + 1 + 1) := by omega
          have npq2 : ¬ (w.heap.size + 1 + 1 + 1 = w.heap.size + 1 + 1 + 1 + 1 + 1 + 1) := by omega
          have npq3 : ¬ (w.heap.size + 1 + 1 + 1 + 1 = w.heap.size + 1 + 1 + 1) := by omega
          have npq4 : ¬ (w.heap.size + 1 + 1 + 1 + 1 = w.heap.size + 1 + 1 + 1 + 1 + 1) := by omega
          have npq5 : ¬ (w.heap.size + 1 + 1 + 1 + 1 = w.heap.size + 1 + 1 + 1 + 1 + 1 + 1) := by omega
          have npq6 : ¬ (w.heap.size + 1 + 1 + 1 + 1 + 1 = w.heap.size + 1 + 1 + 1) := by omega
          have npq7 : ¬ (w.heap.size + 1 + 1 + 1 + 1 + 1 = w.heap.size + 1 + 1 + 1 + 1) := by omega
          have npq8 : ¬ (w.heap.size + 1 + 1 + 1 + 1 + 1 = w.heap.size + 1 + 1 + 1 + 1 + 1 + 1) := by omega
          have npq9 : ¬ (w.heap.size + 1 + 1 + 1 + 1 + 1 + 1 = w.heap.size + 1 + 1 + 1) := by omega
          have npq10 : ¬ (w.heap.size + 1 + 1 + 1 + 1 + 1 + 1 = w.heap.size + 1 + 1 + 1 + 1) := by omega
          have npq11 : ¬ (w.heap.size + 1 + 1 + 1 + 1 + 1 + 1 = w.heap.size + 1 + 1 + 1 + 1 + 1) := by omega
          go_upto_region 12 with fail
          have NX : Bx (w4.alloc (.cells (List.toArray [.int .i64 p2, .int .i64 q2]) 23)).drew (w.heap.size + 1 + 1 + 1 + 1 + 1 + 1) [.int .i64 0, .int .i64 0] := by
            (repeat (first | with_reducible exact n_4 | with_reducible apply Bx.put6 | with_reducible apply Bx.put2 | with_reducible refine Bx.set ?_ (by omega) | with_reducible refine Bx.alc ?_ _ | with_reducible refine Bx.drew ?_))
          have pn0 : ¬ (w.heap.size + 1 + 1 + 1 + 1 + 1 + 1 = w.heap.size + 1 + 1 + 1) := by omega
          have pn1 : ¬ (w.heap.size + 1 + 1 + 1 + 1 + 1 + 1 = w.heap.size + 1 + 1 + 1 + 1) := by omega
          have pn2 : ¬ (w.heap.size + 1 + 1 + 1 + 1 + 1 + 1 = w.heap.size + 1 + 1 + 1 + 1 + 1) := by omega
          have N0 : Bx (w4.alloc (.cells (List.toArray [.int .i64 p2, .int .i64 q2]) 23)) (w.heap.size + 1 + 1 + 1 + 1 + 1 + 1) [.int .i64 0, .int .i64 0] := by
            (repeat (first | with_reducible exact n_4 | with_reducible apply Bx.put6 | with_reducible apply Bx.put2 | with_reducible refine Bx.set ?_ (by omega) | with_reducible refine Bx.alc ?_ _ | with_reducible refine Bx.drew ?_))
          go_region_held3 (fun X => (∀ j, X.cell? ⟨w.heap.size + 1 + 1 + 1 + 1 + 1 + 1, j, none⟩ = [.int .i64 0, .int .i64 0][j]?)) (with_reducible first | exact NX.c | exact (n_4.alc _).drew.c | exact ((((((NX.set pn0).set pn0).set pn0).set pn0).set pn0).set pn0).c | exact ((((((N0.set pn0).set pn0).set pn0).set pn0).set pn0).set pn0).drew.c | exact (((((((n_4.set pn0).set pn0).set pn0).set pn0).set pn0).set pn0).alc _).drew.c | exact ((((((((NX.set pn0).set pn0).set pn0).set pn0).set pn0).set pn0).set pn1).set pn1).c | exact ((((((((N0.set pn0).set pn0).set pn0).set pn0).set pn0).set pn0).set pn1).set pn1).drew.c | exact (((((((((n_4.set pn0).set pn0).set pn0).set pn0).set pn0).set pn0).set pn1).set pn1).alc _).drew.c | exact ((((((((((NX.set pn0).set pn0).set pn0).set pn0).set pn0).set pn0).set pn1).set pn1).set pn2).set pn2).c | exact ((((((((((N0.set pn0).set pn0).set pn0).set pn0).set pn0).set pn0).set pn1).set pn1).set pn2).set pn2).drew.c | exact (((((((((((n_4.set pn0).set pn0).set pn0).set pn0).set pn0).set pn0).set pn1).set pn1).set pn2).set pn2).alc _).drew.c) (fail)
          all_goals go_wp2_with fail
          all_goals refine bodyPost_box3 (b := w.heap.size + 1 + 1 + 1) (c := w.heap.size + 1 + 1 + 1 + 1) (d := w.heap.size + 1 + 1 + 1 + 1 + 1) (cs := [.int .i64 0, .int .i64 0, .int .i64 0, .int .i64 0, .int .i64 0, .int .i64 0]) (ds := [.int .i64 0, .int .i64 0]) (es := [.int .i64 0, .int .i64 0]) (v := .tuple #[dv zD, iv 0 0, iv 0 0, .int .i64 e2]) (by
            (repeat (first | with_reducible exact o_4 | with_reducible apply Bx.put6 | with_reducible apply Bx.put2 | with_reducible refine Bx.set ?_ (by omega) | with_reducible refine Bx.alc ?_ _ | with_reducible refine Bx.drew ?_))) (by
            (repeat (first | with_reducible exact u_4 | with_reducible apply Bx.put6 | with_reducible apply Bx.put2 | with_reducible refine Bx.set ?_ (by omega) | with_reducible refine Bx.alc ?_ _ | with_reducible refine Bx.drew ?_))) (by
            (repeat (first | with_reducible exact v_4 | with_reducible apply Bx.put6 | with_reducible apply Bx.put2 | with_reducible refine Bx.set ?_ (by omega) | with_reducible refine Bx.alc ?_ _ | with_reducible refine Bx.drew ?_))) (fun X hX hY hZ => by simp [results, Try.results21, go_sem, hX, hY, hZ, zD]) rfl ⟨by first | rfl | (simp [retF, failF]; done) | (simp [retF, failF, hsz]; done) | (simp [retF, failF, he2]; done) | (simp [retF, failF, hsz, he2]; done), by
            refine Ho.below (n := w.heap.size + 1 + 1 + 1) (l := [(w.heap.size + 1 + 1, [.int .i64 a, .int .i64 b]), (w.heap.size + 1, [.int .i64 t.a, .int .i64 t.b, .int .i64 t.c, .int .i64 t.d, .int .i64 t.e, .int .i64 t.f]), (w.heap.size, [.int .i64 s.a, .int .i64 s.b, .int .i64 s.c, .int .i64 s.d, .int .i64 s.e, .int .i64 s.f])]) ?_
            (repeat (first | with_reducible exact H4 | with_reducible refine Ho.alc ?_ _ | with_reducible refine Ho.drew ?_ | with_reducible refine Ho.put ?_ (by omega)))⟩
    · have zhe1 : (e1 != 0) = true := by simpa using he1
      have oc := o_2.c
      have of := o_2.f
      have om : w.heap.size + 1 + 1 + 1 < w2.heap.size + 1 := by omega
      have uc := u_2.c
      have uf := u_2.f
      have um : w.heap.size + 1 + 1 + 1 + 1 < w2.heap.size + 1 := by omega
      have vc := v_2.c
      have vf := v_2.f
      have vm : w.heap.size + 1 + 1 + 1 + 1 + 1 < w2.heap.size + 1 := by omega
      have nc := n_2.c
      have nf := n_2.f
      have nm : w.heap.size + 1 + 1 + 1 + 1 + 1 + 1 < w2.heap.size + 1 := by omega
      have npq0 : ¬ (w.heap.size + 1 + 1 + 1 = w.heap.size + 1 + 1 + 1 + 1) := by omega
      have npq1 : ¬ (w.heap.size + 1 + 1 + 1 = w.heap.size + 1 + 1 + 1 + 1 + 1) := by omega
      have npq2 : ¬ (w.heap.size + 1 + 1 + 1 = w.heap.size + 1 + 1 + 1 + 1 + 1 + 1) := by omega
      have npq3 : ¬ (w.heap.size + 1 + 1 + 1 + 1 = w.heap.size + 1 + 1 + 1) := by omega
      have npq4 : ¬ (w.heap.size + 1 + 1 + 1 + 1 = w.heap.size + 1 + 1 + 1 + 1 + 1) := by omega
      have npq5 : ¬ (w.heap.size + 1 + 1 + 1 + 1 = w.heap.size + 1 + 1 + 1 + 1 + 1 + 1) := by omega
      have npq6 : ¬ (w.heap.size + 1 + 1 + 1 + 1 + 1 = w.heap.size + 1 + 1 + 1) := by omega
      have npq7 : ¬ (w.heap.size + 1 + 1 + 1 + 1 + 1 = w.heap.size + 1 + 1 + 1 + 1) := by omega
      have npq8 : ¬ (w.heap.size + 1 + 1 + 1 + 1 + 1 = w.heap.size + 1 + 1 + 1 + 1 + 1 + 1) := by omega
      have npq9 : ¬ (w.heap.size + 1 + 1 + 1 + 1 + 1 + 1 = w.heap.size + 1 + 1 + 1) := by omega
      have npq10 : ¬ (w.heap.size + 1 + 1 + 1 + 1 + 1 + 1 = w.heap.size + 1 + 1 + 1 + 1) := by omega
      have npq11 : ¬ (w.heap.size + 1 + 1 + 1 + 1 + 1 + 1 = w.heap.size + 1 + 1 + 1 + 1 + 1) := by omega
      go_upto_region 6 with fail
      have NX : Bx (w2.alloc (.cells (List.toArray [.int .i64 p1, .int .i64 q1]) 23)).drew (w.heap.size + 1 + 1 + 1 + 1 + 1 + 1) [.int .i64 0, .int .i64 0] := by
        (repeat (first | with_reducible exact n_2 | with_reducible apply Bx.put6 | with_reducible apply Bx.put2 | with_reducible refine Bx.set ?_ (by omega) | with_reducible refine Bx.alc ?_ _ | with_reducible refine Bx.drew ?_))
      have pn0 : ¬ (w.heap.size + 1 + 1 + 1 + 1 + 1 + 1 = w.heap.size + 1 + 1 + 1) := by omega
      have pn1 : ¬ (w.heap.size + 1 + 1 + 1 + 1 + 1 + 1 = w.heap.size + 1 + 1 + 1 + 1) := by omega
      have pn2 : ¬ (w.heap.size + 1 + 1 + 1 + 1 + 1 + 1 = w.heap.size + 1 + 1 + 1 + 1 + 1) := by omega
      have N0 : Bx (w2.alloc (.cells (List.toArray [.int .i64 p1, .int .i64 q1]) 23)) (w.heap.size + 1 + 1 + 1 + 1 + 1 + 1) [.int .i64 0, .int .i64 0] := by
        (repeat (first | with_reducible exact n_2 | with_reducible apply Bx.put6 | with_reducible apply Bx.put2 | with_reducible refine Bx.set ?_ (by omega) | with_reducible refine Bx.alc ?_ _ | with_reducible refine Bx.drew ?_))
      go_region_held3 (fun X => (∀ j, X.cell? ⟨w.heap.size + 1 + 1 + 1 + 1 + 1 + 1, j, none⟩ = [.int .i64 0, .int .i64 0][j]?)) (with_reducible first | exact NX.c | exact (n_2.alc _).drew.c | exact ((((((NX.set pn0).set pn0).set pn0).set pn0).set pn0).set pn0).c | exact ((((((N0.set pn0).set pn0).set pn0).set pn0).set pn0).set pn0).drew.c | exact (((((((n_2.set pn0).set pn0).set pn0).set pn0).set pn0).set pn0).alc _).drew.c | exact ((((((((NX.set pn0).set pn0).set pn0).set pn0).set pn0).set pn0).set pn1).set pn1).c | exact ((((((((N0.set pn0).set pn0).set pn0).set pn0).set pn0).set pn0).set pn1).set pn1).drew.c | exact (((((((((n_2.set pn0).set pn0).set pn0).set pn0).set pn0).set pn0).set pn1).set pn1).alc _).drew.c | exact ((((((((((NX.set pn0).set pn0).set pn0).set pn0).set pn0).set pn0).set pn1).set pn1).set pn2).set pn2).c | exact ((((((((((N0.set pn0).set pn0).set pn0).set pn0).set pn0).set pn0).set pn1).set pn1).set pn2).set pn2).drew.c | exact (((((((((((n_2.set pn0).set pn0).set pn0).set pn0).set pn0).set pn0).set pn1).set pn1).set pn2).set pn2).alc _).drew.c) (fail)
      all_goals go_wp2_with fail
      all_goals refine bodyPost_box3 (b := w.heap.size + 1 + 1 + 1) (c := w.heap.size + 1 + 1 + 1 + 1) (d := w.heap.size + 1 + 1 + 1 + 1 + 1) (cs := [.int .i64 0, .int .i64 0, .int .i64 0, .int .i64 0, .int .i64 0, .int .i64 0]) (ds := [.int .i64 0, .int .i64 0]) (es := [.int .i64 0, .int .i64 0]) (v := .tuple #[dv zD, iv 0 0, iv 0 0, .int .i64 e1]) (by
        (repeat (first | with_reducible exact o_2 | with_reducible apply Bx.put6 | with_reducible apply Bx.put2 | with_reducible refine Bx.set ?_ (by omega) | with_reducible refine Bx.alc ?_ _ | with_reducible refine Bx.drew ?_))) (by
        (repeat (first | with_reducible exact u_2 | with_reducible apply Bx.put6 | with_reducible apply Bx.put2 | with_reducible refine Bx.set ?_ (by omega) | with_reducible refine Bx.alc ?_ _ | with_reducible refine Bx.drew ?_))) (by
        (repeat (first | with_reducible exact v_2 | with_reducible apply Bx.put6 | with_reducible apply Bx.put2 | with_reducible refine Bx.set ?_ (by omega) | with_reducible refine Bx.alc ?_ _ | with_reducible refine Bx.drew ?_))) (fun X hX hY hZ => by simp [results, Try.results21, go_sem, hX, hY, hZ, zD]) rfl ⟨by first | rfl | (simp [retF, failF]; done) | (simp [retF, failF, he1]; done), by
        refine Ho.below (n := w.heap.size + 1 + 1 + 1) (l := [(w.heap.size + 1 + 1, [.int .i64 a, .int .i64 b]), (w.heap.size + 1, [.int .i64 t.a, .int .i64 t.b, .int .i64 t.c, .int .i64 t.d, .int .i64 t.e, .int .i64 t.f]), (w.heap.size, [.int .i64 s.a, .int .i64 s.b, .int .i64 s.c, .int .i64 s.d, .int .i64 s.e, .int .i64 s.f])]) ?_
        (repeat (first | with_reducible exact H2 | with_reducible refine Ho.alc ?_ _ | with_reducible refine Ho.drew ?_ | with_reducible refine Ho.put ?_ (by omega)))⟩
end Go.Proofs.Ytjppcndhaejfpaa.Iv
