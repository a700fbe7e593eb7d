/- Contracts of the laws' helpers: parts of boxes, the reference's tests of boxes. -/
import Derived.Test.YtjppcndhaejfpaaWk
import Derived.Test.YtjppcndhaejfpaaDkM
import Derived.BigQuiet
namespace Go.Proofs.Ytjppcndhaejfpaa.Iv
open Go.RowKit
attribute [local go_sem] run_min2' run_max2'

theorem below_dN (w : World) (n : Nat) : Below w.heap.size w (w.drewN n) := ⟨rfl, rfl, rfl, Nat.le_refl _, fun _ _ => rfl⟩
theorem Bx.drewn {W : World} {b : Nat} {cs : List Value} (h : Bx W b cs) (n : Nat) : Bx (W.drewN n) b cs := h.kept (below_dN _ _)
theorem Ho.drewn {w0 W : World} {m : Nat} {l : List (Nat × List Value)} (h : Ho w0 W m l) (n : Nat) : Ho w0 (W.drewN n) m l := h.call (below_dN _ _)
set_option maxRecDepth 100000 in
set_option maxHeartbeats 4000000 in
theorem wit_any (lo hi k l : Int) (w : World) (h : vB lo hi = true) (k0 : 0 ≤ k) (k1 : k ≤ 4294967295) (l0 : 0 ≤ l) (l1 : l ≤ 4294967295) :
    Calls Try.prog 62 #[iv lo hi, .int .u32 k, .int .u32 l] w fun e w' => e = .returned (iv (partLo lo hi k l) (partHi lo hi k l)) ∧ Below w.heap.size w w' := by
  obtain ⟨a1, a2, a3⟩ := vB_iff.1 h
  obtain ⟨b1, b2⟩ := in_ok k a2
  obtain ⟨d1, d2⟩ := in_ok l a2
  have e1 : k.tmod (hi - lo + 1) = k % (hi - lo + 1) := Int.tmod_eq_emod_of_nonneg k0
  have f1 : l.tmod (hi - lo + 1) = l % (hi - lo + 1) := Int.tmod_eq_emod_of_nonneg l0
  have z : (hi - lo + 1 == 0) = false := by simp; omega
  have e0 : IntKind.i64.wrap (hi - lo) = hi - lo := IntWalk.i64_in _ (by omega)
  have e2 : IntKind.i64.wrap (hi - lo + 1) = hi - lo + 1 := IntWalk.i64_in _ (by omega)
  unfold partLo partHi
  unfold inR at b1 b2 d1 d2 ⊢
  obtain ⟨r, hr⟩ : ∃ r, k % (hi - lo + 1) = r := ⟨_, rfl⟩
  obtain ⟨q, hq⟩ : ∃ q, l % (hi - lo + 1) = q := ⟨_, rfl⟩
  rw [hr] at e1 b1 b2 ⊢
  rw [hq] at f1 d1 d2 ⊢
  clear hr hq
  rw [show min (lo + r) (lo + q) = lo + min r q from by omega, show max (lo + r) (lo + q) = lo + max r q from by omega]
  have e3 : IntKind.i64.wrap (lo + r) = lo + r := IntWalk.i64_in _ (by omega)
  have e4 : IntKind.i64.wrap k = k := IntWalk.i64_in _ (by omega)
  have e5 : IntKind.i64.wrap r = r := IntWalk.i64_in _ (by omega)
  have f3 : IntKind.i64.wrap (lo + q) = lo + q := IntWalk.i64_in _ (by omega)
  have f4 : IntKind.i64.wrap l = l := IntWalk.i64_in _ (by omega)
  have f5 : IntKind.i64.wrap q = q := IntWalk.i64_in _ (by omega)
  clear h
  have H0 := (Ho.nil w).bx [.int .i64 lo, .int .i64 hi] 23 (w.heap.size) (by simp)
  have O0 : Bx ((w.alloc (.cells (List.toArray [.int .i64 lo, .int .i64 hi]) 23)).alloc (.cells (List.toArray [.int .i64 0, .int .i64 0]) 23)) (w.heap.size + 1) [.int .i64 0, .int .i64 0] := Bx.new (by simp)
  go_enter Try.func62, Try.ntmps62
  go_wp2_with fail
  go_quiet (fail)
  go_wp2_with fail
  refine bodyPost_box (b := w.heap.size + 1) (cs := [.int .i64 (lo + min r q), .int .i64 (lo + max r q)]) (v := iv (lo + min r q) (lo + max r q)) (by
    (repeat (first | with_reducible exact O0 | with_reducible apply Bx.put2 | with_reducible refine Bx.drewn ?_ _))) (fun X hX => by simp [results, Try.results62, go_sem, hX]) rfl ⟨rfl, by
    refine Ho.below (n := w.heap.size + 1) (l := [(w.heap.size, [.int .i64 lo, .int .i64 hi])]) ?_
    (repeat (first | with_reducible exact H0 | with_reducible refine Ho.drewn ?_ _ | with_reducible refine Ho.alc ?_ _ | with_reducible refine Ho.put ?_ (by omega)))⟩
set_option maxRecDepth 100000 in
set_option maxHeartbeats 4000000 in
theorem theirs_any (s : D) (w : World) : Calls Try.prog 11 #[dv s] w fun e w' => e = .returned (dv s) ∧ Below w.heap.size w w' := by
  have H0 := ((Ho.nil w).bx [.int .i64 s.a, .int .i64 s.b, .int .i64 s.c, .int .i64 s.d, .int .i64 s.e, .int .i64 s.f] 25 (w.heap.size) (by simp))
  have o_0 : Bx ((w.alloc (.cells (List.toArray [.int .i64 s.a, .int .i64 s.b, .int .i64 s.c, .int .i64 s.d, .int .i64 s.e, .int .i64 s.f]) 25)).alloc (.cells (List.toArray [.int .i64 0, .int .i64 0, .int .i64 0, .int .i64 0, .int .i64 0, .int .i64 0]) 30)) (w.heap.size + 1) [.int .i64 0, .int .i64 0, .int .i64 0, .int .i64 0, .int .i64 0, .int .i64 0] := by
    (repeat (first | with_reducible exact Bx.new (by simp) | with_reducible apply Bx.put6 | with_reducible apply Bx.put2 | with_reducible apply Bx.put1 | with_reducible refine Bx.set ?_ (by omega) | with_reducible refine Bx.alc ?_ _ | with_reducible refine Bx.drew ?_))
  go_enter Try.func11, Try.ntmps11
  have o_0c := o_0.c
  have o_0f := o_0.f
  go_wp2_with fail
  refine bodyPost_box (b := w.heap.size + 1) (cs := [.int .i64 s.a, .int .i64 s.b, .int .i64 s.c, .int .i64 s.d, .int .i64 s.e, .int .i64 s.f]) (v := dv s) (by
    (repeat (first | with_reducible exact o_0 | with_reducible exact Bx.new (by simp) | with_reducible apply Bx.put6 | with_reducible apply Bx.put2 | with_reducible apply Bx.put1 | with_reducible refine Bx.set ?_ (by omega) | with_reducible refine Bx.alc ?_ _ | with_reducible refine Bx.drew ?_))) (fun X hX => by simp [results, Try.results11, go_sem, hX]) rfl ⟨rfl, by
    refine Ho.below (n := w.heap.size + 1) (l := [(w.heap.size, [.int .i64 s.a, .int .i64 s.b, .int .i64 s.c, .int .i64 s.d, .int .i64 s.e, .int .i64 s.f])]) ?_
    (repeat (first | with_reducible exact H0 | with_reducible refine Ho.alc ?_ _ | with_reducible refine Ho.drew ?_ | with_reducible refine Ho.put ?_ (by omega)))⟩
set_option maxRecDepth 100000 in
set_option maxHeartbeats 4000000 in
theorem rdvalid_any (s : D) (w : World) :
    Calls Try.prog 22 #[dv s] w fun e w' => e = .returned (.bool (vD s)) ∧ Below w.heap.size w w' := by
  cases h1 : vB s.a s.b
  · rw [show vD s = false from by simp [vD, h1]]
    have E1 := Lib.hid h1
    clear h1
    have H0 := ((Ho.nil w).bx [.int .i64 s.a, .int .i64 s.b, .int .i64 s.c, .int .i64 s.d, .int .i64 s.e, .int .i64 s.f] 30 (w.heap.size) (by simp))
    go_enter Try.func22, Try.ntmps22
    go_wp2_with fail
    refine (rvalid_below s.a s.b _).mono ?_
    rintro r w1 ⟨rfl, hb⟩
    rw [E1.out]
    have H1 : Ho w w1 (w.heap.size + 1) [(w.heap.size, [.int .i64 s.a, .int .i64 s.b, .int .i64 s.c, .int .i64 s.d, .int .i64 s.e, .int .i64 s.f])] := Ho.call (by
      (repeat (first | with_reducible exact H0 | with_reducible refine Ho.alc ?_ _ | with_reducible refine Ho.drew ?_ | with_reducible refine Ho.put ?_ (by omega)))) hb
    have hs1 := H1.size
    have hz1 := hb.size
    (try simp at hz1)
    clear hb
    have h0_1 := (H1.at 0 rfl).c
    have q1_0 : ¬ (w.heap.size = w1.heap.size) := by omega
    have q1_1 : ¬ (w1.heap.size = w.heap.size) := by omega
    have q1_2 : w.heap.size < w1.heap.size := by omega
    have q1_3 : w.heap.size < w1.heap.size + 1 := by omega
    go_wp2_with fail
    go_ret
    exact ⟨rfl, H1.below⟩
  · cases h2 : vB s.c s.d
    · rw [show vD s = false from by simp [vD, h2]]
      have E1 := Lib.hid h1
      have E2 := Lib.hid h2
      clear h1 h2
      have H0 := ((Ho.nil w).bx [.int .i64 s.a, .int .i64 s.b, .int .i64 s.c, .int .i64 s.d, .int .i64 s.e, .int .i64 s.f] 30 (w.heap.size) (by simp))
      go_enter Try.func22, Try.ntmps22
      go_wp2_with fail
      refine (rvalid_below s.a s.b _).mono ?_
      rintro r w1 ⟨rfl, hb⟩
      rw [E1.out]
      have H1 : Ho w w1 (w.heap.size + 1) [(w.heap.size, [.int .i64 s.a, .int .i64 s.b, .int .i64 s.c, .int .i64 s.d, .int .i64 s.e, .int .i64 s.f])] := Ho.call (by
        (repeat (first | with_reducible exact H0 | with_reducible refine Ho.alc ?_ _ | with_reducible refine Ho.drew ?_ | with_reducible refine Ho.put ?_ (by omega)))) hb
      have hs1 := H1.size
      have hz1 := hb.size
      (try simp at hz1)
      clear hb
      have h0_1 := (H1.at 0 rfl).c
      have q1_0 : ¬ (w.heap.size = w1.heap.size) := by omega
      have q1_1 : ¬ (w1.heap.size = w.heap.size) := by omega
      have q1_2 : w.heap.size < w1.heap.size := by omega
      have q1_3 : w.heap.size < w1.heap.size + 1 := by omega
      go_wp2_with fail
      refine (rvalid_below s.c s.d _).mono ?_
      rintro r w2 ⟨rfl, hb⟩
      rw [E2.out]
      have H2 : Ho w w2 (w.heap.size + 1) [(w.heap.size, [.int .i64 s.a, .int .i64 s.b, .int .i64 s.c, .int .i64 s.d, .int .i64 s.e, .int .i64 s.f])] := Ho.call (by
        (repeat (first | with_reducible exact H1 | with_reducible refine Ho.alc ?_ _ | with_reducible refine Ho.drew ?_ | with_reducible refine Ho.put ?_ (by omega)))) hb
      clear h0_1 q1_0 q1_1 q1_2 q1_3
      have hs2 := H2.size
      have hz2 := hb.size
      (try simp at hz2)
      clear hb
      have h0_2 := (H2.at 0 rfl).c
      have q2_0 : ¬ (w.heap.size = w2.heap.size) := by omega
      have q2_1 : ¬ (w2.heap.size = w.heap.size) := by omega
      have q2_2 : w.heap.size < w2.heap.size := by omega
      have q2_3 : w.heap.size < w2.heap.size + 1 := by omega
      go_wp2_with fail
      go_ret
      exact ⟨rfl, H2.below⟩
    · rw [show vD s = vB s.e s.f from by simp [vD, h1, h2]]
      have E1 := Lib.hid h1
      have E2 := Lib.hid h2
      clear h1 h2
      have H0 := ((Ho.nil w).bx [.int .i64 s.a, .int .i64 s.b, .int .i64 s.c, .int .i64 s.d, .int .i64 s.e, .int .i64 s.f] 30 (w.heap.size) (by simp))
      go_enter Try.func22, Try.ntmps22
      go_wp2_with fail
      refine (rvalid_below s.a s.b _).mono ?_
      rintro r w1 ⟨rfl, hb⟩
      rw [E1.out]
      have H1 : Ho w w1 (w.heap.size + 1) [(w.heap.size, [.int .i64 s.a, .int .i64 s.b, .int .i64 s.c, .int .i64 s.d, .int .i64 s.e, .int .i64 s.f])] := Ho.call (by
        (repeat (first | with_reducible exact H0 | with_reducible refine Ho.alc ?_ _ | with_reducible refine Ho.drew ?_ | with_reducible refine Ho.put ?_ (by omega)))) hb
      have hs1 := H1.size
      have hz1 := hb.size
      (try simp at hz1)
      clear hb
      have h0_1 := (H1.at 0 rfl).c
      have q1_0 : ¬ (w.heap.size = w1.heap.size) := by omega
      have q1_1 : ¬ (w1.heap.size = w.heap.size) := by omega
      have q1_2 : w.heap.size < w1.heap.size := by omega
      have q1_3 : w.heap.size < w1.heap.size + 1 := by omega
      go_wp2_with fail
      refine (rvalid_below s.c s.d _).mono ?_
      rintro r w2 ⟨rfl, hb⟩
      rw [E2.out]
      have H2 : Ho w w2 (w.heap.size + 1) [(w.heap.size, [.int .i64 s.a, .int .i64 s.b, .int .i64 s.c, .int .i64 s.d, .int .i64 s.e, .int .i64 s.f])] := Ho.call (by
        (repeat (first | with_reducible exact H1 | with_reducible refine Ho.alc ?_ _ | with_reducible refine Ho.drew ?_ | with_reducible refine Ho.put ?_ (by omega)))) hb
      clear h0_1 q1_0 q1_1 q1_2 q1_3
      have hs2 := H2.size
      have hz2 := hb.size
      (try simp at hz2)
      clear hb
      have h0_2 := (H2.at 0 rfl).c
      have q2_0 : ¬ (w.heap.size = w2.heap.size) := by omega
      have q2_1 : ¬ (w2.heap.size = w.heap.size) := by omega
      have q2_2 : w.heap.size < w2.heap.size := by omega
      have q2_3 : w.heap.size < w2.heap.size + 1 := by omega
      go_wp2_with fail
      refine (rvalid_below s.e s.f _).mono ?_
      rintro r w3 ⟨rfl, hb⟩
      have H3 : Ho w w3 (w.heap.size + 1) [(w.heap.size, [.int .i64 s.a, .int .i64 s.b, .int .i64 s.c, .int .i64 s.d, .int .i64 s.e, .int .i64 s.f])] := Ho.call (by
        (repeat (first | with_reducible exact H2 | with_reducible refine Ho.alc ?_ _ | with_reducible refine Ho.drew ?_ | with_reducible refine Ho.put ?_ (by omega)))) hb
      clear h0_2 q2_0 q2_1 q2_2 q2_3
      have hs3 := H3.size
      have hz3 := hb.size
      (try simp at hz3)
      clear hb
      have h0_3 := (H3.at 0 rfl).c
      have q3_0 : ¬ (w.heap.size = w3.heap.size) := by omega
      have q3_1 : ¬ (w3.heap.size = w.heap.size) := by omega
      have q3_2 : w.heap.size < w3.heap.size := by omega
      have q3_3 : w.heap.size < w3.heap.size + 1 := by omega
      go_wp2_with fail
      go_ret
      exact ⟨rfl, H3.below⟩
set_option maxRecDepth 100000 in
set_option maxHeartbeats 4000000 in
theorem rins_any (a b c d : Int) (w : World) (h1 : vB a b = true) (h2 : vB c d = true) (h3 : c ≤ a) (h4 : b ≤ d) :
    Calls Try.prog 26 #[iv a b, iv c d] w fun e w' => e = .returned (.bool true) ∧ Below w.heap.size w w' := by
  have HV := Lib.hid (show (vB a b && vB c d) = true from by rw [h1, h2]; rfl)
  clear h1 h2
  have H0 := (((Ho.nil w).bx [.int .i64 a, .int .i64 b] 23 (w.heap.size) (by simp)).bx [.int .i64 c, .int .i64 d] 23 (w.heap.size + 1) (by simp))
  go_enter Try.func26, Try.ntmps26
  go_wp2_with fail
  refine (both_any a b c d _).mono ?_
  rintro r w1 ⟨rfl, hb⟩
  rw [HV.out]
  have H1 : Ho w w1 (w.heap.size + 1 + 1) [(w.heap.size + 1, [.int .i64 c, .int .i64 d]), (w.heap.size, [.int .i64 a, .int .i64 b])] := Ho.call (by
    (repeat (first | with_reducible exact H0 | with_reducible refine Ho.alc ?_ _ | with_reducible refine Ho.drew ?_ | with_reducible refine Ho.put ?_ (by omega)))) hb
  have hs1 := H1.size
  have hz1 := hb.size
  (try simp at hz1)
  clear hb
  have h0_1 := (H1.at 1 rfl).c
  have h1_1 := (H1.at 0 rfl).c
  have q1_0 : ¬ (w.heap.size = w1.heap.size) := by omega
  have q1_1 : ¬ (w1.heap.size = w.heap.size) := by omega
  have q1_2 : w.heap.size < w1.heap.size := by omega
  have q1_3 : w.heap.size < w1.heap.size + 1 := by omega
  have q1_4 : ¬ (w.heap.size + 1 = w1.heap.size) := by omega
  have q1_5 : ¬ (w1.heap.size = w.heap.size + 1) := by omega
  have q1_6 : w.heap.size + 1 < w1.heap.size := by omega
  have q1_7 : w.heap.size + 1 < w1.heap.size + 1 := by omega
  go_wp2_with fail
  go_ret
  exact ⟨rfl, H1.below⟩
/-- a part of a box -/
def partD (s : D) (k0 k1 k2 k3 k4 k5 : Int) : D := ⟨partLo s.a s.b k0 k1, partHi s.a s.b k0 k1, partLo s.c s.d k2 k3, partHi s.c s.d k2 k3, partLo s.e s.f k4 k5, partHi s.e s.f k4 k5⟩
theorem partD_sub {s : D} (k0 k1 k2 k3 k4 k5 : Int) (h : vD s = true) : SubD (partD s k0 k1 k2 k3 k4 k5) s := by
  have hv : vB s.a s.b = true ∧ vB s.c s.d = true ∧ vB s.e s.f = true := by simpa [vD] using h
  exact ⟨part_sub k0 k1 hv.1, part_sub k2 k3 hv.2.1, part_sub k4 k5 hv.2.2⟩
structure U6 (k0 k1 k2 k3 k4 k5 : Int) : Prop where
  a : 0 ≤ k0 ∧ k0 ≤ 4294967295
  b : 0 ≤ k1 ∧ k1 ≤ 4294967295
  c : 0 ≤ k2 ∧ k2 ≤ 4294967295
  d : 0 ≤ k3 ∧ k3 ≤ 4294967295
  e : 0 ≤ k4 ∧ k4 ≤ 4294967295
  f : 0 ≤ k5 ∧ k5 ≤ 4294967295
set_option maxRecDepth 100000 in
set_option maxHeartbeats 4000000 in
theorem partd_any (s : D) (k0 k1 k2 k3 k4 k5 : Int) (w : World) (h : vD s = true) (u : U6 k0 k1 k2 k3 k4 k5) :
    Calls Try.prog 24 #[dv s, .agg #[.int .u32 k0, .int .u32 k1, .int .u32 k2, .int .u32 k3, .int .u32 k4, .int .u32 k5]] w fun e w' => e = .returned (dv (partD s k0 k1 k2 k3 k4 k5)) ∧ Below w.heap.size w w' := by
  have hv : vB s.a s.b = true ∧ vB s.c s.d = true ∧ vB s.e s.f = true := by simpa [vD] using h
  have V := Lib.hid hv
  have U := Lib.hid u
  clear h hv u
  have H0 := (((Ho.nil w).bx [.int .i64 s.a, .int .i64 s.b, .int .i64 s.c, .int .i64 s.d, .int .i64 s.e, .int .i64 s.f] 25 (w.heap.size) (by simp)).bx [.int .u32 k0, .int .u32 k1, .int .u32 k2, .int .u32 k3, .int .u32 k4, .int .u32 k5] 47 (w.heap.size + 1) (by simp))
  have O0 : Bx (((w.alloc (.cells (List.toArray [.int .i64 s.a, .int .i64 s.b, .int .i64 s.c, .int .i64 s.d, .int .i64 s.e, .int .i64 s.f]) 25)).alloc (.cells (List.toArray [.int .u32 k0, .int .u32 k1, .int .u32 k2, .int .u32 k3, .int .u32 k4, .int .u32 k5]) 47)).alloc (.cells (List.toArray [.int .i64 0, .int .i64 0, .int .i64 0, .int .i64 0, .int .i64 0, .int .i64 0]) 25)) (w.heap.size + 1 + 1) [.int .i64 0, .int .i64 0, .int .i64 0, .int .i64 0, .int .i64 0, .int .i64 0] := Bx.new (by simp)
  have HX := (H0.alc (.cells (List.toArray [.int .i64 0, .int .i64 0, .int .i64 0, .int .i64 0, .int .i64 0, .int .i64 0]) 25)).drew
  have OX := O0.drew
  go_enter Try.func24, Try.ntmps24
  go_upto_region 1 with fail
  go_region_held3 (fun X => (∀ j, X.cell? ⟨w.heap.size, j, none⟩ = [.int .i64 s.a, .int .i64 s.b, .int .i64 s.c, .int .i64 s.d, .int .i64 s.e, .int .i64 s.f][j]?) ∧ (∀ j, X.cell? ⟨w.heap.size + 1, j, none⟩ = [.int .u32 k0, .int .u32 k1, .int .u32 k2, .int .u32 k3, .int .u32 k4, .int .u32 k5][j]?)) (with_reducible first | exact ⟨(HX.at 1 rfl).c, (HX.at 0 rfl).c⟩ | exact ⟨(HA.at 1 rfl).c, (HA.at 0 rfl).c⟩ | exact ⟨(HB.at 1 rfl).c, (HB.at 0 rfl).c⟩ | exact ⟨(HC.at 1 rfl).c, (HC.at 0 rfl).c⟩ | exact ⟨(((((((HC.put (Nat.le_refl _)).put (Nat.le_refl _)).put (Nat.le_refl _)).put (Nat.le_refl _)).put (Nat.le_refl _)).put (Nat.le_refl _)).at 1 rfl).c, (((((((HC.put (Nat.le_refl _)).put (Nat.le_refl _)).put (Nat.le_refl _)).put (Nat.le_refl _)).put (Nat.le_refl _)).put (Nat.le_refl _)).at 0 rfl).c⟩)
    (first
      | (have hm := hmarkB; go_at_call 62; refine (wit_any s.e s.f k4 k5 _ V.out.2.2 U.out.e.1 U.out.e.2 U.out.f.1 U.out.f.2).mono ?_; rintro e wC ⟨rfl, hb⟩; have HC := HB.call hb; have OC := OB.kept hb; have oc := OC.c; have of := OC.f; have ol := OC.lt)
      | (have hm := hmarkA; go_at_call 62; refine (wit_any s.c s.d k2 k3 _ V.out.2.1 U.out.c.1 U.out.c.2 U.out.d.1 U.out.d.2).mono ?_; rintro e wB ⟨rfl, hb⟩; have HB := HA.call hb; have OB := OA.kept hb; have hmarkB : wB = wB := rfl)
      | (go_at_call 62; refine (wit_any s.a s.b k0 k1 _ V.out.1 U.out.a.1 U.out.a.2 U.out.b.1 U.out.b.2).mono ?_; rintro e wA ⟨rfl, hb⟩; have HA := HX.call hb; have OA := OX.kept hb; have hmarkA : wA = wA := rfl))
  go_wp2_with fail
  refine bodyPost_box (b := w.heap.size + 1 + 1) (cs := [.int .i64 (partLo s.a s.b k0 k1), .int .i64 (partHi s.a s.b k0 k1), .int .i64 (partLo s.c s.d k2 k3), .int .i64 (partHi s.c s.d k2 k3), .int .i64 (partLo s.e s.f k4 k5), .int .i64 (partHi s.e s.f k4 k5)]) (v := dv (partD s k0 k1 k2 k3 k4 k5)) (by
    (repeat (first | with_reducible exact OC | with_reducible apply Bx.put6 | with_reducible refine Bx.drew ?_))) (fun X hX => by simp [results, Try.results24, go_sem, hX, partD]) rfl ⟨rfl, by
    refine Ho.below (n := w.heap.size + 1 + 1) (l := [(w.heap.size + 1, [.int .u32 k0, .int .u32 k1, .int .u32 k2, .int .u32 k3, .int .u32 k4, .int .u32 k5]), (w.heap.size, [.int .i64 s.a, .int .i64 s.b, .int .i64 s.c, .int .i64 s.d, .int .i64 s.e, .int .i64 s.f])]) ?_
    (repeat (first | with_reducible exact HC | with_reducible refine Ho.drew ?_ | with_reducible refine Ho.put ?_ (Nat.le_refl _)))⟩
end Go.Proofs.Ytjppcndhaejfpaa.Iv
