/- Contracts of the reference's Hits and Reflect. -/
import Derived.Test.YtjppcndhaejfpaaRd1
import Derived.Test.YtjppcndhaejfpaaRd2
import Derived.Test.YtjppcndhaejfpaaRd3
import Derived.Test.YtjppcndhaejfpaaRd4
import Derived.Test.YtjppcndhaejfpaaRe
namespace Go.Proofs.Ytjppcndhaejfpaa.Iv
open Go.RowKit

theorem hits_alt {s t : D} {a b : Int} (v : vB a b = true) : hitsR s t a b = (if (dotR s t).e = 0 then (if (radR (dotR s t).lo (dotR s t).hi a b).e = 0 then ⟨decI (radR (dotR s t).lo (dotR s t).hi a b).lo (radR (dotR s t).lo (dotR s t).hi a b).hi, 0⟩ else ⟨0, (radR (dotR s t).lo (dotR s t).hi a b).e⟩) else ⟨0, (dotR s t).e⟩) := by
  by_cases h : (vD s && vD t) = true
  · rw [show hitsR s t a b = _ from if_pos ⟨h, v⟩]
  · rw [show hitsR s t a b = _ from if_neg (fun x => h x.1)]
    have e : dotR s t = ⟨0, 0, 1⟩ := if_neg (fun x => h (by simp [x.1, x.2]))
    rw [e, if_neg (by decide)]
set_option maxRecDepth 100000 in
set_option maxHeartbeats 8000000 in
theorem rfhits_any (s t : D) (a b : Int) (w : World) :
    Calls Try.prog 17 #[dv s, dv t, iv a b] w fun e w' => e = .returned (.tuple #[.int .i64 (hitsR s t a b).k, .int .i64 (hitsR s t a b).e]) ∧ Below w.heap.size w w' := by
  cases hv : vB a b
  · rw [show hitsR s t a b = ⟨0, 1⟩ from if_neg (by rw [hv]; simp)]
    have VB := Lib.hid hv
    clear hv
    have H0 := ((((Ho.nil w).bx [.int .i64 s.a, .int .i64 s.b, .int .i64 s.c, .int .i64 s.d, .int .i64 s.e, .int .i64 s.f] 30 (w.heap.size) (by simp)).bx [.int .i64 t.a, .int .i64 t.b, .int .i64 t.c, .int .i64 t.d, .int .i64 t.e, .int .i64 t.f] 30 (w.heap.size + 1) (by simp)).bx [.int .i64 a, .int .i64 b] 23 (w.heap.size + 1 + 1) (by simp))
    go_enter Try.func17, Try.ntmps17
    go_wp2_with fail
    refine (rvalid_below a b _).mono ?_
    rintro r w1 ⟨rfl, hb⟩
    rw [VB.out]
    have H1 : Ho w w1 (w.heap.size + 1 + 1 + 1) [(w.heap.size + 1 + 1, [.int .i64 a, .int .i64 b]), (w.heap.size + 1, [.int .i64 t.a, .int .i64 t.b, .int .i64 t.c, .int .i64 t.d, .int .i64 t.e, .int .i64 t.f]), (w.heap.size, [.int .i64 s.a, .int .i64 s.b, .int .i64 s.c, .int .i64 s.d, .int .i64 s.e, .int .i64 s.f])] := Ho.call (by
      (repeat (first | with_reducible exact H0 | with_reducible refine Ho.alc ?_ _ | with_reducible refine Ho.drew ?_ | with_reducible refine Ho.put ?_ (by omega)))) hb
    have hs1 := H1.size
    have hz1 := hb.size
    (try simp at hz1)
    clear hb
    have h0_1 := (H1.at 2 rfl).c
    have h1_1 := (H1.at 1 rfl).c
    have h2_1 := (H1.at 0 rfl).c
    have q1_0 : ¬ (w.heap.size = w1.heap.size) := by omega
    have q1_1 : ¬ (w1.heap.size = w.heap.size) := by omega
    have q1_2 : w.heap.size < w1.heap.size := by omega
    have q1_3 : w.heap.size < w1.heap.size + 1 := by omega
    have q1_4 : ¬ (w.heap.size + 1 = w1.heap.size) := by omega
    have q1_5 : ¬ (w1.heap.size = w.heap.size + 1) := by omega
    have q1_6 : w.heap.size + 1 < w1.heap.size := by omega
    have q1_7 : w.heap.size + 1 < w1.heap.size + 1 := by omega
    have q1_8 : ¬ (w.heap.size + 1 + 1 = w1.heap.size) := by omega
    have q1_9 : ¬ (w1.heap.size = w.heap.size + 1 + 1) := by omega
    have q1_10 : w.heap.size + 1 + 1 < w1.heap.size := by omega
    have q1_11 : w.heap.size + 1 + 1 < w1.heap.size + 1 := by omega
    go_wp2_with fail
    exact bodyPost_ret (v := .tuple #[.int .i64 0, .int .i64 1]) (by simp [results, Try.results17, go_sem]) rfl ⟨rfl, by
      refine Ho.below (n := w.heap.size + 1 + 1 + 1) (l := [(w.heap.size + 1 + 1, [.int .i64 a, .int .i64 b]), (w.heap.size + 1, [.int .i64 t.a, .int .i64 t.b, .int .i64 t.c, .int .i64 t.d, .int .i64 t.e, .int .i64 t.f]), (w.heap.size, [.int .i64 s.a, .int .i64 s.b, .int .i64 s.c, .int .i64 s.d, .int .i64 s.e, .int .i64 s.f])]) ?_
      (repeat (first | with_reducible exact H1 | with_reducible refine Ho.alc ?_ _ | with_reducible refine Ho.drew ?_ | with_reducible refine Ho.put ?_ (by omega)))⟩
  · obtain ⟨⟨p1, q1, e1⟩, h1⟩ : ∃ r : R, dotR s t = r := ⟨_, rfl⟩
    obtain ⟨⟨p2, q2, e2⟩, h2⟩ : ∃ r : R, radR p1 q1 a b = r := ⟨_, rfl⟩
    have hk : hitsR s t a b = if e1 = 0 then (if e2 = 0 then ⟨decI p2 q2, 0⟩ else ⟨0, e2⟩) else ⟨0, e1⟩ := by
      rw [hits_alt hv, h1]
      dsimp only
      rw [h2]
    rw [hk]
    clear hk
    have VB := Lib.hid hv
    have X1 := Lib.hid h1
    have X2 := Lib.hid h2
    clear hv h1 h2
    have H0 := ((((Ho.nil w).bx [.int .i64 s.a, .int .i64 s.b, .int .i64 s.c, .int .i64 s.d, .int .i64 s.e, .int .i64 s.f] 30 (w.heap.size) (by simp)).bx [.int .i64 t.a, .int .i64 t.b, .int .i64 t.c, .int .i64 t.d, .int .i64 t.e, .int .i64 t.f] 30 (w.heap.size + 1) (by simp)).bx [.int .i64 a, .int .i64 b] 23 (w.heap.size + 1 + 1) (by simp))
    go_enter Try.func17, Try.ntmps17
    go_wp2_with fail
    refine (rvalid_below a b _).mono ?_
    rintro r w1 ⟨rfl, hb⟩
    rw [VB.out]
    have H1 : Ho w w1 (w.heap.size + 1 + 1 + 1) [(w.heap.size + 1 + 1, [.int .i64 a, .int .i64 b]), (w.heap.size + 1, [.int .i64 t.a, .int .i64 t.b, .int .i64 t.c, .int .i64 t.d, .int .i64 t.e, .int .i64 t.f]), (w.heap.size, [.int .i64 s.a, .int .i64 s.b, .int .i64 s.c, .int .i64 s.d, .int .i64 s.e, .int .i64 s.f])] := Ho.call (by
      (repeat (first | with_reducible exact H0 | with_reducible refine Ho.alc ?_ _ | with_reducible refine Ho.drew ?_ | with_reducible refine Ho.put ?_ (by omega)))) hb
    have hs1 := H1.size
    have hz1 := hb.size
    (try simp at hz1)
    clear hb
    have h0_1 := (H1.at 2 rfl).c
    have h1_1 := (H1.at 1 rfl).c
    have h2_1 := (H1.at 0 rfl).c
    have q1_0 : ¬ (w.heap.size = w1.heap.size) := by omega
    have q1_1 : ¬ (w1.heap.size = w.heap.size) := by omega
    have q1_2 : w.heap.size < w1.heap.size := by omega
    have q1_3 : w.heap.size < w1.heap.size + 1 := by omega
    have q1_4 : ¬ (w.heap.size + 1 = w1.heap.size) := by omega
    have q1_5 : ¬ (w1.heap.size = w.heap.size + 1) := by omega
    have q1_6 : w.heap.size + 1 < w1.heap.size := by omega
    have q1_7 : w.heap.size + 1 < w1.heap.size + 1 := by omega
    have q1_8 : ¬ (w.heap.size + 1 + 1 = w1.heap.size) := by omega
    have q1_9 : ¬ (w1.heap.size = w.heap.size + 1 + 1) := by omega
    have q1_10 : w.heap.size + 1 + 1 < w1.heap.size := by omega
    have q1_11 : w.heap.size + 1 + 1 < w1.heap.size + 1 := by omega
    go_wp2_with fail
    refine (rfdot_any s t _).mono ?_
    rintro r w2 ⟨rfl, hb⟩
    rw [X1.out]
    have H2 : Ho w w2 (w.heap.size + 1 + 1 + 1) [(w.heap.size + 1 + 1, [.int .i64 a, .int .i64 b]), (w.heap.size + 1, [.int .i64 t.a, .int .i64 t.b, .int .i64 t.c, .int .i64 t.d, .int .i64 t.e, .int .i64 t.f]), (w.heap.size, [.int .i64 s.a, .int .i64 s.b, .int .i64 s.c, .int .i64 s.d, .int .i64 s.e, .int .i64 s.f])] := Ho.call (by
      (repeat (first | with_reducible exact H1 | with_reducible refine Ho.alc ?_ _ | with_reducible refine Ho.drew ?_ | with_reducible refine Ho.put ?_ (by omega)))) hb
    clear h0_1 h1_1 h2_1 q1_0 q1_1 q1_2 q1_3 q1_4 q1_5 q1_6 q1_7 q1_8 q1_9 q1_10 q1_11
    have hs2 := H2.size
    have hz2 := hb.size
    (try simp at hz2)
    clear hb
    have h0_2 := (H2.at 2 rfl).c
    have h1_2 := (H2.at 1 rfl).c
    have h2_2 := (H2.at 0 rfl).c
    have q2_0 : ¬ (w.heap.size = w2.heap.size) := by omega
    have q2_1 : ¬ (w2.heap.size = w.heap.size) := by omega
    have q2_2 : w.heap.size < w2.heap.size := by omega
    have q2_3 : w.heap.size < w2.heap.size + 1 := by omega
    have q2_4 : ¬ (w.heap.size + 1 = w2.heap.size) := by omega
    have q2_5 : ¬ (w2.heap.size = w.heap.size + 1) := by omega
    have q2_6 : w.heap.size + 1 < w2.heap.size := by omega
    have q2_7 : w.heap.size + 1 < w2.heap.size + 1 := by omega
    have q2_8 : ¬ (w.heap.size + 1 + 1 = w2.heap.size) := by omega
    have q2_9 : ¬ (w2.heap.size = w.heap.size + 1 + 1) := by omega
    have q2_10 : w.heap.size + 1 + 1 < w2.heap.size := by omega
    have q2_11 : w.heap.size + 1 + 1 < w2.heap.size + 1 := by omega
    by_cases he2 : e1 = 0
    · subst he2
      go_wp2_with fail
      refine (rfrad_any p1 q1 a b _).mono ?_
      rintro r w3 ⟨rfl, hb⟩
      rw [X2.out]
      have H3 : Ho w w3 (w.heap.size + 1 + 1 + 1) [(w.heap.size + 1 + 1, [.int .i64 a, .int .i64 b]), (w.heap.size + 1, [.int .i64 t.a, .int .i64 t.b, .int .i64 t.c, .int .i64 t.d, .int .i64 t.e, .int .i64 t.f]), (w.heap.size, [.int .i64 s.a, .int .i64 s.b, .int .i64 s.c, .int .i64 s.d, .int .i64 s.e, .int .i64 s.f])] := Ho.call (by
        (repeat (first | with_reducible exact H2 | with_reducible refine Ho.alc ?_ _ | with_reducible refine Ho.drew ?_ | with_reducible refine Ho.put ?_ (by omega)))) hb
      have b2_3 : Bx w3 (w2.heap.size) [.int .i64 p1, .int .i64 q1] := Bx.kept (by
        (repeat (first | with_reducible exact Bx.new (by simp) | with_reducible apply Bx.put6 | with_reducible apply Bx.put2 | with_reducible apply Bx.put1 | with_reducible refine Bx.set ?_ (by omega) | with_reducible refine Bx.alc ?_ _ | with_reducible refine Bx.drew ?_))) hb
      clear h0_2 h1_2 h2_2 q2_0 q2_1 q2_2 q2_3 q2_4 q2_5 q2_6 q2_7 q2_8 q2_9 q2_10 q2_11
      have hs3 := H3.size
      have hz3 := hb.size
      (try simp at hz3)
      clear hb
      have h0_3 := (H3.at 2 rfl).c
      have h1_3 := (H3.at 1 rfl).c
      have h2_3 := (H3.at 0 rfl).c
      have b2_3c := b2_3.c
      have b2_3f := b2_3.f
      have b2_3l := b2_3.lt
      have q3_0 : ¬ (w2.heap.size = w3.heap.size) := by omega
      have q3_1 : ¬ (w3.heap.size = w2.heap.size) := by omega
      have q3_2 : w2.heap.size < w3.heap.size := by omega
      have q3_3 : w2.heap.size < w3.heap.size + 1 := by omega
      have q3_4 : ¬ (w.heap.size = w3.heap.size) := by omega
      have q3_5 : ¬ (w3.heap.size = w.heap.size) := by omega
      have q3_6 : w.heap.size < w3.heap.size := by omega
      have q3_7 : w.heap.size < w3.heap.size + 1 := by omega
      have q3_8 : ¬ (w.heap.size + 1 = w3.heap.size) := by omega
      have q3_9 : ¬ (w3.heap.size = w.heap.size + 1) := by omega
      have q3_10 : w.heap.size + 1 < w3.heap.size := by omega
      have q3_11 : w.heap.size + 1 < w3.heap.size + 1 := by omega
      have q3_12 : ¬ (w.heap.size + 1 + 1 = w3.heap.size) := by omega
      have q3_13 : ¬ (w3.heap.size = w.heap.size + 1 + 1) := by omega
      have q3_14 : w.heap.size + 1 + 1 < w3.heap.size := by omega
      have q3_15 : w.heap.size + 1 + 1 < w3.heap.size + 1 := by omega
      have q3_16 : ¬ (w2.heap.size = w.heap.size) := by omega
      have q3_17 : ¬ (w.heap.size = w2.heap.size) := by omega
      have q3_18 : ¬ (w2.heap.size = w.heap.size + 1) := by omega
      have q3_19 : ¬ (w.heap.size + 1 = w2.heap.size) := by omega
      have q3_20 : ¬ (w2.heap.size = w.heap.size + 1 + 1) := by omega
      have q3_21 : ¬ (w.heap.size + 1 + 1 = w2.heap.size) := by omega
      by_cases he3 : e2 = 0
      · subst he3
        go_wp2_with fail
        refine (rfdec_any p2 q2 _).mono ?_
        rintro r w4 ⟨rfl, hb⟩
        have H4 : Ho w w4 (w.heap.size + 1 + 1 + 1) [(w.heap.size + 1 + 1, [.int .i64 a, .int .i64 b]), (w.heap.size + 1, [.int .i64 t.a, .int .i64 t.b, .int .i64 t.c, .int .i64 t.d, .int .i64 t.e, .int .i64 t.f]), (w.heap.size, [.int .i64 s.a, .int .i64 s.b, .int .i64 s.c, .int .i64 s.d, .int .i64 s.e, .int .i64 s.f])] := Ho.call (by
          (repeat (first | with_reducible exact H3 | with_reducible refine Ho.alc ?_ _ | with_reducible refine Ho.drew ?_ | with_reducible refine Ho.put ?_ (by omega)))) hb
        have b2_4 : Bx w4 (w2.heap.size) [.int .i64 p1, .int .i64 q1] := Bx.kept (by
          (repeat (first | with_reducible exact b2_3 | with_reducible refine Bx.alc ?_ _ | with_reducible refine Bx.drew ?_ | with_reducible refine Bx.set ?_ (by omega)))) hb
        have b3_4 : Bx w4 (w3.heap.size) [.int .i64 p2, .int .i64 q2] := Bx.kept (by
          (repeat (first | with_reducible exact Bx.new (by simp) | with_reducible apply Bx.put6 | with_reducible apply Bx.put2 | with_reducible apply Bx.put1 | with_reducible refine Bx.set ?_ (by omega) | with_reducible refine Bx.alc ?_ _ | with_reducible refine Bx.drew ?_))) hb
        clear h0_3 h1_3 h2_3 b2_3c b2_3f q3_0 q3_1 q3_2 q3_3 q3_4 q3_5 q3_6 q3_7 q3_8 q3_9 q3_10 q3_11 q3_12 q3_13 q3_14 q3_15 q3_16 q3_17 q3_18 q3_19 q3_20 q3_21
        have hs4 := H4.size
        have hz4 := hb.size
        (try simp at hz4)
        clear hb
        have h0_4 := (H4.at 2 rfl).c
        have h1_4 := (H4.at 1 rfl).c
        have h2_4 := (H4.at 0 rfl).c
        have b2_4c := b2_4.c
        have b2_4f := b2_4.f
        have b2_4l := b2_4.lt
        have b3_4c := b3_4.c
        have b3_4f := b3_4.f
        have b3_4l := b3_4.lt
        have q4_0 : ¬ (w2.heap.size = w4.heap.size) := by omega
        have q4_1 : ¬ (w4.heap.size = w2.heap.size) := by omega
        have q4_2 : w2.heap.size < w4.heap.size := by omega
        have q4_3 : w2.heap.size < w4.heap.size + 1 := by omega
        have q4_4 : ¬ (w3.heap.size = w4.heap.size) := by omega
        have q4_5 : ¬ (w4.heap.size = w3.heap.size) := by omega
        have q4_6 : w3.heap.size < w4.heap.size := by omega
        have q4_7 : w3.heap.size < w4.heap.size + 1 := by omega
        have q4_8 : ¬ (w.heap.size = w4.heap.size) := by omega
        have q4_9 : ¬ (w4.heap.size = w.heap.size) := by omega
        have q4_10 : w.heap.size < w4.heap.size := by omega
        have q4_11 : w.heap.size < w4.heap.size + 1 := by omega
        have q4_12 : ¬ (w.heap.size + 1 = w4.heap.size) := by omega
        have q4_13 : ¬ (w4.heap.size = w.heap.size + 1) := by omega
        have q4_14 : w.heap.size + 1 < w4.heap.size := by omega
        have q4_15 : w.heap.size + 1 < w4.heap.size + 1 := by omega
        have q4_16 : ¬ (w.heap.size + 1 + 1 = w4.heap.size) := by omega
        have q4_17 : ¬ (w4.heap.size = w.heap.size + 1 + 1) := by omega
        have q4_18 : w.heap.size + 1 + 1 < w4.heap.size := by omega
        have q4_19 : w.heap.size + 1 + 1 < w4.heap.size + 1 := by omega
        have q4_20 : ¬ (w2.heap.size = w3.heap.size) := by omega
        have q4_21 : ¬ (w3.heap.size = w2.heap.size) := by omega
        have q4_22 : ¬ (w2.heap.size = w.heap.size) := by omega
        have q4_23 : ¬ (w.heap.size = w2.heap.size) := by omega
        have q4_24 : ¬ (w2.heap.size = w.heap.size + 1) := by omega
        have q4_25 : ¬ (w.heap.size + 1 = w2.heap.size) := by omega
        have q4_26 : ¬ (w2.heap.size = w.heap.size + 1 + 1) := by omega
        have q4_27 : ¬ (w.heap.size + 1 + 1 = w2.heap.size) := by omega
        have q4_28 : ¬ (w3.heap.size = w.heap.size) := by omega
        have q4_29 : ¬ (w.heap.size = w3.heap.size) := by omega
        have q4_30 : ¬ (w3.heap.size = w.heap.size + 1) := by omega
        have q4_31 : ¬ (w.heap.size + 1 = w3.heap.size) := by omega
        have q4_32 : ¬ (w3.heap.size = w.heap.size + 1 + 1) := by omega
        have q4_33 : ¬ (w.heap.size + 1 + 1 = w3.heap.size) := by omega
        go_wp2_with fail
        exact bodyPost_ret (v := .tuple #[.int .i64 (decI p2 q2), .int .i64 0]) (by simp [results, Try.results17, go_sem]) rfl ⟨by simp, by
          refine Ho.below (n := w.heap.size + 1 + 1 + 1) (l := [(w.heap.size + 1 + 1, [.int .i64 a, .int .i64 b]), (w.heap.size + 1, [.int .i64 t.a, .int .i64 t.b, .int .i64 t.c, .int .i64 t.d, .int .i64 t.e, .int .i64 t.f]), (w.heap.size, [.int .i64 s.a, .int .i64 s.b, .int .i64 s.c, .int .i64 s.d, .int .i64 s.e, .int .i64 s.f])]) ?_
          (repeat (first | with_reducible exact H4 | with_reducible refine Ho.alc ?_ _ | with_reducible refine Ho.drew ?_ | with_reducible refine Ho.put ?_ (by omega)))⟩
      · have ne3 : (e2 != 0) = true := by simpa using he3
        go_wp2_with fail
        exact bodyPost_ret (v := .tuple #[.int .i64 0, .int .i64 e2]) (by simp [results, Try.results17, go_sem]) rfl ⟨by first | (simp; done) | simp [he3], by
          refine Ho.below (n := w.heap.size + 1 + 1 + 1) (l := [(w.heap.size + 1 + 1, [.int .i64 a, .int .i64 b]), (w.heap.size + 1, [.int .i64 t.a, .int .i64 t.b, .int .i64 t.c, .int .i64 t.d, .int .i64 t.e, .int .i64 t.f]), (w.heap.size, [.int .i64 s.a, .int .i64 s.b, .int .i64 s.c, .int .i64 s.d, .int .i64 s.e, .int .i64 s.f])]) ?_
          (repeat (first | with_reducible exact H3 | with_reducible refine Ho.alc ?_ _ | with_reducible refine Ho.drew ?_ | with_reducible refine Ho.put ?_ (by omega)))⟩
    · have ne2 : (e1 != 0) = true := by simpa using he2
      go_wp2_with fail
      exact bodyPost_ret (v := .tuple #[.int .i64 0, .int .i64 e1]) (by simp [results, Try.results17, go_sem]) rfl ⟨by first | (simp; done) | simp [he2], by
        refine Ho.below (n := w.heap.size + 1 + 1 + 1) (l := [(w.heap.size + 1 + 1, [.int .i64 a, .int .i64 b]), (w.heap.size + 1, [.int .i64 t.a, .int .i64 t.b, .int .i64 t.c, .int .i64 t.d, .int .i64 t.e, .int .i64 t.f]), (w.heap.size, [.int .i64 s.a, .int .i64 s.b, .int .i64 s.c, .int .i64 s.d, .int .i64 s.e, .int .i64 s.f])]) ?_
        (repeat (first | with_reducible exact H2 | with_reducible refine Ho.alc ?_ _ | with_reducible refine Ho.drew ?_ | with_reducible refine Ho.put ?_ (by omega)))⟩
theorem refl_alt (s t : D) (c k : R) (m : RD) (h1 : dotR s t = c) (h2 : addR c.lo c.hi c.lo c.hi = k) (h3 : scaleD t k.lo k.hi = m) :
    reflR s t = if c.e = 0 then (if k.e = 0 then (if m.e = 0 then subD s m.d else ⟨zD, m.e⟩) else ⟨zD, k.e⟩) else ⟨zD, c.e⟩ := by
  by_cases h : (vD s && vD t) = true
  · rw [show reflR s t = reflG s t from if_pos h]
    unfold reflG
    rw [goOn0, h1]
    dsimp only
    by_cases c1 : c.e = 0
    · rw [if_pos c1, c1, goOn0, h2]
      by_cases c2 : k.e = 0
      · rw [if_pos c2, c2, goOnD0, h3]
        by_cases c3 : m.e = 0
        · rw [if_pos c3, c3, goOnD0]
        · rw [if_neg c3, goOnD, if_neg c3]
      · rw [if_neg c2]
        simp [goOnD, c2]
    · rw [if_neg c1]
      simp [goOn, goOnD, c1]
  · rw [show reflR s t = _ from if_neg h]
    have e : dotR s t = ⟨0, 0, 1⟩ := if_neg (fun x => h (by simp [x.1, x.2]))
    rw [e] at h1
    subst h1
    rw [if_neg (by decide)]
set_option maxRecDepth 100000 in
set_option maxHeartbeats 8000000 in
theorem rfrefl_any (s t : D) (w : World) :
    Calls Try.prog 10 #[dv s, dv t] w fun e w' => e = retD (reflR s t) ∧ Below w.heap.size w w' := by
  obtain ⟨⟨p1, q1, e1⟩, h1⟩ : ∃ r : R, dotR s t = r := ⟨_, rfl⟩
  obtain ⟨⟨p2, q2, e2⟩, h2⟩ : ∃ r : R, addR p1 q1 p1 q1 = r := ⟨_, rfl⟩
  obtain ⟨⟨⟨d0, d1, d2, d3, d4, d5⟩, e3⟩, h3⟩ : ∃ r : RD, scaleD t p2 q2 = r := ⟨_, rfl⟩
  obtain ⟨⟨⟨x0, x1, x2, x3, x4, x5⟩, e4⟩, h4⟩ : ∃ r : RD, subD s ⟨d0, d1, d2, d3, d4, d5⟩ = r := ⟨_, rfl⟩
  have hk := refl_alt s t ⟨p1, q1, e1⟩ ⟨p2, q2, e2⟩ ⟨⟨d0, d1, d2, d3, d4, d5⟩, e3⟩ h1 h2 h3
  dsimp only at hk
  rw [h4] at hk
  rw [hk]
  clear hk
  have X1 := Lib.hid h1
  have X2 := Lib.hid h2
  have X3 := Lib.hid h3
  have X4 := Lib.hid h4
  clear h1 h2 h3 h4
  have H0 := (((Ho.nil w).bx [.int .i64 s.a, .int .i64 s.b, .int .i64 s.c, .int .i64 s.d, .int .i64 s.e, .int .i64 s.f] 30 (w.heap.size) (by simp)).bx [.int .i64 t.a, .int .i64 t.b, .int .i64 t.c, .int .i64 t.d, .int .i64 t.e, .int .i64 t.f] 30 (w.heap.size + 1) (by simp))
  have o_0 : Bx (((w.alloc (.cells (List.toArray [.int .i64 s.a, .int .i64 s.b, .int .i64 s.c, .int .i64 s.d, .int .i64 s.e, .int .i64 s.f]) 30)).alloc (.cells (List.toArray [.int .i64 t.a, .int .i64 t.b, .int .i64 t.c, .int .i64 t.d, .int .i64 t.e, .int .i64 t.f]) 30)).alloc (.cells (List.toArray [.int .i64 0, .int .i64 0, .int .i64 0, .int .i64 0, .int .i64 0, .int .i64 0]) 30)) (w.heap.size + 1 + 1) [.int .i64 0, .int .i64 0, .int .i64 0, .int .i64 0, .int .i64 0, .int .i64 0] := by
    (repeat (first | with_reducible exact Bx.new (by simp) | with_reducible apply Bx.put6 | with_reducible apply Bx.put2 | with_reducible apply Bx.put1 | with_reducible refine Bx.set ?_ (by omega) | with_reducible refine Bx.alc ?_ _ | with_reducible refine Bx.drew ?_))
  go_enter Try.func10, Try.ntmps10
  have o_0c := o_0.c
  have o_0f := o_0.f
  go_wp2_with fail
  refine (rfdot_any s t _).mono ?_
  rintro r w1 ⟨rfl, hb⟩
  rw [X1.out]
  have H1 : Ho w w1 (w.heap.size + 1 + 1) [(w.heap.size + 1, [.int .i64 t.a, .int .i64 t.b, .int .i64 t.c, .int .i64 t.d, .int .i64 t.e, .int .i64 t.f]), (w.heap.size, [.int .i64 s.a, .int .i64 s.b, .int .i64 s.c, .int .i64 s.d, .int .i64 s.e, .int .i64 s.f])] := Ho.call (by
    (repeat (first | with_reducible exact H0 | with_reducible refine Ho.alc ?_ _ | with_reducible refine Ho.drew ?_ | with_reducible refine Ho.put ?_ (by omega)))) hb
  have o_1 : Bx w1 (w.heap.size + 1 + 1) [.int .i64 0, .int .i64 0, .int .i64 0, .int .i64 0, .int .i64 0, .int .i64 0] := Bx.kept (by
    (repeat (first | with_reducible exact o_0 | with_reducible refine Bx.alc ?_ _ | with_reducible refine Bx.drew ?_ | with_reducible refine Bx.set ?_ (by omega)))) hb
  clear o_0c o_0f
  have hs1 := H1.size
  have hz1 := hb.size
  (try simp at hz1)
  clear hb
  have h0_1 := (H1.at 1 rfl).c
  have h1_1 := (H1.at 0 rfl).c
  have o_1c := o_1.c
  have o_1f := o_1.f
  have o_1l := o_1.lt
  have q1_0 : ¬ (w.heap.size + 1 + 1 = w1.heap.size) := by omega
  have q1_1 : ¬ (w1.heap.size = w.heap.size + 1 + 1) := by omega
  have q1_2 : w.heap.size + 1 + 1 < w1.heap.size := by omega
  have q1_3 : w.heap.size + 1 + 1 < w1.heap.size + 1 := by omega
  have q1_4 : ¬ (w.heap.size = w1.heap.size) := by omega
  have q1_5 : ¬ (w1.heap.size = w.heap.size) := by omega
  have q1_6 : w.heap.size < w1.heap.size := by omega
  have q1_7 : w.heap.size < w1.heap.size + 1 := by omega
  have q1_8 : ¬ (w.heap.size + 1 = w1.heap.size) := by omega
  have q1_9 : ¬ (w1.heap.size = w.heap.size + 1) := by omega
  have q1_10 : w.heap.size + 1 < w1.heap.size := by omega
  have q1_11 : w.heap.size + 1 < w1.heap.size + 1 := by omega
  have q1_12 : ¬ (w.heap.size + 1 + 1 = w.heap.size) := by omega
  have q1_13 : ¬ (w.heap.size = w.heap.size + 1 + 1) := by omega
  have q1_14 : ¬ (w.heap.size + 1 + 1 = w.heap.size + 1) := by omega
  have q1_15 : ¬ (w.heap.size + 1 = w.heap.size + 1 + 1) := by omega
  by_cases he1 : e1 = 0
  · subst he1
    go_wp2_with fail
    refine (radd_any p1 q1 p1 q1 _).mono ?_
    rintro r w2 ⟨rfl, hb⟩
    rw [X2.out]
    have H2 : Ho w w2 (w.heap.size + 1 + 1) [(w.heap.size + 1, [.int .i64 t.a, .int .i64 t.b, .int .i64 t.c, .int .i64 t.d, .int .i64 t.e, .int .i64 t.f]), (w.heap.size, [.int .i64 s.a, .int .i64 s.b, .int .i64 s.c, .int .i64 s.d, .int .i64 s.e, .int .i64 s.f])] := Ho.call (by
      (repeat (first | with_reducible exact H1 | with_reducible refine Ho.alc ?_ _ | with_reducible refine Ho.drew ?_ | with_reducible refine Ho.put ?_ (by omega)))) hb
    have o_2 : Bx w2 (w.heap.size + 1 + 1) [.int .i64 0, .int .i64 0, .int .i64 0, .int .i64 0, .int .i64 0, .int .i64 0] := Bx.kept (by
      (repeat (first | with_reducible exact o_1 | with_reducible refine Bx.alc ?_ _ | with_reducible refine Bx.drew ?_ | with_reducible refine Bx.set ?_ (by omega)))) hb
    have b1_2 : Bx w2 (w1.heap.size) [.int .i64 p1, .int .i64 q1] := Bx.kept (by
      (repeat (first | with_reducible exact Bx.new (by simp) | with_reducible apply Bx.put6 | with_reducible apply Bx.put2 | with_reducible apply Bx.put1 | with_reducible refine Bx.set ?_ (by omega) | with_reducible refine Bx.alc ?_ _ | with_reducible refine Bx.drew ?_))) hb
    clear h0_1 h1_1 o_1c o_1f q1_0 q1_1 q1_2 q1_3 q1_4 q1_5 q1_6 q1_7 q1_8 q1_9 q1_10 q1_11 q1_12 q1_13 q1_14 q1_15
    have hs2 := H2.size
    have hz2 := hb.size
    (try simp at hz2)
    clear hb
    have h0_2 := (H2.at 1 rfl).c
    have h1_2 := (H2.at 0 rfl).c
    have o_2c := o_2.c
    have o_2f := o_2.f
    have o_2l := o_2.lt
    have b1_2c := b1_2.c
    have b1_2f := b1_2.f
    have b1_2l := b1_2.lt
    have q2_0 : ¬ (w.heap.size + 1 + 1 = w2.heap.size) := by omega
    have q2_1 : ¬ (w2.heap.size = w.heap.size + 1 + 1) := by omega
    have q2_2 : w.heap.size + 1 + 1 < w2.heap.size := by omega
    have q2_3 : w.heap.size + 1 + 1 < w2.heap.size + 1 := by omega
    have q2_4 : ¬ (w1.heap.size = w2.heap.size) := by omega
    have q2_5 : ¬ (w2.heap.size = w1.heap.size) := by omega
    have q2_6 : w1.heap.size < w2.heap.size := by omega
    have q2_7 : w1.heap.size < w2.heap.size + 1 := by omega
    have q2_8 : ¬ (w.heap.size = w2.heap.size) := by omega
    have q2_9 : ¬ (w2.heap.size = w.heap.size) := by omega
    have q2_10 : w.heap.size < w2.heap.size := by omega
    have q2_11 : w.heap.size < w2.heap.size + 1 := by omega
    have q2_12 : ¬ (w.heap.size + 1 = w2.heap.size) := by omega
    have q2_13 : ¬ (w2.heap.size = w.heap.size + 1) := by omega
    have q2_14 : w.heap.size + 1 < w2.heap.size := by omega
    have q2_15 : w.heap.size + 1 < w2.heap.size + 1 := by omega
    have q2_16 : ¬ (w.heap.size + 1 + 1 = w1.heap.size) := by omega
    have q2_17 : ¬ (w1.heap.size = w.heap.size + 1 + 1) := by omega
    have q2_18 : ¬ (w.heap.size + 1 + 1 = w.heap.size) := by omega
    have q2_19 : ¬ (w.heap.size = w.heap.size + 1 + 1) := by omega
    have q2_20 : ¬ (w.heap.size + 1 + 1 = w.heap.size + 1) := by omega
    have q2_21 : ¬ (w.heap.size + 1 = w.heap.size + 1 + 1) := by omega
    have q2_22 : ¬ (w1.heap.size = w.heap.size) := by omega
    have q2_23 : ¬ (w.heap.size = w1.heap.size) := by omega
    have q2_24 : ¬ (w1.heap.size = w.heap.size + 1) := by omega
    have q2_25 : ¬ (w.heap.size + 1 = w1.heap.size) := by omega
    by_cases he2 : e2 = 0
    · subst he2
      go_wp2_with fail
      refine (rfscale_any t p2 q2 _).mono ?_
      rintro r w3 ⟨rfl, hb⟩
      rw [X3.out]
      have H3 : Ho w w3 (w.heap.size + 1 + 1) [(w.heap.size + 1, [.int .i64 t.a, .int .i64 t.b, .int .i64 t.c, .int .i64 t.d, .int .i64 t.e, .int .i64 t.f]), (w.heap.size, [.int .i64 s.a, .int .i64 s.b, .int .i64 s.c, .int .i64 s.d, .int .i64 s.e, .int .i64 s.f])] := Ho.call (by
        (repeat (first | with_reducible exact H2 | with_reducible refine Ho.alc ?_ _ | with_reducible refine Ho.drew ?_ | with_reducible refine Ho.put ?_ (by omega)))) hb
      have o_3 : Bx w3 (w.heap.size + 1 + 1) [.int .i64 0, .int .i64 0, .int .i64 0, .int .i64 0, .int .i64 0, .int .i64 0] := Bx.kept (by
        (repeat (first | with_reducible exact o_2 | with_reducible refine Bx.alc ?_ _ | with_reducible refine Bx.drew ?_ | with_reducible refine Bx.set ?_ (by omega)))) hb
      have b1_3 : Bx w3 (w1.heap.size) [.int .i64 p1, .int .i64 q1] := Bx.kept (by
        (repeat (first | with_reducible exact b1_2 | with_reducible refine Bx.alc ?_ _ | with_reducible refine Bx.drew ?_ | with_reducible refine Bx.set ?_ (by omega)))) hb
      have b2_3 : Bx w3 (w2.heap.size) [.int .i64 p2, .int .i64 q2] := Bx.kept (by
        (repeat (first | with_reducible exact Bx.new (by simp) | with_reducible apply Bx.put6 | with_reducible apply Bx.put2 | with_reducible apply Bx.put1 | with_reducible refine Bx.set ?_ (by omega) | with_reducible refine Bx.alc ?_ _ | with_reducible refine Bx.drew ?_))) hb
      clear h0_2 h1_2 o_2c o_2f b1_2c b1_2f q2_0 q2_1 q2_2 q2_3 q2_4 q2_5 q2_6 q2_7 q2_8 q2_9 q2_10 q2_11 q2_12 q2_13 q2_14 q2_15 q2_16 q2_17 q2_18 q2_19 q2_20 q2_21 q2_22 q2_23 q2_24 q2_25
      have hs3 := H3.size
      have hz3 := hb.size
      (try simp at hz3)
      clear hb
      have h0_3 := (H3.at 1 rfl).c
      have h1_3 := (H3.at 0 rfl).c
      have o_3c := o_3.c
      have o_3f := o_3.f
      have o_3l := o_3.lt
      have b1_3c := b1_3.c
      have b1_3f := b1_3.f
      have b1_3l := b1_3.lt
      have b2_3c := b2_3.c
      have b2_3f := b2_3.f
      have b2_3l := b2_3.lt
      have q3_0 : ¬ (w.heap.size + 1 + 1 = w3.heap.size) := by omega
      have q3_1 : ¬ (w3.heap.size = w.heap.size + 1 + 1) := by omega
      have q3_2 : w.heap.size + 1 + 1 < w3.heap.size := by omega
      have q3_3 : w.heap.size + 1 + 1 < w3.heap.size + 1 := by omega
      have q3_4 : ¬ (w1.heap.size = w3.heap.size) := by omega
      have q3_5 : ¬ (w3.heap.size = w1.heap.size) := by omega
      have q3_6 : w1.heap.size < w3.heap.size := by omega
      have q3_7 : w1.heap.size < w3.heap.size + 1 := by omega
      have q3_8 : ¬ (w2.heap.size = w3.heap.size) := by omega
      have q3_9 : ¬ (w3.heap.size = w2.heap.size) := by omega
      have q3_10 : w2.heap.size < w3.heap.size := by omega
      have q3_11 : w2.heap.size < w3.heap.size + 1 := by omega
      have q3_12 : ¬ (w.heap.size = w3.heap.size) := by omega
      have q3_13 : ¬ (w3.heap.size = w.heap.size) := by omega
      have q3_14 : w.heap.size < w3.heap.size := by omega
      have q3_15 : w.heap.size < w3.heap.size + 1 := by omega
      have q3_16 : ¬ (w.heap.size + 1 = w3.heap.size) := by omega
      have q3_17 : ¬ (w3.heap.size = w.heap.size + 1) := by omega
      have q3_18 : w.heap.size + 1 < w3.heap.size := by omega
      have q3_19 : w.heap.size + 1 < w3.heap.size + 1 := by omega
      have q3_20 : ¬ (w.heap.size + 1 + 1 = w1.heap.size) := by omega
      have q3_21 : ¬ (w1.heap.size = w.heap.size + 1 + 1) := by omega
      have q3_22 : ¬ (w.heap.size + 1 + 1 = w2.heap.size) := by omega
      have q3_23 : ¬ (w2.heap.size = w.heap.size + 1 + 1) := by omega
      have q3_24 : ¬ (w.heap.size + 1 + 1 = w.heap.size) := by omega
      have q3_25 : ¬ (w.heap.size = w.heap.size + 1 + 1) := by omega
      have q3_26 : ¬ (w.heap.size + 1 + 1 = w.heap.size + 1) := by omega
      have q3_27 : ¬ (w.heap.size + 1 = w.heap.size + 1 + 1) := by omega
      have q3_28 : ¬ (w1.heap.size = w2.heap.size) := by omega
      have q3_29 : ¬ (w2.heap.size = w1.heap.size) := by omega
      have q3_30 : ¬ (w1.heap.size = w.heap.size) := by omega
      have q3_31 : ¬ (w.heap.size = w1.heap.size) := by omega
      have q3_32 : ¬ (w1.heap.size = w.heap.size + 1) := by omega
      have q3_33 : ¬ (w.heap.size + 1 = w1.heap.size) := by omega
      have q3_34 : ¬ (w2.heap.size = w.heap.size) := by omega
      have q3_35 : ¬ (w.heap.size = w2.heap.size) := by omega
      have q3_36 : ¬ (w2.heap.size = w.heap.size + 1) := by omega
      have q3_37 : ¬ (w.heap.size + 1 = w2.heap.size) := by omega
      by_cases he3 : e3 = 0
      · subst he3
        go_wp2_with fail
        refine (rfsub_any s ⟨d0, d1, d2, d3, d4, d5⟩ _).mono ?_
        rintro r w4 ⟨rfl, hb⟩
        rw [X4.out]
        have H4 : Ho w w4 (w.heap.size + 1 + 1) [(w.heap.size + 1, [.int .i64 t.a, .int .i64 t.b, .int .i64 t.c, .int .i64 t.d, .int .i64 t.e, .int .i64 t.f]), (w.heap.size, [.int .i64 s.a, .int .i64 s.b, .int .i64 s.c, .int .i64 s.d, .int .i64 s.e, .int .i64 s.f])] := Ho.call (by
          (repeat (first | with_reducible exact H3 | with_reducible refine Ho.alc ?_ _ | with_reducible refine Ho.drew ?_ | with_reducible refine Ho.put ?_ (by omega)))) hb
        have o_4 : Bx w4 (w.heap.size + 1 + 1) [.int .i64 0, .int .i64 0, .int .i64 0, .int .i64 0, .int .i64 0, .int .i64 0] := Bx.kept (by
          (repeat (first | with_reducible exact o_3 | with_reducible refine Bx.alc ?_ _ | with_reducible refine Bx.drew ?_ | with_reducible refine Bx.set ?_ (by omega)))) hb
        have b1_4 : Bx w4 (w1.heap.size) [.int .i64 p1, .int .i64 q1] := Bx.kept (by
          (repeat (first | with_reducible exact b1_3 | with_reducible refine Bx.alc ?_ _ | with_reducible refine Bx.drew ?_ | with_reducible refine Bx.set ?_ (by omega)))) hb
        have b2_4 : Bx w4 (w2.heap.size) [.int .i64 p2, .int .i64 q2] := Bx.kept (by
          (repeat (first | with_reducible exact b2_3 | with_reducible refine Bx.alc ?_ _ | with_reducible refine Bx.drew ?_ | with_reducible refine Bx.set ?_ (by omega)))) hb
        have b3_4 : Bx w4 (w3.heap.size) [.int .i64 d0, .int .i64 d1, .int .i64 d2, .int .i64 d3, .int .i64 d4, .int .i64 d5] := Bx.kept (by
          (repeat (first | with_reducible exact Bx.new (by simp) | with_reducible apply Bx.put6 | with_reducible apply Bx.put2 | with_reducible apply Bx.put1 | with_reducible refine Bx.set ?_ (by omega) | with_reducible refine Bx.alc ?_ _ | with_reducible refine Bx.drew ?_))) hb
        clear h0_3 h1_3 o_3c o_3f b1_3c b1_3f b2_3c b2_3f q3_0 q3_1 q3_2 q3_3 q3_4 q3_5 q3_6 q3_7 q3_8 q3_9 q3_10 q3_11 q3_12 q3_13 q3_14 q3_15 q3_16 q3_17 q3_18 q3_19 q3_20 q3_21 q3_22 q3_23 q3_24 q3_25 q3_26 q3_27 q3_28 q3_29 q3_30 q3_31 q3_32 q3_33 q3_34 q3_35 q3_36 q3_37
        have hs4 := H4.size
        have hz4 := hb.size
        (try simp at hz4)
        clear hb
        have h0_4 := (H4.at 1 rfl).c
        have h1_4 := (H4.at 0 rfl).c
        have o_4c := o_4.c
        have o_4f := o_4.f
        have o_4l := o_4.lt
        have b1_4c := b1_4.c
        have b1_4f := b1_4.f
        have b1_4l := b1_4.lt
        have b2_4c := b2_4.c
        have b2_4f := b2_4.f
        have b2_4l := b2_4.lt
        have b3_4c := b3_4.c
        have b3_4f := b3_4.f
        have b3_4l := b3_4.lt
        have q4_0 : ¬ (w.heap.size + 1 + 1 = w4.heap.size) := by omega
        have q4_1 : ¬ (w4.heap.size = w.heap.size + 1 + 1) := by omega
        have q4_2 : w.heap.size + 1 + 1 < w4.heap.size := by omega
        have q4_3 : w.heap.size + 1 + 1 < w4.heap.size + 1 := by omega
        have q4_4 : ¬ (w1.heap.size = w4.heap.size) := by omega
        have q4_5 : ¬ (w4.heap.size = w1.heap.size) := by omega
        have q4_6 : w1.heap.size < w4.heap.size := by omega
        have q4_7 : w1.heap.size < w4.heap.size + 1 := by omega
        have q4_8 : ¬ (w2.heap.size = w4.heap.size) := by omega
        have q4_9 : ¬ (w4.heap.size = w2.heap.size) := by omega
        have q4_10 : w2.heap.size < w4.heap.size := by omega
        have q4_11 : w2.heap.size < w4.heap.size + 1 := by omega
        have q4_12 : ¬ (w3.heap.size = w4.heap.size) := by omega
        have q4_13 : ¬ (w4.heap.size = w3.heap.size) := by omega
        have q4_14 : w3.heap.size < w4.heap.size := by omega
        have q4_15 : w3.heap.size < w4.heap.size + 1 := by omega
        have q4_16 : ¬ (w.heap.size = w4.heap.size) := by omega
        have q4_17 : ¬ (w4.heap.size = w.heap.size) := by omega
        have q4_18 : w.heap.size < w4.heap.size := by omega
        have q4_19 : w.heap.size < w4.heap.size + 1 := by omega
        have q4_20 : ¬ (w.heap.size + 1 = w4.heap.size) := by omega
        have q4_21 : ¬ (w4.heap.size = w.heap.size + 1) := by omega
        have q4_22 : w.heap.size + 1 < w4.heap.size := by omega
        have q4_23 : w.heap.size + 1 < w4.heap.size + 1 := by omega
        have q4_24 : ¬ (w.heap.size + 1 + 1 = w1.heap.size) := by omega
        have q4_25 : ¬ (w1.heap.size = w.heap.size + 1 + 1) := by omega
        have q4_26 : ¬ (w.heap.size + 1 + 1 = w2.heap.size) := by omega
        have q4_27 : ¬ (w2.heap.size = w.heap.size + 1 + 1) := by omega
        have q4_28 : ¬ (w.heap.size + 1 + 1 = w3.heap.size) := by omega
        have q4_29 : ¬ (w3.heap.size = w.heap.size + 1 + 1) := by omega
        have q4_30 : ¬ (w.heap.size + 1 + 1 = w.heap.size) := by omega
        have q4_31 : ¬ (w.heap.size = w.heap.size + 1 + 1) := by omega
        have q4_32 : ¬ (w.heap.size + 1 + 1 = w.heap.size + 1) := by omega
        have q4_33 : ¬ (w.heap.size + 1 = w.heap.size + 1 + 1) := by omega
        have q4_34 : ¬ (w1.heap.size = w2.heap.size) := by omega
        have q4_35 : ¬ (w2.heap.size = w1.heap.size) := by omega
        have q4_36 : ¬ (w1.heap.size = w3.heap.size) := by omega
        have q4_37 : ¬ (w3.heap.size = w1.heap.size) := by omega
        have q4_38 : ¬ (w1.heap.size = w.heap.size) := by omega
        have q4_39 : ¬ (w.heap.size = w1.heap.size) := by omega
        have q4_40 : ¬ (w1.heap.size = w.heap.size + 1) := by omega
        have q4_41 : ¬ (w.heap.size + 1 = w1.heap.size) := by omega
        have q4_42 : ¬ (w2.heap.size = w3.heap.size) := by omega
        have q4_43 : ¬ (w3.heap.size = w2.heap.size) := by omega
        have q4_44 : ¬ (w2.heap.size = w.heap.size) := by omega
        have q4_45 : ¬ (w.heap.size = w2.heap.size) := by omega
        have q4_46 : ¬ (w2.heap.size = w.heap.size + 1) := by omega
        have q4_47 : ¬ (w.heap.size + 1 = w2.heap.size) := by omega
        have q4_48 : ¬ (w3.heap.size = w.heap.size) := by omega
        have q4_49 : ¬ (w.heap.size = w3.heap.size) := by omega
        have q4_50 : ¬ (w3.heap.size = w.heap.size + 1) := by omega
        have q4_51 : ¬ (w.heap.size + 1 = w3.heap.size) := by omega
        go_wp2_with fail
        refine bodyPost_box (b := w.heap.size + 1 + 1) (cs := [.int .i64 x0, .int .i64 x1, .int .i64 x2, .int .i64 x3, .int .i64 x4, .int .i64 x5]) (v := .tuple #[dv ⟨x0, x1, x2, x3, x4, x5⟩, .int .i64 e4]) (by
          (repeat (first | with_reducible exact o_4 | with_reducible exact Bx.new (by simp) | with_reducible apply Bx.put6 | with_reducible apply Bx.put2 | with_reducible apply Bx.put1 | with_reducible refine Bx.set ?_ (by omega) | with_reducible refine Bx.alc ?_ _ | with_reducible refine Bx.drew ?_))) (fun X hX => by simp [results, Try.results10, go_sem, hX]) rfl ⟨by simp, by
          refine Ho.below (n := w.heap.size + 1 + 1) (l := [(w.heap.size + 1, [.int .i64 t.a, .int .i64 t.b, .int .i64 t.c, .int .i64 t.d, .int .i64 t.e, .int .i64 t.f]), (w.heap.size, [.int .i64 s.a, .int .i64 s.b, .int .i64 s.c, .int .i64 s.d, .int .i64 s.e, .int .i64 s.f])]) ?_
          (repeat (first | with_reducible exact H4 | with_reducible refine Ho.alc ?_ _ | with_reducible refine Ho.drew ?_ | with_reducible refine Ho.put ?_ (by omega)))⟩
      · have ne3 : (e3 != 0) = true := by simpa using he3
        go_wp2_with fail
        refine bodyPost_box (b := w.heap.size + 1 + 1) (cs := [.int .i64 0, .int .i64 0, .int .i64 0, .int .i64 0, .int .i64 0, .int .i64 0]) (v := .tuple #[dv zD, .int .i64 e3]) (by
          (repeat (first | with_reducible exact o_3 | with_reducible exact Bx.new (by simp) | with_reducible apply Bx.put6 | with_reducible apply Bx.put2 | with_reducible apply Bx.put1 | with_reducible refine Bx.set ?_ (by omega) | with_reducible refine Bx.alc ?_ _ | with_reducible refine Bx.drew ?_))) (fun X hX => by simp [results, Try.results10, go_sem, hX, zD]) rfl ⟨by first | (simp; done) | simp [he3], by
          refine Ho.below (n := w.heap.size + 1 + 1) (l := [(w.heap.size + 1, [.int .i64 t.a, .int .i64 t.b, .int .i64 t.c, .int .i64 t.d, .int .i64 t.e, .int .i64 t.f]), (w.heap.size, [.int .i64 s.a, .int .i64 s.b, .int .i64 s.c, .int .i64 s.d, .int .i64 s.e, .int .i64 s.f])]) ?_
          (repeat (first | with_reducible exact H3 | with_reducible refine Ho.alc ?_ _ | with_reducible refine Ho.drew ?_ | with_reducible refine Ho.put ?_ (by omega)))⟩
    · have ne2 : (e2 != 0) = true := by simpa using he2
      go_wp2_with fail
      refine bodyPost_box (b := w.heap.size + 1 + 1) (cs := [.int .i64 0, .int .i64 0, .int .i64 0, .int .i64 0, .int .i64 0, .int .i64 0]) (v := .tuple #[dv zD, .int .i64 e2]) (by
        (repeat (first | with_reducible exact o_2 | with_reducible exact Bx.new (by simp) | with_reducible apply Bx.put6 | with_reducible apply Bx.put2 | with_reducible apply Bx.put1 | with_reducible refine Bx.set ?_ (by omega) | with_reducible refine Bx.alc ?_ _ | with_reducible refine Bx.drew ?_))) (fun X hX => by simp [results, Try.results10, go_sem, hX, zD]) rfl ⟨by first | (simp; done) | simp [he2], by
        refine Ho.below (n := w.heap.size + 1 + 1) (l := [(w.heap.size + 1, [.int .i64 t.a, .int .i64 t.b, .int .i64 t.c, .int .i64 t.d, .int .i64 t.e, .int .i64 t.f]), (w.heap.size, [.int .i64 s.a, .int .i64 s.b, .int .i64 s.c, .int .i64 s.d, .int .i64 s.e, .int .i64 s.f])]) ?_
        (repeat (first | with_reducible exact H2 | with_reducible refine Ho.alc ?_ _ | with_reducible refine Ho.drew ?_ | with_reducible refine Ho.put ?_ (by omega)))⟩
  · have ne1 : (e1 != 0) = true := by simpa using he1
    go_wp2_with fail
    refine bodyPost_box (b := w.heap.size + 1 + 1) (cs := [.int .i64 0, .int .i64 0, .int .i64 0, .int .i64 0, .int .i64 0, .int .i64 0]) (v := .tuple #[dv zD, .int .i64 e1]) (by
      (repeat (first | with_reducible exact o_1 | with_reducible exact Bx.new (by simp) | with_reducible apply Bx.put6 | with_reducible apply Bx.put2 | with_reducible apply Bx.put1 | with_reducible refine Bx.set ?_ (by omega) | with_reducible refine Bx.alc ?_ _ | with_reducible refine Bx.drew ?_))) (fun X hX => by simp [results, Try.results10, go_sem, hX, zD]) rfl ⟨by first | (simp; done) | simp [he1], by
      refine Ho.below (n := w.heap.size + 1 + 1) (l := [(w.heap.size + 1, [.int .i64 t.a, .int .i64 t.b, .int .i64 t.c, .int .i64 t.d, .int .i64 t.e, .int .i64 t.f]), (w.heap.size, [.int .i64 s.a, .int .i64 s.b, .int .i64 s.c, .int .i64 s.d, .int .i64 s.e, .int .i64 s.f])]) ?_
      (repeat (first | with_reducible exact H1 | with_reducible refine Ho.alc ?_ _ | with_reducible refine Ho.drew ?_ | with_reducible refine Ho.put ?_ (by omega)))⟩
end Go.Proofs.Ytjppcndhaejfpaa.Iv
