/- Contracts of the reference's quotients of intervals: Div of package culetref27 returns what the plain function says. -/
import Derived.Test.YtjppcndhaejfpaaRf2
namespace Go.Proofs.Ytjppcndhaejfpaa.Iv
open Go.RowKit
attribute [local go_sem] run_min_int4 run_max_int4

theorem quiet_same {P : Program} {f : FuncId} {args : Array Value} {w : World} {n : Nat} {v : Value}
    (h : Calls P f args (w.drewN n) fun e w' => e = .returned v ∧ w.drewN n = w') : Calls P f args (w.drewN n) fun e w'' => e = .returned v ∧ ∃ m, w'' = w.drewN m :=
  h.mono fun _ _ hh => ⟨hh.1, n, hh.2.symm⟩
theorem qfl_le_qce {n d : Int} (hd : d ≠ 0) : qfl n d ≤ qce n d := by
  unfold qfl qce
  obtain ⟨N, hN⟩ : ∃ N, N = n * 16777216 := ⟨_, rfl⟩
  rw [← hN]
  obtain ⟨q, hq⟩ : ∃ q, q = N.fdiv d := ⟨_, rfl⟩
  obtain ⟨p, hp⟩ : ∃ p, p = (-N).fdiv d := ⟨_, rfl⟩
  rw [← hq, ← hp]
  by_cases h : 0 < d
  · have a := fdiv_le (n := N) h
    have b := fdiv_le (n := -N) h
    rw [← hq] at a
    rw [← hp] at b
    rcases Int.lt_or_le 0 (q + p) with k | k
    · have := Int.mul_le_mul_of_nonneg_right (show (1 : Int) ≤ q + p by omega) (show 0 ≤ d by omega)
      rw [Int.add_mul] at this
      omega
    · omega
  · have a := fdiv_ge' (n := N) (d := d) (by omega)
    have b := fdiv_ge' (n := -N) (d := d) (by omega)
    rw [← hq] at a
    rw [← hp] at b
    rcases Int.lt_or_le 0 (q + p) with k | k
    · have := Int.mul_le_mul_of_nonneg_right (show (1 : Int) ≤ q + p by omega) (show 0 ≤ -d by omega)
      rw [Int.mul_neg, Int.mul_neg, Int.add_mul] at this
      omega
    · omega
theorem fdiv_bd' {N d : Int} (h1 : -2305843009213693952 ≤ N) (h2 : N ≤ 2305843009213693952) (hd : d ≠ 0) : -4611686018427387904 ≤ N.fdiv d ∧ N.fdiv d ≤ 4611686018427387904 := by
  have b := td_bd N d
  by_cases h : N.tmod d = 0 ∨ (N < 0 ↔ d < 0)
  · rw [fdiv_same hd h]; omega
  · rw [fdiv_less hd (fun e => h (.inl e)) (fun e => h (.inr e))]; omega

set_option maxRecDepth 100000 in
set_option maxHeartbeats 2000000 in
theorem rdiv_any (a b c d : Int) (w : World) :
    Calls Try.prog 84 #[iv a b, iv c d] w fun e w' => e = retR (divR a b c d) ∧ Below w.heap.size w w' := by
  by_cases h1 : vB a b = true ∧ vB c d = true
  · obtain ⟨v1, v2⟩ := h1
    have k1 := vB_iff.1 v1
    have k2 := vB_iff.1 v2
    obtain ⟨q1, q2, q3⟩ := k1
    obtain ⟨q4, q5, q6⟩ := k2
    by_cases h3 : c ≤ 0 ∧ 0 ≤ d
    · have e1 : divR a b c d = ⟨0, 0, 10⟩ := by rw [divR, if_pos ⟨v1, v2⟩, if_pos h3]
      rw [e1]
      obtain ⟨h4, h5⟩ := h3
      clear e1
      go_enter Try.func84, Try.ntmps84
      go_wp2_with fail
      refine (both_any a b c d _).mono ?_
      rintro e w1 ⟨rfl, hb1⟩
      obtain ⟨hc1, hf1⟩ := bcell hb1
      have hz1 := hb1.size
      try simp at hz1
      have hs1_0 : w.heap.size < w1.heap.size := by omega
      have hs1_1 : w.heap.size + 1 < w1.heap.size := by omega
      have hs1_2 : w.heap.size + 1 + 1 < w1.heap.size := by omega
      have hw1 : Below w.heap.size w w1 := Below.trans (by repeat (first | exact Below.refl _ _ | refine Below.drew ?_ | refine below_drewN ?_ _ | refine Below.setCell ?_ (by first | omega | (simp <;> omega)) _ | refine Below.alloc ?_ (by first | omega | (simp <;> omega)) _)) (hb1.mono (by first | omega | (simp <;> omega)))
      clear hb1 hz1
      go_wp2_with fail
      exact bodyPost_ret (v := .tuple #[iv 0 0, .int .i64 10]) (by simp [results, Try.results84, go_sem, *]) rfl ⟨rfl, by repeat (first | exact hw1 | refine Below.drew ?_ | refine below_drewN ?_ _ | refine Below.setCell ?_ (by first | omega | (simp <;> omega)) _ | refine Below.alloc ?_ (by first | omega | (simp <;> omega)) _)⟩
    · have c0 : c ≠ 0 := by omega
      have d0 : d ≠ 0 := by omega
      have l1 := qfl_le_qce (n := a) c0
      have e1 : divR a b c d = checkedR (min4 (qfl a c) (qfl a d) (qfl b c) (qfl b d)) (max4 (qce a c) (qce a d) (qce b c) (qce b d)) := by
        rw [divR, if_pos ⟨v1, v2⟩, if_neg h3, checked_within (by unfold min4 max4; omega)]
      have f1 : divR a b c d = (checkedR (min4 ((a * 16777216).fdiv c) ((a * 16777216).fdiv d) ((b * 16777216).fdiv c) ((b * 16777216).fdiv d)) (max4 (-((-(a * 16777216)).fdiv c)) (-((-(a * 16777216)).fdiv d)) (-((-(b * 16777216)).fdiv c)) (-((-(b * 16777216)).fdiv d)))) := e1
      rw [f1]
      clear e1 f1 l1
      by_cases h4 : c ≤ 0
      · have h5 : d < 0 := by omega
        clear h3
        go_enter Try.func84, Try.ntmps84
        go_wp2_with fail
        refine (both_any a b c d _).mono ?_
        rintro e w1 ⟨rfl, hb1⟩
        obtain ⟨hc1, hf1⟩ := bcell hb1
        have hz1 := hb1.size
        try simp at hz1
        have hs1_0 : w.heap.size < w1.heap.size := by omega
        have hs1_1 : w.heap.size + 1 < w1.heap.size := by omega
        have hs1_2 : w.heap.size + 1 + 1 < w1.heap.size := by omega
        have hw1 : Below w.heap.size w w1 := Below.trans (by repeat (first | exact Below.refl _ _ | refine Below.drew ?_ | refine below_drewN ?_ _ | refine Below.setCell ?_ (by first | omega | (simp <;> omega)) _ | refine Below.alloc ?_ (by first | omega | (simp <;> omega)) _)) (hb1.mono (by first | omega | (simp <;> omega)))
        clear hb1 hz1
        go_wp2
        go_quiet (fail)
        obtain ⟨wq1, hq⟩ : ∃ wq1, wq1 = w1.drewN nq := ⟨_, rfl⟩
        have cq1 : ∀ b o, wq1.cell? ⟨b, o, none⟩ = w1.cell? ⟨b, o, none⟩ := by intro b o; rw [hq]; rfl
        have fq1 : ∀ b o, wq1.frozen? ⟨b, o, none⟩ = w1.frozen? ⟨b, o, none⟩ := by intro b o; rw [hq]; rfl
        have zq1 : wq1.heap.size = w1.heap.size := by rw [hq]; rfl
        have hwq1 : Below w.heap.size w wq1 := by rw [hq]; exact below_drewN hw1 _
        rw [← hq]
        clear hq
        go_wp2
        go_quiet ((go_at_call 91; exact quiet_same (floor_any _ _ _ (by omega) (by omega) (by omega) (by omega) (by omega))))
        obtain ⟨wq2, hq⟩ : ∃ wq2, wq2 = wq1.drewN nq := ⟨_, rfl⟩
        have cq2 : ∀ b o, wq2.cell? ⟨b, o, none⟩ = wq1.cell? ⟨b, o, none⟩ := by intro b o; rw [hq]; rfl
        have fq2 : ∀ b o, wq2.frozen? ⟨b, o, none⟩ = wq1.frozen? ⟨b, o, none⟩ := by intro b o; rw [hq]; rfl
        have zq2 : wq2.heap.size = wq1.heap.size := by rw [hq]; rfl
        have hwq2 : Below w.heap.size w wq2 := by rw [hq]; exact below_drewN hwq1 _
        rw [← hq]
        clear hq
        go_wp2
        go_quiet ((go_at_call 92; exact quiet_same (ceil_any _ _ _ (by omega) (by omega) (by omega) (by omega) (by omega) (fdiv_bd' (by omega) (by omega) (by omega)))))
        obtain ⟨wq3, hq⟩ : ∃ wq3, wq3 = wq2.drewN nq := ⟨_, rfl⟩
        have cq3 : ∀ b o, wq3.cell? ⟨b, o, none⟩ = wq2.cell? ⟨b, o, none⟩ := by intro b o; rw [hq]; rfl
        have fq3 : ∀ b o, wq3.frozen? ⟨b, o, none⟩ = wq2.frozen? ⟨b, o, none⟩ := by intro b o; rw [hq]; rfl
        have zq3 : wq3.heap.size = wq2.heap.size := by rw [hq]; rfl
        have hwq3 : Below w.heap.size w wq3 := by rw [hq]; exact below_drewN hwq2 _
        rw [← hq]
        clear hq
        go_wp2_with fail
        refine (checked_any (min4 ((a * 16777216).fdiv c) ((a * 16777216).fdiv d) ((b * 16777216).fdiv c) ((b * 16777216).fdiv d)) (max4 (-((-(a * 16777216)).fdiv c)) (-((-(a * 16777216)).fdiv d)) (-((-(b * 16777216)).fdiv c)) (-((-(b * 16777216)).fdiv d))) _).mono ?_
        rintro e w2 ⟨rfl, hb2⟩
        obtain ⟨hc2, hf2⟩ := bcell hb2
        have hz2 := hb2.size
        try simp at hz2
        have hs2_0 : w.heap.size < w2.heap.size := by omega
        have hs2_1 : w.heap.size + 1 < w2.heap.size := by omega
        have hs2_2 : w.heap.size + 1 + 1 < w2.heap.size := by omega
        have hw2 : Below w.heap.size w w2 := Below.trans (by repeat (first | exact hwq3 | refine Below.drew ?_ | refine below_drewN ?_ _ | refine Below.setCell ?_ (by first | omega | (simp <;> omega)) _ | refine Below.alloc ?_ (by first | omega | (simp <;> omega)) _)) (hb2.mono (by first | omega | (simp <;> omega)))
        clear hb2 hz2
        go_wp2_with fail
        exact bodyPost_ret (v := .tuple #[.agg #[.int .i64 (checkedR (min4 ((a * 16777216).fdiv c) ((a * 16777216).fdiv d) ((b * 16777216).fdiv c) ((b * 16777216).fdiv d)) (max4 (-((-(a * 16777216)).fdiv c)) (-((-(a * 16777216)).fdiv d)) (-((-(b * 16777216)).fdiv c)) (-((-(b * 16777216)).fdiv d)))).lo, .int .i64 (checkedR (min4 ((a * 16777216).fdiv c) ((a * 16777216).fdiv d) ((b * 16777216).fdiv c) ((b * 16777216).fdiv d)) (max4 (-((-(a * 16777216)).fdiv c)) (-((-(a * 16777216)).fdiv d)) (-((-(b * 16777216)).fdiv c)) (-((-(b * 16777216)).fdiv d)))).hi], .int .i64 (checkedR (min4 ((a * 16777216).fdiv c) ((a * 16777216).fdiv d) ((b * 16777216).fdiv c) ((b * 16777216).fdiv d)) (max4 (-((-(a * 16777216)).fdiv c)) (-((-(a * 16777216)).fdiv d)) (-((-(b * 16777216)).fdiv c)) (-((-(b * 16777216)).fdiv d)))).e]) (by simp [results, Try.results84, go_sem, *]) rfl ⟨rfl, by repeat (first | exact hw2 | refine Below.drew ?_ | refine below_drewN ?_ _ | refine Below.setCell ?_ (by first | omega | (simp <;> omega)) _ | refine Below.alloc ?_ (by first | omega | (simp <;> omega)) _)⟩
      · have h4' : 0 < c := by omega
        clear h3 h4
        go_enter Try.func84, Try.ntmps84
        go_wp2_with fail
        refine (both_any a b c d _).mono ?_
        rintro e w1 ⟨rfl, hb1⟩
        obtain ⟨hc1, hf1⟩ := bcell hb1
        have hz1 := hb1.size
        try simp at hz1
        have hs1_0 : w.heap.size < w1.heap.size := by omega
        have hs1_1 : w.heap.size + 1 < w1.heap.size := by omega
        have hs1_2 : w.heap.size + 1 + 1 < w1.heap.size := by omega
        have hw1 : Below w.heap.size w w1 := Below.trans (by repeat (first | exact Below.refl _ _ | refine Below.drew ?_ | refine below_drewN ?_ _ | refine Below.setCell ?_ (by first | omega | (simp <;> omega)) _ | refine Below.alloc ?_ (by first | omega | (simp <;> omega)) _)) (hb1.mono (by first | omega | (simp <;> omega)))
        clear hb1 hz1
        go_wp2
        go_quiet (fail)
        obtain ⟨wq1, hq⟩ : ∃ wq1, wq1 = w1.drewN nq := ⟨_, rfl⟩
        have cq1 : ∀ b o, wq1.cell? ⟨b, o, none⟩ = w1.cell? ⟨b, o, none⟩ := by intro b o; rw [hq]; rfl
        have fq1 : ∀ b o, wq1.frozen? ⟨b, o, none⟩ = w1.frozen? ⟨b, o, none⟩ := by intro b o; rw [hq]; rfl
        have zq1 : wq1.heap.size = w1.heap.size := by rw [hq]; rfl
        have hwq1 : Below w.heap.size w wq1 := by rw [hq]; exact below_drewN hw1 _
        rw [← hq]
        clear hq
        go_wp2
        go_quiet ((go_at_call 91; exact quiet_same (floor_any _ _ _ (by omega) (by omega) (by omega) (by omega) (by omega))))
        obtain ⟨wq2, hq⟩ : ∃ wq2, wq2 = wq1.drewN nq := ⟨_, rfl⟩
        have cq2 : ∀ b o, wq2.cell? ⟨b, o, none⟩ = wq1.cell? ⟨b, o, none⟩ := by intro b o; rw [hq]; rfl
        have fq2 : ∀ b o, wq2.frozen? ⟨b, o, none⟩ = wq1.frozen? ⟨b, o, none⟩ := by intro b o; rw [hq]; rfl
        have zq2 : wq2.heap.size = wq1.heap.size := by rw [hq]; rfl
        have hwq2 : Below w.heap.size w wq2 := by rw [hq]; exact below_drewN hwq1 _
        rw [← hq]
        clear hq
        go_wp2
        go_quiet ((go_at_call 92; exact quiet_same (ceil_any _ _ _ (by omega) (by omega) (by omega) (by omega) (by omega) (fdiv_bd' (by omega) (by omega) (by omega)))))
        obtain ⟨wq3, hq⟩ : ∃ wq3, wq3 = wq2.drewN nq := ⟨_, rfl⟩
        have cq3 : ∀ b o, wq3.cell? ⟨b, o, none⟩ = wq2.cell? ⟨b, o, none⟩ := by intro b o; rw [hq]; rfl
        have fq3 : ∀ b o, wq3.frozen? ⟨b, o, none⟩ = wq2.frozen? ⟨b, o, none⟩ := by intro b o; rw [hq]; rfl
        have zq3 : wq3.heap.size = wq2.heap.size := by rw [hq]; rfl
        have hwq3 : Below w.heap.size w wq3 := by rw [hq]; exact below_drewN hwq2 _
        rw [← hq]
        clear hq
        go_wp2_with fail
        refine (checked_any (min4 ((a * 16777216).fdiv c) ((a * 16777216).fdiv d) ((b * 16777216).fdiv c) ((b * 16777216).fdiv d)) (max4 (-((-(a * 16777216)).fdiv c)) (-((-(a * 16777216)).fdiv d)) (-((-(b * 16777216)).fdiv c)) (-((-(b * 16777216)).fdiv d))) _).mono ?_
        rintro e w2 ⟨rfl, hb2⟩
        obtain ⟨hc2, hf2⟩ := bcell hb2
        have hz2 := hb2.size
        try simp at hz2
        have hs2_0 : w.heap.size < w2.heap.size := by omega
        have hs2_1 : w.heap.size + 1 < w2.heap.size := by omega
        have hs2_2 : w.heap.size + 1 + 1 < w2.heap.size := by omega
        have hw2 : Below w.heap.size w w2 := Below.trans (by repeat (first | exact hwq3 | refine Below.drew ?_ | refine below_drewN ?_ _ | refine Below.setCell ?_ (by first | omega | (simp <;> omega)) _ | refine Below.alloc ?_ (by first | omega | (simp <;> omega)) _)) (hb2.mono (by first | omega | (simp <;> omega)))
        clear hb2 hz2
        go_wp2_with fail
        exact bodyPost_ret (v := .tuple #[.agg #[.int .i64 (checkedR (min4 ((a * 16777216).fdiv c) ((a * 16777216).fdiv d) ((b * 16777216).fdiv c) ((b * 16777216).fdiv d)) (max4 (-((-(a * 16777216)).fdiv c)) (-((-(a * 16777216)).fdiv d)) (-((-(b * 16777216)).fdiv c)) (-((-(b * 16777216)).fdiv d)))).lo, .int .i64 (checkedR (min4 ((a * 16777216).fdiv c) ((a * 16777216).fdiv d) ((b * 16777216).fdiv c) ((b * 16777216).fdiv d)) (max4 (-((-(a * 16777216)).fdiv c)) (-((-(a * 16777216)).fdiv d)) (-((-(b * 16777216)).fdiv c)) (-((-(b * 16777216)).fdiv d)))).hi], .int .i64 (checkedR (min4 ((a * 16777216).fdiv c) ((a * 16777216).fdiv d) ((b * 16777216).fdiv c) ((b * 16777216).fdiv d)) (max4 (-((-(a * 16777216)).fdiv c)) (-((-(a * 16777216)).fdiv d)) (-((-(b * 16777216)).fdiv c)) (-((-(b * 16777216)).fdiv d)))).e]) (by simp [results, Try.results84, go_sem, *]) rfl ⟨rfl, by repeat (first | exact hw2 | refine Below.drew ?_ | refine below_drewN ?_ _ | refine Below.setCell ?_ (by first | omega | (simp <;> omega)) _ | refine Below.alloc ?_ (by first | omega | (simp <;> omega)) _)⟩
  · have e1 : divR a b c d = ⟨0, 0, 1⟩ := if_neg h1
    rw [e1]
    have hv : (vB a b && vB c d) = false := by simpa using h1
    clear e1 h1
    go_enter Try.func84, Try.ntmps84
    go_wp2_with fail
    refine (both_any a b c d _).mono ?_
    rintro e w1 ⟨rfl, hb1⟩
    obtain ⟨hc1, hf1⟩ := bcell hb1
    have hz1 := hb1.size
    try simp at hz1
    have hs1_0 : w.heap.size < w1.heap.size := by omega
    have hs1_1 : w.heap.size + 1 < w1.heap.size := by omega
    have hs1_2 : w.heap.size + 1 + 1 < w1.heap.size := by omega
    have hw1 : Below w.heap.size w w1 := Below.trans (by repeat (first | exact Below.refl _ _ | refine Below.drew ?_ | refine below_drewN ?_ _ | refine Below.setCell ?_ (by first | omega | (simp <;> omega)) _ | refine Below.alloc ?_ (by first | omega | (simp <;> omega)) _)) (hb1.mono (by first | omega | (simp <;> omega)))
    clear hb1 hz1
    rw [hv]
    go_wp2_with fail
    exact bodyPost_ret (v := .tuple #[iv 0 0, .int .i64 1]) (by simp [results, Try.results84, go_sem, *]) rfl ⟨rfl, by repeat (first | exact hw1 | refine Below.drew ?_ | refine below_drewN ?_ _ | refine Below.setCell ?_ (by first | omega | (simp <;> omega)) _ | refine Below.alloc ?_ (by first | omega | (simp <;> omega)) _)⟩
end Go.Proofs.Ytjppcndhaejfpaa.Iv
