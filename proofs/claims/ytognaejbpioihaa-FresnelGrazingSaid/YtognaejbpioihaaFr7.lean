/- FresnelTurned returns true for every surface, and leaves memory that was there as it was: the plain facts and the walk. -/
import Derived.Test.YtognaejbpioihaaFr6
import Derived.Deep.RegionHeld3
namespace Go.Proofs.Ytognaejbpioihaa.Iv
open Go.RowKit

def turn (s : Sf) : Sf := ⟨s.al, s.ah, s.bl, s.bh, s.tl, s.th, s.fl, s.fh⟩
theorem turn_turn (s : Sf) : turn (turn s) = s := rfl
theorem sf_turn (s : Sf) : sfB (turn s) = sfB s := by
  simp only [sfB, turn]
  cases winB s.bl s.bh 0 1 <;> cases winB s.al s.ah 0 1 <;> cases winB s.fl s.fh 1 4 <;> cases winB s.tl s.th 1 4 <;> rfl
theorem within_e {lo hi : Int} : (withinR lo hi).e = 0 ∨ (withinR lo hi).e = 3 := by
  unfold withinR; split
  · exact .inr rfl
  · exact .inl rfl
theorem mulR_e {a b c d : Int} (h1 : vB a b = true) (h2 : vB c d = true) : (mulR a b c d).e = 0 ∨ (mulR a b c d).e = 3 := by
  rw [mulR, if_pos ⟨h1, h2⟩]; exact within_e
theorem add_swap (a b c d : Int) : addR c d a b = addR a b c d := by
  unfold addR
  by_cases h1 : vB a b = true <;> by_cases h2 : vB c d = true <;> simp [h1, h2, Int.add_comm]
theorem vB_neg (a b : Int) : vB (-b) (-a) = vB a b := by simp only [vB, decide_eq_decide]; omega
/-- results that are opposite to each other -/
def Opp (x y : R) : Prop := y.e = x.e ∧ (x.e = 0 → y.lo = -x.hi ∧ y.hi = -x.lo)
theorem within_opp (lo hi : Int) : Opp (withinR lo hi) (withinR (-hi) (-lo)) := by
  unfold Opp withinR
  by_cases h : lo < -1073741824 ∨ 1073741824 < hi
  · rw [if_pos h, if_pos (by omega)]; exact ⟨rfl, fun h => by cases h⟩
  · rw [if_neg h, if_neg (by omega)]; exact ⟨rfl, fun _ => ⟨rfl, rfl⟩⟩
theorem err_opp (n : Int) (h : n ≠ 0) : Opp ⟨0, 0, n⟩ ⟨0, 0, n⟩ := ⟨rfl, fun h0 => absurd h0 h⟩
theorem sub_opp (a b c d : Int) : Opp (subR a b c d) (subR c d a b) := by
  unfold subR
  by_cases h : vB a b = true ∧ vB c d = true
  · rw [if_pos h, if_pos ⟨h.2, h.1⟩]
    have := within_opp (a - d) (b - c)
    rw [show -(b - c) = c - b by omega, show -(a - d) = d - a by omega] at this
    exact this
  · rw [if_neg h, if_neg (fun k => h ⟨k.2, k.1⟩)]; exact err_opp 1 (by decide)
theorem qfl_neg (n d : Int) : qfl (-n) d = -(qce n d) := by unfold qfl qce; rw [Int.neg_mul]; omega
theorem qce_neg (n d : Int) : qce (-n) d = -(qfl n d) := by unfold qfl qce; rw [Int.neg_mul, Int.neg_neg]
theorem div_opp (a b c d : Int) : Opp (divR a b c d) (divR (-b) (-a) c d) := by
  unfold divR
  rw [vB_neg]
  by_cases h : vB a b = true ∧ vB c d = true
  · rw [if_pos h, if_pos h]
    by_cases h2 : c ≤ 0 ∧ 0 ≤ d
    · rw [if_pos h2, if_pos h2]; exact err_opp 10 (by decide)
    · rw [if_neg h2, if_neg h2]
      have := within_opp (min4 (qfl a c) (qfl a d) (qfl b c) (qfl b d)) (max4 (qce a c) (qce a d) (qce b c) (qce b d))
      have e1 : min4 (qfl (-b) c) (qfl (-b) d) (qfl (-a) c) (qfl (-a) d) = -(max4 (qce a c) (qce a d) (qce b c) (qce b d)) := by
        simp only [qfl_neg]; unfold min4 max4; omega
      have e2 : max4 (qce (-b) c) (qce (-b) d) (qce (-a) c) (qce (-a) d) = -(min4 (qfl a c) (qfl a d) (qfl b c) (qfl b d)) := by
        simp only [qce_neg]; unfold min4 max4; omega
      rw [e1, e2]
      exact this
  · rw [if_neg h, if_neg h]; exact err_opp 1 (by decide)
theorem sq_opp (a b : Int) : sqR (-b) (-a) = sqR a b := by
  unfold sqR
  rw [vB_neg]
  have e1 : least2 (-b) (-a) = least2 a b := by
    unfold least2
    rw [Int.neg_mul_neg, Int.neg_mul_neg]
    by_cases h : a ≤ 0 ∧ 0 ≤ b
    · rw [if_pos h, if_pos (by omega)]
    · rw [if_neg h, if_neg (by omega)]; omega
  rw [e1, Int.neg_mul_neg, Int.neg_mul_neg, show max (b * b) (a * a) = max (a * a) (b * b) by omega]
theorem contrast_swap (a b c d : Int) : contrastR c d a b = contrastR a b c d := by
  unfold contrastR
  obtain ⟨o1, o2⟩ := sub_opp a b c d
  by_cases h : (subR a b c d).e = 0
  · obtain ⟨o3, o4⟩ := o2 h
    rw [bind_ok h, bind_ok (o1.trans h), add_swap, o3, o4]
    by_cases h2 : (addR a b c d).e = 0
    · rw [bind_ok h2, bind_ok h2]
      obtain ⟨p1, p2⟩ := div_opp (subR a b c d).lo (subR a b c d).hi (addR a b c d).lo (addR a b c d).hi
      by_cases h3 : (divR (subR a b c d).lo (subR a b c d).hi (addR a b c d).lo (addR a b c d).hi).e = 0
      · obtain ⟨p3, p4⟩ := p2 h3
        rw [bind_ok h3, bind_ok (p1.trans h3), p3, p4, sq_opp]
      · rw [bind_err h3, bind_err (by rw [p1]; exact h3), p1]
    · rw [bind_err h2, bind_err h2]
  · rw [bind_err h, bind_err (by rw [o1]; exact h), o1]
theorem bind_swap {X Y : R} (hX : X.e = 0 ∨ X.e = 3) (hY : Y.e = 0 ∨ Y.e = 3) :
    (bind Y fun p q => bind X fun u v => contrastR p q u v) = (bind X fun p q => bind Y fun u v => contrastR p q u v) := by
  by_cases h1 : X.e = 0 <;> by_cases h2 : Y.e = 0
  · rw [bind_ok h1, bind_ok h2, bind_ok h1, bind_ok h2, contrast_swap]
  · rw [bind_ok h1, bind_err h2, bind_err h2]
  · rw [bind_err h1, bind_ok h2, bind_err h1]
  · rw [bind_err h1, bind_err h2]
    rcases hX with h | h
    · exact absurd h h1
    · rcases hY with k | k
      · exact absurd k h2
      · rw [h, k]
theorem win_v {a b l h : Int} (hw : winB a b l h = true) : vB a b = true := by simp [winB] at hw; exact hw.1
theorem sf_v {s : Sf} (h : sfB s = true) : vB s.bl s.bh = true ∧ vB s.al s.ah = true ∧ vB s.fl s.fh = true ∧ vB s.tl s.th = true := by
  simp only [sfB, Bool.and_eq_true] at h
  exact ⟨win_v h.1, win_v h.2.1, win_v h.2.2.1, win_v h.2.2.2⟩
theorem perp_turn (s : Sf) : perpR (turn s) = perpR s := by
  unfold perpR polR
  rw [sf_turn]
  by_cases h : sfB s = true
  · obtain ⟨v1, v2, v3, v4⟩ := sf_v h
    rw [if_pos h, if_pos h]
    exact bind_swap (mulR_e v3 v1) (mulR_e v4 v2)
  · rw [if_neg h, if_neg h]
theorem par_turn (s : Sf) : parR (turn s) = parR s := by
  unfold parR polR
  rw [sf_turn]
  by_cases h : sfB s = true
  · obtain ⟨v1, v2, v3, v4⟩ := sf_v h
    rw [if_pos h, if_pos h]
    exact bind_swap (mulR_e v3 v2) (mulR_e v4 v1)
  · rw [if_neg h, if_neg h]

theorem turn_any (s : Sf) (w : World) :
    Calls Try.prog 24 #[sv s] w fun e w' => e = .returned (sv (turn s)) ∧ (w.alloc (.cells (surfCells s) 25)).alloc (.cells (surfCells (turn s)) 25) = w' := by
  go_enter Try.func24, Try.ntmps24
  go_wp2
  exact bodyPost_ret (v := sv (turn s)) (by simp [results, Try.results24, go_sem, turn]) rfl ⟨rfl, rfl⟩

set_option maxRecDepth 100000 in
set_option maxHeartbeats 2000000 in
theorem turned_any (s : Sf) (w : World) :
    Calls Try.prog 6 #[sv s] w fun e w' => e = .returned (.bool true) ∧ Below w.heap.size w w' := by
  obtain ⟨b, hb⟩ : ∃ b, b = turn s := ⟨_, rfl⟩
  have HB := Lib.hid hb
  clear hb
  go_enter Try.func6, Try.ntmps6
  go_wp2_with fail
  refine (awake_any _).mono ?_
  rintro e w1 ⟨rfl, hb1⟩
  obtain ⟨hc1, hf1⟩ := bcell hb1
  have hz1 := hb1.size
  try simp at hz1
  have hs1_0 : w.heap.size < w1.heap.size := by omega
  have hw1 : Below w.heap.size w w1 := Below.trans (by repeat (first | exact Below.refl _ _ | refine Below.drew ?_ | refine Below.setCell ?_ (by first | omega | (simp <;> omega)) _ | refine Below.alloc ?_ (by first | omega | (simp <;> omega)) _)) (hb1.mono (by first | omega | (simp <;> omega)))
  clear hb1 hz1
  go_wp2_with fail
  refine (turn_any s _).mono ?_
  rintro e wt ⟨rfl, rfl⟩
  rw [← HB.out]
  have za : w.heap.size < w1.heap.size + 1 := by omega
  have zb : w.heap.size < w1.heap.size + 1 + 1 := by omega
  go_wp2_with fail
  refine (perp_any s _).mono ?_
  rintro e w2 ⟨rfl, hb2⟩
  obtain ⟨hc2, hf2⟩ := bcell hb2
  have hz2 := hb2.size
  try simp at hz2
  have hs2_0 : w.heap.size < w2.heap.size := by omega
  have hs2_1 : w1.heap.size + 1 + 1 < w2.heap.size := by omega
  have hs2_2 : w1.heap.size + 1 < w2.heap.size := by omega
  have hs2_3 : w1.heap.size < w2.heap.size := by omega
  have hw2 : Below w.heap.size w w2 := Below.trans (by repeat (first | exact hw1 | refine Below.drew ?_ | refine Below.setCell ?_ (by first | omega | (simp <;> omega)) _ | refine Below.alloc ?_ (by first | omega | (simp <;> omega)) _)) (hb2.mono (by first | omega | (simp <;> omega)))
  clear hb2 hz2
  obtain ⟨P, hP⟩ : ∃ P, P = perpR s := ⟨_, rfl⟩
  rw [← hP]
  have HP := Lib.hid hP
  clear hP
  go_wp2_with fail
  refine (perp_any b _).mono ?_
  rintro e w3 ⟨rfl, hb3⟩
  obtain ⟨hc3, hf3⟩ := bcell hb3
  have hz3 := hb3.size
  try simp at hz3
  have hs3_0 : w.heap.size < w3.heap.size := by omega
  have hs3_1 : w1.heap.size + 1 + 1 < w3.heap.size := by omega
  have hs3_2 : w1.heap.size + 1 < w3.heap.size := by omega
  have hs3_3 : w1.heap.size < w3.heap.size := by omega
  have hs3_4 : w2.heap.size < w3.heap.size := by omega
  have hw3 : Below w.heap.size w w3 := Below.trans (by repeat (first | exact hw2 | refine Below.drew ?_ | refine Below.setCell ?_ (by first | omega | (simp <;> omega)) _ | refine Below.alloc ?_ (by first | omega | (simp <;> omega)) _)) (hb3.mono (by first | omega | (simp <;> omega)))
  clear hb3 hz3
  rw [show perpR b = P from by rw [HB.out, perp_turn, HP.out]]
  go_wp2_with fail
  refine (par_any s _).mono ?_
  rintro e w4 ⟨rfl, hb4⟩
  obtain ⟨hc4, hf4⟩ := bcell hb4
  have hz4 := hb4.size
  try simp at hz4
  have hs4_0 : w.heap.size < w4.heap.size := by omega
  have hs4_1 : w1.heap.size + 1 + 1 < w4.heap.size := by omega
  have hs4_2 : w1.heap.size + 1 < w4.heap.size := by omega
  have hs4_3 : w1.heap.size < w4.heap.size := by omega
  have hs4_4 : w2.heap.size < w4.heap.size := by omega
  have hs4_5 : w3.heap.size < w4.heap.size := by omega
  have hw4 : Below w.heap.size w w4 := Below.trans (by repeat (first | exact hw3 | refine Below.drew ?_ | refine Below.setCell ?_ (by first | omega | (simp <;> omega)) _ | refine Below.alloc ?_ (by first | omega | (simp <;> omega)) _)) (hb4.mono (by first | omega | (simp <;> omega)))
  clear hb4 hz4
  obtain ⟨Q, hQ⟩ : ∃ Q, Q = parR s := ⟨_, rfl⟩
  rw [← hQ]
  have HQ := Lib.hid hQ
  clear hQ
  go_wp2_with fail
  refine (par_any b _).mono ?_
  rintro e w5 ⟨rfl, hb5⟩
  obtain ⟨hc5, hf5⟩ := bcell hb5
  have hz5 := hb5.size
  try simp at hz5
  have hs5_0 : w.heap.size < w5.heap.size := by omega
  have hs5_1 : w1.heap.size + 1 + 1 < w5.heap.size := by omega
  have hs5_2 : w1.heap.size + 1 < w5.heap.size := by omega
  have hs5_3 : w1.heap.size < w5.heap.size := by omega
  have hs5_4 : w2.heap.size < w5.heap.size := by omega
  have hs5_5 : w3.heap.size < w5.heap.size := by omega
  have hs5_6 : w4.heap.size < w5.heap.size := by omega
  have hw5 : Below w.heap.size w w5 := Below.trans (by repeat (first | exact hw4 | refine Below.drew ?_ | refine Below.setCell ?_ (by first | omega | (simp <;> omega)) _ | refine Below.alloc ?_ (by first | omega | (simp <;> omega)) _)) (hb5.mono (by first | omega | (simp <;> omega)))
  clear hb5 hz5
  rw [show parR b = Q from by rw [HB.out, par_turn, HQ.out]]
  have zc0 : w.heap.size < w5.heap.size + 1 := by omega
  have zd0 : w.heap.size < w5.heap.size + 1 + 1 := by omega
  have zc1 : w1.heap.size + 1 + 1 < w5.heap.size + 1 := by omega
  have zd1 : w1.heap.size + 1 + 1 < w5.heap.size + 1 + 1 := by omega
  have zc2 : w1.heap.size + 1 < w5.heap.size + 1 := by omega
  have zd2 : w1.heap.size + 1 < w5.heap.size + 1 + 1 := by omega
  have zc3 : w1.heap.size < w5.heap.size + 1 := by omega
  have zd3 : w1.heap.size < w5.heap.size + 1 + 1 := by omega
  have zc4 : w2.heap.size < w5.heap.size + 1 := by omega
  have zd4 : w2.heap.size < w5.heap.size + 1 + 1 := by omega
  have zc5 : w3.heap.size < w5.heap.size + 1 := by omega
  have zd5 : w3.heap.size < w5.heap.size + 1 + 1 := by omega
  have zc6 : w4.heap.size < w5.heap.size + 1 := by omega
  have zd6 : w4.heap.size < w5.heap.size + 1 + 1 := by omega
  have htt : turn b = s := by rw [HB.out, turn_turn]
  go_wp2_with fail
  go_region_held3 (fun w' => w'.cell? ⟨w.heap.size, 0, none⟩ = some (.int .i64 s.bl) ∧ w'.cell? ⟨w.heap.size, 1, none⟩ = some (.int .i64 s.bh) ∧ w'.cell? ⟨w.heap.size, 2, none⟩ = some (.int .i64 s.al) ∧ w'.cell? ⟨w.heap.size, 3, none⟩ = some (.int .i64 s.ah) ∧ w'.cell? ⟨w.heap.size, 4, none⟩ = some (.int .i64 s.fl) ∧ w'.cell? ⟨w.heap.size, 5, none⟩ = some (.int .i64 s.fh) ∧ w'.cell? ⟨w.heap.size, 6, none⟩ = some (.int .i64 s.tl) ∧ w'.cell? ⟨w.heap.size, 7, none⟩ = some (.int .i64 s.th) ∧ w'.cell? ⟨w1.heap.size + 1 + 1, 0, none⟩ = some (.int .i64 b.bl) ∧ w'.cell? ⟨w1.heap.size + 1 + 1, 1, none⟩ = some (.int .i64 b.bh) ∧ w'.cell? ⟨w1.heap.size + 1 + 1, 2, none⟩ = some (.int .i64 b.al) ∧ w'.cell? ⟨w1.heap.size + 1 + 1, 3, none⟩ = some (.int .i64 b.ah) ∧ w'.cell? ⟨w1.heap.size + 1 + 1, 4, none⟩ = some (.int .i64 b.fl) ∧ w'.cell? ⟨w1.heap.size + 1 + 1, 5, none⟩ = some (.int .i64 b.fh) ∧ w'.cell? ⟨w1.heap.size + 1 + 1, 6, none⟩ = some (.int .i64 b.tl) ∧ w'.cell? ⟨w1.heap.size + 1 + 1, 7, none⟩ = some (.int .i64 b.th) ∧ w'.cell? ⟨w2.heap.size, 0, none⟩ = some (.int .i64 P.lo) ∧ w'.cell? ⟨w2.heap.size, 1, none⟩ = some (.int .i64 P.hi) ∧ w'.cell? ⟨w3.heap.size, 0, none⟩ = some (.int .i64 P.lo) ∧ w'.cell? ⟨w3.heap.size, 1, none⟩ = some (.int .i64 P.hi) ∧ w'.cell? ⟨w4.heap.size, 0, none⟩ = some (.int .i64 Q.lo) ∧ w'.cell? ⟨w4.heap.size, 1, none⟩ = some (.int .i64 Q.hi) ∧ w'.cell? ⟨w5.heap.size, 0, none⟩ = some (.int .i64 Q.lo) ∧ w'.cell? ⟨w5.heap.size, 1, none⟩ = some (.int .i64 Q.hi)) (first | (simp [go_sem]; done) | (simp [go_sem, *]; done))
    (first
      | (go_at_call 24; refine (turn_any b _).mono ?_; rintro e w' ⟨rfl, rfl⟩; rw [htt]))
  go_wp2
  go_ret
  exact ⟨ret_bool (by simp), by repeat (first | exact hw5 | refine Below.drew ?_ | refine Below.setCell ?_ (by first | omega | (simp <;> omega)) _ | refine Below.alloc ?_ (by first | omega | (simp <;> omega)) _)⟩
end Go.Proofs.Ytognaejbpioihaa.Iv
