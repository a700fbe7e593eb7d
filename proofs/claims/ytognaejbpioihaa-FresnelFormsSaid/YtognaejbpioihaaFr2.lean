/- Contracts of the program's functions on surfaces: contrast of package fresnel returns what the plain function says. -/
import Derived.Test.YtognaejbpioihaaFr1
namespace Go.Proofs.Ytognaejbpioihaa.Iv
open Go.RowKit

/-- a result, and what is made of it if it is none of an error -/
def bind (r : R) (f : Int → Int → R) : R := if r.e = 0 then f r.lo r.hi else ⟨0, 0, r.e⟩
theorem bind_ok {r : R} {f : Int → Int → R} (h : r.e = 0) : bind r f = f r.lo r.hi := if_pos h
theorem bind_err {r : R} {f : Int → Int → R} (h : ¬ r.e = 0) : bind r f = ⟨0, 0, r.e⟩ := if_neg h
def contrastR (a b c d : Int) : R := bind (subR a b c d) fun s t => bind (addR a b c d) fun u v => bind (divR s t u v) fun x y => bind (sqR x y) fun p q => ⟨cutI p, cutI q, 0⟩

set_option maxRecDepth 100000 in
set_option maxHeartbeats 1000000 in
theorem contrast_any (a b c d : Int) (w : World) :
    Calls Try.prog 40 #[iv a b, iv c d] w fun e w' => e = retR (contrastR a b c d) ∧ Below w.heap.size w w' := by
  go_enter Try.func40, Try.ntmps40
  go_wp2_with fail
  refine (sub_any a b c d _).mono ?_
  rintro e w1 ⟨rfl, hb1⟩
  obtain ⟨hc1, hf1⟩ := bcell hb1
  have hz1 := hb1.size
  try simp at hz1
  have hs1_0 : w.heap.size < w1.heap.size := by omega
  have hs1_1 : w.heap.size + 1 < w1.heap.size := by omega
  have hs1_2 : w.heap.size + 1 + 1 < w1.heap.size := by omega
  have hw1 : Below w.heap.size w w1 := Below.trans (by repeat (first | exact Below.refl _ _ | refine Below.drew ?_ | refine Below.setCell ?_ (by first | omega | (simp <;> omega)) _ | refine Below.alloc ?_ (by first | omega | (simp <;> omega)) _)) (hb1.mono (by first | omega | (simp <;> omega)))
  clear hb1 hz1
  obtain ⟨S, eS⟩ : ∃ S, S = subR a b c d := ⟨_, rfl⟩
  rw [← eS]
  have HS := Lib.hid eS
  clear eS
  by_cases hS : S.e = 0
  · have KS := Lib.hid hS
    go_wp2_with fail
    refine (add_any a b c d _).mono ?_
    rintro e w2 ⟨rfl, hb2⟩
    obtain ⟨hc2, hf2⟩ := bcell hb2
    have hz2 := hb2.size
    try simp at hz2
    have hs2_0 : w.heap.size < w2.heap.size := by omega
    have hs2_1 : w.heap.size + 1 < w2.heap.size := by omega
    have hs2_2 : w.heap.size + 1 + 1 < w2.heap.size := by omega
    have hs2_3 : w1.heap.size < w2.heap.size := by omega
    have hw2 : Below w.heap.size w w2 := Below.trans (by repeat (first | exact hw1 | refine Below.drew ?_ | refine Below.setCell ?_ (by first | omega | (simp <;> omega)) _ | refine Below.alloc ?_ (by first | omega | (simp <;> omega)) _)) (hb2.mono (by first | omega | (simp <;> omega)))
    clear hb2 hz2
    obtain ⟨T, eT⟩ : ∃ T, T = addR a b c d := ⟨_, rfl⟩
    rw [← eT]
    have HT := Lib.hid eT
    clear eT
    by_cases hT : T.e = 0
    · have KT := Lib.hid hT
      go_wp2_with fail
      refine (div_any S.lo S.hi T.lo T.hi _).mono ?_
      rintro e w3 ⟨rfl, hb3⟩
      obtain ⟨hc3, hf3⟩ := bcell hb3
      have hz3 := hb3.size
      try simp at hz3
      have hs3_0 : w.heap.size < w3.heap.size := by omega
      have hs3_1 : w.heap.size + 1 < w3.heap.size := by omega
      have hs3_2 : w.heap.size + 1 + 1 < w3.heap.size := by omega
      have hs3_3 : w1.heap.size < w3.heap.size := by omega
      have hs3_4 : w2.heap.size < w3.heap.size := by omega
      have hw3 : Below w.heap.size w w3 := Below.trans (by repeat (first | exact hw2 | refine Below.drew ?_ | refine Below.setCell ?_ (by first | omega | (simp <;> omega)) _ | refine Below.alloc ?_ (by first | omega | (simp <;> omega)) _)) (hb3.mono (by first | omega | (simp <;> omega)))
      clear hb3 hz3
      obtain ⟨Q, eQ⟩ : ∃ Q, Q = divR S.lo S.hi T.lo T.hi := ⟨_, rfl⟩
      rw [← eQ]
      have HQ := Lib.hid eQ
      clear eQ
      by_cases hQ : Q.e = 0
      · have KQ := Lib.hid hQ
        go_wp2_with fail
        refine (square_any Q.lo Q.hi _).mono ?_
        rintro e w4 ⟨rfl, hb4⟩
        obtain ⟨hc4, hf4⟩ := bcell hb4
        have hz4 := hb4.size
        try simp at hz4
        have hs4_0 : w.heap.size < w4.heap.size := by omega
        have hs4_1 : w.heap.size + 1 < w4.heap.size := by omega
        have hs4_2 : w.heap.size + 1 + 1 < w4.heap.size := by omega
        have hs4_3 : w1.heap.size < w4.heap.size := by omega
        have hs4_4 : w2.heap.size < w4.heap.size := by omega
        have hs4_5 : w3.heap.size < w4.heap.size := by omega
        have hw4 : Below w.heap.size w w4 := Below.trans (by repeat (first | exact hw3 | refine Below.drew ?_ | refine Below.setCell ?_ (by first | omega | (simp <;> omega)) _ | refine Below.alloc ?_ (by first | omega | (simp <;> omega)) _)) (hb4.mono (by first | omega | (simp <;> omega)))
        clear hb4 hz4
        obtain ⟨P, eP⟩ : ∃ P, P = sqR Q.lo Q.hi := ⟨_, rfl⟩
        rw [← eP]
        have HP := Lib.hid eP
        clear eP
        by_cases hP : P.e = 0
        · have KP := Lib.hid hP
          go_wp2_with fail
          refine (cut_any P.lo P.hi _).mono ?_
          rintro e w5 ⟨rfl, hb5⟩
          obtain ⟨hc5, hf5⟩ := bcell hb5
          have hz5 := hb5.size
          try simp at hz5
          have hs5_0 : w.heap.size < w5.heap.size := by omega
          have hs5_1 : w.heap.size + 1 < w5.heap.size := by omega
          have hs5_2 : w.heap.size + 1 + 1 < w5.heap.size := by omega
          have hs5_3 : w1.heap.size < w5.heap.size := by omega
          have hs5_4 : w2.heap.size < w5.heap.size := by omega
          have hs5_5 : w3.heap.size < w5.heap.size := by omega
          have hs5_6 : w4.heap.size < w5.heap.size := by omega
          have hw5 : Below w.heap.size w w5 := Below.trans (by repeat (first | exact hw4 | refine Below.drew ?_ | refine Below.setCell ?_ (by first | omega | (simp <;> omega)) _ | refine Below.alloc ?_ (by first | omega | (simp <;> omega)) _)) (hb5.mono (by first | omega | (simp <;> omega)))
          clear hb5 hz5
          go_wp2_with fail
          exact bodyPost_ret (v := .tuple #[iv (cutI P.lo) (cutI P.hi), .int .i64 0]) (by simp [results, Try.results40, go_sem, *]) rfl ⟨by rw [contrastR, ← HS.out, bind_ok KS.out, ← HT.out, bind_ok KT.out, ← HQ.out, bind_ok KQ.out, ← HP.out, bind_ok KP.out], by repeat (first | exact hw5 | refine Below.drew ?_ | refine Below.setCell ?_ (by first | omega | (simp <;> omega)) _ | refine Below.alloc ?_ (by first | omega | (simp <;> omega)) _)⟩
        · have KP := Lib.hid hP
          go_wp2_with fail
          exact bodyPost_ret (v := .tuple #[iv 0 0, .int .i64 P.e]) (by simp [results, Try.results40, go_sem, *]) rfl ⟨by rw [contrastR, ← HS.out, bind_ok KS.out, ← HT.out, bind_ok KT.out, ← HQ.out, bind_ok KQ.out, ← HP.out, bind_err KP.out], by repeat (first | exact hw4 | refine Below.drew ?_ | refine Below.setCell ?_ (by first | omega | (simp <;> omega)) _ | refine Below.alloc ?_ (by first | omega | (simp <;> omega)) _)⟩
      · have KQ := Lib.hid hQ
        go_wp2_with fail
        exact bodyPost_ret (v := .tuple #[iv 0 0, .int .i64 Q.e]) (by simp [results, Try.results40, go_sem, *]) rfl ⟨by rw [contrastR, ← HS.out, bind_ok KS.out, ← HT.out, bind_ok KT.out, ← HQ.out, bind_err KQ.out], by repeat (first | exact hw3 | refine Below.drew ?_ | refine Below.setCell ?_ (by first | omega | (simp <;> omega)) _ | refine Below.alloc ?_ (by first | omega | (simp <;> omega)) _)⟩
    · have KT := Lib.hid hT
      go_wp2_with fail
      exact bodyPost_ret (v := .tuple #[iv 0 0, .int .i64 T.e]) (by simp [results, Try.results40, go_sem, *]) rfl ⟨by rw [contrastR, ← HS.out, bind_ok KS.out, ← HT.out, bind_err KT.out], by repeat (first | exact hw2 | refine Below.drew ?_ | refine Below.setCell ?_ (by first | omega | (simp <;> omega)) _ | refine Below.alloc ?_ (by first | omega | (simp <;> omega)) _)⟩
  · have KS := Lib.hid hS
    go_wp2_with fail
    exact bodyPost_ret (v := .tuple #[iv 0 0, .int .i64 S.e]) (by simp [results, Try.results40, go_sem, *]) rfl ⟨by rw [contrastR, ← HS.out, bind_err KS.out], by repeat (first | exact hw1 | refine Below.drew ?_ | refine Below.setCell ?_ (by first | omega | (simp <;> omega)) _ | refine Below.alloc ?_ (by first | omega | (simp <;> omega)) _)⟩
end Go.Proofs.Ytognaejbpioihaa.Iv
