/- FresnelConserves returns true for every surface, and leaves memory that was there as it was: the plain facts and the walk. -/
import Derived.Test.YtognaejbpioihaaFr5
namespace Go.Proofs.Ytognaejbpioihaa.Iv
open Go.RowKit

theorem cutI_mono {a b : Int} (h : a ≤ b) : cutI a ≤ cutI b := by unfold cutI; omega
theorem cutI_lo (a : Int) : 0 ≤ cutI a := by unfold cutI; omega
theorem cutI_hi (a : Int) : cutI a ≤ 16777216 := by unfold cutI; omega
theorem mulR_ord (a b c d : Int) : (mulR a b c d).lo ≤ (mulR a b c d).hi := by
  unfold mulR
  split
  · unfold withinR
    split
    · exact Int.le_refl _
    · exact fl_le_ce (min4_le_max4 _ _ _ _)
  · exact Int.le_refl _
theorem bind_inv {r : R} {f : Int → Int → R} (h : (bind r f).e = 0) : r.e = 0 ∧ bind r f = f r.lo r.hi := by
  by_cases h0 : r.e = 0
  · exact ⟨h0, bind_ok h0⟩
  · rw [bind_err h0] at h; exact absurd h h0
/-- what Reflectance is where it is no error -/
theorem refl_inv {s : Sf} (h : (reflR s).e = 0) : ∃ P Q T U, (perpR s) = P ∧ (parR s) = Q ∧ addR P.lo P.hi Q.lo Q.hi = T ∧ mulR T.lo T.hi 8388608 8388608 = U ∧ P.e = 0 ∧ Q.e = 0 ∧ T.e = 0 ∧ U.e = 0 ∧ reflR s = ⟨cutI U.lo, cutI U.hi, 0⟩ := by
  obtain ⟨h1, e1⟩ := bind_inv (show (bind (perpR s) _).e = 0 from h)
  have h := h
  rw [reflR, e1] at h
  obtain ⟨h2, e2⟩ := bind_inv h
  rw [e2] at h
  obtain ⟨h3, e3⟩ := bind_inv h
  rw [e3] at h
  obtain ⟨h4, e4⟩ := bind_inv h
  exact ⟨_, _, _, _, rfl, rfl, rfl, rfl, h1, h2, h3, h4, by rw [reflR, e1, e2, e3, e4]⟩
/-- what Reflectance gives -/
theorem refl_of (s : Sf) : (reflR s).e ≠ 0 ∨ (0 ≤ (reflR s).lo ∧ (reflR s).lo ≤ (reflR s).hi ∧ (reflR s).hi ≤ 16777216 ∧ (reflR s).e = 0) := by
  by_cases h : (reflR s).e = 0
  · right
    obtain ⟨P, Q, T, U, _, _, _, hU, _, _, _, _, e⟩ := refl_inv h
    rw [e]
    refine ⟨cutI_lo _, cutI_mono ?_, cutI_hi _, rfl⟩
    rw [← hU]
    exact mulR_ord _ _ _ _
  · exact .inl h
theorem trans_of {s : Sf} (h0 : 0 ≤ (reflR s).lo) (h1 : (reflR s).lo ≤ (reflR s).hi) (h2 : (reflR s).hi ≤ 16777216) (h3 : (reflR s).e = 0) :
    (transR s).lo = 16777216 - (reflR s).hi ∧ (transR s).hi = 16777216 - (reflR s).lo ∧ (transR s).e = 0 := by
  rw [transR, bind_ok h3, subR, if_pos ⟨by decide, vB_iff.2 ⟨by omega, h1, by omega⟩⟩, within_yes (by omega) (by omega)]
  exact ⟨rfl, rfl, rfl⟩
theorem trans_err {s : Sf} (h : (reflR s).e ≠ 0) : (transR s).e = (reflR s).e := by rw [transR, bind_err h]

theorem inside_any (a b : Int) (w : World) (h0 : 0 ≤ a) (h1 : a ≤ b) (h2 : b ≤ 16777216) :
    Calls Try.prog 23 #[iv a b] w fun e w' => e = .returned (.bool true) ∧ boxed w a b = w' := by
  go_enter Try.func23, Try.ntmps23
  go_wp2
  go_ret
  exact ⟨by simp, rfl⟩

set_option maxRecDepth 100000 in
set_option maxHeartbeats 1000000 in
theorem conserves_any (s : Sf) (w : World) :
    Calls Try.prog 5 #[sv s] w fun e w' => e = .returned (.bool true) ∧ Below w.heap.size w w' := by
  go_enter Try.func5, Try.ntmps5
  go_wp2_with fail
  refine (awake_any _).mono ?_
  rintro e w1 ⟨rfl, hb1⟩
  obtain ⟨hc1, hf1⟩ := bcell hb1
  have hz1 := hb1.size
  try simp at hz1
  have hs1_0 : w.heap.size < w1.heap.size := by omega
  have hw1 : Below w.heap.size w w1 := Below.trans (by repeat (first | exact Below.refl _ _ | refine Below.drew ?_ | refine Below.setCell ?_ (by first | omega | (simp <;> omega)) _ | refine Below.alloc ?_ (by first | omega | (simp <;> omega)) _)) (hb1.mono (by first | omega | (simp <;> omega)))
  clear hb1 hz1
  go_wp2_with fail
  refine (refl_any s _).mono ?_
  rintro e w2 ⟨rfl, hb2⟩
  obtain ⟨hc2, hf2⟩ := bcell hb2
  have hz2 := hb2.size
  try simp at hz2
  have hs2_0 : w.heap.size < w2.heap.size := by omega
  have hw2 : Below w.heap.size w w2 := Below.trans (by repeat (first | exact hw1 | refine Below.drew ?_ | refine Below.setCell ?_ (by first | omega | (simp <;> omega)) _ | refine Below.alloc ?_ (by first | omega | (simp <;> omega)) _)) (hb2.mono (by first | omega | (simp <;> omega)))
  clear hb2 hz2
  obtain ⟨Q, hQ⟩ : ∃ Q, Q = reflR s := ⟨_, rfl⟩
  rw [← hQ]
  have HQ := Lib.hid hQ
  clear hQ
  go_wp2_with fail
  refine (trans_any s _).mono ?_
  rintro e w3 ⟨rfl, hb3⟩
  obtain ⟨hc3, hf3⟩ := bcell hb3
  have hz3 := hb3.size
  try simp at hz3
  have hs3_0 : w.heap.size < w3.heap.size := by omega
  have hs3_1 : w2.heap.size < w3.heap.size := by omega
  have hw3 : Below w.heap.size w w3 := Below.trans (by repeat (first | exact hw2 | refine Below.drew ?_ | refine Below.setCell ?_ (by first | omega | (simp <;> omega)) _ | refine Below.alloc ?_ (by first | omega | (simp <;> omega)) _)) (hb3.mono (by first | omega | (simp <;> omega)))
  clear hb3 hz3
  obtain ⟨T, hT⟩ : ∃ T, T = transR s := ⟨_, rfl⟩
  rw [← hT]
  have HTT := Lib.hid hT
  clear hT
  rcases refl_of s with he | ⟨r0, r1, r2, r3⟩
  · have HT := Lib.hid (trans_err he)
    rw [← HTT.out, ← HQ.out] at HT
    rw [← HQ.out] at he
    go_wp2_with fail
    go_ret
    exact ⟨ret_bool (by simp [HT.out]), by repeat (first | exact hw3 | refine Below.drew ?_ | refine Below.setCell ?_ (by first | omega | (simp <;> omega)) _ | refine Below.alloc ?_ (by first | omega | (simp <;> omega)) _)⟩
  · obtain ⟨t0, t1, t2⟩ := trans_of r0 r1 r2 r3
    rw [← HTT.out, ← HQ.out] at t0 t1
    rw [← HTT.out] at t2
    rw [← HQ.out] at r0 r1 r2 r3
    have u0 : 0 ≤ T.lo := by omega
    have u1 : T.lo ≤ T.hi := by omega
    have u2 : T.hi ≤ 16777216 := by omega
    have u3 : Q.lo + T.lo ≤ 16777216 := by omega
    have u4 : 16777216 ≤ Q.hi + T.hi := by omega
    clear t0 t1
    have hz0 : w2.heap.size < w3.heap.size + 1 := by omega
    have hz1 : w2.heap.size < w3.heap.size + 1 + 1 := by omega
    go_wp2_with fail
    refine (inside_any _ _ _ r0 r1 r2).mono ?_
    rintro e w4 ⟨rfl, rfl⟩
    go_wp2_with fail
    refine (inside_any _ _ _ u0 u1 u2).mono ?_
    rintro e w5 ⟨rfl, rfl⟩
    go_wp2_with fail
    go_ret
    refine ⟨?_, ?_⟩
    · exact ret_bool (by simp)
    · repeat (first | exact hw3 | refine Below.drew ?_ | refine Below.setCell ?_ (by first | omega | (simp <;> omega)) _ | refine Below.alloc ?_ (by first | omega | (simp <;> omega)) _)
end Go.Proofs.Ytognaejbpioihaa.Iv
