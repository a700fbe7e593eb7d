/- Contracts of the reference's square roots: Root and Sqrt of package culetref27. -/
import Derived.Test.YtjppcndhaejfpaaSq1
import Derived.Test.YtjppcndhaejfpaaRf3
namespace Go.Proofs.Ytjppcndhaejfpaa.Iv
open Go.RowKit

set_option maxRecDepth 100000 in
theorem rroot_any (n : Int) (w : World) (h0 : 0 ≤ n) (h1 : n ≤ 18014398509481984) :
    Calls Try.prog 85 #[.int .i64 n] w fun e w' => e = .returned (.int .i64 (isq n)) ∧ w = w' := by
  go_enter Try.func85, Try.ntmps85
  go_wp2
  go_loop [3, 4, 5] (fun r k _ => ∃ (R p : Int) (j : Nat), r = .int .i64 R ∧ k = .int .i64 ((j : Int) - 1) ∧ j ≤ 32 ∧ (2 : Int) ^ j = p ∧ 0 ≤ R ∧ R * R ≤ n ∧ n < (R + p) * (R + p)) (fun _ k _ => (intOf k + 1).toNat)
  case atStart => exact ⟨0, 4294967296, 32, rfl, rfl, by decide, by decide, by decide, by omega, by omega⟩
  case round =>
    obtain ⟨R, p, j, rfl, rfl, hj, hp, r1, r2, r3⟩ := hrel
    cases j with
    | zero =>
      obtain rfl : p = 1 := by rw [← hp]; rfl
      have e := isq_eq r1 r2 r3
      go_wp2
      go_ret
      refine ⟨ret_int ?_, rfl⟩
      first | exact e.symm | rfl
    | succ m =>
      have hk : ((m + 1 : Nat) : Int) - 1 = (m : Int) := by omega
      rw [hk]
      have hR : R ≤ 134217728 := by
        rcases (show R ≤ 134217728 ∨ 134217729 ≤ R from by omega) with k | k
        · exact k
        · have := sq_mono (by decide) k
          omega
      obtain ⟨q, hq⟩ : ∃ q : Nat, 2 ^ m = q := ⟨_, rfl⟩
      have hq0 : 0 < q := by rw [← hq]; exact Nat.two_pow_pos m
      have hq1 : q ≤ 2147483648 := by rw [← hq]; exact Nat.pow_le_pow_right (by decide) (show m ≤ 31 by omega)
      have hq2 : (2 : Int) ^ m = (q : Int) := by rw [← hq]; exact_mod_cast rfl
      have hp2 : p = 2 * (q : Int) := by rw [← hp, Int.pow_succ, hq2]; omega
      have w1 : wrap64 (q : Int) = q := by unfold wrap64; omega
      subst hp2
      obtain ⟨S, hS⟩ : ∃ S, R + (q : Int) = S := ⟨_, rfl⟩
      have hS2 : R + 2 * (q : Int) = S + q := by omega
      rw [hS2] at r3
      by_cases c1 : S ≤ 3037000499
      · have c2 := sq_mono (by omega : 0 ≤ S) c1
        have c3 : 0 ≤ S * S := Int.mul_nonneg (by omega) (by omega)
        obtain ⟨T, hT⟩ : ∃ T, S * S = T := ⟨_, rfl⟩
        rw [hT] at c2 c3
        go_wp2
        · go_round
          case rel => exact ⟨S, q, m, rfl, rfl, by omega, hq2, by omega, by omega, r3⟩
          case measure => first | (simp [intOf]; done) | (simp [intOf]; omega)
        · go_round
          case rel => exact ⟨R, q, m, rfl, rfl, by omega, hq2, r1, r2, by rw [hS, hT]; omega⟩
          case measure => first | (simp [intOf]; done) | (simp [intOf]; omega)
      · have c2 := sq_mono (by decide : (0:Int) ≤ 3037000500) (by omega : 3037000500 ≤ S)
        go_wp2
        go_round
        case rel => exact ⟨R, q, m, rfl, rfl, by omega, hq2, r1, r2, by rw [hS]; omega⟩
        case measure => first | (simp [intOf]; done) | (simp [intOf]; omega)

theorem checked_any' (lo hi : Int) (w : World) (v : Int × Int × Int) (h : (⟨v.1, v.2.1, v.2.2⟩ : R) = checkedR lo hi) :
    Calls Try.prog 71 #[.int .i64 lo, .int .i64 hi] w fun e w' => e = .returned (.tuple #[iv v.1 v.2.1, .int .i64 v.2.2]) ∧ Below w.heap.size w w' := by
  refine (checked_any lo hi w).mono ?_
  rintro e w1 ⟨rfl, hb⟩
  exact ⟨by rw [← h], hb⟩
theorem rup_ge {a b : Int} (h : a ≤ b) : isq (a * 16777216) ≤ rup b := by
  have m := isq_mono (show a * 16777216 ≤ b * 16777216 by omega)
  unfold rup
  split <;> omega
theorem rup_le {b : Int} (h : 0 ≤ b) (h1 : b ≤ 1073741824) : rup b ≤ 134217729 := by
  have := (isq_sq b h h1).2.1
  unfold rup
  split <;> omega

theorem rroot_eq (n A : Int) (w : World) (h0 : 0 ≤ n) (h1 : n ≤ 18014398509481984) (h : isq n = A) :
    Calls Try.prog 85 #[.int .i64 n] w fun e w' => e = .returned (.int .i64 A) ∧ w = w' := by
  subst h
  exact rroot_any n w h0 h1
set_option maxRecDepth 100000 in
theorem rsqrt_any (a b : Int) (w : World) :
    Calls Try.prog 57 #[iv a b] w fun e w' => e = retR (sqrtR a b) ∧ Below w.heap.size w w' := by
  cases h1 : vB a b
  · have e1 : sqrtR a b = ⟨0, 0, 1⟩ := if_neg (by rw [h1]; decide)
    rw [e1]
    clear e1
    go_enter Try.func57, Try.ntmps57
    go_wp2_with (first | (go_at_call 23; refine (rvalid_any _ _ _).mono ?_; rintro e w1 ⟨rfl, rfl⟩))
    exact bodyPost_ret (v := .tuple #[iv 0 0, .int .i64 1]) (by simp [results, Try.results57, go_sem]) rfl ⟨rfl, (by repeat (first | exact Below.refl _ _ | refine Below.drew ?_ | refine below_drewN ?_ _ | refine Below.setCell ?_ (by first | omega | (simp <;> omega)) _ | refine Below.alloc ?_ (by first | omega | (simp <;> omega)) _))⟩
  · obtain ⟨q1, q2, q3⟩ := vB_iff.1 h1
    by_cases h2 : a < 0
    · have e1 : sqrtR a b = ⟨0, 0, 2⟩ := (if_pos h1).trans (if_pos h2)
      rw [e1]
      clear e1
      go_enter Try.func57, Try.ntmps57
      go_wp2_with (first | (go_at_call 23; refine (rvalid_any _ _ _).mono ?_; rintro e w1 ⟨rfl, rfl⟩))
      exact bodyPost_ret (v := .tuple #[iv 0 0, .int .i64 2]) (by simp [results, Try.results57, go_sem]) rfl ⟨rfl, (by repeat (first | exact Below.refl _ _ | refine Below.drew ?_ | refine below_drewN ?_ _ | refine Below.setCell ?_ (by first | omega | (simp <;> omega)) _ | refine Below.alloc ?_ (by first | omega | (simp <;> omega)) _))⟩
    · have e1 : sqrtR a b = ⟨isq (a * 16777216), rup b, 0⟩ := (if_pos h1).trans (if_neg h2)
      rw [e1]
      clear e1
      obtain ⟨s1, s2, s3, s4⟩ := isq_sq b (by omega) (by omega)
      have t1 := rup_ge q2
      have t2 := rup_le (show 0 ≤ b by omega) q3
      have t3 := isq_nonneg (a * 16777216)
      have ck : checkedR (isq (a * 16777216)) (rup b) = ⟨isq (a * 16777216), rup b, 0⟩ := if_pos (vB_iff.2 ⟨by omega, t1, by omega⟩)
      unfold rup at t1 t2 ck ⊢
      obtain ⟨A, hA⟩ : ∃ A, isq (a * 16777216) = A := ⟨_, rfl⟩
      obtain ⟨B, hB⟩ : ∃ B, isq (b * 16777216) = B := ⟨_, rfl⟩
      rw [hA, hB] at ck t1 ⊢
      rw [hB] at s1 s2 s3 s4 t2
      have HA := Lib.hid hA
      have HB := Lib.hid hB
      clear hA hB
      by_cases h3 : B * B = b * 16777216
      · rw [if_pos h3] at ck ⊢
        have CK := Lib.hid ck
        have i1 : IntKind.i64.wrap (B + 1) = B + 1 := IntWalk.i64_in _ (by omega)
        clear ck
        go_enter Try.func57, Try.ntmps57
        go_wp2_with (go_at_call 23; refine (rvalid_any _ _ _).mono ?_; rintro e w1 ⟨rfl, rfl⟩)
        go_quiet ((go_at_call 85; first | exact quiet_same (rroot_eq _ _ _ (by omega) (by omega) HA.out) | exact quiet_same (rroot_eq _ _ _ (by omega) (by omega) HB.out)))
        go_wp2_with fail
        refine (checked_any' _ _ _ (A, B, 0) CK.out.symm).mono ?_
        rintro e w2 ⟨rfl, hb2⟩
        obtain ⟨hc2, hf2⟩ := bcell hb2
        have hz2 := hb2.size
        try simp at hz2
        have hs2_0 : w.heap.size < w2.heap.size := by omega
        have hs2_1 : w.heap.size + 1 < w2.heap.size := by omega
        have hw2 : Below w.heap.size w w2 := Below.trans (by repeat (first | exact Below.refl _ _ | refine Below.drew ?_ | refine below_drewN ?_ _ | refine Below.setCell ?_ (by first | omega | (simp <;> omega)) _ | refine Below.alloc ?_ (by first | omega | (simp <;> omega)) _)) (hb2.mono (by first | omega | (simp <;> omega)))
        clear hb2 hz2
        go_wp2_with fail
        exact bodyPost_ret (v := .tuple #[iv A (B), .int .i64 0]) (by simp [results, Try.results57, go_sem, *]) rfl ⟨rfl, by repeat (first | exact hw2 | refine Below.drew ?_ | refine below_drewN ?_ _ | refine Below.setCell ?_ (by first | omega | (simp <;> omega)) _ | refine Below.alloc ?_ (by first | omega | (simp <;> omega)) _)⟩
      · rw [if_neg h3] at ck ⊢
        have CK := Lib.hid ck
        have i1 : IntKind.i64.wrap (B + 1) = B + 1 := IntWalk.i64_in _ (by omega)
        clear ck
        go_enter Try.func57, Try.ntmps57
        go_wp2_with (go_at_call 23; refine (rvalid_any _ _ _).mono ?_; rintro e w1 ⟨rfl, rfl⟩)
        go_quiet ((go_at_call 85; first | exact quiet_same (rroot_eq _ _ _ (by omega) (by omega) HA.out) | exact quiet_same (rroot_eq _ _ _ (by omega) (by omega) HB.out)))
        go_wp2_with fail
        refine (checked_any' _ _ _ (A, B + 1, 0) CK.out.symm).mono ?_
        rintro e w2 ⟨rfl, hb2⟩
        obtain ⟨hc2, hf2⟩ := bcell hb2
        have hz2 := hb2.size
        try simp at hz2
        have hs2_0 : w.heap.size < w2.heap.size := by omega
        have hs2_1 : w.heap.size + 1 < w2.heap.size := by omega
        have hw2 : Below w.heap.size w w2 := Below.trans (by repeat (first | exact Below.refl _ _ | refine Below.drew ?_ | refine below_drewN ?_ _ | refine Below.setCell ?_ (by first | omega | (simp <;> omega)) _ | refine Below.alloc ?_ (by first | omega | (simp <;> omega)) _)) (hb2.mono (by first | omega | (simp <;> omega)))
        clear hb2 hz2
        go_wp2_with fail
        exact bodyPost_ret (v := .tuple #[iv A (B + 1), .int .i64 0]) (by simp [results, Try.results57, go_sem, *]) rfl ⟨rfl, by repeat (first | exact hw2 | refine Below.drew ?_ | refine below_drewN ?_ _ | refine Below.setCell ?_ (by first | omega | (simp <;> omega)) _ | refine Below.alloc ?_ (by first | omega | (simp <;> omega)) _)⟩
end Go.Proofs.Ytjppcndhaejfpaa.Iv
