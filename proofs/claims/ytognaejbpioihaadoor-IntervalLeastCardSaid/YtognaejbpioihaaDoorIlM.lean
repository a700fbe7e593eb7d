/- Plain facts: each end of a product or a square is less than one unit away from a product of ends, or 0; and the law's helper near. -/
import Derived.Test.YtognaejbpioihaaDoorIcM
import Derived.Test.YtognaejbpioihaaDoorIv3
namespace Go.Proofs.YtognaejbpioihaaDoor.Iv
open Go.RowKit

/-- less than one unit away, on the side that is asked for -/
def hit (u : Int) (above : Bool) (x : Int) : Prop := if above = true then 0 ≤ -(x - u * 16777216) ∧ -(x - u * 16777216) < 16777216 else 0 ≤ x - u * 16777216 ∧ x - u * 16777216 < 16777216

theorem ints4 {w : World} {g : Nat} (x y z u : Int) (hg : g = w.heap.size) : IntsAt (w.alloc (.cells #[.int .i64 x, .int .i64 y, .int .i64 z, .int .i64 u] 3)) (some ⟨g, 0, none⟩) [x, y, z, u] := by
  subst hg
  intro _
  refine ⟨_, _, rfl, by simp, fun i hi => ?_⟩
  have : i = 0 ∨ i = 1 ∨ i = 2 ∨ i = 3 := by simp at hi; omega
  rcases this with rfl | rfl | rfl | rfl <;> simp [go_sem]
theorem ints3' {w : World} {g : Nat} (x y z : Int) (hg : g = w.heap.size) : IntsAt (w.alloc (.cells #[.int .i64 x, .int .i64 y, .int .i64 z] 3)) (some ⟨g, 0, none⟩) [x, y, z] := by
  subst hg
  intro _
  refine ⟨_, _, rfl, by simp, fun i hi => ?_⟩
  have : i = 0 ∨ i = 1 ∨ i = 2 := by simp at hi; omega
  rcases this with rfl | rfl | rfl <;> simp [go_sem]
theorem ints2 {w : World} {g : Nat} (x y : Int) (hg : g = w.heap.size) : IntsAt (w.alloc (.cells #[.int .i64 x, .int .i64 y] 3)) (some ⟨g, 0, none⟩) [x, y] := by
  subst hg
  intro _
  refine ⟨_, _, rfl, by simp, fun i hi => ?_⟩
  have : i = 0 ∨ i = 1 := by simp at hi; omega
  rcases this with rfl | rfl <;> simp [go_sem]

/-- the integers of a list are small enough -/
def Small (L : List Int) : Prop := ∀ i, i < L.length → -1152921504606846976 ≤ L[i]?.getD 0 ∧ L[i]?.getD 0 ≤ 1152921504606846976
set_option maxRecDepth 100000 in
theorem near_any (u : Int) (above : Bool) (ao : Option Addr) (n cap : Nat) (L : List Int) (w : World) (hn : n = L.length) (hm : n ≤ 20) (hL : IntsAt w ao L) (h1 : -1073741824 ≤ u) (h2 : u ≤ 1073741824) (hs : Small L) (hx : ∃ k, k < L.length ∧ hit u above (L[k]?.getD 0)) :
    Calls Tryd.prog 30 #[.int .i64 u, .int .i64 16777216, .bool above, .slice ao n cap] w fun e w' => e = .returned (.bool true) ∧ w = w' := by
  subst hn
  go_enter Tryd.func30, Tryd.ntmps30
  go_wp2
  go_loop [9, 10] (fun i _ => ∃ k : Nat, k ≤ L.length ∧ i = .int .i64 k ∧ ∀ j, j < k → ¬ hit u above (L[j]?.getD 0)) (fun i _ => L.length - (intOf i).toNat)
  case atStart => exact ⟨0, Nat.zero_le _, rfl, fun j hj => absurd hj (by omega)⟩
  case round =>
    obtain ⟨k, hk, rfl, hno⟩ := hrel
    by_cases hlt : k < L.length
    · obtain ⟨b, off, rfl, hb1, hc⟩ := hL (by omega)
      have g0 := hc k hlt
      have g1 := hs k hlt
      obtain ⟨x, hx0⟩ : ∃ x, L[k]?.getD 0 = x := ⟨_, rfl⟩
      rw [hx0] at g0 g1
      have H0 := Lib.hid hx0
      have HN := Lib.hid hno
      clear hx0 hno hc hs hx
      obtain ⟨y, hy⟩ : ∃ y, u * 16777216 = y := ⟨_, rfl⟩
      have i1 : IntKind.i64.wrap (u * 16777216) = u * 16777216 := IntWalk.i64_in _ (by omega)
      by_cases hh : hit u above x
      · cases above
        · have hh' : 0 ≤ x - u * 16777216 ∧ x - u * 16777216 < 16777216 := hh
          go_wp2
          go_ret
          exact ⟨rfl, rfl⟩
        · have hh' : 0 ≤ -(x - u * 16777216) ∧ -(x - u * 16777216) < 16777216 := hh
          go_wp2
          go_ret
          exact ⟨rfl, rfl⟩
      · have HH := Lib.hid hh
        have next : ∀ j, j < k + 1 → ¬ hit u above (L[j]?.getD 0) := by
          intro j hj
          by_cases hjk : j < k
          · exact HN.out j hjk
          · obtain rfl : j = k := by omega
            rw [H0.out]
            exact HH.out
        have NX := Lib.hid next
        clear next
        cases above
        · have hh' : ¬ (0 ≤ x - u * 16777216 ∧ x - u * 16777216 < 16777216) := hh
          clear hh
          by_cases h0 : 0 ≤ x - u * 16777216
          · have h3 : 16777216 ≤ x - u * 16777216 := by omega
            clear hh'
            go_wp2
            go_round
            case rel => exact ⟨k + 1, by omega, by go_num, NX.out⟩
            case measure => simp [intOf]; omega
          · have h3 : x - u * 16777216 < 0 := by omega
            clear hh' h0
            go_wp2
            go_round
            case rel => exact ⟨k + 1, by omega, by go_num, NX.out⟩
            case measure => simp [intOf]; omega
        · have hh' : ¬ (0 ≤ -(x - u * 16777216) ∧ -(x - u * 16777216) < 16777216) := hh
          clear hh
          by_cases h0 : 0 ≤ -(x - u * 16777216)
          · have h3 : 16777216 ≤ -(x - u * 16777216) := by omega
            clear hh'
            go_wp2
            go_round
            case rel => exact ⟨k + 1, by omega, by go_num, NX.out⟩
            case measure => simp [intOf]; omega
          · have h3 : -(x - u * 16777216) < 0 := by omega
            clear hh' h0
            go_wp2
            go_round
            case rel => exact ⟨k + 1, by omega, by go_num, NX.out⟩
            case measure => simp [intOf]; omega
    · exfalso
      obtain ⟨j, hj, hh⟩ := hx
      exact hno j (by omega) hh

theorem hit_fl {n : Int} : hit (fl n) false n := by
  have := fl_le n
  have := fl_gt n
  exact ⟨by omega, by omega⟩
theorem hit_ce {n : Int} : hit (ce n) true n := by
  have := ce_ge n
  have := ce_lt n
  exact ⟨by omega, by omega⟩
theorem mul_hit {a b c d p q : Int} (h : mulR a b c d = ⟨p, q, 0⟩) :
    (∃ k, k < [a * c, a * d, b * c, b * d].length ∧ hit p false ([a * c, a * d, b * c, b * d][k]?.getD 0)) ∧ (∃ k, k < [a * c, a * d, b * c, b * d].length ∧ hit q true ([a * c, a * d, b * c, b * d][k]?.getD 0)) ∧ -1073741824 ≤ p ∧ p ≤ 1073741824 ∧ -1073741824 ≤ q ∧ q ≤ 1073741824 := by
  unfold mulR at h
  split at h
  · obtain ⟨hp, hq, k1, k2⟩ := within_ok h
    have l := fl_le_ce (min4_le_max4 (a * c) (a * d) (b * c) (b * d))
    rw [← hp, ← hq] at l
    refine ⟨?_, ?_, k1, by omega, by omega, k2⟩
    · rw [hp]
      have e : min4 (a * c) (a * d) (b * c) (b * d) = a * c ∨ min4 (a * c) (a * d) (b * c) (b * d) = a * d ∨ min4 (a * c) (a * d) (b * c) (b * d) = b * c ∨ min4 (a * c) (a * d) (b * c) (b * d) = b * d := by unfold min4; omega
      rcases e with e | e | e | e <;> rw [e]
      · exact ⟨0, by simp, hit_fl⟩
      · exact ⟨1, by simp, hit_fl⟩
      · exact ⟨2, by simp, hit_fl⟩
      · exact ⟨3, by simp, hit_fl⟩
    · rw [hq]
      have e : max4 (a * c) (a * d) (b * c) (b * d) = a * c ∨ max4 (a * c) (a * d) (b * c) (b * d) = a * d ∨ max4 (a * c) (a * d) (b * c) (b * d) = b * c ∨ max4 (a * c) (a * d) (b * c) (b * d) = b * d := by unfold max4; omega
      rcases e with e | e | e | e <;> rw [e]
      · exact ⟨0, by simp, hit_ce⟩
      · exact ⟨1, by simp, hit_ce⟩
      · exact ⟨2, by simp, hit_ce⟩
      · exact ⟨3, by simp, hit_ce⟩
  · injection h with _ _ h; exact absurd h (by decide)
theorem sq_hit {a b p q : Int} (h : sqR a b = ⟨p, q, 0⟩) (v : vB a b = true) :
    (∃ k, k < [a * a, b * b, 0].length ∧ hit p false ([a * a, b * b, 0][k]?.getD 0)) ∧ (∃ k, k < [a * a, b * b].length ∧ hit q true ([a * a, b * b][k]?.getD 0)) ∧ -1073741824 ≤ p ∧ p ≤ 1073741824 ∧ -1073741824 ≤ q ∧ q ≤ 1073741824 := by
  unfold sqR at h
  rw [if_pos v] at h
  obtain ⟨_, hab, _⟩ := vB_iff.1 v
  obtain ⟨hp, hq, k1, k2⟩ := within_ok h
  have i := sq_in (Int.le_refl a) hab
  have l : p ≤ q := by rw [hp, hq]; exact fl_le_ce (by omega)
  refine ⟨?_, ?_, k1, by omega, by omega, k2⟩
  · rw [hp]
    have e : least2 a b = a * a ∨ least2 a b = b * b ∨ least2 a b = 0 := by
      unfold least2
      split
      · exact .inr (.inr rfl)
      · omega
    rcases e with e | e | e <;> rw [e]
    · exact ⟨0, by simp, hit_fl⟩
    · exact ⟨1, by simp, hit_fl⟩
    · exact ⟨2, by simp, hit_fl⟩
  · rw [hq]
    have e : max (a * a) (b * b) = a * a ∨ max (a * a) (b * b) = b * b := by omega
    rcases e with e | e <;> rw [e]
    · exact ⟨0, by simp, hit_ce⟩
    · exact ⟨1, by simp, hit_ce⟩
theorem small4 {x y z u : Int} (h1 : -1152921504606846976 ≤ x ∧ x ≤ 1152921504606846976) (h2 : -1152921504606846976 ≤ y ∧ y ≤ 1152921504606846976) (h3 : -1152921504606846976 ≤ z ∧ z ≤ 1152921504606846976) (h4 : -1152921504606846976 ≤ u ∧ u ≤ 1152921504606846976) : Small [x, y, z, u] := by
  intro i hi
  have : i = 0 ∨ i = 1 ∨ i = 2 ∨ i = 3 := by simp at hi; omega
  rcases this with rfl | rfl | rfl | rfl <;> simp <;> omega
theorem small3 {x y z : Int} (h1 : -1152921504606846976 ≤ x ∧ x ≤ 1152921504606846976) (h2 : -1152921504606846976 ≤ y ∧ y ≤ 1152921504606846976) (h3 : -1152921504606846976 ≤ z ∧ z ≤ 1152921504606846976) : Small [x, y, z] := by
  intro i hi
  have : i = 0 ∨ i = 1 ∨ i = 2 := by simp at hi; omega
  rcases this with rfl | rfl | rfl <;> simp <;> omega
theorem small2 {x y : Int} (h1 : -1152921504606846976 ≤ x ∧ x ≤ 1152921504606846976) (h2 : -1152921504606846976 ≤ y ∧ y ≤ 1152921504606846976) : Small [x, y] := by
  intro i hi
  have : i = 0 ∨ i = 1 := by simp at hi; omega
  rcases this with rfl | rfl <;> simp <;> omega
theorem sqrt_near {a b p q e : Int} (h : sqrtR a b = ⟨p, q, e⟩) (v : vB a b = true) :
    (a < 0 ∧ e = 2) ∨ (0 ≤ a ∧ e = 0 ∧ 0 ≤ p ∧ p ≤ 134217728 ∧ a * 16777216 < (p + 1) * (p + 1) ∧ (p + 1) * (p + 1) ≤ 18014398777917441 ∧ 0 ≤ q ∧ q ≤ 134217729 ∧ (q = 0 ∨ (1 ≤ q ∧ (q - 1) * (q - 1) < b * 16777216 ∧ 0 ≤ (q - 1) * (q - 1)))) := by
  obtain ⟨_, hab, hb⟩ := vB_iff.1 v
  by_cases h0 : a < 0
  · left
    rw [show sqrtR a b = ⟨0, 0, 2⟩ from (if_pos v).trans (if_pos h0)] at h
    injection h with _ _ h
    exact ⟨h0, h.symm⟩
  · right
    rw [show sqrtR a b = ⟨isq (a * 16777216), rup b, 0⟩ from (if_pos v).trans (if_neg h0)] at h
    injection h with hp hq he
    subst he
    obtain ⟨s1, s2, s3, s4⟩ := isq_sq a (by omega) (by omega)
    have l := isq_lt (show 0 ≤ a * 16777216 by omega)
    have u := rup_le (show 0 ≤ b by omega) hb
    obtain ⟨t1, t2, t3, t4⟩ := isq_sq b (by omega) (by omega)
    rw [hp] at s1 s2 l
    have m := sq_mono (show 0 ≤ p + 1 by omega) (show p + 1 ≤ 134217729 by omega)
    have n : 0 ≤ rup b := by unfold rup; split <;> omega
    refine ⟨by omega, rfl, s1, s2, l, by omega, by omega, by omega, ?_⟩
    rw [← hq]
    unfold rup
    obtain ⟨s, hs⟩ : ∃ s, isq (b * 16777216) = s := ⟨_, rfl⟩
    rw [hs] at t1 t2 t3 t4 ⊢
    split
    · rename_i k
      by_cases z : s = 0
      · exact .inl z
      · right
        have e : (s - 1) * (s - 1) = s * s - 2 * s + 1 := by rw [Int.sub_mul, Int.mul_sub]; omega
        have z : 0 ≤ (s - 1) * (s - 1) := Int.mul_nonneg (by omega) (by omega)
        exact ⟨by omega, by omega, z⟩
    · right
      have e : (s + 1 - 1) * (s + 1 - 1) = s * s := by rw [Int.add_sub_cancel]
      exact ⟨by omega, by omega, by omega⟩
end Go.Proofs.YtognaejbpioihaaDoor.Iv
