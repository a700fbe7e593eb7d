/- Contracts of orbits: rightOrder and Orbit of package tier, and the reference's divides, mod, Orbit and SameInts. -/
import Derived.Test.YtikbgdbbicnfnaaTr1
namespace Go.Proofs.Ytikbgdbbicnfnaa.Tr
open Go.RowKit

theorem ret_bool {a b : Bool} (h : a = b) : Ending.returned (.bool a) = .returned (.bool b) := by rw [h]
theorem ret_int {k : IntKind} {a b : Int} (h : a = b) : Ending.returned (.int k a) = .returned (.int k b) := by rw [h]
def rightB (o : Int) : Bool := decide (0 < o ∧ (24 : Int).tmod o = 0)
theorem right_nat {o : Int} (h : rightB o = true) : ∃ n : Nat, o = n ∧ 0 < n ∧ n ≤ 24 ∧ 24 % n = 0 := by
  simp only [rightB, decide_eq_true_eq] at h
  obtain ⟨n, rfl⟩ := Int.eq_ofNat_of_zero_le (show 0 ≤ o by omega)
  have e : (24 : Int).tmod (n : Int) = ((24 % n : Nat) : Int) := by rw [Int.tmod_eq_emod_of_nonneg (by decide)]; exact_mod_cast rfl
  have m : 24 % n = 0 := by have := h.2; rw [e] at this; exact_mod_cast this
  exact ⟨n, rfl, by omega, Nat.le_of_dvd (by decide) (Nat.dvd_of_mod_eq_zero m), m⟩
theorem rem_of {o : Int} (h : 0 < o) : ∃ r : Nat, (24 : Int).tmod o = (r : Int) ∧ r ≤ 24 ∧ (24 < o → r = 24) := by
  obtain ⟨n, rfl⟩ := Int.eq_ofNat_of_zero_le (show 0 ≤ o by omega)
  refine ⟨24 % n, ?_, Nat.mod_le _ _, fun k => Nat.mod_eq_of_lt (by omega)⟩
  rw [Int.tmod_eq_emod_of_nonneg (by decide)]
  exact_mod_cast rfl
theorem right_any (o : Int) (w : World) :
    Calls Try.prog 34 #[.int .i64 o] w fun e w' => e = .returned (.bool (rightB o)) ∧ w = w' := by
  unfold rightB
  by_cases h0 : 0 < o
  · have z : (o == 0) = false := by simp; omega
    obtain ⟨r, hr, hr1, _⟩ := rem_of h0
    rw [hr]
    go_enter Try.func34, Try.ntmps34
    go_wp2
    all_goals go_ret
    all_goals refine ⟨ret_bool ?_, rfl⟩
    all_goals first | (simp; done) | (simp [h0]; done) | (simp [h0]; rw [Bool.eq_iff_iff]; simp; done)
  · have d : decide (0 < o ∧ (24 : Int).tmod o = 0) = false := decide_eq_false (fun h => h0 h.1)
    rw [d]
    go_enter Try.func34, Try.ntmps34
    go_wp2
    all_goals go_ret
    all_goals exact ⟨rfl, rfl⟩
theorem divides_any (o : Int) (w : World) :
    Calls Try.prog 37 #[.int .i64 o] w fun e w' => e = .returned (.bool (rightB o)) ∧ w = w' := by
  unfold rightB
  by_cases h0 : 0 < o
  · have z : (o == 0) = false := by simp; omega
    obtain ⟨r, hr, hr1, hr2⟩ := rem_of h0
    rw [hr]
    by_cases h24 : o ≤ 24
    · go_enter Try.func37, Try.ntmps37
      go_wp2
      all_goals go_ret
      all_goals refine ⟨ret_bool ?_, rfl⟩
      all_goals first | (simp; done) | (simp [h0]; done) | (simp [h0]; rw [Bool.eq_iff_iff]; simp; done)
    · have hr3 := hr2 (by omega)
      subst hr3
      go_enter Try.func37, Try.ntmps37
      go_wp2
      all_goals go_ret
      all_goals refine ⟨ret_bool ?_, rfl⟩
      all_goals first | (simp; done) | (simp [h0]; done) | (simp [h0]; rw [Bool.eq_iff_iff]; simp; done)
  · have d : decide (0 < o ∧ (24 : Int).tmod o = 0) = false := decide_eq_false (fun h => h0 h.1)
    rw [d]
    go_enter Try.func37, Try.ntmps37
    go_wp2
    all_goals go_ret
    all_goals exact ⟨rfl, rfl⟩
theorem mod_any (n : Int) (w : World) :
    Calls Try.prog 38 #[.int .i64 n] w fun e w' => e = .returned (.int .i64 (n % 24)) ∧ w = w' := by
  have b := Int.emod_nonneg n (show (24 : Int) ≠ 0 by decide)
  have l := Int.emod_lt_of_pos n (show (0 : Int) < 24 by decide)
  have t : n.tmod 24 = n % 24 ∨ (n.tmod 24 = n % 24 - 24 ∧ 0 < n % 24) := by
    rcases Int.le_total 0 n with h | h
    · exact .inl (Int.tmod_eq_emod_of_nonneg h)
    · rw [Int.tmod_eq_emod]
      split
      · omega
      · rename_i k
        have : n % 24 ≠ 0 := fun e => k (.inr (Int.dvd_of_emod_eq_zero e))
        omega
  obtain ⟨r, hr⟩ : ∃ r, n % 24 = r := ⟨_, rfl⟩
  rw [hr] at b l t ⊢
  rcases t with t | ⟨t, t'⟩
  · go_enter Try.func38, Try.ntmps38
    go_wp2
    go_ret
    exact ⟨rfl, rfl⟩
  · go_enter Try.func38, Try.ntmps38
    go_wp2
    go_ret
    exact ⟨ret_int (by omega), rfl⟩

theorem upTo_congr {S T : Nat → Bool} {k : Nat} (h : ∀ q, q < k → S q = T q) : upTo S k = upTo T k := by
  induction k with
  | zero => rfl
  | succ k ih => rw [upTo, upTo, ih (fun q hq => h q (by omega)), h k (by omega)]
/-- the orbit of an index -/
def orbL (o : Int) (m : Bool) (n : Int) : List Nat := if rightB o = true then upTo (inOrb (n % 24).toNat (24 / o.toNat) m) 24 else []
theorem own_base {w : World} {B B' : Nat} {e : TypeId} {size n : Nat} {v : Value} {xs : List Value} (h : w.ownsRow B' e size v n xs) (hB : B ≤ B') : w.ownsRow B e size v n xs := by
  obtain ⟨h1, h2⟩ := h
  refine ⟨h1, ?_⟩
  rcases h2 with h2 | ⟨g, cap, cur, a, b, c⟩
  · exact .inl h2
  · exact .inr ⟨g, cap, cur, a, Nat.le_trans hB b, c⟩
theorem flags_new (w : World) : FlagsAt (w.alloc (.cells #[.bool false, .bool false, .bool false, .bool false, .bool false, .bool false, .bool false, .bool false, .bool false, .bool false, .bool false, .bool false, .bool false, .bool false, .bool false, .bool false, .bool false, .bool false, .bool false, .bool false, .bool false, .bool false, .bool false, .bool false] 89)) w.heap.size (fun _ => false) := by
  refine ⟨by simp, fun i hi => ⟨?_, by simp [go_sem]⟩⟩
  rw [World.cell?_alloc_new]
  have : i = 0 ∨ i = 1 ∨ i = 2 ∨ i = 3 ∨ i = 4 ∨ i = 5 ∨ i = 6 ∨ i = 7 ∨ i = 8 ∨ i = 9 ∨ i = 10 ∨ i = 11 ∨ i = 12 ∨ i = 13 ∨ i = 14 ∨ i = 15 ∨ i = 16 ∨ i = 17 ∨ i = 18 ∨ i = 19 ∨ i = 20 ∨ i = 21 ∨ i = 22 ∨ i = 23 := by omega
  rcases this with rfl | rfl | rfl | rfl | rfl | rfl | rfl | rfl | rfl | rfl | rfl | rfl | rfl | rfl | rfl | rfl | rfl | rfl | rfl | rfl | rfl | rfl | rfl | rfl <;> rfl

set_option maxRecDepth 100000 in
theorem orbit_any (o : Int) (m : Bool) (n : Int) (w : World) :
    Calls Try.prog 11 #[.int .i64 o, .bool m, .int .i64 n] w fun e w' => ∃ v, e = .returned v ∧ w'.ownsRow w.heap.size 3 1 v (orbL o m n).length (vals (orbL o m n)) ∧ Below w.heap.size w w' := by
  cases hr : rightB o
  · rw [show orbL o m n = [] from if_neg (by rw [hr]; decide)]
    have HR := Lib.hid hr
    clear hr
    go_enter Try.func11, Try.ntmps11
    go_wp2_with (go_at_call 34; refine (right_any _ _).mono ?_; rintro e w1 ⟨rfl, rfl⟩; rw [HR.out])
    go_ret
    exact ⟨_, rfl, ⟨rfl, .inl ⟨rfl, rfl⟩⟩, Below.refl _ _⟩
  · have HR := Lib.hid hr
    obtain ⟨k, rfl, k0, k1, k2⟩ := right_nat hr
    have HL := Lib.hid (show orbL (k : Int) m n = upTo (marks (n % 24).toNat (24 / k) m (fun _ => false) k) 24 from by
      rw [show orbL (k : Int) m n = upTo (inOrb (n % 24).toNat (24 / (k : Int).toNat) m) 24 from if_pos hr, Int.toNat_natCast]
      refine upTo_congr fun q hq => ?_
      rw [marks_hit, Bool.false_or, hit_orb m k0 k2 (by omega) hq])
    clear hr
    go_enter Try.func11, Try.ntmps11
    go_wp2_with (go_at_call 34; refine (right_any _ _).mono ?_; rintro e w1 ⟨rfl, rfl⟩; rw [HR.out])
    refine (mark_any w.heap.size k m n (fun _ => false) _ (flags_new w) k0 k2).mono ?_
    rintro e w1 ⟨rfl, hfl, hon⟩
    have hb1 := hon.below w.heap.size (Nat.le_refl _)
    have hs1 := hon.size
    clear hon
    go_wp2_with fail
    refine (list_any w.heap.size _ w1 hfl).mono ?_
    rintro e w2 ⟨v, rfl, hown, hb2⟩
    rw [← HL.out] at hown
    go_wp2_with fail
    go_ret
    simp at hs1
    exact ⟨_, rfl, own_base hown (by omega), (((Below.refl _ _).alloc (Nat.le_refl _) _).trans hb1).trans (hb2.mono (by omega))⟩
end Go.Proofs.Ytikbgdbbicnfnaa.Tr
