/- Plain facts about closed sets of positions: what rotations, reflections and moved indices do to them. -/
import Derived.Test.YtikbgdbbicnfnaaTr6
namespace Go.Proofs.Ytikbgdbbicnfnaa.Tr

theorem upTo_lt {S : Nat → Bool} {k : Nat} : ∀ x ∈ upTo S k, x < k ∧ S x = true := fun x h => (mem_upTo S k x).1 h
theorem upTo_pairwise (S : Nat → Bool) (k : Nat) : (upTo S k).Pairwise (· < ·) := by
  induction k with
  | zero => exact List.Pairwise.nil
  | succ k ih =>
    unfold upTo
    split
    · rw [List.pairwise_append]
      refine ⟨ih, List.pairwise_singleton _ _, fun a ha b hb => ?_⟩
      rw [List.mem_singleton] at hb
      subst hb
      exact (upTo_lt a ha).1
    · exact ih
theorem upTo_next {S : Nat → Bool} {k n : Nat} (h : n + 1 < (upTo S k).length) : (upTo S k)[n]?.getD 0 < (upTo S k)[n + 1]?.getD 0 := by
  rw [List.getElem?_eq_getElem h, List.getElem?_eq_getElem (show n < (upTo S k).length by omega)]
  exact List.pairwise_iff_getElem.1 (upTo_pairwise S k) n (n + 1) (by omega) h (by omega)
theorem upTo_get {S : Nat → Bool} {k n : Nat} (h : n < (upTo S k).length) : (upTo S k)[n]?.getD 0 < k ∧ S ((upTo S k)[n]?.getD 0) = true := by
  rw [List.getElem?_eq_getElem h]
  exact upTo_lt _ (List.getElem_mem h)

def clAll (order : Nat) : Bool := (List.range 24).all fun i => (List.range 24).all fun q =>
  (!inOrb i (24 / order) true q || (inOrb i (24 / order) true ((q + 24 / order) % 24) && inOrb i (24 / order) true ((24 - q) % 24))) && (!inOrb i (24 / order) false q || inOrb i (24 / order) false ((q + 24 / order) % 24)) &&
  (inOrb i (24 / order) true i && inOrb i (24 / order) false i) &&
  (inOrb ((i + 24 / order) % 24) (24 / order) true q == inOrb i (24 / order) true q && inOrb ((i + 24 / order) % 24) (24 / order) false q == inOrb i (24 / order) false q)
theorem cl1 : clAll 1 = true := by decide +kernel
theorem cl2 : clAll 2 = true := by decide +kernel
theorem cl3 : clAll 3 = true := by decide +kernel
theorem cl4 : clAll 4 = true := by decide +kernel
theorem cl6 : clAll 6 = true := by decide +kernel
theorem cl8 : clAll 8 = true := by decide +kernel
theorem cl12 : clAll 12 = true := by decide +kernel
theorem cl24 : clAll 24 = true := by decide +kernel
theorem cl_all {c : Nat} (h0 : 0 < c) (h : 24 % c = 0) : clAll c = true := by
  rcases orders h0 h with rfl | rfl | rfl | rfl | rfl | rfl | rfl | rfl
  · exact cl1
  · exact cl2
  · exact cl3
  · exact cl4
  · exact cl6
  · exact cl8
  · exact cl12
  · exact cl24
theorem cl_at {c i q : Nat} (h0 : 0 < c) (h : 24 % c = 0) (hi : i < 24) (hq : q < 24) (m : Bool) :
    (inOrb i (24 / c) m q = true → inOrb i (24 / c) m ((q + 24 / c) % 24) = true) ∧ (m = true → inOrb i (24 / c) m q = true → inOrb i (24 / c) m ((24 - q) % 24) = true) ∧ inOrb i (24 / c) m i = true ∧ inOrb ((i + 24 / c) % 24) (24 / c) m q = inOrb i (24 / c) m q := by
  have k := cl_all h0 h
  unfold clAll at k
  have k1 := List.all_eq_true.1 (List.all_eq_true.1 k i (List.mem_range.2 hi)) q (List.mem_range.2 hq)
  simp only [Bool.and_eq_true, Bool.or_eq_true, Bool.not_eq_true', beq_iff_eq] at k1
  obtain ⟨⟨⟨k2, k3⟩, k4, k5⟩, k6, k7⟩ := k1
  cases m
  · refine ⟨fun a => ?_, fun a => (by cases a), k5, k7⟩
    rcases k3 with k3 | k3
    · rw [k3] at a; cases a
    · exact k3
  · refine ⟨fun a => ?_, fun _ a => ?_, k4, k6⟩
    · rcases k2 with k2 | k2
      · rw [k2] at a; cases a
      · exact k2.1
    · rcases k2 with k2 | k2
      · rw [k2] at a; cases a
      · exact k2.2
theorem orb_turns {c q : Nat} (h0 : 0 < c) (h : 24 % c = 0) (hq : q < 24) (m : Bool) (i k : Nat) : inOrb ((i + k * (24 / c)) % 24) (24 / c) m q = inOrb (i % 24) (24 / c) m q := by
  induction k with
  | zero => simp
  | succ k ih =>
    rw [← ih, ← (cl_at h0 h (show (i + k * (24 / c)) % 24 < 24 by omega) hq m).2.2.2]
    congr 1
    rw [Nat.add_mul]
    omega
theorem orb_moved {c q : Nat} (h0 : 0 < c) (h : 24 % c = 0) (hq : q < 24) (m : Bool) (x k : Int) : inOrb ((x + k * ((24 / c : Nat) : Int)) % 24).toNat (24 / c) m q = inOrb (x % 24).toNat (24 / c) m q := by
  have hc : (24 / c) * c = 24 := Nat.div_mul_cancel (Nat.dvd_of_mod_eq_zero h)
  obtain ⟨st, hst⟩ : ∃ st, 24 / c = st := ⟨_, rfl⟩
  obtain ⟨K, hK⟩ : ∃ K : Nat, (k + 24 * (k.natAbs : Int)) = K := Int.eq_ofNat_of_zero_le (by omega)
  obtain ⟨X, hX⟩ : ∃ X : Nat, x % 24 = X := Int.eq_ofNat_of_zero_le (by omega)
  have e := orb_turns h0 h hq m X K
  rw [hst] at e ⊢
  have hX0 : X < 24 := by omega
  rw [Nat.mod_eq_of_lt hX0] at e
  rw [hX, Int.toNat_natCast, ← e]
  congr 1
  have : (x + k * (st : Int)) % 24 = (((X + K * st) % 24 : Nat) : Int) := by
    have e1 : ((X + K * st : Nat) : Int) = X + (k + 24 * (k.natAbs : Int)) * st := by rw [hK]; push_cast; rfl
    have e2 : (k + 24 * (k.natAbs : Int)) * (st : Int) = k * st + 24 * ((k.natAbs : Int) * st) := by rw [Int.add_mul, Int.mul_assoc]
    rw [Int.natCast_emod, e1, e2]
    omega
  rw [this, Int.toNat_natCast]
theorem all_shift {L : List Int} {c n q : Nat} {m : Bool} (h0 : 0 < c) (h : 24 % c = 0) (hq : q < 24) (k : allOrb L (24 / c) m n q = true) : allOrb L (24 / c) m n ((q + 24 / c) % 24) = true := by
  unfold allOrb at k ⊢
  rw [List.any_eq_true] at k ⊢
  obtain ⟨z, h1, h2⟩ := k
  exact ⟨z, h1, (cl_at h0 h (by omega) hq m).1 h2⟩
theorem all_mirror {L : List Int} {c n q : Nat} {m : Bool} (h0 : 0 < c) (h : 24 % c = 0) (hq : q < 24) (hm : m = true) (k : allOrb L (24 / c) m n q = true) : allOrb L (24 / c) m n ((24 - q) % 24) = true := by
  unfold allOrb at k ⊢
  rw [List.any_eq_true] at k ⊢
  obtain ⟨z, h1, h2⟩ := k
  exact ⟨z, h1, (cl_at h0 h (by omega) hq m).2.1 hm h2⟩
theorem all_self {L : List Int} {c i : Nat} {m : Bool} (h0 : 0 < c) (h : 24 % c = 0) (hi : i < L.length) (h1 : 0 ≤ L[i]?.getD 0) (h2 : L[i]?.getD 0 ≤ 23) : allOrb L (24 / c) m L.length (L[i]?.getD 0).toNat = true := by
  unfold allOrb
  rw [List.any_eq_true, List.take_length]
  refine ⟨L[i]?.getD 0, ?_, ?_⟩
  · rw [List.getElem?_eq_getElem hi]
    exact List.getElem_mem hi
  · rw [show L[i]?.getD 0 % 24 = L[i]?.getD 0 from Int.emod_eq_of_lt h1 (by omega)]
    exact (cl_at (q := 0) h0 h (by omega) (by omega) m).2.2.1
theorem all_moved {L : List Int} {c q : Nat} {m : Bool} (k : Int) (h0 : 0 < c) (h : 24 % c = 0) (hq : q < 24) : allOrb (L.map fun x => x + k * ((24 / c : Nat) : Int)) (24 / c) m L.length q = allOrb L (24 / c) m L.length q := by
  unfold allOrb
  rw [List.take_of_length_le (by simp), List.take_length, List.any_map]
  congr 1
  funext x
  exact orb_moved h0 h hq m x k
theorem posL_moved {c : Nat} {m : Bool} {hh : Int} {L : List Int} (k : Int) (h0 : 0 < c) (h : 24 % c = 0) : posL (c : Int) m hh (L.map fun x => x + k * ((24 / c : Nat) : Int)) = posL (c : Int) m hh L := by
  unfold posL
  split
  · split
    · rfl
    · rw [Int.toNat_natCast, List.length_map]
      exact upTo_congr fun q hq => all_moved k h0 h hq
  · rfl
def ordN (j : Nat) : Nat := [1, 2, 3, 4, 6, 8, 12, 24][j]?.getD 1
theorem ordN_ok {j : Nat} (h : j < 8) : 0 < ordN j ∧ ordN j ≤ 24 ∧ 24 % ordN j = 0 ∧ rightB (ordN j : Int) = true ∧ (24 : Int).tdiv (ordN j : Int) = ((24 / ordN j : Nat) : Int) := by
  have : ∀ j : Fin 8, 0 < ordN j.val ∧ ordN j.val ≤ 24 ∧ 24 % ordN j.val = 0 ∧ rightB (ordN j.val : Int) = true ∧ (24 : Int).tdiv (ordN j.val : Int) = ((24 / ordN j.val : Nat) : Int) := by decide
  exact this ⟨j, h⟩
end Go.Proofs.Ytikbgdbbicnfnaa.Tr
