/- Plain facts about orbits on a wheel of 24 positions: what the marks are after a number of rounds. -/
namespace Go.Proofs.Ytikbgdbbicnfnaa.Tr

def setF (S : Nat → Bool) (p : Nat) : Nat → Bool := fun q => if q = p then true else S q
/-- the marks after k rounds -/
def marks (i step : Nat) (m : Bool) (S : Nat → Bool) : Nat → Nat → Bool
  | 0 => S
  | k + 1 => if m = true then setF (setF (marks i step m S k) ((i + step * k) % 24)) ((24 - i + step * k) % 24) else setF (marks i step m S k) ((i + step * k) % 24)
/-- a position is marked in one of k rounds -/
def hitB (i step : Nat) (m : Bool) : Nat → Nat → Bool
  | 0, _ => false
  | k + 1, q => hitB i step m k q || decide (q = (i + step * k) % 24) || (m && decide (q = (24 - i + step * k) % 24))
theorem marks_hit (i step : Nat) (m : Bool) (S : Nat → Bool) (k q : Nat) : marks i step m S k q = (S q || hitB i step m k q) := by
  induction k with
  | zero => simp [marks, hitB]
  | succ k ih =>
    unfold marks hitB
    cases m
    · simp only [Bool.false_eq_true, if_false, setF, Bool.false_and, Bool.or_false, ih]
      by_cases h : q = (i + step * k) % 24
      · simp [h]
      · simp [h]
    · simp only [if_true, setF, Bool.true_and, ih]
      by_cases h1 : q = (24 - i + step * k) % 24
      · simp [h1]
      · by_cases h2 : q = (i + step * k) % 24
        · simp [h2]
        · simp [h1, h2]
/-- a position is in the orbit of an index -/
def inOrb (i step : Nat) (m : Bool) (q : Nat) : Bool := (q + 24 - i) % step == 0 || (m && (q + i) % step == 0)
def okAll (order : Nat) : Bool := (List.range 24).all fun i => (List.range 24).all fun q => hitB i (24 / order) true order q == inOrb i (24 / order) true q && hitB i (24 / order) false order q == inOrb i (24 / order) false q
theorem ok1 : okAll 1 = true := by decide +kernel
theorem ok2 : okAll 2 = true := by decide +kernel
theorem ok3 : okAll 3 = true := by decide +kernel
theorem ok4 : okAll 4 = true := by decide +kernel
theorem ok6 : okAll 6 = true := by decide +kernel
theorem ok8 : okAll 8 = true := by decide +kernel
theorem ok12 : okAll 12 = true := by decide +kernel
theorem ok24 : okAll 24 = true := by decide +kernel
theorem orders {o : Nat} (h0 : 0 < o) (h : 24 % o = 0) : o = 1 ∨ o = 2 ∨ o = 3 ∨ o = 4 ∨ o = 6 ∨ o = 8 ∨ o = 12 ∨ o = 24 := by
  have l : o ≤ 24 := Nat.le_of_dvd (by decide) (Nat.dvd_of_mod_eq_zero h)
  have key : ∀ o : Fin 25, 0 < o.val → 24 % o.val = 0 → o.val = 1 ∨ o.val = 2 ∨ o.val = 3 ∨ o.val = 4 ∨ o.val = 6 ∨ o.val = 8 ∨ o.val = 12 ∨ o.val = 24 := by decide
  exact key ⟨o, by omega⟩ h0 h
theorem hit_orb {o i q : Nat} (m : Bool) (h0 : 0 < o) (h : 24 % o = 0) (hi : i < 24) (hq : q < 24) : hitB i (24 / o) m o q = inOrb i (24 / o) m q := by
  have k : okAll o = true := by
    rcases orders h0 h with rfl | rfl | rfl | rfl | rfl | rfl | rfl | rfl
    · exact ok1
    · exact ok2
    · exact ok3
    · exact ok4
    · exact ok6
    · exact ok8
    · exact ok12
    · exact ok24
  unfold okAll at k
  have k1 := List.all_eq_true.1 (List.all_eq_true.1 k i (List.mem_range.2 hi)) q (List.mem_range.2 hq)
  simp only [Bool.and_eq_true, beq_iff_eq] at k1
  cases m
  · exact k1.2
  · exact k1.1
/-- an index on the wheel -/
def onWheel (n : Int) : Int := (n.tmod 24 + 24).tmod 24
theorem onWheel_eq (n : Int) : onWheel n = n % 24 := by
  unfold onWheel
  have h : n.tmod 24 = n % 24 ∨ n.tmod 24 = n % 24 - 24 := by
    rcases Int.le_total 0 n with h | h
    · exact .inl (Int.tmod_eq_emod_of_nonneg h)
    · rw [Int.tmod_eq_emod]
      split
      · omega
      · omega
  have b := Int.emod_nonneg n (show (24 : Int) ≠ 0 by decide)
  have l := Int.emod_lt_of_pos n (show (0 : Int) < 24 by decide)
  have e : (n.tmod 24 + 24).tmod 24 = (n.tmod 24 + 24) % 24 := Int.tmod_eq_emod_of_nonneg (by omega)
  rw [e]
  omega
/-- the positions below k that are marked -/
def upTo (S : Nat → Bool) : Nat → List Nat
  | 0 => []
  | k + 1 => if S k = true then upTo S k ++ [k] else upTo S k
end Go.Proofs.Ytikbgdbbicnfnaa.Tr
