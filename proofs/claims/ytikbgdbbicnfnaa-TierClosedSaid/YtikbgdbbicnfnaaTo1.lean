/- TierOrbit: orbits and positions are what the reference says, and orbits have as many positions as the order, or perhaps twice as many with mirrors. -/
import Derived.Test.YtikbgdbbicnfnaaTr6
import Derived.Deep.RegionHeld3
import Derived.Deep.MidRow
import Derived.Deep.CutRange
import Derived.Deep.DeepCutAuto
import Derived.Tactics2
namespace Go.Proofs.Ytikbgdbbicnfnaa.Tr
open Go.RowKit

def lenOk (o : Nat) : Bool := (List.range 24).all fun i => (upTo (inOrb i (24 / o) false) 24).length == o && ((upTo (inOrb i (24 / o) true) 24).length == o || (upTo (inOrb i (24 / o) true) 24).length == 2 * o)
theorem l1 : lenOk 1 = true := by decide +kernel
theorem l2 : lenOk 2 = true := by decide +kernel
theorem l3 : lenOk 3 = true := by decide +kernel
theorem l4 : lenOk 4 = true := by decide +kernel
theorem l6 : lenOk 6 = true := by decide +kernel
theorem l8 : lenOk 8 = true := by decide +kernel
theorem l12 : lenOk 12 = true := by decide +kernel
theorem l24 : lenOk 24 = true := by decide +kernel
theorem orb_count (o : Int) (m : Bool) (n : Int) : (orbL o m n).length = 0 ∨ ((orbL o m n).length ≠ 0 ∧ ((orbL o m n).length : Int) = o) ∨ ((orbL o m n).length ≠ 0 ∧ ((orbL o m n).length : Int) ≠ o ∧ m = true ∧ ((orbL o m n).length : Int) = 2 * o ∧ o ≤ 24 ∧ 0 < o) := by
  cases hr : rightB o
  · left
    rw [show orbL o m n = [] from if_neg (by rw [hr]; decide)]
    rfl
  · obtain ⟨c, rfl, k0, k1, k2⟩ := right_nat hr
    obtain ⟨i, hi⟩ : ∃ i : Nat, n % 24 = i := ⟨(n % 24).toNat, by omega⟩
    rw [show orbL (c : Int) m n = upTo (inOrb (n % 24).toNat (24 / (c : Int).toNat) m) 24 from if_pos hr, Int.toNat_natCast, hi, Int.toNat_natCast]
    have k : lenOk c = true := by
      rcases orders k0 k2 with rfl | rfl | rfl | rfl | rfl | rfl | rfl | rfl
      · exact l1
      · exact l2
      · exact l3
      · exact l4
      · exact l6
      · exact l8
      · exact l12
      · exact l24
    have a := List.all_eq_true.1 k i (List.mem_range.2 (by omega))
    simp only [Bool.and_eq_true, Bool.or_eq_true, beq_iff_eq] at a
    obtain ⟨a1, a2⟩ := a
    cases m
    · right; left
      rw [a1]
      exact ⟨by omega, rfl⟩
    · rcases a2 with a2 | a2
      · right; left
        rw [a2]
        exact ⟨by omega, rfl⟩
      · right; right
        rw [a2]
        exact ⟨by omega, by omega, rfl, by omega, by omega, by omega⟩
theorem ints_below {w w' : World} {ao : Option Addr} {L : List Nat} (h : IntsAt w ao L) (hb : Below w.heap.size w w') : IntsAt w' ao L := by
  intro hl
  obtain ⟨b, off, rfl, h1, h2⟩ := h hl
  have := hb.size
  exact ⟨b, off, rfl, by omega, fun i hi => (hb.cell (p := ⟨b, off + i, none⟩) h1).trans (h2 i hi)⟩
theorem pos_len (o : Int) (m : Bool) (h : Int) (L : List Int) : (posL o m h L).length ≤ 24 := by
  unfold posL
  split
  · split
    · decide
    · exact upTo_len _ _
  · exact Nat.zero_le _
theorem z_below {w w' : World} {ao : Option Addr} {L : List Int} (h : ZAt w ao L) (hb : Below w.heap.size w w') : ZAt w' ao L := by
  intro hl
  obtain ⟨b, off, rfl, h1, h2⟩ := h hl
  have := hb.size
  exact ⟨b, off, rfl, by omega, fun i hi => (hb.cell (p := ⟨b, off + i, none⟩) h1).trans (h2 i hi)⟩
theorem below_undrew {w w' : World} (h : Below w.drew.heap.size w.drew w') : Below w.heap.size w w' := ((Below.refl _ _).drew).trans h
theorem dr {w : World} {a : Addr} {v : Value} (h : w.cell? a = some v) : w.drew.cell? a = some v := h

theorem positions_any' (o : Int) (mi : Bool) (nm : ByteArray) (hh vv kd : Int) (ao ro : Option Addr) (cp rn rc : Nat) (B : Nat → Bool) (S : Nat → ByteArray) (L : List Int) (w : World) (hm : L.length ≤ 1000) (hL : ZAt w ao L) :
    Calls Try.prog 14 #[.int .i64 o, .bool mi, .agg #[.string nm, .int .i64 hh, .int .i64 vv, .slice ao L.length cp, .int .i64 kd, .bool (B 0), .string (S 0), .bool (B 1), .string (S 1), .bool (B 2), .string (S 2), .bool (B 3), .string (S 3), .bool (B 4), .string (S 4), .bool (B 5), .string (S 5), .bool (B 6), .string (S 6), .bool (B 7), .string (S 7), .bool (B 8), .string (S 8), .bool (B 9), .string (S 9), .bool (B 10), .string (S 10), .bool (B 11), .string (S 11), .bool (B 12), .string (S 12), .bool (B 13), .string (S 13), .bool (B 14), .string (S 14), .bool (B 15), .string (S 15), .bool (B 16), .string (S 16), .bool (B 17), .string (S 17), .bool (B 18), .string (S 18), .bool (B 19), .string (S 19), .slice ro rn rc]] w fun e w' => ∃ ao' cap', e = .returned (.slice ao' (posL o mi hh L).length cap') ∧ IntsAt w' ao' (posL o mi hh L) ∧ Below w.heap.size w w' := by
  refine (positions_any o mi ⟨nm, hh, vv, ao, L.length, cp, kd, B, S, ro, rn, rc⟩ L w rfl hm hL).mono ?_
  rintro e w1 ⟨v, rfl, hown, hb⟩
  obtain ⟨ao1, cap1, rfl, hi1⟩ := own_ints hown
  exact ⟨ao1, cap1, rfl, hi1, hb⟩
theorem rpositions_any' (o : Int) (mi : Bool) (nm : ByteArray) (hh vv kd : Int) (ao ro : Option Addr) (cp rn rc : Nat) (B : Nat → Bool) (S : Nat → ByteArray) (L : List Int) (w : World) (hm : L.length ≤ 1000) (hL : ZAt w ao L) :
    Calls Try.prog 15 #[.int .i64 o, .bool mi, .agg #[.string nm, .int .i64 hh, .int .i64 vv, .slice ao L.length cp, .int .i64 kd, .bool (B 0), .string (S 0), .bool (B 1), .string (S 1), .bool (B 2), .string (S 2), .bool (B 3), .string (S 3), .bool (B 4), .string (S 4), .bool (B 5), .string (S 5), .bool (B 6), .string (S 6), .bool (B 7), .string (S 7), .bool (B 8), .string (S 8), .bool (B 9), .string (S 9), .bool (B 10), .string (S 10), .bool (B 11), .string (S 11), .bool (B 12), .string (S 12), .bool (B 13), .string (S 13), .bool (B 14), .string (S 14), .bool (B 15), .string (S 15), .bool (B 16), .string (S 16), .bool (B 17), .string (S 17), .bool (B 18), .string (S 18), .bool (B 19), .string (S 19), .slice ro rn rc]] w fun e w' => ∃ ao' cap', e = .returned (.slice ao' (posL o mi hh L).length cap') ∧ IntsAt w' ao' (posL o mi hh L) ∧ Below w.heap.size w w' := by
  refine (rpositions_any o mi ⟨nm, hh, vv, ao, L.length, cp, kd, B, S, ro, rn, rc⟩ L w rfl hm hL).mono ?_
  rintro e w1 ⟨v, rfl, hown, hb⟩
  obtain ⟨ao1, cap1, rfl, hi1⟩ := own_ints hown
  exact ⟨ao1, cap1, rfl, hi1, hb⟩

def tload (a : Addr) : Sem (Array Value) := loadCellsFrom a 0 46 #[]
theorem tload_eq (a : Addr) : loadCellsFrom a 0 46 #[] = tload a := rfl
attribute [local go_sem ↓] tload_eq
def CaseAt (W : World) (b : Nat) (o ix : Int) (mi : Bool) (nm : ByteArray) (hh vv kd : Int) (ao ro : Option Addr) (cp rn rc : Nat) (B : Nat → Bool) (S : Nat → ByteArray) (n : Nat) : Prop := ∀ j v, ([.int .i64 o, .int .i64 ix, .string nm, .int .i64 hh, .int .i64 vv, .slice ao n cp, .int .i64 kd, .bool (B 0), .string (S 0), .bool (B 1), .string (S 1), .bool (B 2), .string (S 2), .bool (B 3), .string (S 3), .bool (B 4), .string (S 4), .bool (B 5), .string (S 5), .bool (B 6), .string (S 6), .bool (B 7), .string (S 7), .bool (B 8), .string (S 8), .bool (B 9), .string (S 9), .bool (B 10), .string (S 10), .bool (B 11), .string (S 11), .bool (B 12), .string (S 12), .bool (B 13), .string (S 13), .bool (B 14), .string (S 14), .bool (B 15), .string (S 15), .bool (B 16), .string (S 16), .bool (B 17), .string (S 17), .bool (B 18), .string (S 18), .bool (B 19), .string (S 19), .slice ro rn rc, .bool mi] : List Value)[j]? = some v → W.cell? ⟨b, j, none⟩ = some v
theorem CaseAt.kept {W W' : World} {N b : Nat} {o ix : Int} {mi : Bool} {nm : ByteArray} {hh vv kd : Int} {ao ro : Option Addr} {cp rn rc : Nat} {B : Nat → Bool} {S : Nat → ByteArray} {n : Nat} (h : CaseAt W b o ix mi nm hh vv kd ao ro cp rn rc B S n) (l : b < N) (hb : Below N W W') : CaseAt W' b o ix mi nm hh vv kd ao ro cp rn rc B S n := fun j v hv => (hb.cell (p := ⟨b, j, none⟩) l).trans (h j v hv)
theorem CaseAt.drew {W : World} {b : Nat} {o ix : Int} {mi : Bool} {nm : ByteArray} {hh vv kd : Int} {ao ro : Option Addr} {cp rn rc : Nat} {B : Nat → Bool} {S : Nat → ByteArray} {n : Nat} (h : CaseAt W b o ix mi nm hh vv kd ao ro cp rn rc B S n) : CaseAt W.drew b o ix mi nm hh vv kd ao ro cp rn rc B S n := fun j v hv => h j v hv
theorem CaseAt.mk {W W' : World} {b : Nat} {o ix : Int} {mi : Bool} {nm : ByteArray} {hh vv kd : Int} {ao ro : Option Addr} {cp rn rc : Nat} {B : Nat → Bool} {S : Nat → ByteArray} {n : Nat} (hb : b = W.heap.size) (h : Below (W.alloc (.cells #[.int .i64 o, .int .i64 ix, .string nm, .int .i64 hh, .int .i64 vv, .slice ao n cp, .int .i64 kd, .bool (B 0), .string (S 0), .bool (B 1), .string (S 1), .bool (B 2), .string (S 2), .bool (B 3), .string (S 3), .bool (B 4), .string (S 4), .bool (B 5), .string (S 5), .bool (B 6), .string (S 6), .bool (B 7), .string (S 7), .bool (B 8), .string (S 8), .bool (B 9), .string (S 9), .bool (B 10), .string (S 10), .bool (B 11), .string (S 11), .bool (B 12), .string (S 12), .bool (B 13), .string (S 13), .bool (B 14), .string (S 14), .bool (B 15), .string (S 15), .bool (B 16), .string (S 16), .bool (B 17), .string (S 17), .bool (B 18), .string (S 18), .bool (B 19), .string (S 19), .slice ro rn rc, .bool mi] 36)).heap.size (W.alloc (.cells #[.int .i64 o, .int .i64 ix, .string nm, .int .i64 hh, .int .i64 vv, .slice ao n cp, .int .i64 kd, .bool (B 0), .string (S 0), .bool (B 1), .string (S 1), .bool (B 2), .string (S 2), .bool (B 3), .string (S 3), .bool (B 4), .string (S 4), .bool (B 5), .string (S 5), .bool (B 6), .string (S 6), .bool (B 7), .string (S 7), .bool (B 8), .string (S 8), .bool (B 9), .string (S 9), .bool (B 10), .string (S 10), .bool (B 11), .string (S 11), .bool (B 12), .string (S 12), .bool (B 13), .string (S 13), .bool (B 14), .string (S 14), .bool (B 15), .string (S 15), .bool (B 16), .string (S 16), .bool (B 17), .string (S 17), .bool (B 18), .string (S 18), .bool (B 19), .string (S 19), .slice ro rn rc, .bool mi] 36)) W') : CaseAt W' b o ix mi nm hh vv kd ao ro cp rn rc B S n := by
  intro j v hv
  subst hb
  refine (h.cell (p := ⟨W.heap.size, j, none⟩) (by simp)).trans ?_
  rw [World.cell?_alloc_new]
  simpa only [List.getElem?_toArray] using hv
theorem CaseAt.load {W : World} {b : Nat} {o ix : Int} {mi : Bool} {nm : ByteArray} {hh vv kd : Int} {ao ro : Option Addr} {cp rn rc : Nat} {B : Nat → Bool} {S : Nat → ByteArray} {n : Nat} (h : CaseAt W b o ix mi nm hh vv kd ao ro cp rn rc B S n) : (loadCellsFrom ⟨b, 2, none⟩ 0 46 #[]).run Try.prog W = .ok #[.string nm, .int .i64 hh, .int .i64 vv, .slice ao n cp, .int .i64 kd, .bool (B 0), .string (S 0), .bool (B 1), .string (S 1), .bool (B 2), .string (S 2), .bool (B 3), .string (S 3), .bool (B 4), .string (S 4), .bool (B 5), .string (S 5), .bool (B 6), .string (S 6), .bool (B 7), .string (S 7), .bool (B 8), .string (S 8), .bool (B 9), .string (S 9), .bool (B 10), .string (S 10), .bool (B 11), .string (S 11), .bool (B 12), .string (S 12), .bool (B 13), .string (S 13), .bool (B 14), .string (S 14), .bool (B 15), .string (S 15), .bool (B 16), .string (S 16), .bool (B 17), .string (S 17), .bool (B 18), .string (S 18), .bool (B 19), .string (S 19), .slice ro rn rc] W := by
  have := run_loadCells_list (P := Try.prog) W ⟨b, 2, none⟩ ([.string nm, .int .i64 hh, .int .i64 vv, .slice ao n cp, .int .i64 kd, .bool (B 0), .string (S 0), .bool (B 1), .string (S 1), .bool (B 2), .string (S 2), .bool (B 3), .string (S 3), .bool (B 4), .string (S 4), .bool (B 5), .string (S 5), .bool (B 6), .string (S 6), .bool (B 7), .string (S 7), .bool (B 8), .string (S 8), .bool (B 9), .string (S 9), .bool (B 10), .string (S 10), .bool (B 11), .string (S 11), .bool (B 12), .string (S 12), .bool (B 13), .string (S 13), .bool (B 14), .string (S 14), .bool (B 15), .string (S 15), .bool (B 16), .string (S 16), .bool (B 17), .string (S 17), .bool (B 18), .string (S 18), .bool (B 19), .string (S 19), .slice ro rn rc] : List Value) (fun j v hv => by
    rw [Addr.add_mid]
    refine h (2 + j) v ?_
    rw [← hv]
    rw [Nat.add_comm]
    show (([.string nm, .int .i64 hh, .int .i64 vv, .slice ao n cp, .int .i64 kd, .bool (B 0), .string (S 0), .bool (B 1), .string (S 1), .bool (B 2), .string (S 2), .bool (B 3), .string (S 3), .bool (B 4), .string (S 4), .bool (B 5), .string (S 5), .bool (B 6), .string (S 6), .bool (B 7), .string (S 7), .bool (B 8), .string (S 8), .bool (B 9), .string (S 9), .bool (B 10), .string (S 10), .bool (B 11), .string (S 11), .bool (B 12), .string (S 12), .bool (B 13), .string (S 13), .bool (B 14), .string (S 14), .bool (B 15), .string (S 15), .bool (B 16), .string (S 16), .bool (B 17), .string (S 17), .bool (B 18), .string (S 18), .bool (B 19), .string (S 19), .slice ro rn rc] : List Value) ++ [.bool mi])[j]? = _
    have hj : j < ([.string nm, .int .i64 hh, .int .i64 vv, .slice ao n cp, .int .i64 kd, .bool (B 0), .string (S 0), .bool (B 1), .string (S 1), .bool (B 2), .string (S 2), .bool (B 3), .string (S 3), .bool (B 4), .string (S 4), .bool (B 5), .string (S 5), .bool (B 6), .string (S 6), .bool (B 7), .string (S 7), .bool (B 8), .string (S 8), .bool (B 9), .string (S 9), .bool (B 10), .string (S 10), .bool (B 11), .string (S 11), .bool (B 12), .string (S 12), .bool (B 13), .string (S 13), .bool (B 14), .string (S 14), .bool (B 15), .string (S 15), .bool (B 16), .string (S 16), .bool (B 17), .string (S 17), .bool (B 18), .string (S 18), .bool (B 19), .string (S 19), .slice ro rn rc] : List Value).length := (List.getElem?_eq_some_iff.1 hv).1
    exact List.getElem?_append_left hj)
  exact this

set_option maxRecDepth 100000 in
set_option maxHeartbeats 8000000 in
theorem torbit_any (o ix : Int) (mi : Bool) (nm : ByteArray) (hh vv kd : Int) (ao ro : Option Addr) (cp rn rc : Nat) (B : Nat → Bool) (S : Nat → ByteArray) (L : List Int) (w : World) (hL : ZAt w ao L) :
    Calls Try.prog 3 #[.agg #[.int .i64 o, .int .i64 ix, .string nm, .int .i64 hh, .int .i64 vv, .slice ao L.length cp, .int .i64 kd, .bool (B 0), .string (S 0), .bool (B 1), .string (S 1), .bool (B 2), .string (S 2), .bool (B 3), .string (S 3), .bool (B 4), .string (S 4), .bool (B 5), .string (S 5), .bool (B 6), .string (S 6), .bool (B 7), .string (S 7), .bool (B 8), .string (S 8), .bool (B 9), .string (S 9), .bool (B 10), .string (S 10), .bool (B 11), .string (S 11), .bool (B 12), .string (S 12), .bool (B 13), .string (S 13), .bool (B 14), .string (S 14), .bool (B 15), .string (S 15), .bool (B 16), .string (S 16), .bool (B 17), .string (S 17), .bool (B 18), .string (S 18), .bool (B 19), .string (S 19), .slice ro rn rc, .bool mi]] w fun e w' => e = .returned (.bool true) ∧ Below w.heap.size w w' := by
  go_enter Try.func3, Try.ntmps3
  go_wp2_with fail
  refine (awake_any _).mono ?_
  rintro e w1 ⟨rfl, hc1⟩
  have z1 := hc1.size
  simp at z1
  have lw1 : w.heap.size < w1.heap.size := by omega
  have hw1 : Below w.heap.size w w1 := ((Below.refl _ _).alloc (Nat.le_refl _) _).trans (hc1.mono (by simp))
  have C1 : CaseAt w1 w.heap.size o ix mi nm hh vv kd ao ro cp rn rc B S L.length := CaseAt.mk rfl hc1
  have d1_0 : w1.cell? ⟨w.heap.size, 0, none⟩ = some (.int .i64 o) := C1 0 _ rfl
  have d1_1 : w1.cell? ⟨w.heap.size, 1, none⟩ = some (.int .i64 ix) := C1 1 _ rfl
  have d1_5 : w1.cell? ⟨w.heap.size, 5, none⟩ = some (.slice ao L.length cp) := C1 5 _ rfl
  have d1_48 : w1.cell? ⟨w.heap.size, 48, none⟩ = some (.bool mi) := C1 48 _ rfl
  have hL1 := z_below hL (hw1)
  clear hc1 z1
  by_cases h26 : 26 < L.length
  · have h26' : (26 : Int) < (L.length : Int) := by omega
    go_wp2_with fail
    go_ret
    exact ⟨rfl, hw1⟩
  · have h26' : (L.length : Int) ≤ 26 := by omega
    go_wp2_with fail
    refine (orbit_any o mi ix _).mono ?_
    rintro e w2 ⟨v1, rfl, hown1, hc2⟩
    obtain ⟨ao1, cap1, rfl, hi1⟩ := own_ints hown1
    clear hown1
    have z2 := hc2.size
    have lw2 : w.heap.size < w2.heap.size := by omega
    have hw2 := hw1.trans (hc2.mono (by omega))
    have hL2 := z_below hL1 hc2
    have C2 := C1.kept lw1 hc2
    clear hc2 hL1 C1 d1_0 d1_1 d1_5 d1_48
    have len1 := orb_len o mi ix
    have HC := Lib.hid (orb_count o mi ix)
    obtain ⟨K, hK⟩ : ∃ K, (orbL o mi ix).length = K := ⟨_, rfl⟩
    have F0 : ∀ W : World, CaseAt W w.heap.size o ix mi nm hh vv kd ao ro cp rn rc B S L.length → W.cell? ⟨w.heap.size, 0, none⟩ = some (.int .i64 o) := fun _ h => h 0 _ rfl
    have F1 : ∀ W : World, CaseAt W w.heap.size o ix mi nm hh vv kd ao ro cp rn rc B S L.length → W.cell? ⟨w.heap.size, 1, none⟩ = some (.int .i64 ix) := fun _ h => h 1 _ rfl
    have F48 : ∀ W : World, CaseAt W w.heap.size o ix mi nm hh vv kd ao ro cp rn rc B S L.length → W.cell? ⟨w.heap.size, 48, none⟩ = some (.bool mi) := fun _ h => h 48 _ rfl
    have FL : ∀ W : World, CaseAt W w.heap.size o ix mi nm hh vv kd ao ro cp rn rc B S L.length → (tload ⟨w.heap.size, 2, none⟩).run Try.prog W = .ok #[.string nm, .int .i64 hh, .int .i64 vv, .slice ao L.length cp, .int .i64 kd, .bool (B 0), .string (S 0), .bool (B 1), .string (S 1), .bool (B 2), .string (S 2), .bool (B 3), .string (S 3), .bool (B 4), .string (S 4), .bool (B 5), .string (S 5), .bool (B 6), .string (S 6), .bool (B 7), .string (S 7), .bool (B 8), .string (S 8), .bool (B 9), .string (S 9), .bool (B 10), .string (S 10), .bool (B 11), .string (S 11), .bool (B 12), .string (S 12), .bool (B 13), .string (S 13), .bool (B 14), .string (S 14), .bool (B 15), .string (S 15), .bool (B 16), .string (S 16), .bool (B 17), .string (S 17), .bool (B 18), .string (S 18), .bool (B 19), .string (S 19), .slice ro rn rc] W := fun _ h => h.load
    go_upto_region 6 with fail
    go_cut [45] from 18 to 44 (fun c wx => c = .bool false ∧ Below w.heap.size w wx ∧ wx.cell? ⟨w.heap.size, 0, none⟩ = some (.int .i64 o) ∧ wx.cell? ⟨w.heap.size, 48, none⟩ = some (.bool mi))
    case first =>
      go_region_held3 (fun w' => CaseAt w' w.heap.size o ix mi nm hh vv kd ao ro cp rn rc B S L.length) (first | exact C2.drew | exact CE | exact CD | exact CC | exact CB | exact CA)
        (first | (have hm := hmarkD; go_at_call 12; refine (same_any _ _ _ _ _ (posL o mi hh L) wD rfl (by omega) hi3D hi4).mono ?_; rintro e wE ⟨rfl, hcE⟩; have zE := hcE.size; have lwE : w.heap.size < wE.heap.size := (by omega); have CE := CD.kept lwD hcE; have hwE := hwD.trans (hcE.mono (Nat.le_of_lt lwD)); have hLE := z_below hLD hcE; have hmarkE : wE = wE := rfl) | (have hm := hmarkC; go_at_call 15; refine (rpositions_any' o mi nm hh vv kd ao ro cp rn rc B S L wC (by omega) hLC).mono ?_; rintro e wD ⟨ao4, cap4, rfl, hi4, hcD⟩; have zD := hcD.size; have lwD : w.heap.size < wD.heap.size := (by omega); have CD := CC.kept lwC hcD; have hwD := hwC.trans (hcD.mono (Nat.le_of_lt lwC)); have hLD := z_below hLC hcD; have hi3D := ints_below hi3 hcD; have hpl := pos_len o mi hh L; have hmarkD : wD = wD := rfl) | (have hm := hmarkB; go_at_call 14; refine (positions_any' o mi nm hh vv kd ao ro cp rn rc B S L wB (by omega) hLB).mono ?_; rintro e wC ⟨ao3, cap3, rfl, hi3, hcC⟩; have zC := hcC.size; have lwC : w.heap.size < wC.heap.size := (by omega); have CC := CB.kept lwB hcC; have hwC := hwB.trans (hcC.mono (Nat.le_of_lt lwB)); have hLC := z_below hLB hcC; have hmarkC : wC = wC := rfl) | (have hm := hmarkA; go_at_call 12; refine (same_any _ _ _ _ _ (orbL o mi ix) wA hK.symm (by omega) hi1A hi2).mono ?_; rintro e wB ⟨rfl, hcB⟩; have zB := hcB.size; have lwB : w.heap.size < wB.heap.size := (by omega); have CB := CA.kept lwA hcB; have hwB := hwA.trans (hcB.mono (Nat.le_of_lt lwA)); have hLB := z_below hLA hcB; have hmarkB : wB = wB := rfl) | (go_at_call 13; refine (rorbit_any o mi ix _).mono ?_; rintro e wA ⟨v2, rfl, hown2, hcA⟩; replace hcA := below_undrew hcA; obtain ⟨ao2, cap2, rfl, hi2⟩ := own_ints hown2; clear hown2; have zA := hcA.size; have lwA : w.heap.size < wA.heap.size := (by omega); have CA := C2.kept lw2 hcA; have hwA := hw2.trans (hcA.mono (Nat.le_of_lt lw2)); have hLA := z_below hL2 hcA; have hi1A := ints_below hi1 hcA; have hmarkA : wA = wA := rfl))
      all_goals (go_wp2_with fail; go_meet)
      exact ⟨rfl, hwE, CE 0 _ rfl, CE 48 _ rfl⟩
    case rest =>
      obtain ⟨rfl, hw3, e0, e48⟩ := hcut
      have HC1 := HC.out
      rw [hK] at HC1
      rw [hK] at len1
      clear C2 hL2 hw2 HC hi1 F0 F1 F48 FL
      rcases HC1 with h | ⟨h1, h2⟩ | ⟨h1, h2, rfl, h4, h5, h6⟩
      · go_wp2_with fail
        (try go_ret)
        all_goals (try exact ⟨rfl, hw3⟩)
      · go_wp2_with fail
        (try go_ret)
        all_goals (try exact ⟨rfl, hw3⟩)
      · go_wp2_with fail
        (try go_ret)
        all_goals (try exact ⟨rfl, hw3⟩)
end Go.Proofs.Ytikbgdbbicnfnaa.Tr
