/- The example of the document holds; and the reference's test whether a list has a number. -/
import Derived.Test.YtikbgdbbicnfnaaTr3
namespace Go.Proofs.Ytikbgdbbicnfnaa.Tr
open Go.RowKit

def hasB (L : List Nat) (x : Int) (k : Nat) : Bool := (L.take k).any fun y => decide ((y : Int) = x)
theorem hasB_succ (L : List Nat) (x : Int) (k : Nat) (h : k < L.length) : hasB L x (k + 1) = (hasB L x k || decide (((L[k]?.getD 0 : Nat) : Int) = x)) := by
  unfold hasB
  rw [List.take_succ_eq_append_getElem h, List.any_append, List.getElem?_eq_getElem h]
  simp
set_option maxRecDepth 100000 in
theorem has_any (ao : Option Addr) (n cap : Nat) (L : List Nat) (x : Int) (w : World) (hn : n = L.length) (hm : n ≤ 1000) (ha : IntsAt w ao L) :
    Calls Try.prog 16 #[.slice ao n cap, .int .i64 x] w fun e w' => e = .returned (.bool (hasB L x L.length)) ∧ w = w' := by
  subst hn
  go_enter Try.func16, Try.ntmps16
  go_wp2
  go_loop [5] (fun i => ∃ k : Nat, k ≤ L.length ∧ i = .int .i64 k ∧ hasB L x k = false) (fun i => L.length - (intOf i).toNat)
  case atStart => exact ⟨0, Nat.zero_le _, rfl, rfl⟩
  case round =>
    obtain ⟨k, hk, rfl, hno⟩ := hrel
    by_cases hlt : k < L.length
    · obtain ⟨b, off, rfl, hb1, hc⟩ := ha (by omega)
      have g0 := hc k hlt
      have hs := hasB_succ L x k hlt
      rw [hno, Bool.false_or] at hs
      obtain ⟨y, hy⟩ : ∃ y, L[k]?.getD 0 = y := ⟨_, rfl⟩
      rw [hy] at g0 hs
      have HS := Lib.hid hs
      have HN := Lib.hid hno
      clear hs hno hc hy
      by_cases hx : (y : Int) = x
      · subst hx
        go_wp2
        go_ret
        refine ⟨ret_bool ?_, rfl⟩
        have h1 : hasB L (y : Int) (k + 1) = true := by rw [HS.out]; simp
        symm
        unfold hasB at h1 ⊢
        rw [List.any_eq_true] at h1 ⊢
        obtain ⟨z, hz1, hz2⟩ := h1
        rw [List.take_length]
        exact ⟨z, List.mem_of_mem_take hz1, hz2⟩
      · have hx' : ((y : Int) == x) = false := by simpa using hx
        go_wp2
        go_round
        case rel => exact ⟨k + 1, by omega, by go_num, by rw [HS.out]; simpa using hx⟩
        case measure => simp [intOf]; omega
    · obtain rfl : k = L.length := by omega
      go_wp2_with fail
      go_ret
      refine ⟨ret_bool ?_, rfl⟩
      first | exact hno.symm | rfl

theorem part_any (h v i : Int) (w : World) :
    Calls Try.prog 33 #[.agg #[.int .i64 h, .int .i64 v, .int .i64 i]] w fun e w' => e = .returned (.int .i64 (if 0 < v then 1 else if v < 0 then -1 else 0)) ∧ Below w.heap.size w w' := by
  rcases (show 0 < v ∨ v < 0 ∨ v = 0 from by omega) with hv | hv | hv
  · rw [if_pos hv]
    go_enter Try.func33, Try.ntmps33
    go_wp2
    go_ret
    exact ⟨rfl, (Below.refl _ _).alloc (Nat.le_refl _) _⟩
  · rw [if_neg (by omega), if_pos hv]
    go_enter Try.func33, Try.ntmps33
    go_wp2
    go_ret
    exact ⟨rfl, (Below.refl _ _).alloc (Nat.le_refl _) _⟩
  · subst hv
    go_enter Try.func33, Try.ntmps33
    go_wp2
    go_ret
    exact ⟨rfl, (Below.refl _ _).alloc (Nat.le_refl _) _⟩

theorem ex1 : orbL 4 true 1 = [1, 5, 7, 11, 13, 17, 19, 23] := by decide +kernel
theorem ex2 : orbL 4 true 3 = [3, 9, 15, 21] := by decide +kernel
theorem lit_ints8 {w : World} {g : Nat} (hg : g = w.heap.size) : IntsAt (w.alloc (.cells #[.int .i64 1, .int .i64 5, .int .i64 7, .int .i64 11, .int .i64 13, .int .i64 17, .int .i64 19, .int .i64 23] 3)) (some ⟨g, 0, none⟩) [1, 5, 7, 11, 13, 17, 19, 23] := by
  subst hg
  intro _
  refine ⟨_, _, rfl, by simp, fun i hi => ?_⟩
  have : i = 0 ∨ i = 1 ∨ i = 2 ∨ i = 3 ∨ i = 4 ∨ i = 5 ∨ i = 6 ∨ i = 7 := by simp at hi; omega
  rcases this with rfl | rfl | rfl | rfl | rfl | rfl | rfl | rfl <;> simp [go_sem]
theorem lit_ints4 {w : World} {g : Nat} (hg : g = w.heap.size) : IntsAt (w.alloc (.cells #[.int .i64 3, .int .i64 9, .int .i64 15, .int .i64 21] 3)) (some ⟨g, 0, none⟩) [3, 9, 15, 21] := by
  subst hg
  intro _
  refine ⟨_, _, rfl, by simp, fun i hi => ?_⟩
  have : i = 0 ∨ i = 1 ∨ i = 2 ∨ i = 3 := by simp at hi; omega
  rcases this with rfl | rfl | rfl | rfl <;> simp [go_sem]
theorem ints_alloc {w : World} {ao : Option Addr} {L : List Nat} (h : IntsAt w ao L) (o : Obj) : IntsAt (w.alloc o) ao L := by
  intro hl
  obtain ⟨b, off, rfl, hb, hc⟩ := h hl
  refine ⟨b, off, rfl, by simp; omega, fun i hi => ?_⟩
  rw [World.cell?_alloc_lt]
  · exact hc i hi
  · exact hb

set_option maxRecDepth 100000 in
set_option maxHeartbeats 1000000 in
theorem awake_any (w : World) :
    Calls Try.prog 10 #[] w fun e w' => e = .returned (.bool true) ∧ Below w.heap.size w w' := by
  go_enter Try.func10, Try.ntmps10
  go_wp2_with fail
  refine (orbit_any 4 true 1 _).mono ?_
  rintro e w1 ⟨v1, rfl, hown1, hb1⟩
  rw [ex1] at hown1
  obtain ⟨ao1, cap1, rfl, hi1⟩ := own_ints hown1
  clear hown1
  go_wp2_with fail
  refine (same_any _ _ _ _ _ [1, 5, 7, 11, 13, 17, 19, 23] _ rfl (by decide) (ints_alloc hi1 _) (lit_ints8 rfl)).mono ?_
  rintro e w2 ⟨rfl, hb2⟩
  have hw2 : Below w.heap.size w w2 := (hb1.alloc hb1.size _).trans (hb2.mono (by simp; have := hb1.size; omega))
  clear hb1 hb2 hi1
  go_wp2_with fail
  refine (orbit_any 4 true 3 _).mono ?_
  rintro e w3 ⟨v3, rfl, hown3, hb3⟩
  rw [ex2] at hown3
  obtain ⟨ao3, cap3, rfl, hi3⟩ := own_ints hown3
  clear hown3
  have hw3 : Below w.heap.size w w3 := hw2.trans (hb3.mono hw2.size)
  go_wp2_with fail
  refine (same_any _ _ _ _ _ [3, 9, 15, 21] _ rfl (by decide) (ints_alloc hi3 _) (lit_ints4 rfl)).mono ?_
  rintro e w4 ⟨rfl, hb4⟩
  have hw4 : Below w.heap.size w w4 := (hw3.alloc hw3.size _).trans (hb4.mono (by simp; have := hw3.size; omega))
  clear hb3 hb4 hi3
  go_wp2_with fail
  refine (part_any 1 (-1) 0 _).mono ?_
  rintro e w5 ⟨rfl, hb5⟩
  have hw5 : Below w.heap.size w w5 := hw4.trans (hb5.mono hw4.size)
  go_wp2
  go_ret
  exact ⟨rfl, hw5⟩
end Go.Proofs.Ytikbgdbbicnfnaa.Tr
