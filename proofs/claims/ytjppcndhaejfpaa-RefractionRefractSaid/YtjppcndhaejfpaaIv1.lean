/- Contracts of the program's tests and bounds of intervals: Valid, within, down, up and extremes of package interval return what the plain functions say. -/
import Derived.Test.YtjppcndhaejfpaaProg
import Derived.Test.YtjppcndhaejfpaaIvMath
import Derived.WalkKit
import Derived.WalkSpells
import Derived.WalkLawsBesides
import Derived.WalkSmall
import Derived.Below
import Derived.IntWalk
import Derived.Lib.Hide
namespace Go.Proofs.Ytjppcndhaejfpaa.Iv
open Go.RowKit

theorem ret_bool {a b : Bool} (h : a = b) : Ending.returned (.bool a) = .returned (.bool b) := by rw [h]
theorem ret_int {k : IntKind} {a b : Int} (h : a = b) : Ending.returned (.int k a) = .returned (.int k b) := by rw [h]
/-- an interval as a value; a result as a value -/
abbrev iv (a b : Int) : Value := .agg #[.int .i64 a, .int .i64 b]
abbrev retR (r : R) : Ending := .returned (.tuple #[.agg #[.int .i64 r.lo, .int .i64 r.hi], .int .i64 r.e])

/-- a new block with an interval -/
abbrev boxed (w : World) (a b : Int) : World := w.alloc (.cells #[.int .i64 a, .int .i64 b] 23)

theorem valid_any (lo hi : Int) (w : World) :
    Calls Try.prog 42 #[iv lo hi] w fun e w' => e = .returned (.bool (vB lo hi)) ∧ boxed w lo hi = w' := by
  go_enter Try.func42, Try.ntmps42
  go_wp2
  all_goals go_ret
  all_goals refine ⟨ret_bool ?_, rfl⟩
  all_goals (simp only [vB]; first | (rw [decide_eq_decide]; omega) | (symm; rw [decide_eq_false_iff_not]; omega))

theorem within_any (lo hi : Int) (w : World) :
    Calls Try.prog 68 #[.int .i64 lo, .int .i64 hi] w fun e w' => e = retR (withinR lo hi) ∧ boxed w (withinR lo hi).lo (withinR lo hi).hi = w' := by
  by_cases h : lo < -1073741824 ∨ 1073741824 < hi
  · rw [within_no h]
    by_cases h1 : lo < -1073741824
    · go_enter Try.func68, Try.ntmps68
      go_wp2
      exact bodyPost_ret (v := .tuple #[.agg #[.int .i64 0, .int .i64 0], .int .i64 3]) (by simp [results, Try.results68, go_sem]) rfl ⟨rfl, rfl⟩
    · have h2 : 1073741824 < hi := by omega
      have h3 : -1073741824 ≤ lo := by omega
      clear h h1
      go_enter Try.func68, Try.ntmps68
      go_wp2
      exact bodyPost_ret (v := .tuple #[.agg #[.int .i64 0, .int .i64 0], .int .i64 3]) (by simp [results, Try.results68, go_sem]) rfl ⟨rfl, rfl⟩
  · have h2 : hi ≤ 1073741824 := by omega
    have h3 : -1073741824 ≤ lo := by omega
    rw [within_yes h3 h2]
    clear h
    go_enter Try.func68, Try.ntmps68
    go_wp2
    exact bodyPost_ret (v := .tuple #[.agg #[.int .i64 lo, .int .i64 hi], .int .i64 0]) (by simp [results, Try.results68, go_sem]) rfl ⟨rfl, rfl⟩

theorem down_any (n : Int) (w : World) :
    Calls Try.prog 74 #[.int .i64 n] w fun e w' => e = .returned (.int .i64 (fl n)) ∧ w = w' := by
  go_enter Try.func74, Try.ntmps74
  go_wp2
  go_ret
  exact ⟨rfl, rfl⟩
theorem up_any (n : Int) (w : World) (h1 : -4611686018427387904 ≤ n) (h2 : n ≤ 4611686018427387904) :
    Calls Try.prog 75 #[.int .i64 n] w fun e w' => e = .returned (.int .i64 (ce n)) ∧ w = w' := by
  go_enter Try.func75, Try.ntmps75
  go_wp2
  go_ret
  exact ⟨rfl, rfl⟩

/-- a slice of ints that reads as a list -/
def IntsAt (w : World) (ao : Option Addr) (L : List Int) : Prop := 0 < L.length → ∃ b off, ao = some ⟨b, off, none⟩ ∧ b < w.heap.size ∧ ∀ i, i < L.length → w.cell? ⟨b, off + i, none⟩ = some (.int .i64 (L[i]?.getD 0))
def minL (x : Int) (L : List Int) (k : Nat) : Int := (L.take k).foldl min x
def maxL (x : Int) (L : List Int) (k : Nat) : Int := (L.take k).foldl max x
theorem minL_succ (x : Int) (L : List Int) (k : Nat) (h : k < L.length) : minL x L (k + 1) = if L[k]?.getD 0 < minL x L k then L[k]?.getD 0 else minL x L k := by
  unfold minL
  rw [List.take_succ_eq_append_getElem h, List.foldl_append, List.getElem?_eq_getElem h]
  simp only [List.foldl_cons, List.foldl_nil, Option.getD_some]
  split <;> omega
theorem maxL_succ (x : Int) (L : List Int) (k : Nat) (h : k < L.length) : maxL x L (k + 1) = if maxL x L k < L[k]?.getD 0 then L[k]?.getD 0 else maxL x L k := by
  unfold maxL
  rw [List.take_succ_eq_append_getElem h, List.foldl_append, List.getElem?_eq_getElem h]
  simp only [List.foldl_cons, List.foldl_nil, Option.getD_some]
  split <;> omega

theorem extremes_any (x : Int) (ao : Option Addr) (n cap : Nat) (L : List Int) (w : World) (hn : n = L.length) (hm : n ≤ 20) (hL : IntsAt w ao L) :
    Calls Try.prog 73 #[.int .i64 x, .slice ao n cap] w fun e w' => e = .returned (.tuple #[.int .i64 (minL x L n), .int .i64 (maxL x L n)]) ∧ w = w' := by
  subst hn
  go_enter Try.func73, Try.ntmps73
  go_wp2
  go_loop [4, 5, 12] (fun lo hi i => ∃ k : Nat, k ≤ L.length ∧ i = .int .i64 k ∧ lo = .int .i64 (minL x L k) ∧ hi = .int .i64 (maxL x L k)) (fun _ _ i => L.length - (intOf i).toNat)
  case atStart => exact ⟨0, Nat.zero_le _, rfl, rfl, rfl⟩
  case round =>
    obtain ⟨k, hk, rfl, rfl, rfl⟩ := hrel
    by_cases hlt : k < L.length
    · obtain ⟨b, off, rfl, hb1, hc⟩ := hL (by omega)
      have g0 := hc k hlt
      have H1 := Lib.hid (minL_succ x L k hlt)
      have H2 := Lib.hid (maxL_succ x L k hlt)
      rw [List.getElem?_eq_getElem hlt, Option.getD_some] at H1 H2
      go_wp2
      go_round
      case rel => exact ⟨k + 1, by omega, by go_num, by rw [H1.out], by rw [H2.out]⟩
      case measure => simp [intOf]; omega
    · obtain rfl : k = L.length := by omega
      go_wp2_with fail
      go_ret2
      exact ⟨rfl, rfl⟩

theorem bcell {W w1 : World} (hb : Below W.heap.size W w1) : (∀ b o, b < W.heap.size → w1.cell? ⟨b, o, none⟩ = W.cell? ⟨b, o, none⟩) ∧ (∀ b o, b < W.heap.size → w1.frozen? ⟨b, o, none⟩ = W.frozen? ⟨b, o, none⟩) :=
  ⟨fun b o h => hb.cell (p := ⟨b, o, none⟩) h, fun b o h => hb.frozen (p := ⟨b, o, none⟩) h⟩

end Go.Proofs.Ytjppcndhaejfpaa.Iv
