/- strconv.AppendInt of a digit onto a row of bytes that the call owns: what comes back owns the row and, behind it, the digit. -/
import Derived.Test.YtognaejbpioihaaDoorProg
import Derived.Lib.AppendStr
import Derived.Lib.OthersKept
import Derived.Lib.OwnKind
import Derived.Lib.UnsafeStr
import Derived.Lib.Slices
import Derived.WalkKit
import Derived.WalkSmall
import Derived.Below
import Derived.OwnWalk
import Derived.BigCall
import Derived.BigGuard
namespace Go.Proofs.YtognaejbpioihaaDoor.Iv
open Go.RowKit Go.Lib

theorem byte_info : (Tryd.prog.info? 5).map (fun i => (i.zero, i.size, i.bytes)) = some (some (.int .u8 0), 1, 1) := by kernel_rfl

theorem small_zero (w : World) :
    Calls Tryd.prog 55 #[.int .i64 0] w fun e w' => e = .returned (.string ⟨#[48]⟩) ∧ w = w' := by
  go_enter Tryd.func55, Tryd.ntmps55
  go_wp2
  go_ret
  exact ⟨rfl, rfl⟩

/-- what an append onto an owned row leaves -/
def Grew (B n m : Nat) (xs ys : List Value) (w : World) (e : Ending) (w' : World) : Prop :=
  ∃ v', e = .returned v' ∧ w'.ownsRow B 5 1 v' (n + m) (xs ++ ys) ∧ Below B w w' ∧ OthersKept 5 none w w'

theorem appendUint_zero (B n : Nat) (sv : Value) (xs : List Value) (w : World) (hown : w.ownsRow B 5 1 sv n xs) (hB : B ≤ w.heap.size) (hn : n ≤ 1000000) :
    Calls Tryd.prog 54 #[sv, .int .u64 0, .int .i64 10] w (Grew B n 1 xs [.int .u8 48] w) := by
  obtain ⟨i0, hi, hz0, hz1, hz2⟩ := info_parts byte_info
  go_enter Tryd.func54, Tryd.ntmps54
  go_wp2_with (first
    | (go_at_call 55; refine (small_zero _).mono ?_; rintro e w' ⟨rfl, rfl⟩)
    | (at_builtin; refine Lib.wpList_append_own_string _ rfl _ _ 51 9 rfl B 5 i0 Tryd.underlying51 Tryd.underlying9 hi hz0 hz1 hz2 _ _ _ rfl hown ⟨#[48]⟩ rfl (by show n + 1 ≤ maxLen; unfold maxLen; omega) (by show n + 1 ≤ _; omega) hB ?_))
  intro v' w1 hown' hgrow _
  go_wp2
  go_ret
  exact ⟨v', rfl, hown', (Below.refl B _).grown hgrow hB (fun k hk => (hown.lt k hk).1), (Lib.OthersKept.refl _ _ _).grown hgrow (Lib.ownsRow_kind hown)⟩

theorem appendIntIn_zero (B n : Nat) (sv : Value) (xs : List Value) (w : World) (hown : w.ownsRow B 5 1 sv n xs) (hB : B ≤ w.heap.size) (hn : n ≤ 1000000) :
    Calls Tryd.prog 51 #[sv, .int .i64 0, .int .i64 10] w (Grew B n 1 xs [.int .u8 48] w) := by
  go_enter Tryd.func51, Tryd.ntmps51
  go_wp2_with (go_at_call 54; refine (appendUint_zero B n sv xs w hown hB hn).mono ?_; rintro e w2 ⟨v2, rfl, hown2, hnx2, hok2⟩)
  go_wp2
  go_ret
  exact ⟨v2, rfl, hown2, hnx2, hok2⟩

theorem appendInt_zero (B n : Nat) (sv : Value) (xs : List Value) (w : World) (hown : w.ownsRow B 5 1 sv n xs) (hB : B ≤ w.heap.size) (hn : n ≤ 1000000) :
    Calls Tryd.prog 49 #[sv, .int .i64 0, .int .i64 10] w (Grew B n 1 xs [.int .u8 48] w) := by
  go_enter Tryd.func49, Tryd.ntmps49
  go_wp2_with (go_at_call 51; refine (appendIntIn_zero B n sv xs w hown hB hn).mono ?_; rintro e w2 ⟨v2, rfl, hown2, hnx2, hok2⟩)
  go_wp2
  go_ret
  exact ⟨v2, rfl, hown2, hnx2, hok2⟩
end Go.Proofs.YtognaejbpioihaaDoor.Iv
