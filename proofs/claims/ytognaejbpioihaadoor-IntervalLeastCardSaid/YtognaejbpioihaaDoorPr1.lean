/- The inner function of Print writes one end: for the two ends of the example's quotient it adds the eight letters. -/
import Derived.Test.YtognaejbpioihaaDoorAp1
import Derived.Test.YtognaejbpioihaaDoorIv1
import Derived.Deep.RegionLaw
import Derived.Deep.AppendLies
import Derived.OneCell
import Derived.Great.Walk
import Derived.Tactics2
namespace Go.Proofs.YtognaejbpioihaaDoor.Iv
open Go.RowKit Go.Lib

/-- block t is a variable that holds v, a slice that the call owns (from block B on), of k bytes: xs; below B the world w stands -/
def TextAt (t B : Nat) (w wr : World) (v : Value) (k : Nat) (xs : List Value) : Prop :=
  wr.heap[t]? = some (.cells #[v] 51 (0, 0)) ∧ wr.ownsRow B 5 1 v k xs ∧ Below B w wr ∧ B ≤ t

theorem grown_kept {B k : Nat} {v : Value} {xs : List Value} {w w' : World} (h : w.ownsRow B 5 1 v k xs) (hB : B ≤ w.heap.size) (hg : w.grownBy w' v.ownBlock) : Below B w w' ∧ OthersKept 5 none w w' :=
  ⟨(Below.refl B _).grown hg hB (fun k hk => (h.lt k hk).1), (OthersKept.refl _ _ _).grown hg (ownsRow_kind h)⟩
theorem one_kept {t : Nat} {v : Value} {w w' : World} (h : w.heap[t]? = some (.cells #[v] 51 (0, 0))) (hk : OthersKept 5 none w w') : w'.heap[t]? = some (.cells #[v] 51 (0, 0)) :=
  hk t _ h (by simp) (by intro c fz hc; injection hc with _ h2 _; revert h2; decide)
theorem block_other {B t k : Nat} {v u : Value} {xs : List Value} {w : World} (h : w.ownsRow B 5 1 v k xs) (ht : w.heap[t]? = some (.cells #[u] 51 (0, 0))) : v.ownBlock ≠ some t := by
  intro he
  obtain ⟨c, fz, hc⟩ := ownsRow_kind h t he
  rw [ht] at hc
  injection hc with hc
  injection hc with _ h2 _
  revert h2; decide
theorem text_store {t B k k1 : Nat} {v v1 : Value} {xs xs1 : List Value} {w wr w1 : World} (h : TextAt t B w wr v k xs) (hown : w1.ownsRow B 5 1 v1 k1 xs1)
    (hb : Below B wr w1) (hk : OthersKept 5 none wr w1) : TextAt t B w (w1.setCell ⟨t, 0, none⟩ v1) v1 k1 xs1 := by
  obtain ⟨h1, h2, h3, h4⟩ := h
  have h5 := one_kept h1 hk
  exact ⟨one_setCell h5, ownsRow_setCell_other hown (block_other hown h5) _, (h3.trans hb).setCell h4 _, h4⟩
theorem text_alloc {t B k : Nat} {v : Value} {xs : List Value} {w wr : World} (h : TextAt t B w wr v k xs) (o : Obj) : TextAt t B w (wr.alloc o) v k xs := by
  obtain ⟨h1, h2, h3, h4⟩ := h
  have hlt := lt_of_block h1
  exact ⟨(heap_alloc_old wr o hlt).trans h1, h2.alloc _, h3.alloc (by omega) _, h4⟩
theorem text_drew {t B k : Nat} {v : Value} {xs : List Value} {w wr : World} (h : TextAt t B w wr v k xs) : TextAt t B w wr.drew v k xs := ⟨h.1, h.2.1.drew, h.2.2.1.drew, h.2.2.2⟩
theorem text_size {t B k : Nat} {v : Value} {xs : List Value} {w wr : World} (h : TextAt t B w wr v k xs) : t < wr.heap.size ∧ B ≤ wr.heap.size := by
  have := lt_of_block h.1
  have := h.2.2.2
  omega
/-- a one-byte append behind a new row of one byte -/
theorem text_step {t B k : Nat} {v v1 : Value} {xs xs1 : List Value} {w wr w1 : World} (h : TextAt t B w wr v k xs) (o : Obj) (hown : w1.ownsRow B 5 1 v1 (k + 1) xs1) (hg : (wr.alloc o).grownBy w1 v.ownBlock) :
    TextAt t B w (w1.setCell ⟨t, 0, none⟩ v1) v1 (k + 1) xs1 ∧ w1.cell? ⟨t, 0, none⟩ = some v ∧ w1.frozen? ⟨t, 0, none⟩ = false := by
  have ha := text_alloc h o
  obtain ⟨h5, h6⟩ := grown_kept ha.2.1 (text_size ha).2 hg
  have h7 := one_kept ha.1 h6
  exact ⟨text_store ha hown h5 h6, cell_of_one h7, free_of_one h7⟩

theorem news1 (W : World) (x : Value) (s : Nat) (hs : W.heap.size = s) : ∀ j u, [x][j]? = some u → (W.alloc (.cells #[x] 5)).cell? ((⟨s, 0, none⟩ : Addr).add j) = some u := by
  intro j u hj
  subst hs
  match j, hj with
  | 0, hj => simp at hj; subst hj; exact World.cell?_alloc_mark W #[x] 5 (0, 0) 0

def endBytes (n : Int) : List Value := [.int .u8 48, .int .u8 46, .int .u8 51, .int .u8 51, .int .u8 51, .int .u8 51, .int .u8 51, .int .u8 (n - 333282)]
def unitAt : Nat → Int
  | 0 => 100000 | 1 => 10000 | 2 => 1000 | 3 => 100 | 4 => 10 | 5 => 1 | _ => 0

set_option maxRecDepth 100000 in
set_option maxHeartbeats 2000000 in
theorem print1_333333 (t B k : Nat) (v : Value) (xs : List Value) (w : World) (h : TextAt t B w w v k xs) (hk : k ≤ 1000) :
    Calls Tryd.prog 48 #[.int .i64 333333, .pointer (some ⟨t, 0, none⟩)] w fun e w' => e = .returned (.tuple #[]) ∧ ∃ v', TextAt t B w w' v' (k + 8) (xs ++ endBytes 333333) := by
  obtain ⟨i0, hi, hz0, hz1, hz2⟩ := info_parts byte_info
  have c0 := cell_of_one h.1
  have f0 := free_of_one h.1
  go_enter Tryd.func48, Tryd.ntmps48
  go_wp2_with (go_at_call 49; refine (appendInt_zero B k v xs w h.2.1 (text_size h).2 (by omega)).mono ?_; rintro e w2 ⟨v2, rfl, hown2, hb2, hok2⟩; have hc2 := one_kept h.1 hok2; have c2 := cell_of_one hc2; have f2 := free_of_one hc2; refine Hid.out ?_)
  obtain ⟨g2, cap2, rfl, -, -⟩ := hown2.form (by omega)
  have T1 := text_store h hown2 hb2 hok2
  have s2 : B ≤ w2.heap.size := (by have := hb2.size; have := (text_size h).2; omega)
  refine Lib.hid ?_
  go_wp2_with (at_builtin; refine wpList_append_lies _ rfl _ _ 51 rfl B 5 i0 (.int .u8 0) 1 1 Tryd.underlying51 hi hz0 hz1 hz2 rfl (by decide) _ _ _ rfl (T1.2.1.alloc _) ⟨w2.heap.size, 0, none⟩ 1 1 [Value.int .u8 46] rfl rfl ?c1 ?c2 (by decide) ?c3 ?c4 ?c5 _ rfl ?_)
  case c1 => exact news1 _ _ _ (by simp)
  case c2 => intro u hu; simp at hu; subst hu; rfl
  case c3 => unfold maxLen; omega
  case c4 => omega
  case c5 => simp; omega
  intro g3 cap3 w3 hown3 hg3 _ _
  obtain ⟨T2, c3, f3⟩ := text_step T1 _ hown3 hg3
  clear hown3 hg3 hown2 hok2 hc2 c2 f2
  go_wp2_with fail
  go_loopw [3] (fun u wr => ∃ (j g cap m : Nat), j ≤ 6 ∧ m = k + 2 + j ∧ (∃ z, unitAt j = z ∧ u = .int .i64 z) ∧ TextAt t B w wr (.slice (some ⟨g, 0, none⟩) m cap) m (xs ++ (endBytes 333333).take (j + 2))) (fun u _ => (RowKit.intOf u).toNat)
  case atStart => exact ⟨0, g3, cap3, _, by omega, rfl, ⟨_, rfl, rfl⟩, by simpa [endBytes] using T2⟩
  case round =>
    obtain ⟨j, g, cap, m, hj, hm, ⟨z, hz, rfl⟩, T⟩ := hrel
    have HM := Lib.hid hm
    have hm1 : m ≤ 1010 := by omega
    clear hm
    clear T2 c3 f3 T1
    have c1 := cell_of_one T.1
    have f1 := free_of_one T.1
    have z1 := text_size T
    have hj' : j = 0 ∨ j = 1 ∨ j = 2 ∨ j = 3 ∨ j = 4 ∨ j = 5 ∨ j = 6 := by omega
    rcases hj' with rfl | rfl | rfl | rfl | rfl | rfl | rfl
    all_goals (simp only [unitAt] at hz; subst hz)
    rotate_left 6
    · go_wp2_with fail
      have hm := HM.out
      subst hm
      exact Go.Great.bodyPost_end0 rfl rfl ⟨rfl, _, by simpa [endBytes] using T⟩
    all_goals (
      go_wp2_with fail
      go_region_law
        ((refine step_append_lies _ rfl _ _ 51 rfl B 5 i0 (.int .u8 0) 1 1 Tryd.underlying51 hi hz0 hz1 hz2 rfl (by decide) _ _ _ rfl (T.2.1.drew.alloc _) ⟨wr.heap.size, 0, none⟩ 1 1 [Value.int .u8 51] rfl rfl (news1 _ _ _ rfl) (by intro u hu; simp at hu; subst hu; rfl) (by decide) (by unfold maxLen; omega) (by omega) (by simp; omega) _ rfl ?_; intro g4 cap4 w4 hown4 hg4 _ _; obtain ⟨T5, c5, f5⟩ := text_step (text_drew T) _ hown4 hg4))
      all_goals (
        clear hown4 hg4 c5 f5 T c1 f1
        go_wp2_with fail
        go_roundw
        case rel => first | exact ⟨1, g4, cap4, m + 1, by decide, by have := HM.out; omega, ⟨_, rfl, rfl⟩, by simpa [endBytes] using T5⟩ | exact ⟨2, g4, cap4, m + 1, by decide, by have := HM.out; omega, ⟨_, rfl, rfl⟩, by simpa [endBytes] using T5⟩ | exact ⟨3, g4, cap4, m + 1, by decide, by have := HM.out; omega, ⟨_, rfl, rfl⟩, by simpa [endBytes] using T5⟩ | exact ⟨4, g4, cap4, m + 1, by decide, by have := HM.out; omega, ⟨_, rfl, rfl⟩, by simpa [endBytes] using T5⟩ | exact ⟨5, g4, cap4, m + 1, by decide, by have := HM.out; omega, ⟨_, rfl, rfl⟩, by simpa [endBytes] using T5⟩ | exact ⟨6, g4, cap4, m + 1, by decide, by have := HM.out; omega, ⟨_, rfl, rfl⟩, by simpa [endBytes] using T5⟩
        case measure => simp [RowKit.intOf]; try omega))
set_option maxRecDepth 100000 in
set_option maxHeartbeats 2000000 in
theorem print1_333334 (t B k : Nat) (v : Value) (xs : List Value) (w : World) (h : TextAt t B w w v k xs) (hk : k ≤ 1000) :
    Calls Tryd.prog 48 #[.int .i64 333334, .pointer (some ⟨t, 0, none⟩)] w fun e w' => e = .returned (.tuple #[]) ∧ ∃ v', TextAt t B w w' v' (k + 8) (xs ++ endBytes 333334) := by
  obtain ⟨i0, hi, hz0, hz1, hz2⟩ := info_parts byte_info
  have c0 := cell_of_one h.1
  have f0 := free_of_one h.1
  go_enter Tryd.func48, Tryd.ntmps48
  go_wp2_with (go_at_call 49; refine (appendInt_zero B k v xs w h.2.1 (text_size h).2 (by omega)).mono ?_; rintro e w2 ⟨v2, rfl, hown2, hb2, hok2⟩; have hc2 := one_kept h.1 hok2; have c2 := cell_of_one hc2; have f2 := free_of_one hc2; refine Hid.out ?_)
  obtain ⟨g2, cap2, rfl, -, -⟩ := hown2.form (by omega)
  have T1 := text_store h hown2 hb2 hok2
  have s2 : B ≤ w2.heap.size := (by have := hb2.size; have := (text_size h).2; omega)
  refine Lib.hid ?_
  go_wp2_with (at_builtin; refine wpList_append_lies _ rfl _ _ 51 rfl B 5 i0 (.int .u8 0) 1 1 Tryd.underlying51 hi hz0 hz1 hz2 rfl (by decide) _ _ _ rfl (T1.2.1.alloc _) ⟨w2.heap.size, 0, none⟩ 1 1 [Value.int .u8 46] rfl rfl ?c1 ?c2 (by decide) ?c3 ?c4 ?c5 _ rfl ?_)
  case c1 => exact news1 _ _ _ (by simp)
  case c2 => intro u hu; simp at hu; subst hu; rfl
  case c3 => unfold maxLen; omega
  case c4 => omega
  case c5 => simp; omega
  intro g3 cap3 w3 hown3 hg3 _ _
  obtain ⟨T2, c3, f3⟩ := text_step T1 _ hown3 hg3
  clear hown3 hg3 hown2 hok2 hc2 c2 f2
  go_wp2_with fail
  go_loopw [3] (fun u wr => ∃ (j g cap m : Nat), j ≤ 6 ∧ m = k + 2 + j ∧ (∃ z, unitAt j = z ∧ u = .int .i64 z) ∧ TextAt t B w wr (.slice (some ⟨g, 0, none⟩) m cap) m (xs ++ (endBytes 333334).take (j + 2))) (fun u _ => (RowKit.intOf u).toNat)
  case atStart => exact ⟨0, g3, cap3, _, by omega, rfl, ⟨_, rfl, rfl⟩, by simpa [endBytes] using T2⟩
  case round =>
    obtain ⟨j, g, cap, m, hj, hm, ⟨z, hz, rfl⟩, T⟩ := hrel
    have HM := Lib.hid hm
    have hm1 : m ≤ 1010 := by omega
    clear hm
    clear T2 c3 f3 T1
    have c1 := cell_of_one T.1
    have f1 := free_of_one T.1
    have z1 := text_size T
    have hj' : j = 0 ∨ j = 1 ∨ j = 2 ∨ j = 3 ∨ j = 4 ∨ j = 5 ∨ j = 6 := by omega
    rcases hj' with rfl | rfl | rfl | rfl | rfl | rfl | rfl
    all_goals (simp only [unitAt] at hz; subst hz)
    rotate_left 6
    · go_wp2_with fail
      have hm := HM.out
      subst hm
      exact Go.Great.bodyPost_end0 rfl rfl ⟨rfl, _, by simpa [endBytes] using T⟩
    all_goals (
      go_wp2_with fail
      go_region_law
        (first
          | (refine step_append_lies _ rfl _ _ 51 rfl B 5 i0 (.int .u8 0) 1 1 Tryd.underlying51 hi hz0 hz1 hz2 rfl (by decide) _ _ _ rfl (T.2.1.drew.alloc _) ⟨wr.heap.size, 0, none⟩ 1 1 [Value.int .u8 51] rfl rfl (news1 _ _ _ rfl) (by intro u hu; simp at hu; subst hu; rfl) (by decide) (by unfold maxLen; omega) (by omega) (by simp; omega) _ rfl ?_; intro g4 cap4 w4 hown4 hg4 _ _; obtain ⟨T5, c5, f5⟩ := text_step (text_drew T) _ hown4 hg4)
          | (refine step_append_lies _ rfl _ _ 51 rfl B 5 i0 (.int .u8 0) 1 1 Tryd.underlying51 hi hz0 hz1 hz2 rfl (by decide) _ _ _ rfl (T.2.1.drew.alloc _) ⟨wr.heap.size, 0, none⟩ 1 1 [Value.int .u8 52] rfl rfl (news1 _ _ _ rfl) (by intro u hu; simp at hu; subst hu; rfl) (by decide) (by unfold maxLen; omega) (by omega) (by simp; omega) _ rfl ?_; intro g4 cap4 w4 hown4 hg4 _ _; obtain ⟨T5, c5, f5⟩ := text_step (text_drew T) _ hown4 hg4))
      all_goals (
        clear hown4 hg4 c5 f5 T c1 f1
        go_wp2_with fail
        go_roundw
        case rel => first | exact ⟨1, g4, cap4, m + 1, by decide, by have := HM.out; omega, ⟨_, rfl, rfl⟩, by simpa [endBytes] using T5⟩ | exact ⟨2, g4, cap4, m + 1, by decide, by have := HM.out; omega, ⟨_, rfl, rfl⟩, by simpa [endBytes] using T5⟩ | exact ⟨3, g4, cap4, m + 1, by decide, by have := HM.out; omega, ⟨_, rfl, rfl⟩, by simpa [endBytes] using T5⟩ | exact ⟨4, g4, cap4, m + 1, by decide, by have := HM.out; omega, ⟨_, rfl, rfl⟩, by simpa [endBytes] using T5⟩ | exact ⟨5, g4, cap4, m + 1, by decide, by have := HM.out; omega, ⟨_, rfl, rfl⟩, by simpa [endBytes] using T5⟩ | exact ⟨6, g4, cap4, m + 1, by decide, by have := HM.out; omega, ⟨_, rfl, rfl⟩, by simpa [endBytes] using T5⟩
        case measure => simp [RowKit.intOf]; try omega))
end Go.Proofs.YtognaejbpioihaaDoor.Iv
