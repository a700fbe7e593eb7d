/- Contracts of the program's functions on surfaces: what package fresnel returns, in words of plain functions. -/
import Derived.Test.YtognaejbpioihaaIv2
import Derived.Test.YtognaejbpioihaaIv3
import Derived.Test.YtognaejbpioihaaIv4
import Derived.Laws.OwnMore
import Derived.Deep.AppendLies
import Derived.Outline
import Derived.RegionTactic
import Derived.Deep.QuietTactic
import Derived.BigQuiet
namespace Go.Proofs.Ytognaejbpioihaa.Iv
open Go.RowKit

def cutI (n : Int) : Int := min (max n 0) 16777216
theorem info_int : (Try.prog.info? 3).map (fun i => (i.zero, i.size, i.bytes)) = some (some (.int .i64 0), 1, 8) := by kernel_rfl
def cutL (L : List Int) : List Int := L.map cutI
def vals (L : List Int) : List Value := L.map fun x : Int => Value.int .i64 x

theorem cutL_take (L : List Int) (k : Nat) (h : k < L.length) : cutL (L.take (k + 1)) = cutL (L.take k) ++ [cutI (L[k]?.getD 0)] := by
  unfold cutL
  rw [List.take_succ_eq_append_getElem h, List.map_append, List.getElem?_eq_getElem h]; rfl

theorem one_new (w : World) (v : Value) (t : TypeId) : ∀ j u, [v][j]? = some u → (w.alloc (.cells #[v] t)).cell? ((⟨w.heap.size, 0, none⟩ : Addr).add j) = some u := by
  intro j u h
  match j, h with
  | 0, h => simp at h; subst h; simp [Addr.add, World.cell?_alloc_at]
theorem one_int (k : IntKind) (x : Int) : ∀ u ∈ [Value.int k x], u.oneCell' = true := by
  intro u h
  simp at h
  subst h
  rfl
theorem vals_snoc (L : List Int) (x : Int) : vals (L ++ [x]) = vals L ++ [.int .i64 x] := by simp [vals]
theorem ints2 {w : World} {g : Nat} (x y : Int) (hg : g = w.heap.size) : IntsAt (w.alloc (.cells #[.int .i64 x, .int .i64 y] 3)) (some ⟨g, 0, none⟩) [x, y] := by
  subst hg
  intro _
  refine ⟨_, _, rfl, by simp, fun i hi => ?_⟩
  have h : i = 0 ∨ i = 1 := by simp at hi; omega
  rcases h with rfl | rfl <;> simp [World.cell?_alloc_at]
theorem add0 (g n : Nat) : (⟨g, 0, none⟩ : Addr).add n = ⟨g, n, none⟩ := by unfold Addr.add; split <;> simp_all
/-- cutEnds: a new slice with the numbers cut -/
def CutPost (n : Nat) (L : List Int) (w : World) (e : Ending) (w' : World) : Prop :=
  Below w.heap.size w w' ∧ ∃ v, e = .returned v ∧ w'.ownsRow w.heap.size 3 1 v n (vals (cutL L))

theorem cutEnds_any (ao : Option Addr) (n cap : Nat) (L : List Int) (w : World) (hn : n = L.length) (hm : n ≤ 20) (hL : IntsAt w ao L) :
    Calls Try.prog 54 #[.slice ao n cap] w (CutPost n L w) := by
  subst hn
  obtain ⟨i0, hi, hz0, hz1, hz2⟩ := info_parts info_int
  go_enter Try.func54, Try.ntmps54
  go_wp2
  go_loopw [3, 9] (fun v i wr => ∃ k : Nat, k ≤ L.length ∧ i = .int .i64 k ∧ wr.ownsRow w.heap.size 3 1 v k (vals (cutL (L.take k))) ∧ Below w.heap.size w wr) (fun _ i _ => L.length - (intOf i).toNat)
  case atStart => exact ⟨0, Nat.zero_le _, rfl, ⟨rfl, .inr ⟨w.heap.size, 0, #[], rfl, Nat.le_refl _, heap_alloc_new _ _, Nat.le_refl _, Nat.zero_le _, rfl, rfl⟩⟩, (Below.refl _ _).alloc (Nat.le_refl _) _⟩
  case round =>
    obtain ⟨k, hk, rfl, hown, hbel⟩ := hrel
    have hsz := hbel.size
    by_cases hlt : k < L.length
    · obtain ⟨b, off, rfl, hb1, hc⟩ := hL (by omega)
      have g0 := (hbel.cell (by exact hb1)).trans (hc k hlt)
      have HT := Lib.hid (cutL_take L k hlt)
      obtain ⟨z, hz⟩ : ∃ z, z = L[k]?.getD 0 := ⟨_, rfl⟩
      rw [← hz] at g0 HT
      clear hz
      by_cases z1 : z < 0
      · have HZ := Lib.hid (show cutI z = 0 by unfold cutI; omega)
        go_wp2_with (at_builtin; refine wpList_append_own _ rfl _ _ 57 rfl w.heap.size 3 i0 (.int .i64 0) 1 8 Try.underlying57 hi hz0 hz1 hz2 rfl (by decide) _ _ _ rfl (hown.alloc _) ⟨wr.heap.size, 0, none⟩ 1 1 [.int .i64 0] rfl rfl (one_new _ _ _) (one_int _ _) (by unfold maxLen; omega) (by omega) (by simp; omega) ?_)
        intro v' w1 hown' hgrow _
        have hb2 : Below w.heap.size w w1 := by
          refine Below.grown (hbel.alloc hbel.size _) hgrow ?_ ?_
          · simp; omega
          · intro q hq
            have := (hown.lt q hq).1
            omega
        clear hgrow hown g0
        go_wp2
        go_roundw
        case rel => exact ⟨k + 1, by omega, by go_num, by rw [HT.out, HZ.out, vals_snoc]; exact hown', hb2⟩
        case measure => simp [intOf]; omega
      · by_cases z2 : 16777216 < z
        · have HZ := Lib.hid (show cutI z = 16777216 by unfold cutI; omega)
          go_wp2_with (at_builtin; refine wpList_append_own _ rfl _ _ 57 rfl w.heap.size 3 i0 (.int .i64 0) 1 8 Try.underlying57 hi hz0 hz1 hz2 rfl (by decide) _ _ _ rfl (hown.alloc _) ⟨wr.heap.size, 0, none⟩ 1 1 [.int .i64 16777216] rfl rfl (one_new _ _ _) (one_int _ _) (by unfold maxLen; omega) (by omega) (by simp; omega) ?_)
          intro v' w1 hown' hgrow _
          have hb2 : Below w.heap.size w w1 := by
            refine Below.grown (hbel.alloc hbel.size _) hgrow ?_ ?_
            · simp; omega
            · intro q hq
              have := (hown.lt q hq).1
              omega
          clear hgrow hown g0
          go_wp2
          go_roundw
          case rel => exact ⟨k + 1, by omega, by go_num, by rw [HT.out, HZ.out, vals_snoc]; exact hown', hb2⟩
          case measure => simp [intOf]; omega
        · have HZ := Lib.hid (show cutI z = z by unfold cutI; omega)
          have z3 : 0 ≤ z := by omega
          have z4 : z ≤ 16777216 := by omega
          clear z1 z2
          go_wp2_with (at_builtin; refine wpList_append_own _ rfl _ _ 57 rfl w.heap.size 3 i0 (.int .i64 0) 1 8 Try.underlying57 hi hz0 hz1 hz2 rfl (by decide) _ _ _ rfl (hown.alloc _) ⟨wr.heap.size, 0, none⟩ 1 1 [.int .i64 z] rfl rfl (one_new _ _ _) (one_int _ _) (by unfold maxLen; omega) (by omega) (by simp; omega) ?_)
          intro v' w1 hown' hgrow _
          have hb2 : Below w.heap.size w w1 := by
            refine Below.grown (hbel.alloc hbel.size _) hgrow ?_ ?_
            · simp; omega
            · intro q hq
              have := (hown.lt q hq).1
              omega
          clear hgrow hown g0
          go_wp2
          go_roundw
          case rel => exact ⟨k + 1, by omega, by go_num, by rw [HT.out, HZ.out, vals_snoc]; exact hown', hb2⟩
          case measure => simp [intOf]; omega
    · obtain rfl : k = L.length := by omega
      go_wp2_with fail
      go_ret
      exact ⟨hbel, _, rfl, by rw [List.take_length] at hown; exact hown⟩

theorem cut_any (a b : Int) (w : World) :
    Calls Try.prog 35 #[iv a b] w fun e w' => e = .returned (iv (cutI a) (cutI b)) ∧ Below w.heap.size w w' := by
  go_enter Try.func35, Try.ntmps35
  go_wp2_with fail
  refine (cutEnds_any _ 2 2 [a, b] _ rfl (by decide) (ints2 a b (by simp))).mono ?_
  rintro e w1 ⟨hb1, v, rfl, hown⟩
  obtain ⟨g, cap, rfl, hg, hlt⟩ := hown.form (by simp)
  have c0 := hown.cells (g := g) rfl 0 (.int .i64 (cutI a)) rfl
  have c1 := hown.cells (g := g) rfl 1 (.int .i64 (cutI b)) rfl
  rw [add0] at c0 c1
  obtain ⟨hc1, hf1⟩ := bcell hb1
  have hz1 : w.heap.size + 2 < w1.heap.size := by have := hb1.size; simp at this; omega
  have hg' : w.heap.size + 2 < g := by simp at hg; omega
  have hw1 : Below w.heap.size w w1 := Below.trans (by repeat (first | exact Below.refl _ _ | refine Below.alloc ?_ (by simp <;> omega) _)) (hb1.mono (by simp; omega))
  clear hown hb1
  go_wp2
  go_region
  all_goals go_wp2
  exact bodyPost_ret (v := iv (cutI a) (cutI b)) (by simp [results, Try.results35, go_sem, hc1]) rfl ⟨rfl, ((hw1.setCell (by simp) _).setCell (by simp) _).drew⟩
end Go.Proofs.Ytognaejbpioihaa.Iv
