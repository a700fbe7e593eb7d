/- The laws of layer 27 begin with an example: it holds. -/
import Derived.Test.YtognaejbpioihaaDoorPr2
import Derived.Test.YtognaejbpioihaaDoorIv4
namespace Go.Proofs.YtognaejbpioihaaDoor.Iv
open Go.RowKit

theorem of_any (n : Int) (w : World) (h1 : -64 ≤ n) (h2 : n ≤ 64) :
    Calls Tryd.prog 34 #[.int .i64 n] w fun e w' => e = .returned (.tuple #[iv (n * 16777216) (n * 16777216), .int .i64 0]) ∧ boxed w (n * 16777216) (n * 16777216) = w' := by
  have i1 : IntKind.i64.wrap (n * 16777216) = n * 16777216 := IntWalk.i64_in _ (by omega)
  go_enter Tryd.func34, Tryd.ntmps34
  go_wp2
  exact bodyPost_ret (v := .tuple #[iv (n * 16777216) (n * 16777216), .int .i64 0]) (by simp [results, Tryd.results34, go_sem, *]) rfl ⟨rfl, by rfl⟩

theorem aw_div : retR (divR 16777216 16777216 50331648 50331648) = .returned (.tuple #[iv 5592405 5592406, .int .i64 0]) := by
  have h : divR 16777216 16777216 50331648 50331648 = ⟨5592405, 5592406, 0⟩ := by rfl
  rw [h]

set_option maxRecDepth 100000 in
theorem awake_any (w : World) :
    Calls Tryd.prog 9 #[] w fun e w' => e = .returned (.bool true) ∧ Below w.heap.size w w' := by
  have H1 := Lib.hid aw_div
  go_enter Tryd.func9, Tryd.ntmps9
  go_wp2_with (go_at_call 34; refine (of_any _ _ (by decide) (by decide)).mono ?_; rintro e w1 ⟨rfl, rfl⟩)
  refine (div_any _ _ _ _ _).mono ?_
  rintro e w1 ⟨rfl, hb1⟩
  rw [H1.out]
  obtain ⟨hc1, hf1⟩ := bcell hb1
  have hz1 := hb1.size
  simp at hz1
  have s1 : w.heap.size + 1 < w1.heap.size := by omega
  have s2 : w.heap.size + 1 + 1 + 1 < w1.heap.size := by omega
  have hw1 : Below w.heap.size w w1 := Below.trans ((((Below.refl _ _).alloc (Nat.le_refl _) _).alloc (by simp) _).alloc (by simp; omega) _ |>.alloc (by simp; omega) _) (hb1.mono (by simp; omega))
  clear hb1 hz1
  go_wp2_with fail
  refine (print_ex _).mono ?_
  rintro e w2 ⟨rfl, hb2⟩
  have hz2 := hb2.size
  simp at hz2
  have d0 := hb2.cell (p := ⟨w1.heap.size, 0, none⟩) (by simp)
  have d1 := hb2.cell (p := ⟨w1.heap.size, 1, none⟩) (by simp)
  simp [go_sem] at d0 d1
  have hw2 : Below w.heap.size w w2 := (hw1.alloc (by omega) _).trans (hb2.mono (by simp; omega))
  clear hb2 hz2
  clear hc1 hf1
  go_wp2
  go_ret
  exact ⟨rfl, hw2⟩
end Go.Proofs.YtognaejbpioihaaDoor.Iv
