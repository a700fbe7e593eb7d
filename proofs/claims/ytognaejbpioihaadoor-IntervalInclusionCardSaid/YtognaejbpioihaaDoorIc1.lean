/- Contract of the law's helper: the part of an interval between two numbers of units. -/
import Derived.Test.YtognaejbpioihaaDoorIcM
import Derived.Test.YtognaejbpioihaaDoorIe1
import Derived.Deep.RegionHeld3
namespace Go.Proofs.YtognaejbpioihaaDoor.Iv
open Go.RowKit
attribute [local go_sem] run_min2' run_max2'

set_option maxRecDepth 100000 in
theorem part_any (lo hi k l : Int) (w : World) (h : vB lo hi = true) (k0 : 0 ≤ k) (k1 : k ≤ 4294967295) (l0 : 0 ≤ l) (l1 : l ≤ 4294967295) :
    Calls Tryd.prog 31 #[iv lo hi, .agg #[.int .u32 k, .int .u32 l]] w fun e w' => e = .returned (iv (partLo lo hi k l) (partHi lo hi k l)) ∧ Below w.heap.size w w' := by
  obtain ⟨A, hA⟩ : ∃ A, inR lo hi k = A := ⟨_, rfl⟩
  obtain ⟨B, hB⟩ : ∃ B, inR lo hi l = B := ⟨_, rfl⟩
  simp only [partLo, partHi, hA, hB]
  have HIA := Lib.hid hA
  have HIB := Lib.hid hB
  have HV := Lib.hid h
  clear hA hB h
  go_enter Tryd.func31, Tryd.ntmps31
  go_wp2_with fail
  go_region_held3 (fun w' => w'.cell? ⟨w.heap.size, 0, none⟩ = some (.int .i64 lo) ∧ w'.cell? ⟨w.heap.size, 1, none⟩ = some (.int .i64 hi) ∧ w'.cell? ⟨w.heap.size + 1, 0, none⟩ = some (.int .u32 k) ∧ w'.cell? ⟨w.heap.size + 1, 1, none⟩ = some (.int .u32 l)) (first | (simp [go_sem, *]; done) | (simp [go_sem, hcx]; done))
    (first
      | (go_at_call 29; refine (inside_of _ _ _ _ HV.out (by first | exact k0 | exact l0) (by first | exact k1 | exact l1)).mono ?_; rintro e w' ⟨rfl, hb⟩; (first | rw [HIA.out] | rw [HIB.out]); obtain ⟨hcx, hfx⟩ := bcell hb; have hwx : Below w.heap.size w w' := Below.trans (by repeat (first | exact hwx | exact Below.refl _ _ | refine Below.drew ?_ | refine bdrewN ?_ _ | refine Below.alloc ?_ (by first | omega | (simp <;> omega)) _)) (hb.mono (by first | omega | (simp <;> omega))); have hsx := hb.size; (try simp at hsx); have hs0 : w.heap.size < w'.heap.size := (by omega); have hs1 : w.heap.size + 1 < w'.heap.size := (by omega); have hs2 : w.heap.size + 1 + 1 < w'.heap.size := (by omega)))
  go_wp2
  exact bodyPost_ret (v := iv (min A B) (max A B)) (by simp [results, Tryd.results31, go_sem, *]) rfl ⟨rfl, by repeat (first | exact hwx | refine Below.drew ?_ | refine bdrewN ?_ _ | refine Below.setCell ?_ (by first | omega | (simp <;> omega)) _ | refine Below.alloc ?_ (by first | omega | (simp <;> omega)) _)⟩
end Go.Proofs.YtognaejbpioihaaDoor.Iv
