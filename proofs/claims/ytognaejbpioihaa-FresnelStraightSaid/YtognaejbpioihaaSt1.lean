/- Contract of the reference's reflectance at a right angle, and what both polarizations are for the cosines 1. -/
import Derived.Test.YtognaejbpioihaaSh1
namespace Go.Proofs.Ytognaejbpioihaa.Iv
open Go.RowKit

set_option maxRecDepth 100000 in
theorem rstraight_any (a b c d : Int) (w : World) :
    Calls Try.prog 21 #[iv a b, iv c d] w fun e w' => e = retR (straightR a b c d) ∧ Below w.heap.size w w' := by
  go_enter Try.func21, Try.ntmps21
  go_wp2_with fail
  refine (rwin_any a b 1 4 _ (by decide) (by decide) (by decide) (by decide)).mono ?_
  rintro e w1 ⟨rfl, hb1⟩
  obtain ⟨hc1, hf1⟩ := bcell hb1
  have hz1 := hb1.size
  try simp at hz1
  have hs1_0 : w.heap.size < w1.heap.size := by omega
  have hs1_1 : w.heap.size + 1 < w1.heap.size := by omega
  have hs1_2 : w.heap.size + 1 + 1 < w1.heap.size := by omega
  have hw1 : Below w.heap.size w w1 := Below.trans (by repeat (first | exact Below.refl _ _ | refine Below.drew ?_ | refine Below.setCell ?_ (by first | omega | (simp <;> omega)) _ | refine Below.alloc ?_ (by first | omega | (simp <;> omega)) _)) (hb1.mono (by first | omega | (simp <;> omega)))
  clear hb1 hz1
  cases V1 : winB a b 1 4
  · go_wp2_with fail
    exact bodyPost_ret (v := .tuple #[iv 0 0, .int .i64 1]) (by simp [results, Try.results21, go_sem, *]) rfl ⟨by simp [straightR, V1], by repeat (first | exact hw1 | refine Below.drew ?_ | refine Below.setCell ?_ (by first | omega | (simp <;> omega)) _ | refine Below.alloc ?_ (by first | omega | (simp <;> omega)) _)⟩
  · skip
    go_wp2_with fail
    refine (rwin_any c d 1 4 _ (by decide) (by decide) (by decide) (by decide)).mono ?_
    rintro e w2 ⟨rfl, hb2⟩
    obtain ⟨hc2, hf2⟩ := bcell hb2
    have hz2 := hb2.size
    try simp at hz2
    have hs2_0 : w.heap.size < w2.heap.size := by omega
    have hs2_1 : w.heap.size + 1 < w2.heap.size := by omega
    have hs2_2 : w.heap.size + 1 + 1 < w2.heap.size := by omega
    have hw2 : Below w.heap.size w w2 := Below.trans (by repeat (first | exact hw1 | refine Below.drew ?_ | refine Below.setCell ?_ (by first | omega | (simp <;> omega)) _ | refine Below.alloc ?_ (by first | omega | (simp <;> omega)) _)) (hb2.mono (by first | omega | (simp <;> omega)))
    clear hb2 hz2
    cases V2 : winB c d 1 4
    · go_wp2_with fail
      exact bodyPost_ret (v := .tuple #[iv 0 0, .int .i64 1]) (by simp [results, Try.results21, go_sem, *]) rfl ⟨by simp [straightR, V2], by repeat (first | exact hw2 | refine Below.drew ?_ | refine Below.setCell ?_ (by first | omega | (simp <;> omega)) _ | refine Below.alloc ?_ (by first | omega | (simp <;> omega)) _)⟩
    · have HV := Lib.hid (show straightR a b c d = contrastR a b c d from if_pos ⟨V1, V2⟩)
      have hs2_3 : w.heap.size + 1 + 1 < w2.heap.size + 1 := by omega
      have c5 : w2.cell? ⟨w.heap.size + 1 + 1, 0, none⟩ = some (.int .i64 0) := by simp [go_sem, *]
      have c6 : w2.cell? ⟨w.heap.size + 1 + 1, 1, none⟩ = some (.int .i64 0) := by simp [go_sem, *]
      have c7 : w2.frozen? ⟨w.heap.size + 1 + 1, 0, none⟩ = false := by simp [go_sem, *]
      have c8 : w2.frozen? ⟨w.heap.size + 1 + 1, 1, none⟩ = false := by simp [go_sem, *]
      go_wp2_with fail
      refine (share_any w2.heap.size w2.heap.size 0 a b c d _ (by simp [go_sem]) (by simp [go_sem]) (Nat.le_refl _)).mono ?_
      rintro e w3 ⟨rfl, hb3⟩
      have HC := Lib.hid (share_contrast a b c d)
      rw [HC.out]
      have hz3 := hb3.size
      try simp at hz3
      have t5 := (hb3.cell (p := ⟨w.heap.size + 1 + 1, 0, none⟩) (by simp; omega))
      have t6 := (hb3.cell (p := ⟨w.heap.size + 1 + 1, 1, none⟩) (by simp; omega))
      have t7 := (hb3.frozen (p := ⟨w.heap.size + 1 + 1, 0, none⟩) (by simp; omega))
      have t8 := (hb3.frozen (p := ⟨w.heap.size + 1 + 1, 1, none⟩) (by simp; omega))
      simp [go_sem, hs2_2, c5, c6, c7, c8] at t5 t6 t7 t8
      have hw3 : Below w.heap.size w w3 := Below.trans (by repeat (first | exact hw2 | refine Below.drew ?_ | refine Below.setCell ?_ (by first | omega | (simp <;> omega)) _ | refine Below.alloc ?_ (by first | omega | (simp <;> omega)) _)) (hb3.mono (by first | omega | (simp <;> omega)))
      clear hb3 hz3 hc1 hf1 hc2 hf2 c5 c6 c7 c8
      go_wp2_with fail
      exact bodyPost_ret (v := .tuple #[.agg #[.int .i64 (contrastR a b c d).lo, .int .i64 (contrastR a b c d).hi], .int .i64 (contrastR a b c d).e]) (by simp [results, Try.results21, go_sem, *]) rfl ⟨by rw [HV.out], by repeat (first | exact hw3 | refine Below.drew ?_ | refine Below.setCell ?_ (by first | omega | (simp <;> omega)) _ | refine Below.alloc ?_ (by first | omega | (simp <;> omega)) _)⟩
end Go.Proofs.Ytognaejbpioihaa.Iv
