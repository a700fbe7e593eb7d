/- Print of the example's quotient. -/
import Derived.Test.YtognaejbpioihaaDoorPr1
import Derived.Laws.IdiomStrings
import Derived.Laws.BytesString
namespace Go.Proofs.YtognaejbpioihaaDoor.Iv
open Go.RowKit Go.Lib

theorem text_new (W : World) (x : Value) (s : Nat) (hs : W.heap.size = s) :
    TextAt (s + 1) s ((W.alloc (.cells #[x] 5)).alloc (.cells #[.slice (some ⟨s, 0, none⟩) 1 1] 51)) ((W.alloc (.cells #[x] 5)).alloc (.cells #[.slice (some ⟨s, 0, none⟩) 1 1] 51)) (.slice (some ⟨s, 0, none⟩) 1 1) 1 [x] := by
  subst hs
  refine ⟨by simpa using heap_alloc_new (W.alloc (.cells #[x] 5)) (.cells #[.slice (some ⟨W.heap.size, 0, none⟩) 1 1] 51), ⟨rfl, .inr ⟨W.heap.size, 1, #[x], rfl, Nat.le_refl _, ?_, Nat.le_refl _, by decide, rfl, rfl⟩⟩, Below.refl _ _, by omega⟩
  exact (heap_alloc_old _ _ (by simp)).trans (heap_alloc_new W _)

/-- an append of a constant string -/
theorem text_step0 {t B k k1 : Nat} {v v1 : Value} {xs xs1 : List Value} {w wr w1 : World} (h : TextAt t B w wr v k xs) (hown : w1.ownsRow B 5 1 v1 k1 xs1) (hg : wr.grownBy w1 v.ownBlock) :
    TextAt t B w (w1.setCell ⟨t, 0, none⟩ v1) v1 k1 xs1 ∧ w1.cell? ⟨t, 0, none⟩ = some v ∧ w1.frozen? ⟨t, 0, none⟩ = false ∧ Below B wr w1 := by
  obtain ⟨h5, h6⟩ := grown_kept h.2.1 (text_size h).2 hg
  have h7 := one_kept h.1 h6
  exact ⟨text_store h hown h5 h6, cell_of_one h7, free_of_one h7, h5⟩
theorem text_here {t B k : Nat} {v : Value} {xs : List Value} {w wr : World} (h : TextAt t B w wr v k xs) : TextAt t B wr wr v k xs := ⟨h.1, h.2.1, Below.refl _ _, h.2.2.2⟩

def exText : List UInt8 := [91, 48, 46, 51, 51, 51, 51, 51, 51, 44, 32, 48, 46, 51, 51, 51, 51, 51, 52, 93]
set_option maxRecDepth 100000 in
theorem print_ex (w : World) :
    Calls Tryd.prog 35 #[iv 5592405 5592406] w fun e w' => e = .returned (.tuple #[.string ⟨exText.toArray⟩, .int .i64 0]) ∧ Below w.heap.size w w' := by
  obtain ⟨i0, hi, hz0, hz1, hz2⟩ := info_parts byte_info
  have V := Lib.hid (show vB 5592405 5592406 = true from by decide)
  have F := Lib.hid (show fl 5592405000000 = 333333 from by decide)
  have C := Lib.hid (show ce 5592406000000 = 333334 from by decide)
  go_enter Tryd.func35, Tryd.ntmps35
  go_wp2_with (go_at_call 36; refine (valid_any _ _ _).mono ?_; rintro e w1 ⟨rfl, rfl⟩; rw [V.out])
  have T0 := text_new (boxed (w.alloc (Obj.cells #[Value.int IntKind.i64 5592405, Value.int IntKind.i64 5592406] 23)) 5592405 5592406) (.int .u8 91) (w.heap.size + 1 + 1) (by simp)
  refine (down_any _ _).mono ?_
  rintro e w1 ⟨rfl, rfl⟩
  rw [F.out]
  go_wp2_with fail
  refine (print1_333333 _ _ _ _ _ _ T0 (by omega)).mono ?_
  rintro e w1 ⟨rfl, v1, T1⟩
  have hk1 := T1.2.1.form (by omega)
  obtain ⟨g1, cap1, rfl, -, -⟩ := hk1
  have c1 := cell_of_one T1.1
  have f1 := free_of_one T1.1
  have z1 := text_size T1
  have b0 := T1.2.2.1.cell (p := ⟨w.heap.size, 1, none⟩) (by show w.heap.size < _; omega)
  simp [go_sem] at b0
  go_wp2_with (at_builtin; refine Lib.wpList_append_own_string _ rfl _ _ 51 9 rfl _ 5 i0 Tryd.underlying51 Tryd.underlying9 hi hz0 hz1 hz2 _ _ _ rfl T1.2.1 ⟨#[44, 32]⟩ rfl (by show 1 + 8 + 2 ≤ maxLen; unfold maxLen; omega) (by show 1 + 8 + 2 ≤ _; omega) z1.2 ?_)
  intro v2 w2 hown2 hg2 _
  obtain ⟨g2, cap2, rfl, -, -⟩ := hown2.form (by decide)
  obtain ⟨T2, c2, f2, hb2⟩ := text_step0 T1 hown2 hg2
  have b2 := (hb2.cell (p := ⟨w.heap.size, 1, none⟩) (by show w.heap.size < _; omega)).trans b0
  have U2 := text_here T2
  have z2 := text_size T2
  go_wp2_with fail
  refine (up_any _ _ (by decide) (by decide)).mono ?_
  rintro e w2' ⟨rfl, rfl⟩
  rw [C.out]
  go_wp2_with fail
  refine (print1_333334 _ _ _ _ _ _ U2 (by decide)).mono ?_
  rintro e w3 ⟨rfl, v3, T3⟩
  obtain ⟨g3, cap3, rfl, -, -⟩ := T3.2.1.form (by decide)
  have c3 := cell_of_one T3.1
  have z3 := text_size T3
  go_wp2_with (at_builtin; refine wpList_append_lies _ rfl _ _ 51 rfl (w.heap.size + 1 + 1) 5 i0 (.int .u8 0) 1 1 Tryd.underlying51 hi hz0 hz1 hz2 rfl (by decide) _ _ _ rfl (T3.2.1.alloc _) ⟨w3.heap.size, 0, none⟩ 1 1 [Value.int .u8 93] rfl rfl (news1 _ _ _ rfl) (by intro u hu; simp at hu; subst hu; rfl) (by decide) (by decide) (by decide) (by simp; omega) _ rfl ?_)
  intro g4 cap4 w4 hown4 hg4 _ _
  have hl4 : Below (w.heap.size + 1 + 1) w3 w4 := (grown_kept (T3.2.1.alloc _) (by simp; omega) hg4).1 |> fun h => ((Below.refl _ _).alloc (by omega) _).trans h
  have hrow : w4.ownsRow (w.heap.size + 1 + 1) 5 1 (Value.slice (some ⟨g4, 0, none⟩) 20 cap4) 20 (byteCells exText) := hown4
  have hcv : (convert 51 9 (Value.slice (some ⟨g4, 0, none⟩) 20 cap4)).run Tryd.prog w4 = .ok (.string ⟨exText.toArray⟩) w4 :=
    run_convert_bytes_back (P := Tryd.prog) w4 51 9 5 ⟨g4, 0, none⟩ cap4 exText Tryd.underlying51 Tryd.underlying5 Tryd.underlying9 (fun j hj => hrow.cells (g := g4) rfl j _ (by show (exText.map _)[j]? = _; rw [List.getElem?_map, List.getElem?_eq_getElem hj]; rfl))
  have hs : w.heap.size ≤ (⟨w.heap.size + 1 + 1 + 1, 0, none⟩ : Addr).block := by show _ ≤ w.heap.size + 1 + 1 + 1; omega
  have hA : Below w.heap.size w w2 := Below.trans (((Below.refl _ _).alloc (Nat.le_refl _) _).alloc (by simp) _ |>.alloc (by simp; omega) _ |>.alloc (by simp; omega) _) ((T1.2.2.1.trans hb2).mono (by omega))
  have hW : Below w.heap.size w w4 := ((hA.setCell hs _).trans (T3.2.2.1.mono (by omega))).trans (hl4.mono (by omega))
  clear hown4 hg4 hl4 T3 U2 T2 T1 T0 hrow
  go_wp2_with fail
  exact bodyPost_ret (v := .tuple #[.string ⟨exText.toArray⟩, .int .i64 0]) (by simp [results, Tryd.results35, go_sem]) rfl ⟨rfl, hW⟩
end Go.Proofs.YtognaejbpioihaaDoor.Iv
