/- A surface that comes in as an argument is eight integers: how its reading is opened. -/
import Derived.Test.YtognaejbpioihaaRows
import Derived.Test.YtognaejbpioihaaFr5
import Derived.ProofKit
import Derived.OpenShut
import Derived.ShutString
import Derived.ChangeOld
import Derived.Below
import Derived.Deep.Slices
namespace Go.Proofs.Ytognaejbpioihaa.Iv
open Go.ChangeShapes Go.WideShapes Go.ChangeAt Go.RowKit Go.Deep

theorem own : ownKnob Try.prog.godebug = none := by kernel_rfl
theorem laidOut : laidOutB Try.prog = true := by kernel_rfl
theorem cellsSf : Try.prog.cellsOf 25 = 8 := by kernel_rfl
theorem cellsIv : Try.prog.cellsOf 23 = 2 := by kernel_rfl
theorem cellsInt : Try.prog.cellsOf 3 = 1 := by kernel_rfl
theorem len2 {α : Type} {l : List α} (h : l.length = 2) : ∃ a b, l = [a, b] := by
  match l, h with
  | [a, b], _ => exact ⟨a, b, rfl⟩
theorem len4 {α : Type} {l : List α} (h : l.length = 4) : ∃ a b c d, l = [a, b, c, d] := by
  match l, h with
  | [a, b, c, d], _ => exact ⟨a, b, c, d, rfl⟩
theorem len8 {α : Type} {l : List α} (h : l.length = 8) : ∃ a b c d e f g i, l = [a, b, c, d, e, f, g, i] := by
  match l, h with
  | [a, b, c, d, e, f, g, i], _ => exact ⟨a, b, c, d, e, f, g, i, rfl⟩
theorem iv_cells {H : Type} {enc : TypeId × Value → H} {w : World} {base n : Nat} {spare : Nat → Bool} {held : Bool} {c0 c1 : Value} {x : DataW H × List MemPlace}
    (h : DataW.trod enc Try.prog w base spare held n 23 [c0, c1] = some x) : ∃ a b : Int, c0 = .int .i64 a ∧ c1 = .int .i64 b ∧ (Lit.int .i64 a).wf = true ∧ (Lit.int .i64 b).wf = true := by
  obtain ⟨zs, m, _, _, _, hzl, hk⟩ := DataW.trod_struct Try.underlying23 h
  obtain ⟨z0, z1, rfl⟩ := len2 (by simpa using hzl)
  have k0 := hk 0 _ rfl
  have k1 := hk 1 _ rfl
  simp [cellsInt] at k0 k1
  obtain ⟨a, q0, _, w0⟩ := DataW.trod_int Try.underlying3 k0
  obtain ⟨b, q1, _, w1⟩ := DataW.trod_int Try.underlying3 k1
  simp at q0 q1
  exact ⟨a, b, q0, q1, w0, w1⟩

set_option maxRecDepth 100000 in
theorem sf_of {H : Type} {enc : TypeId × Value → H} {w : World} {r : Reach} {b0 base : Nat} {spare : Nat → Bool} {held : Bool} {v : Value} {d : DataW H} {p : List MemPlace}
    (hv : Value.okWide Try.prog w r b0 25 v) (h : DataW.Trod enc Try.prog w base spare held 25 v d p) :
    ∃ s : Sf, v = sv s ∧ ((Lit.int .i64 s.bl).wf = true ∧ (Lit.int .i64 s.bh).wf = true ∧ (Lit.int .i64 s.al).wf = true ∧ (Lit.int .i64 s.ah).wf = true ∧ (Lit.int .i64 s.fl).wf = true ∧ (Lit.int .i64 s.fh).wf = true ∧ (Lit.int .i64 s.tl).wf = true ∧ (Lit.int .i64 s.th).wf = true) := by
  obtain ⟨cs, rfl, hsz⟩ := okWide_struct Try.underlying25 hv
  obtain ⟨l⟩ := cs
  obtain ⟨fuel, hf⟩ := h
  have hf' : DataW.trod enc Try.prog w base spare held fuel 25 l = some (d, p) := hf
  have hl : l.length = 8 := hsz.trans cellsSf
  clear hf hv hsz
  obtain ⟨c0, c1, c2, c3, c4, c5, c6, c7, rfl⟩ := len8 hl
  obtain ⟨xs, m, _, _, _, hxl, hg⟩ := DataW.trod_struct Try.underlying25 hf'
  obtain ⟨x0, x1, x2, x3, rfl⟩ := len4 (by simpa using hxl)
  have e0 := hg 0 _ rfl
  have e1 := hg 1 _ rfl
  have e2 := hg 2 _ rfl
  have e3 := hg 3 _ rfl
  simp [cellsIv] at e0 e1 e2 e3
  obtain ⟨a0, a1, rfl, rfl, w0, w1⟩ := iv_cells e0
  obtain ⟨a2, a3, rfl, rfl, w2, w3⟩ := iv_cells e1
  obtain ⟨a4, a5, rfl, rfl, w4, w5⟩ := iv_cells e2
  obtain ⟨a6, a7, rfl, rfl, w6, w7⟩ := iv_cells e3
  exact ⟨⟨a0, a1, a2, a3, a4, a5, a6, a7⟩, rfl, w0, w1, w2, w3, w4, w5, w6, w7⟩
end Go.Proofs.Ytognaejbpioihaa.Iv
