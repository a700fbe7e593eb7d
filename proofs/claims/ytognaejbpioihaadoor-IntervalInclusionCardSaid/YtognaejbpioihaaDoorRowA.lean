/- Arrays of machine integers that come in: two and four numbers from 0 to 2^32 - 1. -/
import Derived.Test.YtognaejbpioihaaDoorIsRow
namespace Go.Proofs.YtognaejbpioihaaDoor.Iv
open Go.ChangeShapes Go.WideShapes Go.ChangeAt Go.RowKit Go.Deep

theorem cellsU32 : Tryd.prog.cellsOf 30 = 1 := by kernel_rfl
theorem cellsA2 : Tryd.prog.cellsOf 31 = 2 := by kernel_rfl
theorem cellsA4 : Tryd.prog.cellsOf 37 = 4 := by kernel_rfl
theorem len4 {α : Type} {l : List α} (h : l.length = 4) : ∃ a b c d, l = [a, b, c, d] := by
  match l, h with
  | [a, b, c, d], _ => exact ⟨a, b, c, d, rfl⟩
theorem u32_bd {k : Int} (h : (Lit.int .u32 k).wf = true) : 0 ≤ k ∧ k ≤ 4294967295 := by
  simp [Lit.wf, IntKind.min, IntKind.max, IntKind.signed, IntKind.bits] at h
  omega
theorem arr_okWide {n : Nat} {e t : TypeId} {P : Program} {w : World} {r : Reach} {b0 : Nat} {v : Value} (ht : P.underlying t = some (.array n e)) (h : Value.okWide P w r b0 t v) : ∃ cs : Array Value, v = .agg cs ∧ cs.size = P.cellsOf t := by
  simp only [Value.okWide, ht] at h
  obtain ⟨cs, h1, h2, _⟩ := h
  exact ⟨cs, h1, h2⟩

set_option maxRecDepth 100000 in
theorem a2_of {H : Type} {enc : TypeId × Value → H} {w : World} {r : Reach} {b0 base : Nat} {spare : Nat → Bool} {held : Bool} {v : Value} {d : DataW H} {p : List MemPlace}
    (hv : Value.okWide Tryd.prog w r b0 31 v) (h : DataW.Trod enc Tryd.prog w base spare held 31 v d p) :
    ∃ a b : Int, v = .agg #[.int .u32 a, .int .u32 b] ∧ (0 ≤ a ∧ a ≤ 4294967295) ∧ (0 ≤ b ∧ b ≤ 4294967295) := by
  obtain ⟨cs, rfl, hsz⟩ := arr_okWide Tryd.underlying31 hv
  obtain ⟨l⟩ := cs
  obtain ⟨fuel, hf⟩ := h
  have hf' : DataW.trod enc Tryd.prog w base spare held fuel 31 l = some (d, p) := hf
  have hl : l.length = 2 := hsz.trans cellsA2
  clear hf hv hsz
  obtain ⟨c0, c1, rfl⟩ := len2 hl
  obtain ⟨zs, m, _, _, _, hzl, hk⟩ := DataW.trod_array Tryd.underlying31 hf'
  obtain ⟨z0, z1, rfl⟩ := len2 hzl
  have k0 := hk 0 (by decide)
  have k1 := hk 1 (by decide)
  simp [cellsU32] at k0 k1
  obtain ⟨a, q0, _, w0⟩ := DataW.trod_int Tryd.underlying30 k0
  obtain ⟨b, q1, _, w1⟩ := DataW.trod_int Tryd.underlying30 k1
  simp at q0 q1
  subst q0 q1
  exact ⟨a, b, rfl, u32_bd w0, u32_bd w1⟩

set_option maxRecDepth 100000 in
theorem a4_of {H : Type} {enc : TypeId × Value → H} {w : World} {r : Reach} {b0 base : Nat} {spare : Nat → Bool} {held : Bool} {v : Value} {d : DataW H} {p : List MemPlace}
    (hv : Value.okWide Tryd.prog w r b0 37 v) (h : DataW.Trod enc Tryd.prog w base spare held 37 v d p) :
    ∃ a b c e : Int, v = .agg #[.int .u32 a, .int .u32 b, .int .u32 c, .int .u32 e] ∧ (0 ≤ a ∧ a ≤ 4294967295) ∧ (0 ≤ b ∧ b ≤ 4294967295) ∧ (0 ≤ c ∧ c ≤ 4294967295) ∧ (0 ≤ e ∧ e ≤ 4294967295) := by
  obtain ⟨cs, rfl, hsz⟩ := arr_okWide Tryd.underlying37 hv
  obtain ⟨l⟩ := cs
  obtain ⟨fuel, hf⟩ := h
  have hf' : DataW.trod enc Tryd.prog w base spare held fuel 37 l = some (d, p) := hf
  have hl : l.length = 4 := hsz.trans cellsA4
  clear hf hv hsz
  obtain ⟨c0, c1, c2, c3, rfl⟩ := len4 hl
  obtain ⟨zs, m, _, _, _, hzl, hk⟩ := DataW.trod_array Tryd.underlying37 hf'
  obtain ⟨z0, z1, z2, z3, rfl⟩ := len4 hzl
  have k0 := hk 0 (by decide)
  have k1 := hk 1 (by decide)
  have k2 := hk 2 (by decide)
  have k3 := hk 3 (by decide)
  simp [cellsU32] at k0 k1 k2 k3
  obtain ⟨a, q0, _, w0⟩ := DataW.trod_int Tryd.underlying30 k0
  obtain ⟨b, q1, _, w1⟩ := DataW.trod_int Tryd.underlying30 k1
  obtain ⟨c, q2, _, w2⟩ := DataW.trod_int Tryd.underlying30 k2
  obtain ⟨e, q3, _, w3⟩ := DataW.trod_int Tryd.underlying30 k3
  simp at q0 q1 q2 q3
  subst q0 q1 q2 q3
  exact ⟨a, b, c, e, rfl, u32_bd w0, u32_bd w1, u32_bd w2, u32_bd w3⟩
end Go.Proofs.YtognaejbpioihaaDoor.Iv
