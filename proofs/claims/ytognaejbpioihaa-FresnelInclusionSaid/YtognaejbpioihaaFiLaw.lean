/- FresnelInclusion returns true for every surface and every eight numbers, and the arguments read afterwards as they read before; no conditions. -/
import Derived.Test.YtognaejbpioihaaFrRow
import Derived.Test.YtognaejbpioihaaFi2
import Derived.OpenShut
namespace Go.Proofs.Ytognaejbpioihaa.Iv.fresnelInclusion
open Go.ChangeShapes Go.WideShapes Go.ChangeAt Go.RowKit Go.Deep

theorem cellsU32 : Try.prog.cellsOf 39 = 1 := by kernel_rfl
theorem cellsA8 : Try.prog.cellsOf 40 = 8 := by kernel_rfl
theorem u32_bd {k : Int} (h : (Lit.int .u32 k).wf = true) : 0 ≤ k ∧ k ≤ 4294967295 := by
  simp [Lit.wf, IntKind.min, IntKind.max, IntKind.signed, IntKind.bits] at h
  omega
theorem arr_okWide {n : Nat} {e t : TypeId} {P : Program} {w : World} {r : Reach} {b0 : Nat} {v : Value} (ht : P.underlying t = some (.array n e)) (h : Value.okWide P w r b0 t v) : ∃ cs : Array Value, v = .agg cs ∧ cs.size = P.cellsOf t := by
  simp only [Value.okWide, ht] at h
  obtain ⟨cs, h1, h2, _⟩ := h
  exact ⟨cs, h1, h2⟩
set_option maxRecDepth 100000 in
theorem a8_of {H : Type} {enc : TypeId × Value → H} {w : World} {r : Reach} {b0 base : Nat} {spare : Nat → Bool} {held : Bool} {v : Value} {d : DataW H} {p : List MemPlace}
    (hv : Value.okWide Try.prog w r b0 40 v) (h : DataW.Trod enc Try.prog w base spare held 40 v d p) :
    ∃ k0 k1 k2 k3 k4 k5 k6 k7 : Int, v = .agg #[.int .u32 k0, .int .u32 k1, .int .u32 k2, .int .u32 k3, .int .u32 k4, .int .u32 k5, .int .u32 k6, .int .u32 k7] ∧ (0 ≤ k0 ∧ k0 ≤ 4294967295) ∧ (0 ≤ k1 ∧ k1 ≤ 4294967295) ∧ (0 ≤ k2 ∧ k2 ≤ 4294967295) ∧ (0 ≤ k3 ∧ k3 ≤ 4294967295) ∧ (0 ≤ k4 ∧ k4 ≤ 4294967295) ∧ (0 ≤ k5 ∧ k5 ≤ 4294967295) ∧ (0 ≤ k6 ∧ k6 ≤ 4294967295) ∧ (0 ≤ k7 ∧ k7 ≤ 4294967295) := by
  obtain ⟨cs, rfl, hsz⟩ := arr_okWide Try.underlying40 hv
  obtain ⟨l⟩ := cs
  obtain ⟨fuel, hf⟩ := h
  have hf' : DataW.trod enc Try.prog w base spare held fuel 40 l = some (d, p) := hf
  have hl : l.length = 8 := hsz.trans cellsA8
  clear hf hv hsz
  obtain ⟨c0, c1, c2, c3, c4, c5, c6, c7, rfl⟩ := len8 hl
  obtain ⟨zs, m, _, _, _, hzl, hk⟩ := DataW.trod_array Try.underlying40 hf'
  obtain ⟨z0, z1, z2, z3, z4, z5, z6, z7, rfl⟩ := len8 hzl
  have k0 := hk 0 (by decide)
  have k1 := hk 1 (by decide)
  have k2 := hk 2 (by decide)
  have k3 := hk 3 (by decide)
  have k4 := hk 4 (by decide)
  have k5 := hk 5 (by decide)
  have k6 := hk 6 (by decide)
  have k7 := hk 7 (by decide)
  simp [cellsU32] at k0 k1 k2 k3 k4 k5 k6 k7
  obtain ⟨a0, q0, _, w0⟩ := DataW.trod_int Try.underlying39 k0
  obtain ⟨a1, q1, _, w1⟩ := DataW.trod_int Try.underlying39 k1
  obtain ⟨a2, q2, _, w2⟩ := DataW.trod_int Try.underlying39 k2
  obtain ⟨a3, q3, _, w3⟩ := DataW.trod_int Try.underlying39 k3
  obtain ⟨a4, q4, _, w4⟩ := DataW.trod_int Try.underlying39 k4
  obtain ⟨a5, q5, _, w5⟩ := DataW.trod_int Try.underlying39 k5
  obtain ⟨a6, q6, _, w6⟩ := DataW.trod_int Try.underlying39 k6
  obtain ⟨a7, q7, _, w7⟩ := DataW.trod_int Try.underlying39 k7
  simp at q0 q1 q2 q3 q4 q5 q6 q7
  subst q0 q1 q2 q3 q4 q5 q6 q7
  exact ⟨a0, a1, a2, a3, a4, a5, a6, a7, rfl, u32_bd w0, u32_bd w1, u32_bd w2, u32_bd w3, u32_bd w4, u32_bd w5, u32_bd w6, u32_bd w7⟩

set_option maxRecDepth 100000 in
theorem lifted (os : Os) (started : os.Started) (H : Type) (enc : TypeId × Value → H) :
    ReturnsInHanded {} Try.checked os 8 .any (Rows.fresnelInclusionSpec.pre6 enc Try.prog Try.f8 Rows.fresnelInclusionRow.domain false) (Rows.fresnelInclusionSpec.post enc Try.prog Try.f8 false true false false) := by
  refine returnsInHanded_of_change (C := Try.checked) own started (by kernel_rfl) Try.func8
    (ChangeSpec.witness6 (enc := enc) (C := Try.checked) false ⟨#[], #[.agg #[.int .i64 0, .int .i64 0, .int .i64 0, .int .i64 0, .int .i64 0, .int .i64 0, .int .i64 0, .int .i64 0], .agg #[.int .u32 0, .int .u32 0, .int .u32 0, .int .u32 0, .int .u32 0, .int .u32 0, .int .u32 0, .int .u32 0]], []⟩ 8 (by kernel_rfl) (by kernel_rfl) (by kernel_rfl) (by kernel_rfl)) ?_
  intro W base args ds gs before hval0 hW hcnd _
  have hval : ∀ (j : Nat) t v, Try.f8.params[j]? = some t → args[j]? = some v → Value.okWide Try.prog W .any base t v := hval0
  have hW' := hW
  obtain ⟨p, q, hA0, hV, rfl, hfz, hnd⟩ := hW
  have hA : DataW.TrodAll enc Try.prog W 0 (fun _ => true) true Try.f8.params.toList args.toList ds p := hA0
  rw [Try.params8] at hA hval
  obtain ⟨v0, vs0, d0, ds0, p0, q0, hargs, rfl, rfl, h0, r0⟩ := trodAll_cons hA
  obtain ⟨v1, vs1, d1, ds1, p1, q1, rfl, rfl, rfl, h1, r1⟩ := trodAll_cons r0
  obtain ⟨rfl, rfl, rfl⟩ := trodAll_nil r1
  obtain rfl : args = #[v0, v1] := by cases args; simp_all
  obtain ⟨rfl, rfl⟩ := trodVars_none hV
  have tt0 := h0
  have tt1 := h1
  have lt0 : ∀ x ∈ p0, x.block < W.heap.size := by obtain ⟨m, hm⟩ := tt0; exact DataW.trod_lt m _ _ _ hm
  have lt1 : ∀ x ∈ p1, x.block < W.heap.size := by obtain ⟨m, hm⟩ := tt1; exact DataW.trod_lt m _ _ _ hm
  obtain ⟨s, rfl, ws⟩ := sf_of (hval 0 25 v0 rfl rfl) h0
  obtain ⟨k0, k1, k2, k3, k4, k5, k6, k7, rfl, ⟨h0a, h0b⟩, ⟨h1a, h1b⟩, ⟨h2a, h2b⟩, ⟨h3a, h3b⟩, ⟨h4a, h4b⟩, ⟨h5a, h5b⟩, ⟨h6a, h6b⟩, ⟨h7a, h7b⟩⟩ := a8_of (hval 1 40 v1 rfl rfl) h1
  clear hA0 hval0
  refine (fincl_any s k0 k1 k2 k3 k4 k5 k6 k7 W h0a h0b h1a h1b h2a h2b h3a h3b h4a h4b h5a h5b h6a h6b h7a h7b).mono fun e W' ⟨he, bel⟩ => ?_
  subst he
  exact ⟨_, rfl, _, _, _, [], _, [], hW', trodAll_mk1 (shut_bool Try.underlying4 _), (trodAll_cons_mk (Below.trod laidOut (by kernel_rfl) (of_decide_eq_true (by kernel_rfl)) tt0 bel lt0) (trodAll_cons_mk (Below.trod laidOut (by kernel_rfl) (of_decide_eq_true (by kernel_rfl)) tt1 bel lt1) trodAll_mk0)), rfl, bel.frame _, fun h => by cases h⟩

theorem holds : Rows.FresnelInclusionSaid :=
  OpenClaim.holds_of_wide 8 Try.f8 rfl rfl rfl rfl rfl rfl rfl ⟨rfl, rfl, rfl, rfl, rfl⟩ rfl rfl rfl rfl rfl (by kernel_rfl) Try.func8 (by kernel_rfl)
    (of_decide_eq_true (by kernel_rfl)) (by unfold Func.isWrapper; first | (rw [if_pos (by decide +kernel)]; kernel_rfl) | (rw [if_neg (by decide +kernel)]; exact ⟨rfl, rfl⟩))
    (fun os started H enc _ => lifted os started H enc)
end Go.Proofs.Ytognaejbpioihaa.Iv.fresnelInclusion
