/- TierClosed returns true for every tier and turn, and the arguments read afterwards as they read before; no conditions. -/
import Derived.Test.YtikbgdbbicnfnaaTrRow
import Derived.Test.YtikbgdbbicnfnaaTc1
namespace Go.Proofs.Ytikbgdbbicnfnaa.Tr
open Go.ChangeShapes Go.WideShapes Go.ChangeAt Go.RowKit Go.Deep

theorem cTurn : Try.prog.cellsOf 44 = 3 := by kernel_rfl
theorem cU8 : Try.prog.cellsOf 5 = 1 := by kernel_rfl
theorem cI8 : Try.prog.cellsOf 42 = 1 := by kernel_rfl
theorem turn_cells {H : Type} {enc : TypeId × Value → H} {w : World} {fuel : Nat} {spare : Nat → Bool} {held : Bool} {cs : List Value} {x : DataW H × List MemPlace} (h : DataW.trod enc Try.prog w 0 spare held fuel 44 cs = some x) :
    ∃ (a k : Int) (mi : Bool), 0 ≤ a ∧ a ≤ 255 ∧ -128 ≤ k ∧ k ≤ 127 ∧ cs = [.int .u8 a, .bool mi, .int .i8 k] := by
  obtain ⟨hl, n, hf⟩ := fields Try.underlying44 h
  obtain ⟨_, h0⟩ := hf 0 _ rfl
  obtain ⟨_, h1⟩ := hf 1 _ rfl
  obtain ⟨_, h2⟩ := hf 2 _ rfl
  obtain ⟨a, k0, _, w0⟩ := DataW.trod_int Try.underlying5 h0
  obtain ⟨mi, k1, _⟩ := DataW.trod_bool Try.underlying4 h1
  obtain ⟨k, k2, _, w2⟩ := DataW.trod_int Try.underlying42 h2
  dsimp only at k0 k1 k2
  rw [cU8] at k0
  rw [cBool] at k1
  rw [cI8] at k2
  rw [cTurn] at hl
  have e := whole hl
  rw [show (3 : Nat) = 1 + (1 + 1) from rfl, cut, cut] at e
  have b0 : 0 ≤ a ∧ a ≤ 255 := by
    have := w0
    simp [Lit.wf, IntKind.min, IntKind.max, IntKind.signed, IntKind.bits] at this
    omega
  have b2 : -128 ≤ k ∧ k ≤ 127 := by
    have := w2
    simp [Lit.wf, IntKind.min, IntKind.max, IntKind.signed, IntKind.bits] at this
    omega
  refine ⟨a, k, mi, b0.1, b0.2, b2.1, b2.2, e.trans ?_⟩
  rw [k0, k1, k2]
  rfl
set_option maxRecDepth 100000 in
theorem tier_list {H : Type} {enc : TypeId × Value → H} {w : World} {fuel : Nat} {spare : Nat → Bool} {held : Bool} {cs : List Value} {x : DataW H × List MemPlace} (h : DataW.trod enc Try.prog w 0 spare held fuel 34 cs = some x) :
    ∃ (nm : ByteArray) (hh vv kd : Int) (ao ro : Option Addr) (cp rn rc : Nat) (B : Nat → Bool) (S : Nat → ByteArray) (L : List Int), ZAt w ao L ∧ cs = [.string nm, .int .i64 hh, .int .i64 vv, .slice ao L.length cp, .int .i64 kd, .bool (B 0), .string (S 0), .bool (B 1), .string (S 1), .bool (B 2), .string (S 2), .bool (B 3), .string (S 3), .bool (B 4), .string (S 4), .bool (B 5), .string (S 5), .bool (B 6), .string (S 6), .bool (B 7), .string (S 7), .bool (B 8), .string (S 8), .bool (B 9), .string (S 9), .bool (B 10), .string (S 10), .bool (B 11), .string (S 11), .bool (B 12), .string (S 12), .bool (B 13), .string (S 13), .bool (B 14), .string (S 14), .bool (B 15), .string (S 15), .bool (B 16), .string (S 16), .bool (B 17), .string (S 17), .bool (B 18), .string (S 18), .bool (B 19), .string (S 19), .slice ro rn rc] := by
  obtain ⟨nm, hh, vv, ao, L, cp, kd, ls, ro, rn, rc, ⟨B, S, rfl⟩, hz, k2⟩ := tier_cells h
  exact ⟨nm, hh, vv, kd, ao, ro, cp, rn, rc, B, S, L, hz, k2⟩
set_option maxRecDepth 100000 in
theorem lifted_closed (os : Os) (started : os.Started) (H : Type) (enc : TypeId × Value → H) :
    ReturnsInHanded {} Try.checked os 4 .any (Rows.tierClosedSpec.pre6 enc Try.prog Try.f4 Rows.tierClosedRow.domain false) (Rows.tierClosedSpec.post enc Try.prog Try.f4 false true false false) := by
  refine returnsInHanded_of_change (C := Try.checked) own started (by kernel_rfl) Try.func4
    (ChangeSpec.witness6 (enc := enc) (C := Try.checked) false ⟨#[], #[.agg #[.string ByteArray.empty, .int .i64 0, .int .i64 0, .slice none 0 0, .int .i64 0, .bool false, .string ByteArray.empty, .bool false, .string ByteArray.empty, .bool false, .string ByteArray.empty, .bool false, .string ByteArray.empty, .bool false, .string ByteArray.empty, .bool false, .string ByteArray.empty, .bool false, .string ByteArray.empty, .bool false, .string ByteArray.empty, .bool false, .string ByteArray.empty, .bool false, .string ByteArray.empty, .bool false, .string ByteArray.empty, .bool false, .string ByteArray.empty, .bool false, .string ByteArray.empty, .bool false, .string ByteArray.empty, .bool false, .string ByteArray.empty, .bool false, .string ByteArray.empty, .bool false, .string ByteArray.empty, .bool false, .string ByteArray.empty, .bool false, .string ByteArray.empty, .bool false, .string ByteArray.empty, .slice none 0 0], .agg #[.int .u8 0, .bool false, .int .i8 0]], []⟩ 60 (by kernel_rfl) (by kernel_rfl) (by kernel_rfl) (by kernel_rfl)) ?_
  intro W base args ds gs before hval0 hW hcnd _
  have hval : ∀ (j : Nat) t v, Try.f4.params[j]? = some t → args[j]? = some v → Value.okWide Try.prog W .any base t v := hval0
  have hW' := hW
  obtain ⟨p, q, hA0, hV, rfl, hfz, hnd⟩ := hW
  have hA : DataW.TrodAll enc Try.prog W 0 (fun _ => true) true Try.f4.params.toList args.toList ds p := hA0
  rw [Try.params4] at hA hval
  obtain ⟨v0, vs0, d0, ds0, p0, q0, hargs, rfl, rfl, h0, r0⟩ := trodAll_cons hA
  obtain ⟨v1, vs1, d1, ds1, p1, q1, rfl, rfl, rfl, h1, r1⟩ := trodAll_cons r0
  obtain ⟨rfl, rfl, rfl⟩ := trodAll_nil r1
  obtain rfl : args = #[v0, v1] := by cases args; simp_all
  obtain ⟨rfl, rfl⟩ := trodVars_none hV
  have k0 := h0
  have k1 := h1
  have lt0 : ∀ x ∈ p0, x.block < W.heap.size := by obtain ⟨m, hm⟩ := k0; exact DataW.trod_lt m _ _ _ hm
  have lt1 : ∀ x ∈ p1, x.block < W.heap.size := by obtain ⟨m, hm⟩ := k1; exact DataW.trod_lt m _ _ _ hm
  obtain ⟨fuel, hf⟩ := h0
  obtain ⟨fuel1, hf1⟩ := h1
  obtain ⟨cs0, rfl, _⟩ := okWide_struct Try.underlying34 (hval 0 34 v0 rfl rfl)
  obtain ⟨cs1, rfl, _⟩ := okWide_struct Try.underlying44 (hval 1 44 v1 rfl rfl)
  obtain ⟨nm, hh, vv, kd, ao, ro, cp, rn, rc, B, S, L, hz, hcs⟩ := tier_list hf
  obtain rfl : cs0 = #[.string nm, .int .i64 hh, .int .i64 vv, .slice ao L.length cp, .int .i64 kd, .bool (B 0), .string (S 0), .bool (B 1), .string (S 1), .bool (B 2), .string (S 2), .bool (B 3), .string (S 3), .bool (B 4), .string (S 4), .bool (B 5), .string (S 5), .bool (B 6), .string (S 6), .bool (B 7), .string (S 7), .bool (B 8), .string (S 8), .bool (B 9), .string (S 9), .bool (B 10), .string (S 10), .bool (B 11), .string (S 11), .bool (B 12), .string (S 12), .bool (B 13), .string (S 13), .bool (B 14), .string (S 14), .bool (B 15), .string (S 15), .bool (B 16), .string (S 16), .bool (B 17), .string (S 17), .bool (B 18), .string (S 18), .bool (B 19), .string (S 19), .slice ro rn rc] := by
    apply Array.toList_inj.1
    exact hcs
  obtain ⟨a, k, mi, b0, b1, b2, b3, hcs1⟩ := turn_cells hf1
  obtain rfl : cs1 = #[.int .u8 a, .bool mi, .int .i8 k] := by
    apply Array.toList_inj.1
    exact hcs1
  clear hA0 hval0
  refine (tclosed_any a k mi nm hh vv kd ao ro cp rn rc B S L W hz b0 b1 b2 b3).mono fun e W' ⟨he, bel⟩ => ?_
  subst he
  exact ⟨_, rfl, _, _, _, [], _, [], hW', trodAll_mk1 (shut_bool Try.underlying4 _), (trodAll_cons_mk (Below.trod laidOut (by kernel_rfl) (of_decide_eq_true (by kernel_rfl)) k0 bel lt0) (trodAll_cons_mk (Below.trod laidOut (by kernel_rfl) (of_decide_eq_true (by kernel_rfl)) k1 bel lt1) trodAll_mk0)), rfl, bel.frame _, fun h => by cases h⟩

theorem over_closed : Rows.tierClosedRow.holds Try.pinned (OpenSpec.ofChange Rows.tierClosedSpec) :=
  OpenClaim.holds_of_wide 4 Try.f4 rfl rfl rfl rfl rfl rfl rfl ⟨rfl, rfl, rfl, rfl, rfl⟩ rfl rfl rfl rfl rfl (by kernel_rfl) Try.func4 (by kernel_rfl)
    (of_decide_eq_true (by kernel_rfl)) (by unfold Func.isWrapper; first | (rw [if_pos (by decide +kernel)]; kernel_rfl) | (rw [if_neg (by decide +kernel)]; exact ⟨rfl, rfl⟩))
    (fun os started H enc _ => lifted_closed os started H enc)

/-- THE STATEMENT -/
theorem tierClosed_holds : Rows.TierClosedSaid := over_closed
end Go.Proofs.Ytikbgdbbicnfnaa.Tr
