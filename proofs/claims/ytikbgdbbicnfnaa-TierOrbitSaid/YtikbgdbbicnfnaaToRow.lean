/- TierOrbit returns true for every case, and the argument reads afterwards as it read before; no conditions. -/
import Derived.Test.YtikbgdbbicnfnaaTrRow
import Derived.Test.YtikbgdbbicnfnaaTo1
namespace Go.Proofs.Ytikbgdbbicnfnaa.Tr
open Go.ChangeShapes Go.WideShapes Go.ChangeAt Go.RowKit Go.Deep

theorem cCase : Try.prog.cellsOf 36 = 49 := by kernel_rfl
set_option maxRecDepth 100000 in
theorem case_cells {H : Type} {enc : TypeId × Value → H} {w : World} {fuel : Nat} {spare : Nat → Bool} {held : Bool} {cs : List Value} {x : DataW H × List MemPlace} (h : DataW.trod enc Try.prog w 0 spare held fuel 36 cs = some x) :
    ∃ (o ix : Int) (mi : Bool) (nm : ByteArray) (hh vv kd : Int) (ao ro : Option Addr) (cp rn rc : Nat) (B : Nat → Bool) (S : Nat → ByteArray) (L : List Int), ZAt w ao L ∧ cs = [.int .i64 o, .int .i64 ix, .string nm, .int .i64 hh, .int .i64 vv, .slice ao L.length cp, .int .i64 kd, .bool (B 0), .string (S 0), .bool (B 1), .string (S 1), .bool (B 2), .string (S 2), .bool (B 3), .string (S 3), .bool (B 4), .string (S 4), .bool (B 5), .string (S 5), .bool (B 6), .string (S 6), .bool (B 7), .string (S 7), .bool (B 8), .string (S 8), .bool (B 9), .string (S 9), .bool (B 10), .string (S 10), .bool (B 11), .string (S 11), .bool (B 12), .string (S 12), .bool (B 13), .string (S 13), .bool (B 14), .string (S 14), .bool (B 15), .string (S 15), .bool (B 16), .string (S 16), .bool (B 17), .string (S 17), .bool (B 18), .string (S 18), .bool (B 19), .string (S 19), .slice ro rn rc, .bool mi] := by
  obtain ⟨hl, n, hf⟩ := fields Try.underlying36 h
  obtain ⟨_, h0⟩ := hf 0 _ rfl
  obtain ⟨_, h1⟩ := hf 1 _ rfl
  obtain ⟨_, h2⟩ := hf 2 _ rfl
  obtain ⟨_, h3⟩ := hf 3 _ rfl
  obtain ⟨o, k0, _⟩ := DataW.trod_int Try.underlying3 h0
  obtain ⟨ix, k1, _⟩ := DataW.trod_int Try.underlying3 h1
  obtain ⟨nm, hh, vv, ao, L, cp, kd, ls, ro, rn, rc, ⟨B, S, rfl⟩, hz, k2⟩ := tier_cells h2
  obtain ⟨mi, k3, _⟩ := DataW.trod_bool Try.underlying4 h3
  dsimp only at k0 k1 k2 k3
  rw [cInt] at k0 k1
  rw [cT] at k2
  rw [cBool] at k3
  rw [cCase] at hl
  have e := whole hl
  rw [show (49 : Nat) = 1 + (1 + (46 + 1)) from rfl, cut, cut, cut] at e
  refine ⟨o, ix, mi, nm, hh, vv, kd, ao, ro, cp, rn, rc, B, S, L, hz, e.trans ?_⟩
  rw [k0, k1, k2, k3]
  rfl
set_option maxRecDepth 100000 in
theorem lifted_orbit (os : Os) (started : os.Started) (H : Type) (enc : TypeId × Value → H) :
    ReturnsInHanded {} Try.checked os 3 .any (Rows.tierOrbitSpec.pre6 enc Try.prog Try.f3 Rows.tierOrbitRow.domain false) (Rows.tierOrbitSpec.post enc Try.prog Try.f3 false true false false) := by
  refine returnsInHanded_of_change (C := Try.checked) own started (by kernel_rfl) Try.func3
    (ChangeSpec.witness6 (enc := enc) (C := Try.checked) false ⟨#[], #[.agg #[.int .i64 0, .int .i64 0, .string ByteArray.empty, .int .i64 0, .int .i64 0, .slice none 0 0, .int .i64 0, .bool false, .string ByteArray.empty, .bool false, .string ByteArray.empty, .bool false, .string ByteArray.empty, .bool false, .string ByteArray.empty, .bool false, .string ByteArray.empty, .bool false, .string ByteArray.empty, .bool false, .string ByteArray.empty, .bool false, .string ByteArray.empty, .bool false, .string ByteArray.empty, .bool false, .string ByteArray.empty, .bool false, .string ByteArray.empty, .bool false, .string ByteArray.empty, .bool false, .string ByteArray.empty, .bool false, .string ByteArray.empty, .bool false, .string ByteArray.empty, .bool false, .string ByteArray.empty, .bool false, .string ByteArray.empty, .bool false, .string ByteArray.empty, .bool false, .string ByteArray.empty, .bool false, .string ByteArray.empty, .slice none 0 0, .bool false]], []⟩ 60 (by kernel_rfl) (by kernel_rfl) (by kernel_rfl) (by kernel_rfl)) ?_
  intro W base args ds gs before hval0 hW hcnd _
  have hval : ∀ (j : Nat) t v, Try.f3.params[j]? = some t → args[j]? = some v → Value.okWide Try.prog W .any base t v := hval0
  have hW' := hW
  obtain ⟨p, q, hA0, hV, rfl, hfz, hnd⟩ := hW
  have hA : DataW.TrodAll enc Try.prog W 0 (fun _ => true) true Try.f3.params.toList args.toList ds p := hA0
  rw [Try.params3] at hA hval
  obtain ⟨v0, vs0, d0, ds0, p0, q0, hargs, rfl, rfl, h0, r0⟩ := trodAll_cons hA
  obtain ⟨rfl, rfl, rfl⟩ := trodAll_nil r0
  obtain rfl : args = #[v0] := by cases args; simp_all
  obtain ⟨rfl, rfl⟩ := trodVars_none hV
  have k0 := h0
  have lt0 : ∀ x ∈ p0, x.block < W.heap.size := by obtain ⟨m, hm⟩ := k0; exact DataW.trod_lt m _ _ _ hm
  obtain ⟨fuel, hf⟩ := h0
  obtain ⟨cs0, rfl, _⟩ := okWide_struct Try.underlying36 (hval 0 36 v0 rfl rfl)
  obtain ⟨o, ix, mi, nm, hh, vv, kd, ao, ro, cp, rn, rc, B, S, L, hz, hcs⟩ := case_cells hf
  obtain rfl : cs0 = #[.int .i64 o, .int .i64 ix, .string nm, .int .i64 hh, .int .i64 vv, .slice ao L.length cp, .int .i64 kd, .bool (B 0), .string (S 0), .bool (B 1), .string (S 1), .bool (B 2), .string (S 2), .bool (B 3), .string (S 3), .bool (B 4), .string (S 4), .bool (B 5), .string (S 5), .bool (B 6), .string (S 6), .bool (B 7), .string (S 7), .bool (B 8), .string (S 8), .bool (B 9), .string (S 9), .bool (B 10), .string (S 10), .bool (B 11), .string (S 11), .bool (B 12), .string (S 12), .bool (B 13), .string (S 13), .bool (B 14), .string (S 14), .bool (B 15), .string (S 15), .bool (B 16), .string (S 16), .bool (B 17), .string (S 17), .bool (B 18), .string (S 18), .bool (B 19), .string (S 19), .slice ro rn rc, .bool mi] := by
    apply Array.toList_inj.1
    exact hcs
  clear hA0 hval0
  refine (torbit_any o ix mi nm hh vv kd ao ro cp rn rc B S L W hz).mono fun e W' ⟨he, bel⟩ => ?_
  subst he
  exact ⟨_, rfl, _, _, _, [], _, [], hW', trodAll_mk1 (shut_bool Try.underlying4 _), (trodAll_cons_mk (Below.trod laidOut (by kernel_rfl) (of_decide_eq_true (by kernel_rfl)) k0 bel lt0) trodAll_mk0), rfl, bel.frame _, fun h => by cases h⟩

theorem over_orbit : Rows.tierOrbitRow.holds Try.pinned (OpenSpec.ofChange Rows.tierOrbitSpec) :=
  OpenClaim.holds_of_wide 3 Try.f3 rfl rfl rfl rfl rfl rfl rfl ⟨rfl, rfl, rfl, rfl, rfl⟩ rfl rfl rfl rfl rfl (by kernel_rfl) Try.func3 (by kernel_rfl)
    (of_decide_eq_true (by kernel_rfl)) (by unfold Func.isWrapper; first | (rw [if_pos (by decide +kernel)]; kernel_rfl) | (rw [if_neg (by decide +kernel)]; exact ⟨rfl, rfl⟩))
    (fun os started H enc _ => lifted_orbit os started H enc)

/-- THE STATEMENT -/
theorem tierOrbit_holds : Rows.TierOrbitSaid := over_orbit
end Go.Proofs.Ytikbgdbbicnfnaa.Tr
