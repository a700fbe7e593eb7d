/- OptimizeKeep returns true for every list of candidates, and each argument reads afterwards as it read before; no conditions. -/
import Derived.Test.YtikbgdbbicnfnaaRows
import Derived.Test.YtikbgdbbicnfnaaKeep2
import Derived.ProofKit
import Derived.OpenShut
import Derived.ShutString
import Derived.ChangeOld
import Derived.Below
import Derived.Deep.Slices
namespace Go.Proofs.Ytikbgdbbicnfnaa.Keep
open Go.ChangeShapes Go.WideShapes Go.ChangeAt Go.RowKit Go.Deep

theorem own : ownKnob Try.prog.godebug = none := by kernel_rfl
theorem laidOut : laidOutB Try.prog = true := by kernel_rfl
theorem cells82 : Try.prog.cellsOf 82 = 6 := by kernel_rfl
theorem cells80 : Try.prog.cellsOf 80 = 4 := by kernel_rfl
theorem cells77 : Try.prog.cellsOf 77 = 2 := by kernel_rfl
theorem cells9 : Try.prog.cellsOf 9 = 1 := by kernel_rfl
theorem cells3 : Try.prog.cellsOf 3 = 1 := by kernel_rfl
theorem cells4 : Try.prog.cellsOf 4 = 1 := by kernel_rfl
theorem cells78 : Try.prog.cellsOf 78 = 1 := by kernel_rfl

theorem len2 {α : Type} {l : List α} (h : l.length = 2) : ∃ a b, l = [a, b] := by
  match l, h with
  | [a, b], _ => exact ⟨a, b, rfl⟩
theorem len4 {α : Type} {l : List α} (h : l.length = 4) : ∃ a b c d, l = [a, b, c, d] := by
  match l, h with
  | [a, b, c, d], _ => exact ⟨a, b, c, d, rfl⟩
theorem len6 {α : Type} {l : List α} (h : l.length = 6) : ∃ a b c d e f, l = [a, b, c, d, e, f] := by
  match l, h with
  | [a, b, c, d, e, f], _ => exact ⟨a, b, c, d, e, f, rfl⟩

set_option maxRecDepth 100000 in
theorem el_of_trod {H : Type} {enc : TypeId × Value → H} {w : World} {base n : Nat} {spare : Nat → Bool} {held : Bool} {cs : List Value} {x : DataW H × List MemPlace}
    (h : DataW.trod enc Try.prog w base spare held n 82 cs = some x) : ∃ e : El, cs = cells6 e := by
  obtain ⟨xs, m, _, _, hl, hxl, hf⟩ := DataW.trod_struct Try.underlying82 h
  rw [cells82] at hl
  obtain ⟨c0, c1, c2, c3, c4, c5, rfl⟩ := len6 hl
  obtain ⟨x0, x1, rfl⟩ := len2 (by simpa using hxl)
  have e0 := hf 0 _ rfl
  have e1 := hf 1 _ rfl
  simp [cells80, cells77] at e0 e1
  obtain ⟨ys, m', _, _, _, hyl, hg⟩ := DataW.trod_struct Try.underlying80 e0
  obtain ⟨y0, y1, y2, y3, rfl⟩ := len4 (by simpa using hyl)
  have f0 := hg 0 _ rfl
  have f1 := hg 1 _ rfl
  have f2 := hg 2 _ rfl
  have f3 := hg 3 _ rfl
  simp [cells9, cells3, cells4, cells78] at f0 f1 f2 f3
  obtain ⟨zs, m'', _, _, _, hzl, hk⟩ := DataW.trod_struct Try.underlying77 e1
  obtain ⟨z0, z1, rfl⟩ := len2 (by simpa using hzl)
  have k0 := hk 0 _ rfl
  have k1 := hk 1 _ rfl
  simp [cells3] at k0 k1
  obtain ⟨s, q0, _⟩ := DataW.trod_string Try.underlying9 f0
  obtain ⟨a, q1, _⟩ := DataW.trod_int Try.underlying3 f1
  obtain ⟨b, q2, _⟩ := DataW.trod_bool Try.underlying4 f2
  obtain ⟨lo, q4, _⟩ := DataW.trod_int Try.underlying3 k0
  obtain ⟨hi, q5, _⟩ := DataW.trod_int Try.underlying3 k1
  have q3 : ∃ a l c, c3 = Value.slice a l c := by
    rcases open_slice Try.underlying78 f3 with ⟨h, _⟩ | ⟨a, l, c, _, _, _, _, h, _⟩
    · simp at h; exact ⟨_, _, _, h⟩
    · simp at h; exact ⟨_, _, _, h⟩
  obtain ⟨ta, tl, tc, q3⟩ := q3
  simp at q0 q1 q2 q4 q5
  subst q0 q1 q2 q3 q4 q5
  exact ⟨⟨s, a, b, ta, tl, tc, lo, hi⟩, rfl⟩

theorem cands_of {H : Type} {enc : TypeId × Value → H} {w : World} {spare : Nat → Bool} {held : Bool} {ao : Option Addr} {len cap fuel : Nat} {x : DataW H × List MemPlace}
    (h : DataW.trod enc Try.prog w 0 spare held fuel 70 [.slice ao len cap] = some x) : len ≤ maxLen ∧ ∃ E, CandsAt w ao len E := by
  rcases open_slice Try.underlying70 h with ⟨hcs, _⟩ | ⟨a, l, c, m, n, D, Pl, hcs, _, hl, hm, hmm, _, hi⟩
  · simp at hcs
    obtain ⟨rfl, rfl, rfl⟩ := hcs
    exact ⟨Nat.zero_le _, fun _ => ⟨ByteArray.empty, 0, false, none, 0, 0, 0, 0⟩, fun h => absurd h (by omega)⟩
  · simp at hcs
    obtain ⟨rfl, rfl, rfl⟩ := hcs
    refine ⟨by omega, ?_⟩
    have hlm : len ≤ m := by rw [hmm]; split <;> omega
    have hex : ∀ i, i < len → ∃ e : El, ∀ j u, (cells6 e)[j]? = some u → w.cell? (a.add (i * 6 + j)) = some u := by
      intro i hil
      obtain ⟨cs', hc, ht⟩ := hi i (by omega)
      obtain ⟨e, rfl⟩ := el_of_trod ht
      rw [cells82] at hc
      obtain ⟨_, _, hat⟩ := World.cells?_some hc
      refine ⟨e, fun j u hu => ?_⟩
      have hj : j < 6 := by
        have := (List.getElem?_eq_some_iff.1 hu).1
        simpa [cells6] using this
      rw [← add_add, hat j hj]
      exact hu
    have : Inhabited El := ⟨⟨ByteArray.empty, 0, false, none, 0, 0, 0, 0⟩⟩
    obtain ⟨E, hE⟩ := choose_lt hex
    refine ⟨E, fun hpos => ?_⟩
    obtain ⟨b, off, spot⟩ := a
    have hc := hE 0 hpos 0 _ rfl
    have hspot : spot = none := by simpa [Addr.add] using World.cell?_spot hc
    subst hspot
    have hadd : ∀ k, (⟨b, off, none⟩ : Addr).add k = ⟨b, off + k, none⟩ := by intro k; unfold Addr.add; split <;> simp_all
    have hlt : b < w.heap.size := by
      rcases Nat.lt_or_ge b w.heap.size with h | h
      · exact h
      · rw [hadd] at hc
        simp [World.cell?, Array.getElem?_eq_none h] at hc
    refine ⟨b, off, rfl, hlt, fun i hil => ?_⟩
    have key : ∀ j u, (cells6 (E i))[j]? = some u → w.cell? ⟨b, off + i * 6 + j, none⟩ = some u := by
      intro j u hu
      have := hE i hil j u hu
      rw [hadd] at this
      rw [← this]; congr 2; omega
    exact ⟨key 0 _ rfl, key 1 _ rfl, key 2 _ rfl, key 3 _ rfl, key 4 _ rfl, key 5 _ rfl⟩

set_option maxRecDepth 100000 in
theorem lifted (os : Os) (started : os.Started) (H : Type) (enc : TypeId × Value → H) :
    ReturnsInHanded {} Try.checked os 9 .any (Rows.optimizeKeepSpec.pre6 enc Try.prog Try.f9 Rows.optimizeKeepRow.domain false) (Rows.optimizeKeepSpec.post enc Try.prog Try.f9 false true false false) := by
  refine returnsInHanded_of_change (C := Try.checked) own started (by kernel_rfl) Try.func9
    (ChangeSpec.witness6 (enc := enc) (C := Try.checked) false ⟨#[], #[.slice none 0 0], []⟩ 8 (by kernel_rfl) (by kernel_rfl) (by kernel_rfl) (by kernel_rfl)) ?_
  intro W base args ds gs before hval0 hW hcnd _
  have hval : ∀ (j : Nat) t v, Try.f9.params[j]? = some t → args[j]? = some v → Value.okWide Try.prog W .any base t v := hval0
  have hW' := hW
  obtain ⟨p, q, hA0, hV, rfl, hfz, hnd⟩ := hW
  have hA : DataW.TrodAll enc Try.prog W 0 (fun _ => true) true Try.f9.params.toList args.toList ds p := hA0
  rw [Try.params9] at hA hval
  obtain ⟨v0, vs0, d0, ds0, p0, q0, hargs, rfl, rfl, h0, r0⟩ := trodAll_cons hA
  obtain ⟨rfl, rfl, rfl⟩ := trodAll_nil r0
  obtain rfl : args = #[v0] := by cases args; simp_all
  obtain ⟨rfl, rfl⟩ := trodVars_none hV
  obtain ⟨a0, len0, cap0, rfl⟩ := okWide_slice Try.underlying70 (hval 0 70 v0 rfl rfl)
  have k0 := h0
  have lt0 : ∀ x ∈ p0, x.block < W.heap.size := by obtain ⟨m, hm⟩ := k0; exact DataW.trod_lt m _ _ _ hm
  obtain ⟨hmax, E, hE⟩ : len0 ≤ maxLen ∧ ∃ E, CandsAt W a0 len0 E := by
    obtain ⟨fuel, hf⟩ := h0
    exact cands_of hf
  clear hA0 hval0
  refine (law_any a0 len0 cap0 E W hE hmax).mono fun e W' ⟨he, bel⟩ => ?_
  subst he
  exact ⟨_, rfl, _, _, _, [], _, [], hW', trodAll_mk1 (shut_bool Try.underlying4 _), (trodAll_cons_mk (Below.trod laidOut (by kernel_rfl) (of_decide_eq_true (by kernel_rfl)) k0 bel lt0) trodAll_mk0), rfl, bel.frame _, fun h => by cases h⟩

theorem over : Rows.optimizeKeepRow.holds Try.pinned (OpenSpec.ofChange Rows.optimizeKeepSpec) :=
  OpenClaim.holds_of_wide 9 Try.f9 rfl rfl rfl rfl rfl rfl rfl ⟨rfl, rfl, rfl, rfl, rfl⟩ rfl rfl rfl rfl rfl (by kernel_rfl) Try.func9 (by kernel_rfl)
    (of_decide_eq_true (by kernel_rfl)) (by unfold Func.isWrapper; first | (rw [if_pos (by decide +kernel)]; kernel_rfl) | (rw [if_neg (by decide +kernel)]; exact ⟨rfl, rfl⟩))
    (fun os started H enc _ => lifted os started H enc)

/-- THE STATEMENT -/
theorem optimizeKeep_holds : Rows.OptimizeKeepSaid := over
end Go.Proofs.Ytikbgdbbicnfnaa.Keep
