/- TraceInside returns true for every input, and the arguments read afterwards as they read before; no conditions. -/
import Derived.Test.YtedfciddfpcifaaM22
import Derived.Test.YtedfciddfpcifaaM24
import Derived.Test.YtedfciddfpcifaaRows
import Derived.ProofKit
import Derived.OpenShut
import Derived.ShutString
import Derived.ChangeOld
import Derived.Below
import Derived.Deep.Slices

/- TraceInside: the program's test of paths is the reference's. -/
namespace Go.Proofs.Ytedfciddfpcifaa.Iv
open Go.RowKit

attribute [local go_sem] Oper.semAt_some

set_option maxRecDepth 100000 in
set_option maxHeartbeats 16000000 in
theorem tInside_law (a1 a2 : Option Addr) (c1 c2 : Nat) (p q : Pa) (w : World) (h1 : IntsAt w a1 p.fs) (h2 : IntsAt w a2 q.fs) (k1 : p.fs.length ≤ c1) :
    Calls Try.prog 3 #[pv a1 c1 p, pv a2 c2 q] w fun e w' => e = .returned (.bool true) ∧ Below w.heap.size w w' := by
  obtain ⟨pk, pf, po, pl, ph⟩ := p
  obtain ⟨qk, qf, qo, ql, qh⟩ := q
  dsimp only at h1 h2 k1
  have H0 := ((Ho.nil w).bx [.int .i64 pk, .slice a1 pf.length c1, .int .i64 po.a, .int .i64 po.b, .int .i64 po.c, .int .i64 po.d, .int .i64 po.e, .int .i64 po.f, .int .i64 pl, .int .i64 ph] 28 w.heap.size rfl).bx [.int .i64 qk, .slice a2 qf.length c2, .int .i64 qo.a, .int .i64 qo.b, .int .i64 qo.c, .int .i64 qo.d, .int .i64 qo.e, .int .i64 qo.f, .int .i64 ql, .int .i64 qh] 28 (w.heap.size + 1) (by simp)
  have G1 := Lib.hid h1
  have G2 := Lib.hid h2
  clear h1 h2
  by_cases g1 : 30 < (pf.length : Int)
  · have d1 : decide (30 < (pf.length : Int)) = true := decide_eq_true g1
    go_enter Try.func3, Try.ntmps3
    go_wp2_with fail
    refine (awake31_any _).mono ?_
    rintro e w1 ⟨rfl, hb⟩
    have H1 := H0.call hb
    clear hb
    have x0 := (H1.at 1 rfl).c
    have x1 := (H1.at 0 rfl).c
    go_wp2_with fail
    go_ret
    exact ⟨rfl, H1.below⟩
  · have d1 : decide (30 < (pf.length : Int)) = false := decide_eq_false g1
    by_cases g2 : 30 < (qf.length : Int)
    · have d2 : decide (30 < (qf.length : Int)) = true := decide_eq_true g2
      go_enter Try.func3, Try.ntmps3
      go_wp2_with fail
      refine (awake31_any _).mono ?_
      rintro e w1 ⟨rfl, hb⟩
      have H1 := H0.call hb
      clear hb
      have x0 := (H1.at 1 rfl).c
      have x1 := (H1.at 0 rfl).c
      go_wp2_with fail
      go_ret
      exact ⟨rfl, H1.below⟩
    · have d2 : decide (30 < (qf.length : Int)) = false := decide_eq_false g2
      go_enter Try.func3, Try.ntmps3
      go_wp2_with fail
      refine (awake31_any _).mono ?_
      rintro e w1 ⟨rfl, hb⟩
      have H1 := H0.call hb
      clear hb
      have x0 := (H1.at 1 rfl).c
      have x1 := (H1.at 0 rfl).c
      go_upto_region 5 with fail
      have HX := H1.drew
      go_region_held3 (fun X => (∀ j, X.cell? ⟨w.heap.size, j, none⟩ = [.int .i64 pk, .slice a1 pf.length c1, .int .i64 po.a, .int .i64 po.b, .int .i64 po.c, .int .i64 po.d, .int .i64 po.e, .int .i64 po.f, .int .i64 pl, .int .i64 ph][j]?) ∧ (∀ j, X.cell? ⟨w.heap.size + 1, j, none⟩ = [.int .i64 qk, .slice a2 qf.length c2, .int .i64 qo.a, .int .i64 qo.b, .int .i64 qo.c, .int .i64 qo.d, .int .i64 qo.e, .int .i64 qo.f, .int .i64 ql, .int .i64 qh][j]?)) (with_reducible first | exact ⟨(HX.at 1 rfl).c, (HX.at 0 rfl).c⟩ | exact ⟨(HA.at 1 rfl).c, (HA.at 0 rfl).c⟩ | exact ⟨(HB.at 1 rfl).c, (HB.at 0 rfl).c⟩ | exact ⟨(HC.at 1 rfl).c, (HC.at 0 rfl).c⟩ | exact ⟨(HD.at 1 rfl).c, (HD.at 0 rfl).c⟩)
        (first
          | (have hm := hmarkC; go_at_call 10; refine (rpins_any a1 a2 c1 c2 ⟨pk, pf, po, pl, ph⟩ ⟨qk, qf, qo, ql, qh⟩ _ (G1.out.kept HC.below) (G2.out.kept HC.below) (show pf.length ≤ 1000000 from by omega)).mono ?_; rintro e wD ⟨rfl, hb⟩; have HD := HC.call hb; clear hb; have hmarkD : wD = wD := rfl)
          | (have hm := hmarkB; go_at_call 11; refine (way_any a2 c2 ⟨qk, qf, qo, ql, qh⟩ _).mono ?_; rintro e wC ⟨rfl, hb⟩; have HC := HB.call hb; clear hb; have hmarkC : wC = wC := rfl)
          | (have hm := hmarkA; go_at_call 11; refine (way_any a1 c1 ⟨pk, pf, po, pl, ph⟩ _).mono ?_; rintro e wB ⟨rfl, hb⟩; have HB := HA.call hb; clear hb; have hmarkB : wB = wB := rfl)
          | (go_at_call 9; refine (pins_any a1 a2 c1 c2 ⟨pk, pf, po, pl, ph⟩ ⟨qk, qf, qo, ql, qh⟩ _ (G1.out.kept HX.below) (G2.out.kept HX.below) k1 (show pf.length ≤ 1000000 from by omega)).mono ?_; rintro e wA ⟨rfl, hb⟩; have HA := HX.call hb; clear hb; have hmarkA : wA = wA := rfl))
      go_wp2_with fail
      go_ret
      exact ⟨by first | rfl | simp, HD.below⟩
end Go.Proofs.Ytedfciddfpcifaa.Iv

/- TraceInside returns true for every input, and the arguments read afterwards as they read before; no conditions. -/
namespace Go.Proofs.Ytedfciddfpcifaa.Iv.traceInside
open Go.ChangeShapes Go.WideShapes Go.ChangeAt Go.RowKit Go.Deep

theorem own : ownKnob Try.prog.godebug = none := own31
theorem laidOut : laidOutB Try.prog = true := laidOut31
set_option maxRecDepth 100000 in
set_option maxHeartbeats 4000000 in
theorem lifted (os : Os) (started : os.Started) (H : Type) (enc : TypeId × Value → H) :
    ReturnsInHanded {} Try.checked os 3 .any (Rows.traceInsideSpec.pre6 enc Try.prog Try.f3 Rows.traceInsideRow.domain false) (Rows.traceInsideSpec.post enc Try.prog Try.f3 false true false false) := by
  refine returnsInHanded_of_change (C := Try.checked) own started (by kernel_rfl) Try.func3
    (ChangeSpec.witness6 (enc := enc) (C := Try.checked) false ⟨#[], #[.agg #[.int .i64 0, .slice none 0 0, .int .i64 0, .int .i64 0, .int .i64 0, .int .i64 0, .int .i64 0, .int .i64 0, .int .i64 0, .int .i64 0], .agg #[.int .i64 0, .slice none 0 0, .int .i64 0, .int .i64 0, .int .i64 0, .int .i64 0, .int .i64 0, .int .i64 0, .int .i64 0, .int .i64 0]], []⟩ 40 (by kernel_rfl) (by kernel_rfl) (by kernel_rfl) (by kernel_rfl)) ?_
  intro W base args ds gs before hval0 hW hcnd _
  have hval : ∀ (j : Nat) t v, Try.f3.params[j]? = some t → args[j]? = some v → Value.okWide Try.prog W .any base t v := hval0
  have hW' := hW
  obtain ⟨p, q, hA0, hV, rfl, hfz, hnd⟩ := hW
  have hA : DataW.TrodAll enc Try.prog W 0 (fun _ => true) true Try.f3.params.toList args.toList ds p := hA0
  rw [Try.params3] at hA hval
  obtain ⟨v0, vs0, d0, ds0, p0, q0, hargs, rfl, rfl, h0, r0⟩ := trodAll_cons hA
  obtain ⟨v1, vs1, d1, ds1, p1, q1, rfl, rfl, rfl, h1, r1⟩ := trodAll_cons r0
  obtain ⟨rfl, rfl, rfl⟩ := trodAll_nil r1
  obtain rfl : args = #[v0, v1] := by cases args; simp_all
  obtain ⟨rfl, rfl⟩ := trodVars_none hV
  have k0 := h0
  have k1 := h1
  have lt0 : ∀ x ∈ p0, x.block < W.heap.size := by obtain ⟨m, hm⟩ := k0; exact DataW.trod_lt m _ _ _ hm
  have lt1 : ∀ x ∈ p1, x.block < W.heap.size := by obtain ⟨m, hm⟩ := k1; exact DataW.trod_lt m _ _ _ hm
  obtain ⟨a1, c1, pp, rfl, hp, hpl⟩ := path_of (hval 0 28 v0 rfl rfl) h0
  obtain ⟨a2, c2, qq, rfl, hq, hql⟩ := path_of (hval 1 28 v1 rfl rfl) h1
  clear hA0 hval0
  refine (tInside_law a1 a2 c1 c2 pp qq W hp hq hpl).mono fun e W' ⟨he, bel⟩ => ?_
  subst he
  exact ⟨_, rfl, _, _, _, [], _, [], hW', trodAll_mk1 (shut_bool Try.underlying4 _), (trodAll_cons_mk (Below.trod laidOut (by kernel_rfl) (of_decide_eq_true (by kernel_rfl)) k0 bel lt0) (trodAll_cons_mk (Below.trod laidOut (by kernel_rfl) (of_decide_eq_true (by kernel_rfl)) k1 bel lt1) trodAll_mk0)), rfl, bel.frame _, fun h => by cases h⟩

theorem holds : Rows.TraceInsideSaid :=
  OpenClaim.holds_of_wide 3 Try.f3 rfl rfl rfl rfl rfl rfl rfl ⟨rfl, rfl, rfl, rfl, rfl⟩ rfl rfl rfl rfl rfl (by kernel_rfl) Try.func3 (by kernel_rfl)
    (of_decide_eq_true (by kernel_rfl)) (by unfold Func.isWrapper; first | (rw [if_pos (by decide +kernel)]; kernel_rfl) | (rw [if_neg (by decide +kernel)]; exact ⟨rfl, rfl⟩))
    (fun os started H enc _ => lifted os started H enc)
end Go.Proofs.Ytedfciddfpcifaa.Iv.traceInside
