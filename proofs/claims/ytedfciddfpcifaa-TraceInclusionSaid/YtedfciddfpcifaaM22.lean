/- Texts Tk, Tl, Tm, To, Tp, Tu1, Tv1, Tv2. -/
import Derived.Test.YtedfciddfpcifaaM19
import Derived.Test.YtedfciddfpcifaaM21
import Derived.BigQuiet
import Derived.Test.YtedfciddfpcifaaM05
import Derived.Test.YtedfciddfpcifaaM13
import Derived.Maps.AppendAt
import Derived.Test.YtedfciddfpcifaaM11
import Derived.Test.YtedfciddfpcifaaM06

/- Contract of trace.Inside. -/
namespace Go.Proofs.Ytedfciddfpcifaa.Iv
open Go.RowKit

attribute [local go_sem] Oper.semAt_some

theorem IntsAt.kept {W W' : World} {ao : Option Addr} {L : List Int} (h : IntsAt W ao L) (hb : Below W.heap.size W W') : IntsAt W' ao L := by
  intro hl
  obtain ⟨b, off, ha, hlt, hc⟩ := h hl
  exact ⟨b, off, ha, Nat.lt_of_lt_of_le hlt hb.size, fun i hi => (hb.cell (p := ⟨b, _, none⟩) hlt).trans (hc i hi)⟩
theorem IntsAt.take {W : World} {ao : Option Addr} {L : List Int} (h : IntsAt W ao L) (n : Nat) (hn : n ≤ L.length) : IntsAt W ao (L.take n) := by
  intro hl
  rw [List.length_take] at hl
  obtain ⟨b, off, ha, hlt, hc⟩ := h (by omega)
  refine ⟨b, off, ha, hlt, fun i hi => ?_⟩
  rw [List.length_take] at hi
  rw [hc i (by omega), List.getElem?_take, if_pos (by omega)]
set_option maxRecDepth 100000 in
set_option maxHeartbeats 4000000 in
theorem eqs_any (a1 a2 : Option Addr) (n1 n2 c1 c2 : Nat) (L1 L2 : List Int) (w : World) (e1 : n1 = L1.length) (e2 : n2 = L2.length) (h1 : IntsAt w a1 L1) (h2 : IntsAt w a2 L2) (hl : L1.length ≤ 1000000) :
    Calls Try.prog 27 #[.slice a1 n1 c1, .slice a2 n2 c2] w fun e w' => e = .returned (.bool (decide (L1 = L2))) ∧ Below w.heap.size w w' := by
  subst e1 e2
  by_cases hn : (L1.length : Int) = (L2.length : Int)
  · have hn' : L1.length = L2.length := by omega
    rw [← hn']
    have HL := Lib.hid hn'
    have H1 := Lib.hid h1
    have H2 := Lib.hid h2
    clear hn hn' h1 h2
    go_enter Try.func27, Try.ntmps27
    go_wp2_with fail
    go_loopw [13] (fun i wr => ∃ k : Nat, k ≤ L1.length ∧ i = .int .i64 k ∧ (∀ j, j < k → L1[j]? = L2[j]?) ∧ Below w.heap.size w wr) (fun i _ => L1.length - (intOf i).toNat)
    case atStart => exact ⟨0, Nat.zero_le _, rfl, fun j h => absurd h (by omega), Below.refl _ _⟩
    case round =>
      obtain ⟨k, hk, rfl, hno, hbel⟩ := hrel
      have HNO := Lib.hid hno
      have HB := Lib.hid hbel
      have i15 : IntKind.i64.wrap ((k : Int) + 1) = (k : Int) + 1 := IntWalk.i64_in _ (by omega)
      have g1 := H1.out.kept hbel
      have g2 := H2.out.kept hbel
      clear hno hbel
      rcases Nat.lt_or_ge k L1.length with hlt | hge
      · obtain ⟨b1, o1, rfl, l1, hc1⟩ := g1 (by omega)
        obtain ⟨b2, o2, rfl, l2, hc2⟩ := g2 (by rw [← HL.out]; omega)
        have q1 := hc1 k hlt
        have q2 := hc2 k (by rw [← HL.out]; exact hlt)
        obtain ⟨x, hx⟩ : ∃ x, L1[k]? = some x := ⟨_, List.getElem?_eq_getElem hlt⟩
        obtain ⟨y, hy⟩ : ∃ y, L2[k]? = some y := ⟨_, List.getElem?_eq_getElem (by rw [← HL.out]; exact hlt)⟩
        rw [hx, Option.getD_some] at q1
        rw [hy, Option.getD_some] at q2
        have HX := Lib.hid hx
        have HY := Lib.hid hy
        have hlt' : (k : Int) < (L1.length : Int) := by omega
        have hge' : (0 : Int) ≤ (k : Int) := by omega
        clear hc1 hc2 hx hy
        by_cases hxy : x = y
        · subst hxy
          go_wp2_with fail
          go_quiet (fail)
          go_wp2_with fail
          go_roundw
          case rel =>
            refine ⟨k + 1, hlt, by simp, fun j hj => ?_, by first | exact HB.out | exact HB.out.drew | exact HB.out.trans ((below_dN _ _).mono HB.out.size)⟩
            rcases Nat.lt_or_ge j k with h' | h'
            · exact HNO.out j h'
            · obtain rfl : j = k := by omega
              rw [HX.out, HY.out]
          case measure => simp only [intOf]; omega
        · go_wp2_with fail
          go_quiet (fail)
          go_wp2_with fail
          go_ret
          refine ⟨?_, by first | exact HB.out | exact HB.out.drew | exact HB.out.trans ((below_dN _ _).mono HB.out.size)⟩
          rw [decide_eq_false (fun h : L1 = L2 => hxy (by rw [h, HY.out] at HX; exact (Option.some.inj HX.out).symm))]
          rfl
      · obtain rfl : k = L1.length := by omega
        go_wp2_with fail
        go_ret
        refine ⟨?_, HB.out⟩
        rw [decide_eq_true (List.ext_getElem? fun j => by
          rcases Nat.lt_or_ge j L1.length with h | h
          · exact HNO.out j h
          · rw [List.getElem?_eq_none h, List.getElem?_eq_none (by rw [← HL.out]; exact h)])]
        rfl
  · rw [decide_eq_false (fun h => hn (by rw [h]))]
    go_enter Try.func27, Try.ntmps27
    go_wp2_with fail
    go_ret
    exact ⟨rfl, Below.refl _ _⟩
/-- a path -/
structure Pa where
  k : Int
  fs : List Int
  o : D
  lo : Int
  hi : Int
abbrev pv (ao : Option Addr) (c : Nat) (p : Pa) : Value := .agg #[.int .i64 p.k, .slice ao p.fs.length c, .int .i64 p.o.a, .int .i64 p.o.b, .int .i64 p.o.c, .int .i64 p.o.d, .int .i64 p.o.e, .int .i64 p.o.f, .int .i64 p.lo, .int .i64 p.hi]
/-- whether a path is one of those that another one stands for -/
def insP (p q : Pa) : Bool :=
  if q.k = 3 then decide (q.fs.length ≤ p.fs.length) && decide (p.fs.take q.fs.length = q.fs)
  else decide (p.k = q.k) && (decide (p.fs = q.fs) && (insD p.o q.o && insB p.lo p.hi q.lo q.hi))
set_option maxRecDepth 100000 in
set_option maxHeartbeats 16000000 in
theorem pins_any (a1 a2 : Option Addr) (c1 c2 : Nat) (p q : Pa) (w : World) (h1 : IntsAt w a1 p.fs) (h2 : IntsAt w a2 q.fs) (k1 : p.fs.length ≤ c1) (hl : p.fs.length ≤ 1000000) :
    Calls Try.prog 9 #[pv a1 c1 p, pv a2 c2 q] w fun e w' => e = .returned (.bool (insP p q)) ∧ Below w.heap.size w w' := by
  obtain ⟨pk, pf, po, pl, ph⟩ := p
  obtain ⟨qk, qf, qo, ql, qh⟩ := q
  dsimp only at h1 h2 k1 hl
  have H0 := ((Ho.nil w).bx [.int .i64 pk, .slice a1 pf.length c1, .int .i64 po.a, .int .i64 po.b, .int .i64 po.c, .int .i64 po.d, .int .i64 po.e, .int .i64 po.f, .int .i64 pl, .int .i64 ph] 28 w.heap.size rfl).bx [.int .i64 qk, .slice a2 qf.length c2, .int .i64 qo.a, .int .i64 qo.b, .int .i64 qo.c, .int .i64 qo.d, .int .i64 qo.e, .int .i64 qo.f, .int .i64 ql, .int .i64 qh] 28 (w.heap.size + 1) (by simp)
  have G1 := Lib.hid h1
  have G2 := Lib.hid h2
  clear h1 h2
  by_cases hk : qk = 3
  · subst hk
    by_cases hle : (qf.length : Int) ≤ (pf.length : Int)
    · have hle' : qf.length ≤ pf.length := by omega
      have EI := Lib.hid (show insP ⟨pk, pf, po, pl, ph⟩ ⟨3, qf, qo, ql, qh⟩ = decide (pf.take qf.length = qf) from by rw [insP, if_pos rfl]; dsimp only; rw [decide_eq_true hle', Bool.true_and])
      rw [EI.out]
      go_enter Try.func9, Try.ntmps9
      have HX := H0.drew
      have hq : qf.length ≤ c1 := by omega
      have hq2 : (qf.length : Int) ≤ (c1 : Int) := by omega
      have hq0 : (0 : Int) ≤ (qf.length : Int) := by omega
      go_upto_region 2 with fail
      go_region_held3 (fun X => (∀ j, X.cell? ⟨w.heap.size, j, none⟩ = [.int .i64 pk, .slice a1 pf.length c1, .int .i64 po.a, .int .i64 po.b, .int .i64 po.c, .int .i64 po.d, .int .i64 po.e, .int .i64 po.f, .int .i64 pl, .int .i64 ph][j]?) ∧ (∀ j, X.cell? ⟨w.heap.size + 1, j, none⟩ = [.int .i64 3, .slice a2 qf.length c2, .int .i64 qo.a, .int .i64 qo.b, .int .i64 qo.c, .int .i64 qo.d, .int .i64 qo.e, .int .i64 qo.f, .int .i64 ql, .int .i64 qh][j]?)) (with_reducible first | exact ⟨(HX.at 1 rfl).c, (HX.at 0 rfl).c⟩ | exact ⟨(HA.at 1 rfl).c, (HA.at 0 rfl).c⟩)
        (first | (go_at_call 27; refine (eqs_any _ _ _ _ _ _ (pf.take qf.length) qf _ (by rw [List.length_take]; omega) rfl ((G1.out.take qf.length hle').kept HX.below) (G2.out.kept HX.below) (by rw [List.length_take]; omega)).mono ?_; rintro e wA ⟨rfl, hb⟩; have HA := HX.call hb; clear hb))
      go_wp2_with fail
      go_ret
      exact ⟨rfl, HA.below⟩
    · have EI := Lib.hid (show insP ⟨pk, pf, po, pl, ph⟩ ⟨3, qf, qo, ql, qh⟩ = false from by rw [insP, if_pos rfl]; dsimp only; rw [decide_eq_false (by omega), Bool.false_and])
      rw [EI.out]
      go_enter Try.func9, Try.ntmps9
      have hgt : (pf.length : Int) < (qf.length : Int) := by omega
      have hd : decide ((qf.length : Int) ≤ (pf.length : Int)) = false := decide_eq_false hle
      have hgn : pf.length < qf.length := by omega
      have hdn : decide (qf.length ≤ pf.length) = false := decide_eq_false (by omega)
      have HX := H0.drew
      go_upto_region 2 with fail
      go_quiet (fail)
      go_wp2_with fail
      go_ret
      exact ⟨rfl, by first | exact H0.below | exact H0.drew.below | exact (H0.drewn _).below⟩
  · by_cases c1 : pk = qk
    · subst c1
      cases c2 : decide (pf = qf)
      · have EI := Lib.hid (show insP ⟨pk, pf, po, pl, ph⟩ ⟨pk, qf, qo, ql, qh⟩ = false from by rw [insP, if_neg hk]; dsimp only; rw [c2, Bool.false_and, Bool.and_false])
        have E2 := Lib.hid c2
        clear c2
        rw [EI.out]
        go_enter Try.func9, Try.ntmps9
        go_wp2_with fail
        refine (eqs_any _ _ _ _ _ _ pf qf _ rfl rfl (G1.out.kept H0.below) (G2.out.kept H0.below) hl).mono ?_
        rintro e w1 ⟨rfl, hb⟩
        rw [E2.out]
        have H1 := H0.call hb
        clear hb
        have x0 := (H1.at 1 rfl).c
        have x1 := (H1.at 0 rfl).c
        go_wp2_with fail
        go_ret
        exact ⟨rfl, H1.below⟩
      · cases c3 : insD po qo
        · have EI := Lib.hid (show insP ⟨pk, pf, po, pl, ph⟩ ⟨pk, qf, qo, ql, qh⟩ = false from by rw [insP, if_neg hk]; dsimp only; rw [c3, Bool.false_and, Bool.and_false, Bool.and_false])
          have E2 := Lib.hid c2
          have E3 := Lib.hid c3
          clear c2 c3
          rw [EI.out]
          go_enter Try.func9, Try.ntmps9
          go_wp2_with fail
          refine (eqs_any _ _ _ _ _ _ pf qf _ rfl rfl (G1.out.kept H0.below) (G2.out.kept H0.below) hl).mono ?_
          rintro e w1 ⟨rfl, hb⟩
          rw [E2.out]
          have H1 := H0.call hb
          clear hb
          have x0 := (H1.at 1 rfl).c
          have x1 := (H1.at 0 rfl).c
          go_wp2_with fail
          refine (dinside_any po qo _).mono ?_
          rintro e w2 ⟨rfl, hb⟩
          rw [E3.out]
          have H2 := H1.call hb
          clear hb x0 x1
          have x0 := (H2.at 1 rfl).c
          have x1 := (H2.at 0 rfl).c
          go_wp2_with fail
          go_ret
          exact ⟨rfl, H2.below⟩
        · have EI := Lib.hid (show insP ⟨pk, pf, po, pl, ph⟩ ⟨pk, qf, qo, ql, qh⟩ = insB pl ph ql qh from by rw [insP, if_neg hk]; dsimp only; rw [c2, c3, decide_eq_true rfl, Bool.true_and, Bool.true_and, Bool.true_and])
          have E2 := Lib.hid c2
          have E3 := Lib.hid c3
          clear c2 c3
          rw [EI.out]
          go_enter Try.func9, Try.ntmps9
          go_wp2_with fail
          refine (eqs_any _ _ _ _ _ _ pf qf _ rfl rfl (G1.out.kept H0.below) (G2.out.kept H0.below) hl).mono ?_
          rintro e w1 ⟨rfl, hb⟩
          rw [E2.out]
          have H1 := H0.call hb
          clear hb
          have x0 := (H1.at 1 rfl).c
          have x1 := (H1.at 0 rfl).c
          go_wp2_with fail
          refine (dinside_any po qo _).mono ?_
          rintro e w2 ⟨rfl, hb⟩
          rw [E3.out]
          have H2 := H1.call hb
          clear hb x0 x1
          have x0 := (H2.at 1 rfl).c
          have x1 := (H2.at 0 rfl).c
          go_wp2_with fail
          refine (inside_any pl ph ql qh _).mono ?_
          rintro e w3 ⟨rfl, hb⟩
          have H3 := H2.call hb
          clear hb x0 x1
          go_wp2_with fail
          go_ret
          exact ⟨rfl, H3.below⟩
    · have EI := Lib.hid (show insP ⟨pk, pf, po, pl, ph⟩ ⟨qk, qf, qo, ql, qh⟩ = false from by rw [insP, if_neg hk]; dsimp only; rw [decide_eq_false c1, Bool.false_and])
      rw [EI.out]
      go_enter Try.func9, Try.ntmps9
      go_wp2_with fail
      go_ret
      exact ⟨rfl, H0.below⟩
end Go.Proofs.Ytedfciddfpcifaa.Iv

/- Contracts of trace.cut, and of trace.passing for cosines that are not negative. -/
namespace Go.Proofs.Ytedfciddfpcifaa.Iv
open Go.RowKit

attribute [local go_sem] Oper.semAt_some run_min2' run_max2'

theorem sgn_nn {a b : Int} (h0 : 0 ≤ a) : 0 ≤ sgn a b := by
  unfold sgn
  split
  · rename_i h
    have := vB_iff.1 h
    repeat' split
    all_goals omega
  · omega
/-- a number cut to those from 0 to 1 -/
def cutR (x : Int) : Int := min (max x 0) 16777216
set_option maxRecDepth 100000 in
theorem cut_any (a b : Int) (w : World) :
    Calls Try.prog 88 #[iv a b] w fun e w' => e = .returned (iv (cutR a) (cutR b)) ∧ Below w.heap.size w w' := by
  go_enter Try.func88, Try.ntmps88
  go_wp2_with fail
  exact bodyPost_ret (v := iv (cutR a) (cutR b)) (by simp [results, Try.results88, go_sem, cutR]) rfl ⟨rfl, (by repeat (first | exact Below.refl _ _ | refine Below.drew ?_ | refine Below.setCell ?_ (by first | omega | (simp <;> omega)) _ | refine Below.alloc ?_ (by first | omega | (simp <;> omega)) _))⟩
/-- the light that passes, for cosines that are not negative -/
def passR (a b c d fl fh tl th : Int) : R := Ivf.transR ⟨cutR a, cutR b, cutR c, cutR d, fl, fh, tl, th⟩
set_option maxRecDepth 100000 in
set_option maxHeartbeats 4000000 in
theorem pass_any (a b c d fl fh tl th : Int) (w : World) (_ : vB a b = true) (h0 : 0 ≤ a) (_ : vB c d = true) (_ : 0 ≤ c) :
    Calls Try.prog 62 #[iv a b, iv c d, iv fl fh, iv tl th] w fun e w' => e = retR (passR a b c d fl fh tl th) ∧ Below w.heap.size w w' := by
  have H0 := ((((Ho.nil w).bx [.int .i64 a, .int .i64 b] 24 w.heap.size rfl).bx [.int .i64 c, .int .i64 d] 24 (w.heap.size + 1) (by simp)).bx [.int .i64 fl, .int .i64 fh] 24 (w.heap.size + 1 + 1) (by simp)).bx [.int .i64 tl, .int .i64 th] 24 (w.heap.size + 1 + 1 + 1) (by simp)
  have O0 : Bx (((((w.alloc (.cells (List.toArray [.int .i64 a, .int .i64 b]) 24)).alloc (.cells (List.toArray [.int .i64 c, .int .i64 d]) 24)).alloc (.cells (List.toArray [.int .i64 fl, .int .i64 fh]) 24)).alloc (.cells (List.toArray [.int .i64 tl, .int .i64 th]) 24)).alloc (.cells (List.toArray [.int .i64 0, .int .i64 0]) 24)) (w.heap.size + 1 + 1 + 1 + 1) [.int .i64 0, .int .i64 0] := Bx.new (by simp)
  have H0 := H0.alc (.cells (List.toArray [.int .i64 0, .int .i64 0]) 24)
  obtain ⟨s, hsg⟩ : ∃ s, sgn a b = s := ⟨_, rfl⟩
  have hs : ¬ (s < 0) := by have := sgn_nn (b := b) h0; omega
  have HS := Lib.hid hsg
  clear h0 hsg
  obtain ⟨⟨rl, rh, re⟩, hr⟩ : ∃ r, passR a b c d fl fh tl th = r := ⟨_, rfl⟩
  have HR := Lib.hid (show retR (Ivf.transR ⟨cutR a, cutR b, cutR c, cutR d, fl, fh, tl, th⟩) = .returned (.tuple #[iv rl rh, .int .i64 re]) from by rw [← passR, hr])
  rw [hr]
  clear hr
  go_enter Try.func62, Try.ntmps62
  go_wp2_with fail
  refine (sign_any a b _).mono ?_
  rintro e w1 ⟨rfl, hb⟩
  rw [HS.out]
  have HX := (H0.call hb).drew
  have OX := (O0.kept hb).drew
  clear hb H0 O0
  go_upto_region 4 with fail
  go_region_held3 (fun X => (∀ j, X.cell? ⟨w.heap.size, j, none⟩ = [.int .i64 a, .int .i64 b][j]?) ∧ (∀ j, X.cell? ⟨w.heap.size + 1, j, none⟩ = [.int .i64 c, .int .i64 d][j]?) ∧ (∀ j, X.cell? ⟨w.heap.size + 1 + 1, j, none⟩ = [.int .i64 fl, .int .i64 fh][j]?) ∧ (∀ j, X.cell? ⟨w.heap.size + 1 + 1 + 1, j, none⟩ = [.int .i64 tl, .int .i64 th][j]?)) (with_reducible first | exact ⟨(HX.at 3 rfl).c, (HX.at 2 rfl).c, (HX.at 1 rfl).c, (HX.at 0 rfl).c⟩ | exact ⟨(HA.at 3 rfl).c, (HA.at 2 rfl).c, (HA.at 1 rfl).c, (HA.at 0 rfl).c⟩ | exact ⟨(HB.at 3 rfl).c, (HB.at 2 rfl).c, (HB.at 1 rfl).c, (HB.at 0 rfl).c⟩ | exact ⟨(HC.at 3 rfl).c, (HC.at 2 rfl).c, (HC.at 1 rfl).c, (HC.at 0 rfl).c⟩ | exact ⟨(((HC.put (Nat.le_refl _)).put (Nat.le_refl _)).at 3 rfl).c, (((HC.put (Nat.le_refl _)).put (Nat.le_refl _)).at 2 rfl).c, (((HC.put (Nat.le_refl _)).put (Nat.le_refl _)).at 1 rfl).c, (((HC.put (Nat.le_refl _)).put (Nat.le_refl _)).at 0 rfl).c⟩)
    (first
      | (have hm := hmarkB; go_at_call 87; refine (Ivf.trans_any ⟨cutR a, cutR b, cutR c, cutR d, fl, fh, tl, th⟩ _).mono ?_; rintro e wC ⟨rfl, hb⟩; rw [HR.out]; have HC := HB.call hb; have OC := OB.kept hb; clear hb; have oc := OC.c; have of := OC.f; have ol := OC.lt)
      | (have hm := hmarkA; go_at_call 88; refine (cut_any c d _).mono ?_; rintro e wB ⟨rfl, hb⟩; have HB := HA.call hb; have OB := OA.kept hb; have hmarkB : wB = wB := rfl)
      | (go_at_call 88; refine (cut_any a b _).mono ?_; rintro e wA ⟨rfl, hb⟩; have HA := HX.call hb; have OA := OX.kept hb; have hmarkA : wA = wA := rfl))
  go_wp2_with fail
  refine bodyPost_box (b := w.heap.size + 1 + 1 + 1 + 1) (cs := [.int .i64 rl, .int .i64 rh]) (v := .tuple #[iv rl rh, .int .i64 re]) (by
    (repeat (first | with_reducible exact OC | with_reducible apply Bx.put2))) (fun X hX => by simp [results, Try.results62, go_sem, hX]) rfl ⟨rfl, ((HC.put (i := 0) (u := .int .i64 _) (Nat.le_refl _)).put (i := 1) (u := .int .i64 _) (Nat.le_refl _)).below⟩
end Go.Proofs.Ytedfciddfpcifaa.Iv

/- Contract of (*trace.Path).leave. -/
namespace Go.Proofs.Ytedfciddfpcifaa.Iv
open Go.RowKit

attribute [local go_sem] Oper.semAt_some

theorem below_grown {w W : World} {r : Option Nat} (h : Below w.heap.size w W) : w.grownBy W r := ⟨h.os, h.tape, h.output, h.size, fun k hk _ => h.block k hk⟩
theorem tunit_any (w : World) : Calls Try.prog 63 #[] w fun e w' => e = .returned (iv 16777216 16777216) ∧ Below w.heap.size w w' := by
  go_enter Try.func63, Try.ntmps63
  go_wp2_with fail
  exact bodyPost_ret (v := iv 16777216 16777216) (by simp [results, Try.results63, go_sem]) rfl ⟨rfl, (by repeat (first | exact Below.refl _ _ | refine Below.drew ?_ | refine below_drewN ?_ _ | refine Below.setCell ?_ (by first | omega | (simp <;> omega)) _ | refine Below.alloc ?_ (by first | omega | (simp <;> omega)) _))⟩
/-- the parts of a path but its faces -/
structure LV where
  k : Int
  o : D
  lo : Int
  hi : Int
def lcells (x : LV) (fs : Value) : List Value := [.int .i64 x.k, fs, .int .i64 x.o.a, .int .i64 x.o.b, .int .i64 x.o.c, .int .i64 x.o.d, .int .i64 x.o.e, .int .i64 x.o.f, .int .i64 x.lo, .int .i64 x.hi]
/-- the end of a path at a face that light passes -/
def leaveR (n v : D) (i0 i1 gl gh : Int) (y : LV) : LV :=
  if (refrR v n i0 i1).e = 0 then
    if (passR (refrR v n i0 i1).p (refrR v n i0 i1).q (refrR v n i0 i1).u (refrR v n i0 i1).v i0 i1 16777216 16777216).e = 0 then
      if (mulR gl gh (passR (refrR v n i0 i1).p (refrR v n i0 i1).q (refrR v n i0 i1).u (refrR v n i0 i1).v i0 i1 16777216 16777216).lo (passR (refrR v n i0 i1).p (refrR v n i0 i1).q (refrR v n i0 i1).u (refrR v n i0 i1).v i0 i1 16777216 16777216).hi).e = 0 then
        if sgn (refrR v n i0 i1).d.e (refrR v n i0 i1).d.f = 1 then ⟨1, (refrR v n i0 i1).d, (mulR gl gh (passR (refrR v n i0 i1).p (refrR v n i0 i1).q (refrR v n i0 i1).u (refrR v n i0 i1).v i0 i1 16777216 16777216).lo (passR (refrR v n i0 i1).p (refrR v n i0 i1).q (refrR v n i0 i1).u (refrR v n i0 i1).v i0 i1 16777216 16777216).hi).lo, (mulR gl gh (passR (refrR v n i0 i1).p (refrR v n i0 i1).q (refrR v n i0 i1).u (refrR v n i0 i1).v i0 i1 16777216 16777216).lo (passR (refrR v n i0 i1).p (refrR v n i0 i1).q (refrR v n i0 i1).u (refrR v n i0 i1).v i0 i1 16777216 16777216).hi).hi⟩
        else if sgn (refrR v n i0 i1).d.e (refrR v n i0 i1).d.f = -1 then ⟨2, (refrR v n i0 i1).d, (mulR gl gh (passR (refrR v n i0 i1).p (refrR v n i0 i1).q (refrR v n i0 i1).u (refrR v n i0 i1).v i0 i1 16777216 16777216).lo (passR (refrR v n i0 i1).p (refrR v n i0 i1).q (refrR v n i0 i1).u (refrR v n i0 i1).v i0 i1 16777216 16777216).hi).lo, (mulR gl gh (passR (refrR v n i0 i1).p (refrR v n i0 i1).q (refrR v n i0 i1).u (refrR v n i0 i1).v i0 i1 16777216 16777216).lo (passR (refrR v n i0 i1).p (refrR v n i0 i1).q (refrR v n i0 i1).u (refrR v n i0 i1).v i0 i1 16777216 16777216).hi).hi⟩
        else y
      else y
    else y
  else y
structure Lg (nc dc k m mm nb no b0 : Nat) (i0 i1 gl gh p q u x ee d0 d1 d2 d3 d4 d5 : Int) (n v : D) (da : Option Addr) (w0 w : World) (l0 l1 l2 l3 l4 l5 l6 l7 l8 l9 l10 l11 l12 l13 l14 l15 l16 l17 l18 l19 l20 : Bool) (v0 v1 v2 v3 v4 v5 v6 v7 v8 v9 v10 v11 v12 v13 v14 v15 v16 v20 : Value) (b14 b15 b16 : Nat) : Prop where
  g : Ho w0 w (b0 + 1 + 1 + 1) [(b0 + 1 + 1, [.int .i64 gl, .int .i64 gh]), (b0 + 1, [.int .i64 v.a, .int .i64 v.b, .int .i64 v.c, .int .i64 v.d, .int .i64 v.e, .int .i64 v.f]), (b0, [.slice (some ⟨nb, no, none⟩) m nc, .slice da mm dc, .int .i64 i0, .int .i64 i1])]
  sz : (b0 + 1 + 1 + 1) ≤ w.heap.size
  mn : (b0 + 1 + 1 + 1) ≤ (b0 + 1 + 1 + 1)
  u0 : Rs w nb (no + k * 6) [.int .i64 n.a, .int .i64 n.b, .int .i64 n.c, .int .i64 n.d, .int .i64 n.e, .int .i64 n.f]
  un0 : nb < (b0 + 1 + 1 + 1)
  ev0 : l0 = true → v0 = (dv v)
  ev1 : l1 = true → v1 = .pointer (some ⟨b0, 0, none⟩)
  ev2 : l2 = true → v2 = .slice (some ⟨nb, no, none⟩) m nc
  ev3 : l3 = true → v3 = .int .i64 k
  ev4 : l4 = true → v4 = .pointer (some ⟨nb, no + k * 6, none⟩)
  ev5 : l5 = true → v5 = (dv n)
  ev6 : l6 = true → v6 = .pointer (some ⟨b0, 2, none⟩)
  ev7 : l7 = true → v7 = (iv i0 i1)
  ev8 : l8 = true → v8 = .tuple #[dv ⟨d0, d1, d2, d3, d4, d5⟩, (iv p q), (iv u x), .int .i64 ee]
  ev9 : l9 = true → v9 = .tuple #[dv ⟨d0, d1, d2, d3, d4, d5⟩, (iv p q), (iv u x), .int .i64 ee]
  ev10 : l10 = true → v10 = dv ⟨d0, d1, d2, d3, d4, d5⟩
  ev11 : l11 = true → v11 = (iv p q)
  ev12 : l12 = true → v12 = (iv u x)
  ev13 : l13 = true → v13 = .int .i64 ee
  ev14 : l14 = true → v14 = .pointer (some ⟨b14, 0, none⟩)
  ev15 : l15 = true → v15 = .pointer (some ⟨b15, 0, none⟩)
  ev16 : l16 = true → v16 = .pointer (some ⟨b16, 0, none⟩)
  ev20 : l20 = true → v20 = .int .i64 ee
  g14 : l14 = true → (b0 + 1 + 1 + 1) ≤ b14
  t14 : l14 = true → b14 < w.heap.size
  o14 : l17 = true → l14 = true
  z14 : l14 = true → l17 = false → Bx w b14 [.int .i64 0, .int .i64 0, .int .i64 0, .int .i64 0, .int .i64 0, .int .i64 0]
  s14 : l17 = true → Bx w b14 [.int .i64 d0, .int .i64 d1, .int .i64 d2, .int .i64 d3, .int .i64 d4, .int .i64 d5]
  g15 : l15 = true → (b0 + 1 + 1 + 1) ≤ b15
  t15 : l15 = true → b15 < w.heap.size
  o15 : l18 = true → l15 = true
  z15 : l15 = true → l18 = false → Bx w b15 [.int .i64 0, .int .i64 0]
  s15 : l18 = true → Bx w b15 [.int .i64 p, .int .i64 q]
  g16 : l16 = true → (b0 + 1 + 1 + 1) ≤ b16
  t16 : l16 = true → b16 < w.heap.size
  o16 : l19 = true → l16 = true
  z16 : l16 = true → l19 = false → Bx w b16 [.int .i64 0, .int .i64 0]
  s16 : l19 = true → Bx w b16 [.int .i64 u, .int .i64 x]
  d14_15 : l14 = true → l15 = true → ¬ (b14 = b15)
  d14_16 : l14 = true → l16 = true → ¬ (b14 = b16)
  d15_16 : l15 = true → l16 = true → ¬ (b15 = b16)
theorem Lg.kept {nc dc k m mm nb no b0 : Nat} {i0 i1 gl gh p q u x ee d0 d1 d2 d3 d4 d5 : Int} {n v : D} {da : Option Addr} {w0 w : World} {l0 l1 l2 l3 l4 l5 l6 l7 l8 l9 l10 l11 l12 l13 l14 l15 l16 l17 l18 l19 l20 : Bool} {v0 v1 v2 v3 v4 v5 v6 v7 v8 v9 v10 v11 v12 v13 v14 v15 v16 v20 : Value} {b14 b15 b16 : Nat} {w' : World} (h : Lg nc dc k m mm nb no b0 i0 i1 gl gh p q u x ee d0 d1 d2 d3 d4 d5 n v da w0 w l0 l1 l2 l3 l4 l5 l6 l7 l8 l9 l10 l11 l12 l13 l14 l15 l16 l17 l18 l19 l20 v0 v1 v2 v3 v4 v5 v6 v7 v8 v9 v10 v11 v12 v13 v14 v15 v16 v20 b14 b15 b16) (hb : Below w.heap.size w w') : Lg nc dc k m mm nb no b0 i0 i1 gl gh p q u x ee d0 d1 d2 d3 d4 d5 n v da w0 w' l0 l1 l2 l3 l4 l5 l6 l7 l8 l9 l10 l11 l12 l13 l14 l15 l16 l17 l18 l19 l20 v0 v1 v2 v3 v4 v5 v6 v7 v8 v9 v10 v11 v12 v13 v14 v15 v16 v20 b14 b15 b16 :=
  { h with g := h.g.call hb, sz := Nat.le_trans h.sz hb.size, u0 := h.u0.kept hb, t14 := fun p => Nat.lt_of_lt_of_le (h.t14 p) hb.size, z14 := fun p q => (h.z14 p q).kept hb, s14 := fun p => (h.s14 p).kept hb, t15 := fun p => Nat.lt_of_lt_of_le (h.t15 p) hb.size, z15 := fun p q => (h.z15 p q).kept hb, s15 := fun p => (h.s15 p).kept hb, t16 := fun p => Nat.lt_of_lt_of_le (h.t16 p) hb.size, z16 := fun p q => (h.z16 p q).kept hb, s16 := fun p => (h.s16 p).kept hb }
def Lg.I (nc dc k m mm nb no b0 : Nat) (i0 i1 gl gh p q u x ee d0 d1 d2 d3 d4 d5 : Int) (n v : D) (da : Option Addr) (w0 : World) : Act → Array Bool → Act → World → Prop := fun aO LX aX w => ∃ (l0 l1 l2 l3 l4 l5 l6 l7 l8 l9 l10 l11 l12 l13 l14 l15 l16 l17 l18 l19 l20 : Bool) (v0 v1 v2 v3 v4 v5 v6 v7 v8 v9 v10 v11 v12 v13 v14 v15 v16 v20 : Value) (b14 b15 b16 : Nat), LX = #[l0, l1, l2, l3, l4, l5, l6, l7, l8, l9, l10, l11, l12, l13, l14, l15, l16, l17, l18, l19, l20] ∧ aX = ((((((((((((((((((aO.put (some 17) v0).put (some 18) v1).put (some 19) v2).put (some 20) v3).put (some 21) v4).put (some 22) v5).put (some 23) v6).put (some 24) v7).put (some 25) v8).put (some 16) v9).put (some 26) v10).put (some 27) v11).put (some 28) v12).put (some 29) v13).put (some 10) v14).put (some 11) v15).put (some 12) v16).put (some 13) v20) ∧ Lg nc dc k m mm nb no b0 i0 i1 gl gh p q u x ee d0 d1 d2 d3 d4 d5 n v da w0 w l0 l1 l2 l3 l4 l5 l6 l7 l8 l9 l10 l11 l12 l13 l14 l15 l16 l17 l18 l19 l20 v0 v1 v2 v3 v4 v5 v6 v7 v8 v9 v10 v11 v12 v13 v14 v15 v16 v20 b14 b15 b16
structure Lh (b0 n0 c0 c1 c2 m nc mm dc nb no : Nat) (i0 i1 gl gh p q u x tl th te d0 d1 d2 d3 d4 d5 : Int) (v : D) (da : Option Addr) (w0 w : World) (l0 l1 l2 l3 l4 l5 l6 l7 l8 l9 l10 l11 : Bool) (v0 v1 v2 v3 v4 v5 v6 v7 v8 v9 v11 : Value) (b9 : Nat) : Prop where
  g : Ho w0 w n0 [(c0, [.int .i64 d0, .int .i64 d1, .int .i64 d2, .int .i64 d3, .int .i64 d4, .int .i64 d5]), (c2, [.int .i64 u, .int .i64 x]), (c1, [.int .i64 p, .int .i64 q]), (b0 + 1 + 1, [.int .i64 gl, .int .i64 gh]), (b0 + 1, [.int .i64 v.a, .int .i64 v.b, .int .i64 v.c, .int .i64 v.d, .int .i64 v.e, .int .i64 v.f]), (b0, [.slice (some ⟨nb, no, none⟩) m nc, .slice da mm dc, .int .i64 i0, .int .i64 i1])]
  sz : n0 ≤ w.heap.size
  mn : n0 ≤ n0
  ev0 : l0 = true → v0 = (iv p q)
  ev1 : l1 = true → v1 = (iv u x)
  ev2 : l2 = true → v2 = .pointer (some ⟨b0, 2, none⟩)
  ev3 : l3 = true → v3 = (iv i0 i1)
  ev4 : l4 = true → v4 = (iv 16777216 16777216)
  ev5 : l5 = true → v5 = .tuple #[(iv tl th), .int .i64 te]
  ev6 : l6 = true → v6 = .tuple #[(iv tl th), .int .i64 te]
  ev7 : l7 = true → v7 = (iv tl th)
  ev8 : l8 = true → v8 = .int .i64 te
  ev9 : l9 = true → v9 = .pointer (some ⟨b9, 0, none⟩)
  ev11 : l11 = true → v11 = .int .i64 te
  g9 : l9 = true → n0 ≤ b9
  t9 : l9 = true → b9 < w.heap.size
  o9 : l10 = true → l9 = true
  z9 : l9 = true → l10 = false → Bx w b9 [.int .i64 0, .int .i64 0]
  s9 : l10 = true → Bx w b9 [.int .i64 tl, .int .i64 th]
theorem Lh.kept {b0 n0 c0 c1 c2 m nc mm dc nb no : Nat} {i0 i1 gl gh p q u x tl th te d0 d1 d2 d3 d4 d5 : Int} {v : D} {da : Option Addr} {w0 w : World} {l0 l1 l2 l3 l4 l5 l6 l7 l8 l9 l10 l11 : Bool} {v0 v1 v2 v3 v4 v5 v6 v7 v8 v9 v11 : Value} {b9 : Nat} {w' : World} (h : Lh b0 n0 c0 c1 c2 m nc mm dc nb no i0 i1 gl gh p q u x tl th te d0 d1 d2 d3 d4 d5 v da w0 w l0 l1 l2 l3 l4 l5 l6 l7 l8 l9 l10 l11 v0 v1 v2 v3 v4 v5 v6 v7 v8 v9 v11 b9) (hb : Below w.heap.size w w') : Lh b0 n0 c0 c1 c2 m nc mm dc nb no i0 i1 gl gh p q u x tl th te d0 d1 d2 d3 d4 d5 v da w0 w' l0 l1 l2 l3 l4 l5 l6 l7 l8 l9 l10 l11 v0 v1 v2 v3 v4 v5 v6 v7 v8 v9 v11 b9 :=
  { h with g := h.g.call hb, sz := Nat.le_trans h.sz hb.size, t9 := fun p => Nat.lt_of_lt_of_le (h.t9 p) hb.size, z9 := fun p q => (h.z9 p q).kept hb, s9 := fun p => (h.s9 p).kept hb }
def Lh.I (b0 n0 c0 c1 c2 m nc mm dc nb no : Nat) (i0 i1 gl gh p q u x tl th te d0 d1 d2 d3 d4 d5 : Int) (v : D) (da : Option Addr) (w0 : World) : Act → Array Bool → Act → World → Prop := fun aO LX aX w => ∃ (l0 l1 l2 l3 l4 l5 l6 l7 l8 l9 l10 l11 : Bool) (v0 v1 v2 v3 v4 v5 v6 v7 v8 v9 v11 : Value) (b9 : Nat), LX = #[l0, l1, l2, l3, l4, l5, l6, l7, l8, l9, l10, l11] ∧ aX = (((((((((((aO.put (some 33) v0).put (some 34) v1).put (some 35) v2).put (some 36) v3).put (some 37) v4).put (some 38) v5).put (some 32) v6).put (some 39) v7).put (some 40) v8).put (some 14) v9).put (some 13) v11) ∧ Lh b0 n0 c0 c1 c2 m nc mm dc nb no i0 i1 gl gh p q u x tl th te d0 d1 d2 d3 d4 d5 v da w0 w l0 l1 l2 l3 l4 l5 l6 l7 l8 l9 l10 l11 v0 v1 v2 v3 v4 v5 v6 v7 v8 v9 v11 b9
set_option maxRecDepth 100000 in
set_option maxHeartbeats 16000000 in
theorem leave_any {na da : Option Addr} {nc mm dc k : Nat} {L : List D} {i0 i1 gl gh : Int} {n v : D} {y : LV} {fs : Value} {B : Nat} (w : World) (hn : NAt w na L) (hx : L[k]? = some n) (hB : Bx w B (lcells y fs))
    (hs : (refrR v n i0 i1).e = 0 → vB (refrR v n i0 i1).p (refrR v n i0 i1).q = true ∧ 0 ≤ (refrR v n i0 i1).p ∧ vB (refrR v n i0 i1).u (refrR v n i0 i1).v = true ∧ 0 ≤ (refrR v n i0 i1).u) (hl : L.length ≤ 1000000) :
    Calls Try.prog 45 #[.pointer (some ⟨B, 0, none⟩), .agg #[.slice na L.length nc, .slice da mm dc, .int .i64 i0, .int .i64 i1], .int .i64 k, dv v, iv gl gh] w fun e w' =>
      (∃ u, e = .returned u) ∧ w.grownBy w' (some B) ∧ Bx w' B (lcells (leaveR n v i0 i1 gl gh y) fs) := by
  obtain ⟨xk, ⟨x0, x1, x2, x3, x4, x5⟩, xl, xh⟩ := y
  dsimp only [lcells] at hB
  have hk : k < L.length := (List.getElem?_eq_some_iff.1 hx).1
  obtain ⟨nb, no, rfl, hnb, hN⟩ := hn (by omega)
  have RS := Lib.hid (Rs.mk hnb (hN k n hx) : Rs w nb (no + k * 6) [.int .i64 n.a, .int .i64 n.b, .int .i64 n.c, .int .i64 n.d, .int .i64 n.e, .int .i64 n.f])
  have H0 := (((Ho.nil w).bx [.slice (some ⟨nb, no, none⟩) L.length nc, .slice da mm dc, .int .i64 i0, .int .i64 i1] 39 w.heap.size rfl).bx [.int .i64 v.a, .int .i64 v.b, .int .i64 v.c, .int .i64 v.d, .int .i64 v.e, .int .i64 v.f] 26 (w.heap.size + 1) (by simp)).bx [.int .i64 gl, .int .i64 gh] 24 (w.heap.size + 1 + 1) (by simp)
  have HX := Lib.hid hx
  have hlt' : (k : Int) < (L.length : Int) := by omega
  have hge' : (0 : Int) ≤ (k : Int) := by omega
  have HBX := Lib.hid hB
  have hBlt := hB.lt
  clear hN hn hx hB
  obtain ⟨⟨⟨d0, d1, d2, d3, d4, d5⟩, p, q, u, x, ee⟩, hf⟩ : ∃ r, refrR v n i0 i1 = r := ⟨_, rfl⟩
  rw [hf] at hs
  dsimp only at hs
  have HF := Lib.hid hf
  clear hf
  go_enter Try.func45, Try.ntmps45
  go_upto_region 1 with fail
  refine region_sets (Lg.I nc dc k L.length mm nb no w.heap.size i0 i1 gl gh p q u x ee d0 d1 d2 d3 d4 d5 n v da w) (by kernel_rfl) ?_ ?_ ?_
  · refine ⟨false, false, false, false, false, false, false, false, false, false, false, false, false, false, false, false, false, false, false, false, false, undef, undef, undef, undef, undef, undef, undef, undef, undef, undef, undef, undef, undef, undef, undef, undef, undef, undef, 0, 0, 0, rfl, by simp only [Act.put, List.setIfInBounds_toArray, List.set_cons_zero, List.set_cons_succ], ?_⟩
    constructor
    · (repeat (first | with_reducible exact H0 | with_reducible refine Ho.alc ?_ _ | with_reducible refine Ho.drew ?_ | with_reducible refine Ho.put ?_ (by omega)))
    · (first | (simp; done) | (simp; omega))
    · (omega)
    · (repeat (first | with_reducible exact RS.out | with_reducible refine Rs.alc ?_ _ | with_reducible refine Rs.drew ?_))
    · (omega)
    all_goals (intro h; cases h)
  · intro L a' w' hI i hi
    obtain ⟨l0, l1, l2, l3, l4, l5, l6, l7, l8, l9, l10, l11, l12, l13, l14, l15, l16, l17, l18, l19, l20, v0, v1, v2, v3, v4, v5, v6, v7, v8, v9, v10, v11, v12, v13, v14, v15, v16, v20, b14, b15, b16, rfl, rfl, h⟩ := hI
    have hlt := ready_lt hi
    match i, hi, hlt with
    | 0, hi, _ =>
      have l' : l0 = false := (ready_op (o := _) rfl hi).1
      subst l'
      clear hi hlt
      have c := (h.g.at 1 rfl).c
      have H := Lib.hid h
      clear h
      refine wpOp_shut rfl (fun K hK => ?_)
      try simp only [Act.put, List.setIfInBounds_toArray, List.set_cons_zero, List.set_cons_succ]
      go_simp
      refine hK.out _ _ ?_
      unfold Lg.I
      refine ⟨true, l1, l2, l3, l4, l5, l6, l7, l8, l9, l10, l11, l12, l13, l14, l15, l16, l17, l18, l19, l20, ((dv v)), v1, v2, v3, v4, v5, v6, v7, v8, v9, v10, v11, v12, v13, v14, v15, v16, v20, b14, b15, b16, rfl, ?_, ?_⟩
      · simp only [Act.put, List.setIfInBounds_toArray, List.set_cons_zero, List.set_cons_succ]
      · exact { H.out with ev0 := fun _ => rfl }
    | 1, hi, _ =>
      have l' : l1 = false := (ready_op (o := _) rfl hi).1
      subst l'
      clear hi hlt
      have H := Lib.hid h
      clear h
      refine wpOp_shut rfl (fun K hK => ?_)
      try simp only [Act.put, List.setIfInBounds_toArray, List.set_cons_zero, List.set_cons_succ]
      go_simp
      refine hK.out _ _ ?_
      unfold Lg.I
      refine ⟨l0, true, l2, l3, l4, l5, l6, l7, l8, l9, l10, l11, l12, l13, l14, l15, l16, l17, l18, l19, l20, v0, (.pointer (some ⟨w.heap.size, 0, none⟩)), v2, v3, v4, v5, v6, v7, v8, v9, v10, v11, v12, v13, v14, v15, v16, v20, b14, b15, b16, rfl, ?_, ?_⟩
      · simp only [Act.put, List.setIfInBounds_toArray, List.set_cons_zero, List.set_cons_succ]
      · exact { H.out with ev1 := fun _ => rfl }
    | 2, hi, _ =>
      have l' : l2 = false := (ready_op (o := _) rfl hi).1
      subst l'
      have k1 : l1 = true := (ready_op (o := _) rfl hi).2 { on := 1, ground := .data } (by simp) rfl
      clear hi hlt
      subst k1
      obtain rfl := h.ev1 rfl
      have c := (h.g.at 2 rfl).c
      have H := Lib.hid h
      clear h
      refine wpOp_shut rfl (fun K hK => ?_)
      try simp only [Act.put, List.setIfInBounds_toArray, List.set_cons_zero, List.set_cons_succ]
      go_simp
      refine hK.out _ _ ?_
      unfold Lg.I
      refine ⟨l0, true, true, l3, l4, l5, l6, l7, l8, l9, l10, l11, l12, l13, l14, l15, l16, l17, l18, l19, l20, v0, (.pointer (some ⟨w.heap.size, 0, none⟩)), (.slice (some ⟨nb, no, none⟩) L.length nc), v3, v4, v5, v6, v7, v8, v9, v10, v11, v12, v13, v14, v15, v16, v20, b14, b15, b16, rfl, ?_, ?_⟩
      · simp only [Act.put, List.setIfInBounds_toArray, List.set_cons_zero, List.set_cons_succ]
      · exact { H.out with ev2 := fun _ => rfl }
    | 3, hi, _ =>
      have l' : l3 = false := (ready_op (o := _) rfl hi).1
      subst l'
      clear hi hlt
      have H := Lib.hid h
      clear h
      refine wpOp_shut rfl (fun K hK => ?_)
      try simp only [Act.put, List.setIfInBounds_toArray, List.set_cons_zero, List.set_cons_succ]
      go_simp
      refine hK.out _ _ ?_
      unfold Lg.I
      refine ⟨l0, l1, l2, true, l4, l5, l6, l7, l8, l9, l10, l11, l12, l13, l14, l15, l16, l17, l18, l19, l20, v0, v1, v2, (.int .i64 k), v4, v5, v6, v7, v8, v9, v10, v11, v12, v13, v14, v15, v16, v20, b14, b15, b16, rfl, ?_, ?_⟩
      · simp only [Act.put, List.setIfInBounds_toArray, List.set_cons_zero, List.set_cons_succ]
      · exact { H.out with ev3 := fun _ => rfl }
    | 4, hi, _ =>
      have l' : l4 = false := (ready_op (o := _) rfl hi).1
      subst l'
      have k2 : l2 = true := (ready_op (o := _) rfl hi).2 { on := 2, ground := .data } (by simp) rfl
      have k3 : l3 = true := (ready_op (o := _) rfl hi).2 { on := 3, ground := .data } (by simp) rfl
      clear hi hlt
      subst k2
      subst k3
      obtain rfl := h.ev2 rfl
      obtain rfl := h.ev3 rfl
      have H := Lib.hid h
      clear h
      refine wpOp_shut rfl (fun K hK => ?_)
      try simp only [Act.put, List.setIfInBounds_toArray, List.set_cons_zero, List.set_cons_succ]
      go_simp
      refine hK.out _ _ ?_
      unfold Lg.I
      refine ⟨l0, l1, true, true, true, l5, l6, l7, l8, l9, l10, l11, l12, l13, l14, l15, l16, l17, l18, l19, l20, v0, v1, (.slice (some ⟨nb, no, none⟩) L.length nc), (.int .i64 k), (.pointer (some ⟨nb, no + k * 6, none⟩)), v5, v6, v7, v8, v9, v10, v11, v12, v13, v14, v15, v16, v20, b14, b15, b16, rfl, ?_, ?_⟩
      · simp only [Act.put, List.setIfInBounds_toArray, List.set_cons_zero, List.set_cons_succ]
      · exact { H.out with ev4 := fun _ => rfl }
    | 5, hi, _ =>
      have l' : l5 = false := (ready_op (o := _) rfl hi).1
      subst l'
      have k4 : l4 = true := (ready_op (o := _) rfl hi).2 { on := 4, ground := .data } (by simp) rfl
      clear hi hlt
      subst k4
      obtain rfl := h.ev4 rfl
      have c0 : w'.cell? ⟨nb, no + k * 6, none⟩ = some (.int .i64 n.a) := h.u0.c 0 (by simp)
      have c1 : w'.cell? ⟨nb, no + k * 6 + 1, none⟩ = some (.int .i64 n.b) := h.u0.c 1 (by simp)
      have c2 : w'.cell? ⟨nb, no + k * 6 + 2, none⟩ = some (.int .i64 n.c) := h.u0.c 2 (by simp)
      have c3 : w'.cell? ⟨nb, no + k * 6 + 3, none⟩ = some (.int .i64 n.d) := h.u0.c 3 (by simp)
      have c4 : w'.cell? ⟨nb, no + k * 6 + 4, none⟩ = some (.int .i64 n.e) := h.u0.c 4 (by simp)
      have c5 : w'.cell? ⟨nb, no + k * 6 + 5, none⟩ = some (.int .i64 n.f) := h.u0.c 5 (by simp)
      have H := Lib.hid h
      clear h
      refine wpOp_shut rfl (fun K hK => ?_)
      try simp only [Act.put, List.setIfInBounds_toArray, List.set_cons_zero, List.set_cons_succ]
      go_simp
      refine hK.out _ _ ?_
      unfold Lg.I
      refine ⟨l0, l1, l2, l3, true, true, l6, l7, l8, l9, l10, l11, l12, l13, l14, l15, l16, l17, l18, l19, l20, v0, v1, v2, v3, (.pointer (some ⟨nb, no + k * 6, none⟩)), ((dv n)), v6, v7, v8, v9, v10, v11, v12, v13, v14, v15, v16, v20, b14, b15, b16, rfl, ?_, ?_⟩
      · simp only [Act.put, List.setIfInBounds_toArray, List.set_cons_zero, List.set_cons_succ]
      · exact { H.out with ev5 := fun _ => rfl }
    | 6, hi, _ =>
      have l' : l6 = false := (ready_op (o := _) rfl hi).1
      subst l'
      clear hi hlt
      have H := Lib.hid h
      clear h
      refine wpOp_shut rfl (fun K hK => ?_)
      try simp only [Act.put, List.setIfInBounds_toArray, List.set_cons_zero, List.set_cons_succ]
      go_simp
      refine hK.out _ _ ?_
      unfold Lg.I
      refine ⟨l0, l1, l2, l3, l4, l5, true, l7, l8, l9, l10, l11, l12, l13, l14, l15, l16, l17, l18, l19, l20, v0, v1, v2, v3, v4, v5, (.pointer (some ⟨w.heap.size, 2, none⟩)), v7, v8, v9, v10, v11, v12, v13, v14, v15, v16, v20, b14, b15, b16, rfl, ?_, ?_⟩
      · simp only [Act.put, List.setIfInBounds_toArray, List.set_cons_zero, List.set_cons_succ]
      · exact { H.out with ev6 := fun _ => rfl }
    | 7, hi, _ =>
      have l' : l7 = false := (ready_op (o := _) rfl hi).1
      subst l'
      have k6 : l6 = true := (ready_op (o := _) rfl hi).2 { on := 6, ground := .data } (by simp) rfl
      clear hi hlt
      subst k6
      obtain rfl := h.ev6 rfl
      have c := (h.g.at 2 rfl).c
      have H := Lib.hid h
      clear h
      refine wpOp_shut rfl (fun K hK => ?_)
      try simp only [Act.put, List.setIfInBounds_toArray, List.set_cons_zero, List.set_cons_succ]
      go_simp
      refine hK.out _ _ ?_
      unfold Lg.I
      refine ⟨l0, l1, l2, l3, l4, l5, true, true, l8, l9, l10, l11, l12, l13, l14, l15, l16, l17, l18, l19, l20, v0, v1, v2, v3, v4, v5, (.pointer (some ⟨w.heap.size, 2, none⟩)), ((iv i0 i1)), v8, v9, v10, v11, v12, v13, v14, v15, v16, v20, b14, b15, b16, rfl, ?_, ?_⟩
      · simp only [Act.put, List.setIfInBounds_toArray, List.set_cons_zero, List.set_cons_succ]
      · exact { H.out with ev7 := fun _ => rfl }
    | 8, hi, _ =>
      have l' : l8 = false := (ready_op (o := _) rfl hi).1
      subst l'
      have k0 : l0 = true := (ready_op (o := _) rfl hi).2 { on := 0, ground := .data } (by simp) rfl
      have k5 : l5 = true := (ready_op (o := _) rfl hi).2 { on := 5, ground := .data } (by simp) rfl
      have k7 : l7 = true := (ready_op (o := _) rfl hi).2 { on := 7, ground := .data } (by simp) rfl
      clear hi hlt
      subst k0
      subst k5
      subst k7
      obtain rfl := h.ev0 rfl
      obtain rfl := h.ev5 rfl
      obtain rfl := h.ev7 rfl
      have H := Lib.hid h
      clear h
      refine wpOp_shut rfl (fun K hK => ?_)
      try simp only [Act.put, List.setIfInBounds_toArray, List.set_cons_zero, List.set_cons_succ]
      go_simp
      refine (refr_any v n i0 i1 _).mono ?_
      rintro e wY ⟨rfl, hb⟩
      rw [HF.out]
      unfold retF
      dsimp only
      try go_simp
      refine hK.out _ _ ?_
      unfold Lg.I
      refine ⟨true, l1, l2, l3, l4, true, l6, true, true, l9, l10, l11, l12, l13, l14, l15, l16, l17, l18, l19, l20, ((dv v)), v1, v2, v3, v4, ((dv n)), v6, ((iv i0 i1)), (.tuple #[dv ⟨d0, d1, d2, d3, d4, d5⟩, (iv p q), (iv u x), .int .i64 ee]), v9, v10, v11, v12, v13, v14, v15, v16, v20, b14, b15, b16, rfl, ?_, ?_⟩
      · simp only [Act.put, List.setIfInBounds_toArray, List.set_cons_zero, List.set_cons_succ]
      · exact { (H.out.kept hb) with ev8 := fun _ => rfl }
    | 9, hi, _ =>
      have l' : l9 = false := (ready_op (o := _) rfl hi).1
      subst l'
      have k8 : l8 = true := (ready_op (o := _) rfl hi).2 { on := 8, ground := .data } (by simp) rfl
      clear hi hlt
      subst k8
      obtain rfl := h.ev8 rfl
      have H := Lib.hid h
      clear h
      refine wpOp_shut rfl (fun K hK => ?_)
      try simp only [Act.put, List.setIfInBounds_toArray, List.set_cons_zero, List.set_cons_succ]
      go_simp
      refine hK.out _ _ ?_
      unfold Lg.I
      refine ⟨l0, l1, l2, l3, l4, l5, l6, l7, true, true, l10, l11, l12, l13, l14, l15, l16, l17, l18, l19, l20, v0, v1, v2, v3, v4, v5, v6, v7, (.tuple #[dv ⟨d0, d1, d2, d3, d4, d5⟩, (iv p q), (iv u x), .int .i64 ee]), (.tuple #[dv ⟨d0, d1, d2, d3, d4, d5⟩, (iv p q), (iv u x), .int .i64 ee]), v10, v11, v12, v13, v14, v15, v16, v20, b14, b15, b16, rfl, ?_, ?_⟩
      · simp only [Act.put, List.setIfInBounds_toArray, List.set_cons_zero, List.set_cons_succ]
      · exact { H.out with ev9 := fun _ => rfl }
    | 10, hi, _ =>
      have l' : l10 = false := (ready_op (o := _) rfl hi).1
      subst l'
      have k9 : l9 = true := (ready_op (o := _) rfl hi).2 { on := 9, ground := .data } (by simp) rfl
      clear hi hlt
      subst k9
      obtain rfl := h.ev9 rfl
      have H := Lib.hid h
      clear h
      refine wpOp_shut rfl (fun K hK => ?_)
      try simp only [Act.put, List.setIfInBounds_toArray, List.set_cons_zero, List.set_cons_succ]
      go_simp
      refine hK.out _ _ ?_
      unfold Lg.I
      refine ⟨l0, l1, l2, l3, l4, l5, l6, l7, l8, true, true, l11, l12, l13, l14, l15, l16, l17, l18, l19, l20, v0, v1, v2, v3, v4, v5, v6, v7, v8, (.tuple #[dv ⟨d0, d1, d2, d3, d4, d5⟩, (iv p q), (iv u x), .int .i64 ee]), (dv ⟨d0, d1, d2, d3, d4, d5⟩), v11, v12, v13, v14, v15, v16, v20, b14, b15, b16, rfl, ?_, ?_⟩
      · simp only [Act.put, List.setIfInBounds_toArray, List.set_cons_zero, List.set_cons_succ]
      · exact { H.out with ev10 := fun _ => rfl }
    | 11, hi, _ =>
      have l' : l11 = false := (ready_op (o := _) rfl hi).1
      subst l'
      have k9 : l9 = true := (ready_op (o := _) rfl hi).2 { on := 9, ground := .data } (by simp) rfl
      clear hi hlt
      subst k9
      obtain rfl := h.ev9 rfl
      have H := Lib.hid h
      clear h
      refine wpOp_shut rfl (fun K hK => ?_)
      try simp only [Act.put, List.setIfInBounds_toArray, List.set_cons_zero, List.set_cons_succ]
      go_simp
      refine hK.out _ _ ?_
      unfold Lg.I
      refine ⟨l0, l1, l2, l3, l4, l5, l6, l7, l8, true, l10, true, l12, l13, l14, l15, l16, l17, l18, l19, l20, v0, v1, v2, v3, v4, v5, v6, v7, v8, (.tuple #[dv ⟨d0, d1, d2, d3, d4, d5⟩, (iv p q), (iv u x), .int .i64 ee]), v10, ((iv p q)), v12, v13, v14, v15, v16, v20, b14, b15, b16, rfl, ?_, ?_⟩
      · simp only [Act.put, List.setIfInBounds_toArray, List.set_cons_zero, List.set_cons_succ]
      · exact { H.out with ev11 := fun _ => rfl }
    | 12, hi, _ =>
      have l' : l12 = false := (ready_op (o := _) rfl hi).1
      subst l'
      have k9 : l9 = true := (ready_op (o := _) rfl hi).2 { on := 9, ground := .data } (by simp) rfl
      clear hi hlt
      subst k9
      obtain rfl := h.ev9 rfl
      have H := Lib.hid h
      clear h
      refine wpOp_shut rfl (fun K hK => ?_)
      try simp only [Act.put, List.setIfInBounds_toArray, List.set_cons_zero, List.set_cons_succ]
      go_simp
      refine hK.out _ _ ?_
      unfold Lg.I
      refine ⟨l0, l1, l2, l3, l4, l5, l6, l7, l8, true, l10, l11, true, l13, l14, l15, l16, l17, l18, l19, l20, v0, v1, v2, v3, v4, v5, v6, v7, v8, (.tuple #[dv ⟨d0, d1, d2, d3, d4, d5⟩, (iv p q), (iv u x), .int .i64 ee]), v10, v11, ((iv u x)), v13, v14, v15, v16, v20, b14, b15, b16, rfl, ?_, ?_⟩
      · simp only [Act.put, List.setIfInBounds_toArray, List.set_cons_zero, List.set_cons_succ]
      · exact { H.out with ev12 := fun _ => rfl }
    | 13, hi, _ =>
      have l' : l13 = false := (ready_op (o := _) rfl hi).1
      subst l'
      have k9 : l9 = true := (ready_op (o := _) rfl hi).2 { on := 9, ground := .data } (by simp) rfl
      clear hi hlt
      subst k9
      obtain rfl := h.ev9 rfl
      have H := Lib.hid h
      clear h
      refine wpOp_shut rfl (fun K hK => ?_)
      try simp only [Act.put, List.setIfInBounds_toArray, List.set_cons_zero, List.set_cons_succ]
      go_simp
      refine hK.out _ _ ?_
      unfold Lg.I
      refine ⟨l0, l1, l2, l3, l4, l5, l6, l7, l8, true, l10, l11, l12, true, l14, l15, l16, l17, l18, l19, l20, v0, v1, v2, v3, v4, v5, v6, v7, v8, (.tuple #[dv ⟨d0, d1, d2, d3, d4, d5⟩, (iv p q), (iv u x), .int .i64 ee]), v10, v11, v12, (.int .i64 ee), v14, v15, v16, v20, b14, b15, b16, rfl, ?_, ?_⟩
      · simp only [Act.put, List.setIfInBounds_toArray, List.set_cons_zero, List.set_cons_succ]
      · exact { H.out with ev13 := fun _ => rfl }
    | 14, hi, _ =>
      have l' : l14 = false := (ready_op (o := _) rfl hi).1
      subst l'
      clear hi hlt
      have H := Lib.hid h
      clear h
      refine wpOp_shut rfl (fun K hK => ?_)
      try simp only [Act.put, List.setIfInBounds_toArray, List.set_cons_zero, List.set_cons_succ]
      go_simp
      refine hK.out _ _ ?_
      unfold Lg.I
      refine ⟨l0, l1, l2, l3, l4, l5, l6, l7, l8, l9, l10, l11, l12, l13, true, l15, l16, l17, l18, l19, l20, v0, v1, v2, v3, v4, v5, v6, v7, v8, v9, v10, v11, v12, v13, (.pointer (some ⟨w'.heap.size, 0, none⟩)), v15, v16, v20, w'.heap.size, b15, b16, rfl, ?_, ?_⟩
      · simp only [Act.put, List.setIfInBounds_toArray, List.set_cons_zero, List.set_cons_succ]
      · have h := H.out
        have h2 := h.kept ((Below.refl _ _).alloc (Nat.le_refl _) (.cells (List.toArray [.int .i64 0, .int .i64 0, .int .i64 0, .int .i64 0, .int .i64 0, .int .i64 0]) 26))
        exact { h2 with ev14 := fun _ => rfl, g14 := fun _ => h.sz, t14 := fun _ => by simp, o14 := fun p => rfl, z14 := fun _ _ => Bx.new rfl, s14 := fun p => (nomatch (h.o14 p)), d14_15 := fun _ p => Nat.ne_of_gt (h.t15 p), d14_16 := fun _ p => Nat.ne_of_gt (h.t16 p) }
    | 15, hi, _ =>
      have l' : l15 = false := (ready_op (o := _) rfl hi).1
      subst l'
      clear hi hlt
      have H := Lib.hid h
      clear h
      refine wpOp_shut rfl (fun K hK => ?_)
      try simp only [Act.put, List.setIfInBounds_toArray, List.set_cons_zero, List.set_cons_succ]
      go_simp
      refine hK.out _ _ ?_
      unfold Lg.I
      refine ⟨l0, l1, l2, l3, l4, l5, l6, l7, l8, l9, l10, l11, l12, l13, l14, true, l16, l17, l18, l19, l20, v0, v1, v2, v3, v4, v5, v6, v7, v8, v9, v10, v11, v12, v13, v14, (.pointer (some ⟨w'.heap.size, 0, none⟩)), v16, v20, b14, w'.heap.size, b16, rfl, ?_, ?_⟩
      · simp only [Act.put, List.setIfInBounds_toArray, List.set_cons_zero, List.set_cons_succ]
      · have h := H.out
        have h2 := h.kept ((Below.refl _ _).alloc (Nat.le_refl _) (.cells (List.toArray [.int .i64 0, .int .i64 0]) 24))
        exact { h2 with ev15 := fun _ => rfl, g15 := fun _ => h.sz, t15 := fun _ => by simp, o15 := fun p => rfl, z15 := fun _ _ => Bx.new rfl, s15 := fun p => (nomatch (h.o15 p)), d14_15 := fun p _ => Nat.ne_of_lt (h.t14 p), d15_16 := fun _ p => Nat.ne_of_gt (h.t16 p) }
    | 16, hi, _ =>
      have l' : l16 = false := (ready_op (o := _) rfl hi).1
      subst l'
      clear hi hlt
      have H := Lib.hid h
      clear h
      refine wpOp_shut rfl (fun K hK => ?_)
      try simp only [Act.put, List.setIfInBounds_toArray, List.set_cons_zero, List.set_cons_succ]
      go_simp
      refine hK.out _ _ ?_
      unfold Lg.I
      refine ⟨l0, l1, l2, l3, l4, l5, l6, l7, l8, l9, l10, l11, l12, l13, l14, l15, true, l17, l18, l19, l20, v0, v1, v2, v3, v4, v5, v6, v7, v8, v9, v10, v11, v12, v13, v14, v15, (.pointer (some ⟨w'.heap.size, 0, none⟩)), v20, b14, b15, w'.heap.size, rfl, ?_, ?_⟩
      · simp only [Act.put, List.setIfInBounds_toArray, List.set_cons_zero, List.set_cons_succ]
      · have h := H.out
        have h2 := h.kept ((Below.refl _ _).alloc (Nat.le_refl _) (.cells (List.toArray [.int .i64 0, .int .i64 0]) 24))
        exact { h2 with ev16 := fun _ => rfl, g16 := fun _ => h.sz, t16 := fun _ => by simp, o16 := fun p => rfl, z16 := fun _ _ => Bx.new rfl, s16 := fun p => (nomatch (h.o16 p)), d14_16 := fun p _ => Nat.ne_of_lt (h.t14 p), d15_16 := fun p _ => Nat.ne_of_lt (h.t15 p) }
    | 17, hi, _ =>
      have l' : l17 = false := (ready_op (o := _) rfl hi).1
      subst l'
      have k14 : l14 = true := (ready_op (o := _) rfl hi).2 { on := 14, ground := .phase } (by simp) rfl
      have k10 : l10 = true := (ready_op (o := _) rfl hi).2 { on := 10, ground := .phase } (by simp) rfl
      have k8 : l8 = true := (ready_op (o := _) rfl hi).2 { on := 8, ground := .phase } (by simp) rfl
      have k0 : l0 = true := (ready_op (o := _) rfl hi).2 { on := 0, ground := .phase } (by simp) rfl
      have k1 : l1 = true := (ready_op (o := _) rfl hi).2 { on := 1, ground := .phase } (by simp) rfl
      have k2 : l2 = true := (ready_op (o := _) rfl hi).2 { on := 2, ground := .phase } (by simp) rfl
      have k3 : l3 = true := (ready_op (o := _) rfl hi).2 { on := 3, ground := .phase } (by simp) rfl
      have k4 : l4 = true := (ready_op (o := _) rfl hi).2 { on := 4, ground := .phase } (by simp) rfl
      have k5 : l5 = true := (ready_op (o := _) rfl hi).2 { on := 5, ground := .phase } (by simp) rfl
      have k6 : l6 = true := (ready_op (o := _) rfl hi).2 { on := 6, ground := .phase } (by simp) rfl
      have k7 : l7 = true := (ready_op (o := _) rfl hi).2 { on := 7, ground := .phase } (by simp) rfl
      have k9 : l9 = true := (ready_op (o := _) rfl hi).2 { on := 9, ground := .phase } (by simp) rfl
      have k15 : l15 = true := (ready_op (o := _) rfl hi).2 { on := 15, ground := .phase } (by simp) rfl
      have k16 : l16 = true := (ready_op (o := _) rfl hi).2 { on := 16, ground := .phase } (by simp) rfl
      clear hi hlt
      subst k14
      subst k10
      subst k8
      subst k0
      subst k1
      subst k2
      subst k3
      subst k4
      subst k5
      subst k6
      subst k7
      subst k9
      subst k15
      subst k16
      obtain rfl := h.ev14 rfl
      obtain rfl := h.ev10 rfl
      obtain rfl := h.ev8 rfl
      obtain rfl := h.ev0 rfl
      obtain rfl := h.ev1 rfl
      obtain rfl := h.ev2 rfl
      obtain rfl := h.ev3 rfl
      obtain rfl := h.ev4 rfl
      obtain rfl := h.ev5 rfl
      obtain rfl := h.ev6 rfl
      obtain rfl := h.ev7 rfl
      obtain rfl := h.ev9 rfl
      obtain rfl := h.ev15 rfl
      obtain rfl := h.ev16 rfl
      have bz := h.z14 rfl rfl
      have c := bz.c
      have f := bz.f
      clear bz
      have H := Lib.hid h
      clear h
      refine wpOp_shut rfl (fun K hK => ?_)
      try simp only [Act.put, List.setIfInBounds_toArray, List.set_cons_zero, List.set_cons_succ]
      go_simp
      refine hK.out _ _ ?_
      unfold Lg.I
      refine ⟨true, true, true, true, true, true, true, true, true, true, true, l11, l12, l13, true, true, true, true, l18, l19, l20, ((dv v)), (.pointer (some ⟨w.heap.size, 0, none⟩)), (.slice (some ⟨nb, no, none⟩) L.length nc), (.int .i64 k), (.pointer (some ⟨nb, no + k * 6, none⟩)), ((dv n)), (.pointer (some ⟨w.heap.size, 2, none⟩)), ((iv i0 i1)), (.tuple #[dv ⟨d0, d1, d2, d3, d4, d5⟩, (iv p q), (iv u x), .int .i64 ee]), (.tuple #[dv ⟨d0, d1, d2, d3, d4, d5⟩, (iv p q), (iv u x), .int .i64 ee]), (dv ⟨d0, d1, d2, d3, d4, d5⟩), v11, v12, v13, (.pointer (some ⟨b14, 0, none⟩)), (.pointer (some ⟨b15, 0, none⟩)), (.pointer (some ⟨b16, 0, none⟩)), v20, b14, b15, b16, rfl, ?_, ?_⟩
      · simp only [Act.put, List.setIfInBounds_toArray, List.set_cons_zero, List.set_cons_succ]
      · have h := H.out
        have gb := h.g14 rfl
        have gm := Nat.le_trans h.mn gb
        exact { h with g := ((((((h.g.put gm).put gm).put gm).put gm).put gm).put gm), sz := by simpa using h.sz, o14 := fun _ => rfl, z14 := fun _ p => (nomatch p), s14 := fun _ => (((((((h.z14 rfl rfl).put).put).put).put).put).put), t14 := fun p => by simpa using h.t14 p, u0 := ((((((h.u0.set (Nat.ne_of_lt (Nat.lt_of_lt_of_le h.un0 gb))).set (Nat.ne_of_lt (Nat.lt_of_lt_of_le h.un0 gb))).set (Nat.ne_of_lt (Nat.lt_of_lt_of_le h.un0 gb))).set (Nat.ne_of_lt (Nat.lt_of_lt_of_le h.un0 gb))).set (Nat.ne_of_lt (Nat.lt_of_lt_of_le h.un0 gb))).set (Nat.ne_of_lt (Nat.lt_of_lt_of_le h.un0 gb))), t15 := fun p => by simpa using h.t15 p, z15 := fun p r => (((((((h.z15 p r).set (fun q => (h.d14_15 rfl p) q.symm)).set (fun q => (h.d14_15 rfl p) q.symm)).set (fun q => (h.d14_15 rfl p) q.symm)).set (fun q => (h.d14_15 rfl p) q.symm)).set (fun q => (h.d14_15 rfl p) q.symm)).set (fun q => (h.d14_15 rfl p) q.symm)), s15 := fun p => (((((((h.s15 p).set (fun q => (h.d14_15 rfl (h.o15 p)) q.symm)).set (fun q => (h.d14_15 rfl (h.o15 p)) q.symm)).set (fun q => (h.d14_15 rfl (h.o15 p)) q.symm)).set (fun q => (h.d14_15 rfl (h.o15 p)) q.symm)).set (fun q => (h.d14_15 rfl (h.o15 p)) q.symm)).set (fun q => (h.d14_15 rfl (h.o15 p)) q.symm)), t16 := fun p => by simpa using h.t16 p, z16 := fun p r => (((((((h.z16 p r).set (fun q => (h.d14_16 rfl p) q.symm)).set (fun q => (h.d14_16 rfl p) q.symm)).set (fun q => (h.d14_16 rfl p) q.symm)).set (fun q => (h.d14_16 rfl p) q.symm)).set (fun q => (h.d14_16 rfl p) q.symm)).set (fun q => (h.d14_16 rfl p) q.symm)), s16 := fun p => (((((((h.s16 p).set (fun q => (h.d14_16 rfl (h.o16 p)) q.symm)).set (fun q => (h.d14_16 rfl (h.o16 p)) q.symm)).set (fun q => (h.d14_16 rfl (h.o16 p)) q.symm)).set (fun q => (h.d14_16 rfl (h.o16 p)) q.symm)).set (fun q => (h.d14_16 rfl (h.o16 p)) q.symm)).set (fun q => (h.d14_16 rfl (h.o16 p)) q.symm)) }
    | 18, hi, _ =>
      have l' : l18 = false := (ready_op (o := _) rfl hi).1
      subst l'
      have k15 : l15 = true := (ready_op (o := _) rfl hi).2 { on := 15, ground := .phase } (by simp) rfl
      have k11 : l11 = true := (ready_op (o := _) rfl hi).2 { on := 11, ground := .phase } (by simp) rfl
      have k17 : l17 = true := (ready_op (o := _) rfl hi).2 { on := 17, ground := .phase } (by simp) rfl
      have k0 : l0 = true := (ready_op (o := _) rfl hi).2 { on := 0, ground := .phase } (by simp) rfl
      have k1 : l1 = true := (ready_op (o := _) rfl hi).2 { on := 1, ground := .phase } (by simp) rfl
      have k2 : l2 = true := (ready_op (o := _) rfl hi).2 { on := 2, ground := .phase } (by simp) rfl
      have k3 : l3 = true := (ready_op (o := _) rfl hi).2 { on := 3, ground := .phase } (by simp) rfl
      have k4 : l4 = true := (ready_op (o := _) rfl hi).2 { on := 4, ground := .phase } (by simp) rfl
      have k5 : l5 = true := (ready_op (o := _) rfl hi).2 { on := 5, ground := .phase } (by simp) rfl
      have k6 : l6 = true := (ready_op (o := _) rfl hi).2 { on := 6, ground := .phase } (by simp) rfl
      have k7 : l7 = true := (ready_op (o := _) rfl hi).2 { on := 7, ground := .phase } (by simp) rfl
      have k8 : l8 = true := (ready_op (o := _) rfl hi).2 { on := 8, ground := .phase } (by simp) rfl
      have k9 : l9 = true := (ready_op (o := _) rfl hi).2 { on := 9, ground := .phase } (by simp) rfl
      have k10 : l10 = true := (ready_op (o := _) rfl hi).2 { on := 10, ground := .phase } (by simp) rfl
      have k14 : l14 = true := (ready_op (o := _) rfl hi).2 { on := 14, ground := .phase } (by simp) rfl
      have k16 : l16 = true := (ready_op (o := _) rfl hi).2 { on := 16, ground := .phase } (by simp) rfl
      clear hi hlt
      subst k15
      subst k11
      subst k17
      subst k0
      subst k1
      subst k2
      subst k3
      subst k4
      subst k5
      subst k6
      subst k7
      subst k8
      subst k9
      subst k10
      subst k14
      subst k16
      obtain rfl := h.ev15 rfl
      obtain rfl := h.ev11 rfl
      obtain rfl := h.ev0 rfl
      obtain rfl := h.ev1 rfl
      obtain rfl := h.ev2 rfl
      obtain rfl := h.ev3 rfl
      obtain rfl := h.ev4 rfl
      obtain rfl := h.ev5 rfl
      obtain rfl := h.ev6 rfl
      obtain rfl := h.ev7 rfl
      obtain rfl := h.ev8 rfl
      obtain rfl := h.ev9 rfl
      obtain rfl := h.ev10 rfl
      obtain rfl := h.ev14 rfl
      obtain rfl := h.ev16 rfl
      have bz := h.z15 rfl rfl
      have c := bz.c
      have f := bz.f
      clear bz
      have H := Lib.hid h
      clear h
      refine wpOp_shut rfl (fun K hK => ?_)
      try simp only [Act.put, List.setIfInBounds_toArray, List.set_cons_zero, List.set_cons_succ]
      go_simp
      refine hK.out _ _ ?_
      unfold Lg.I
      refine ⟨true, true, true, true, true, true, true, true, true, true, true, true, l12, l13, true, true, true, true, true, l19, l20, ((dv v)), (.pointer (some ⟨w.heap.size, 0, none⟩)), (.slice (some ⟨nb, no, none⟩) L.length nc), (.int .i64 k), (.pointer (some ⟨nb, no + k * 6, none⟩)), ((dv n)), (.pointer (some ⟨w.heap.size, 2, none⟩)), ((iv i0 i1)), (.tuple #[dv ⟨d0, d1, d2, d3, d4, d5⟩, (iv p q), (iv u x), .int .i64 ee]), (.tuple #[dv ⟨d0, d1, d2, d3, d4, d5⟩, (iv p q), (iv u x), .int .i64 ee]), (dv ⟨d0, d1, d2, d3, d4, d5⟩), ((iv p q)), v12, v13, (.pointer (some ⟨b14, 0, none⟩)), (.pointer (some ⟨b15, 0, none⟩)), (.pointer (some ⟨b16, 0, none⟩)), v20, b14, b15, b16, rfl, ?_, ?_⟩
      · simp only [Act.put, List.setIfInBounds_toArray, List.set_cons_zero, List.set_cons_succ]
      · have h := H.out
        have gb := h.g15 rfl
        have gm := Nat.le_trans h.mn gb
        exact { h with g := ((h.g.put gm).put gm), sz := by simpa using h.sz, o15 := fun _ => rfl, z15 := fun _ p => (nomatch p), s15 := fun _ => (((h.z15 rfl rfl).put).put), t15 := fun p => by simpa using h.t15 p, u0 := ((h.u0.set (Nat.ne_of_lt (Nat.lt_of_lt_of_le h.un0 gb))).set (Nat.ne_of_lt (Nat.lt_of_lt_of_le h.un0 gb))), t14 := fun p => by simpa using h.t14 p, z14 := fun p r => (((h.z14 p r).set (fun q => (h.d14_15 p rfl) q)).set (fun q => (h.d14_15 p rfl) q)), s14 := fun p => (((h.s14 p).set (fun q => (h.d14_15 (h.o14 p) rfl) q)).set (fun q => (h.d14_15 (h.o14 p) rfl) q)), t16 := fun p => by simpa using h.t16 p, z16 := fun p r => (((h.z16 p r).set (fun q => (h.d15_16 rfl p) q.symm)).set (fun q => (h.d15_16 rfl p) q.symm)), s16 := fun p => (((h.s16 p).set (fun q => (h.d15_16 rfl (h.o16 p)) q.symm)).set (fun q => (h.d15_16 rfl (h.o16 p)) q.symm)) }
    | 19, hi, _ =>
      have l' : l19 = false := (ready_op (o := _) rfl hi).1
      subst l'
      have k16 : l16 = true := (ready_op (o := _) rfl hi).2 { on := 16, ground := .phase } (by simp) rfl
      have k12 : l12 = true := (ready_op (o := _) rfl hi).2 { on := 12, ground := .phase } (by simp) rfl
      have k18 : l18 = true := (ready_op (o := _) rfl hi).2 { on := 18, ground := .phase } (by simp) rfl
      have k0 : l0 = true := (ready_op (o := _) rfl hi).2 { on := 0, ground := .phase } (by simp) rfl
      have k1 : l1 = true := (ready_op (o := _) rfl hi).2 { on := 1, ground := .phase } (by simp) rfl
      have k2 : l2 = true := (ready_op (o := _) rfl hi).2 { on := 2, ground := .phase } (by simp) rfl
      have k3 : l3 = true := (ready_op (o := _) rfl hi).2 { on := 3, ground := .phase } (by simp) rfl
      have k4 : l4 = true := (ready_op (o := _) rfl hi).2 { on := 4, ground := .phase } (by simp) rfl
      have k5 : l5 = true := (ready_op (o := _) rfl hi).2 { on := 5, ground := .phase } (by simp) rfl
      have k6 : l6 = true := (ready_op (o := _) rfl hi).2 { on := 6, ground := .phase } (by simp) rfl
      have k7 : l7 = true := (ready_op (o := _) rfl hi).2 { on := 7, ground := .phase } (by simp) rfl
      have k8 : l8 = true := (ready_op (o := _) rfl hi).2 { on := 8, ground := .phase } (by simp) rfl
      have k9 : l9 = true := (ready_op (o := _) rfl hi).2 { on := 9, ground := .phase } (by simp) rfl
      have k10 : l10 = true := (ready_op (o := _) rfl hi).2 { on := 10, ground := .phase } (by simp) rfl
      have k11 : l11 = true := (ready_op (o := _) rfl hi).2 { on := 11, ground := .phase } (by simp) rfl
      have k14 : l14 = true := (ready_op (o := _) rfl hi).2 { on := 14, ground := .phase } (by simp) rfl
      have k15 : l15 = true := (ready_op (o := _) rfl hi).2 { on := 15, ground := .phase } (by simp) rfl
      have k17 : l17 = true := (ready_op (o := _) rfl hi).2 { on := 17, ground := .phase } (by simp) rfl
      clear hi hlt
      subst k16
      subst k12
      subst k18
      subst k0
      subst k1
      subst k2
      subst k3
      subst k4
      subst k5
      subst k6
      subst k7
      subst k8
      subst k9
      subst k10
      subst k11
      subst k14
      subst k15
      subst k17
      obtain rfl := h.ev16 rfl
      obtain rfl := h.ev12 rfl
      obtain rfl := h.ev0 rfl
      obtain rfl := h.ev1 rfl
      obtain rfl := h.ev2 rfl
      obtain rfl := h.ev3 rfl
      obtain rfl := h.ev4 rfl
      obtain rfl := h.ev5 rfl
      obtain rfl := h.ev6 rfl
      obtain rfl := h.ev7 rfl
      obtain rfl := h.ev8 rfl
      obtain rfl := h.ev9 rfl
      obtain rfl := h.ev10 rfl
      obtain rfl := h.ev11 rfl
      obtain rfl := h.ev14 rfl
      obtain rfl := h.ev15 rfl
      have bz := h.z16 rfl rfl
      have c := bz.c
      have f := bz.f
      clear bz
      have H := Lib.hid h
      clear h
      refine wpOp_shut rfl (fun K hK => ?_)
      try simp only [Act.put, List.setIfInBounds_toArray, List.set_cons_zero, List.set_cons_succ]
      go_simp
      refine hK.out _ _ ?_
      unfold Lg.I
      refine ⟨true, true, true, true, true, true, true, true, true, true, true, true, true, l13, true, true, true, true, true, true, l20, ((dv v)), (.pointer (some ⟨w.heap.size, 0, none⟩)), (.slice (some ⟨nb, no, none⟩) L.length nc), (.int .i64 k), (.pointer (some ⟨nb, no + k * 6, none⟩)), ((dv n)), (.pointer (some ⟨w.heap.size, 2, none⟩)), ((iv i0 i1)), (.tuple #[dv ⟨d0, d1, d2, d3, d4, d5⟩, (iv p q), (iv u x), .int .i64 ee]), (.tuple #[dv ⟨d0, d1, d2, d3, d4, d5⟩, (iv p q), (iv u x), .int .i64 ee]), (dv ⟨d0, d1, d2, d3, d4, d5⟩), ((iv p q)), ((iv u x)), v13, (.pointer (some ⟨b14, 0, none⟩)), (.pointer (some ⟨b15, 0, none⟩)), (.pointer (some ⟨b16, 0, none⟩)), v20, b14, b15, b16, rfl, ?_, ?_⟩
      · simp only [Act.put, List.setIfInBounds_toArray, List.set_cons_zero, List.set_cons_succ]
      · have h := H.out
        have gb := h.g16 rfl
        have gm := Nat.le_trans h.mn gb
        exact { h with g := ((h.g.put gm).put gm), sz := by simpa using h.sz, o16 := fun _ => rfl, z16 := fun _ p => (nomatch p), s16 := fun _ => (((h.z16 rfl rfl).put).put), t16 := fun p => by simpa using h.t16 p, u0 := ((h.u0.set (Nat.ne_of_lt (Nat.lt_of_lt_of_le h.un0 gb))).set (Nat.ne_of_lt (Nat.lt_of_lt_of_le h.un0 gb))), t14 := fun p => by simpa using h.t14 p, z14 := fun p r => (((h.z14 p r).set (fun q => (h.d14_16 p rfl) q)).set (fun q => (h.d14_16 p rfl) q)), s14 := fun p => (((h.s14 p).set (fun q => (h.d14_16 (h.o14 p) rfl) q)).set (fun q => (h.d14_16 (h.o14 p) rfl) q)), t15 := fun p => by simpa using h.t15 p, z15 := fun p r => (((h.z15 p r).set (fun q => (h.d15_16 p rfl) q)).set (fun q => (h.d15_16 p rfl) q)), s15 := fun p => (((h.s15 p).set (fun q => (h.d15_16 (h.o15 p) rfl) q)).set (fun q => (h.d15_16 (h.o15 p) rfl) q)) }
    | 20, hi, _ =>
      have l' : l20 = false := (ready_op (o := _) rfl hi).1
      subst l'
      have k13 : l13 = true := (ready_op (o := _) rfl hi).2 { on := 13, ground := .phase } (by simp) rfl
      have k19 : l19 = true := (ready_op (o := _) rfl hi).2 { on := 19, ground := .phase } (by simp) rfl
      have k0 : l0 = true := (ready_op (o := _) rfl hi).2 { on := 0, ground := .phase } (by simp) rfl
      have k1 : l1 = true := (ready_op (o := _) rfl hi).2 { on := 1, ground := .phase } (by simp) rfl
      have k2 : l2 = true := (ready_op (o := _) rfl hi).2 { on := 2, ground := .phase } (by simp) rfl
      have k3 : l3 = true := (ready_op (o := _) rfl hi).2 { on := 3, ground := .phase } (by simp) rfl
      have k4 : l4 = true := (ready_op (o := _) rfl hi).2 { on := 4, ground := .phase } (by simp) rfl
      have k5 : l5 = true := (ready_op (o := _) rfl hi).2 { on := 5, ground := .phase } (by simp) rfl
      have k6 : l6 = true := (ready_op (o := _) rfl hi).2 { on := 6, ground := .phase } (by simp) rfl
      have k7 : l7 = true := (ready_op (o := _) rfl hi).2 { on := 7, ground := .phase } (by simp) rfl
      have k8 : l8 = true := (ready_op (o := _) rfl hi).2 { on := 8, ground := .phase } (by simp) rfl
      have k9 : l9 = true := (ready_op (o := _) rfl hi).2 { on := 9, ground := .phase } (by simp) rfl
      have k10 : l10 = true := (ready_op (o := _) rfl hi).2 { on := 10, ground := .phase } (by simp) rfl
      have k11 : l11 = true := (ready_op (o := _) rfl hi).2 { on := 11, ground := .phase } (by simp) rfl
      have k12 : l12 = true := (ready_op (o := _) rfl hi).2 { on := 12, ground := .phase } (by simp) rfl
      have k14 : l14 = true := (ready_op (o := _) rfl hi).2 { on := 14, ground := .phase } (by simp) rfl
      have k15 : l15 = true := (ready_op (o := _) rfl hi).2 { on := 15, ground := .phase } (by simp) rfl
      have k16 : l16 = true := (ready_op (o := _) rfl hi).2 { on := 16, ground := .phase } (by simp) rfl
      have k17 : l17 = true := (ready_op (o := _) rfl hi).2 { on := 17, ground := .phase } (by simp) rfl
      have k18 : l18 = true := (ready_op (o := _) rfl hi).2 { on := 18, ground := .phase } (by simp) rfl
      clear hi hlt
      subst k13
      subst k19
      subst k0
      subst k1
      subst k2
      subst k3
      subst k4
      subst k5
      subst k6
      subst k7
      subst k8
      subst k9
      subst k10
      subst k11
      subst k12
      subst k14
      subst k15
      subst k16
      subst k17
      subst k18
      obtain rfl := h.ev13 rfl
      obtain rfl := h.ev0 rfl
      obtain rfl := h.ev1 rfl
      obtain rfl := h.ev2 rfl
      obtain rfl := h.ev3 rfl
      obtain rfl := h.ev4 rfl
      obtain rfl := h.ev5 rfl
      obtain rfl := h.ev6 rfl
      obtain rfl := h.ev7 rfl
      obtain rfl := h.ev8 rfl
      obtain rfl := h.ev9 rfl
      obtain rfl := h.ev10 rfl
      obtain rfl := h.ev11 rfl
      obtain rfl := h.ev12 rfl
      obtain rfl := h.ev14 rfl
      obtain rfl := h.ev15 rfl
      obtain rfl := h.ev16 rfl
      have H := Lib.hid h
      clear h
      refine wpOp_shut rfl (fun K hK => ?_)
      try simp only [Act.put, List.setIfInBounds_toArray, List.set_cons_zero, List.set_cons_succ]
      go_simp
      refine hK.out _ _ ?_
      unfold Lg.I
      refine ⟨true, true, true, true, true, true, true, true, true, true, true, true, true, true, true, true, true, true, true, true, true, ((dv v)), (.pointer (some ⟨w.heap.size, 0, none⟩)), (.slice (some ⟨nb, no, none⟩) L.length nc), (.int .i64 k), (.pointer (some ⟨nb, no + k * 6, none⟩)), ((dv n)), (.pointer (some ⟨w.heap.size, 2, none⟩)), ((iv i0 i1)), (.tuple #[dv ⟨d0, d1, d2, d3, d4, d5⟩, (iv p q), (iv u x), .int .i64 ee]), (.tuple #[dv ⟨d0, d1, d2, d3, d4, d5⟩, (iv p q), (iv u x), .int .i64 ee]), (dv ⟨d0, d1, d2, d3, d4, d5⟩), ((iv p q)), ((iv u x)), (.int .i64 ee), (.pointer (some ⟨b14, 0, none⟩)), (.pointer (some ⟨b15, 0, none⟩)), (.pointer (some ⟨b16, 0, none⟩)), (.int .i64 ee), b14, b15, b16, rfl, ?_, ?_⟩
      · simp only [Act.put, List.setIfInBounds_toArray, List.set_cons_zero, List.set_cons_succ]
      · exact { H.out with ev20 := fun _ => rfl }
    | i + 21, _, hlt => exact absurd hlt (by simp)
  · intro L a' w' hI hn
    obtain ⟨l0, l1, l2, l3, l4, l5, l6, l7, l8, l9, l10, l11, l12, l13, l14, l15, l16, l17, l18, l19, l20, v0, v1, v2, v3, v4, v5, v6, v7, v8, v9, v10, v11, v12, v13, v14, v15, v16, v20, b14, b15, b16, rfl, rfl, h⟩ := hI
    have k0 : l0 = true := not_ready (i := 0) (o := _) rfl hn (by simp [Region.binds])
    subst k0
    have k1 : l1 = true := not_ready (i := 1) (o := _) rfl hn (by simp [Region.binds])
    subst k1
    have k2 : l2 = true := not_ready (i := 2) (o := _) rfl hn (by simp [Region.binds])
    subst k2
    have k3 : l3 = true := not_ready (i := 3) (o := _) rfl hn (by simp [Region.binds])
    subst k3
    have k4 : l4 = true := not_ready (i := 4) (o := _) rfl hn (by simp [Region.binds])
    subst k4
    have k5 : l5 = true := not_ready (i := 5) (o := _) rfl hn (by simp [Region.binds])
    subst k5
    have k6 : l6 = true := not_ready (i := 6) (o := _) rfl hn (by simp [Region.binds])
    subst k6
    have k7 : l7 = true := not_ready (i := 7) (o := _) rfl hn (by simp [Region.binds])
    subst k7
    have k8 : l8 = true := not_ready (i := 8) (o := _) rfl hn (by simp [Region.binds])
    subst k8
    have k9 : l9 = true := not_ready (i := 9) (o := _) rfl hn (by simp [Region.binds])
    subst k9
    have k10 : l10 = true := not_ready (i := 10) (o := _) rfl hn (by simp [Region.binds])
    subst k10
    have k11 : l11 = true := not_ready (i := 11) (o := _) rfl hn (by simp [Region.binds])
    subst k11
    have k12 : l12 = true := not_ready (i := 12) (o := _) rfl hn (by simp [Region.binds])
    subst k12
    have k13 : l13 = true := not_ready (i := 13) (o := _) rfl hn (by simp [Region.binds])
    subst k13
    have k14 : l14 = true := not_ready (i := 14) (o := _) rfl hn (by simp [Region.binds])
    subst k14
    have k15 : l15 = true := not_ready (i := 15) (o := _) rfl hn (by simp [Region.binds])
    subst k15
    have k16 : l16 = true := not_ready (i := 16) (o := _) rfl hn (by simp [Region.binds])
    subst k16
    have k17 : l17 = true := not_ready (i := 17) (o := _) rfl hn (by simp [Region.binds])
    subst k17
    have k18 : l18 = true := not_ready (i := 18) (o := _) rfl hn (by simp [Region.binds])
    subst k18
    have k19 : l19 = true := not_ready (i := 19) (o := _) rfl hn (by simp [Region.binds])
    subst k19
    have k20 : l20 = true := not_ready (i := 20) (o := _) rfl hn (by simp [Region.binds])
    subst k20
    clear hn
    obtain rfl := h.ev0 rfl
    obtain rfl := h.ev1 rfl
    obtain rfl := h.ev2 rfl
    obtain rfl := h.ev3 rfl
    obtain rfl := h.ev4 rfl
    obtain rfl := h.ev5 rfl
    obtain rfl := h.ev6 rfl
    obtain rfl := h.ev7 rfl
    obtain rfl := h.ev8 rfl
    obtain rfl := h.ev9 rfl
    obtain rfl := h.ev10 rfl
    obtain rfl := h.ev11 rfl
    obtain rfl := h.ev12 rfl
    obtain rfl := h.ev13 rfl
    obtain rfl := h.ev14 rfl
    obtain rfl := h.ev15 rfl
    obtain rfl := h.ev16 rfl
    obtain rfl := h.ev20 rfl
    simp only [Act.put, List.setIfInBounds_toArray, List.set_cons_zero, List.set_cons_succ]
    rename World => w2
    have H1 := h.g
    have B14 := h.s14 rfl
    have B15 := h.s15 rfl
    have B16 := h.s16 rfl
    have hz2 := h.sz
    have e14 := h.g14 rfl
    have e15 := h.g15 rfl
    have e16 := h.g16 rfl
    have BB2 := HBX.out.kept H1.below
    clear h
    by_cases hee : ee = 0
    · subst hee
      have HS := Lib.hid (hs rfl)
      clear hs
      have H2 := ((H1.cons B15.rd).cons B16.rd).cons B14.rd
      obtain ⟨⟨tl, th, te⟩, ht⟩ : ∃ r, passR p q u x i0 i1 16777216 16777216 = r := ⟨_, rfl⟩
      have HT := Lib.hid ht
      clear ht
      go_upto_region 3 with fail
      refine region_sets (Lh.I w.heap.size w2.heap.size b14 b15 b16 L.length nc mm dc nb no i0 i1 gl gh p q u x tl th te d0 d1 d2 d3 d4 d5 v da w) (by kernel_rfl) ?_ ?_ ?_
      · refine ⟨false, false, false, false, false, false, false, false, false, false, false, false, undef, undef, undef, undef, undef, undef, undef, undef, undef, undef, (.int .i64 0), 0, rfl, by simp only [Act.put, List.setIfInBounds_toArray, List.set_cons_zero, List.set_cons_succ], ?_⟩
        constructor
        · (repeat (first | with_reducible exact H2 | with_reducible refine Ho.alc ?_ _ | with_reducible refine Ho.drew ?_ | with_reducible refine Ho.put ?_ (by omega)))
        · (first | (simp; done) | (simp; omega))
        · (omega)
        all_goals (intro h; cases h)
      · intro L a' w' hI i hi
        obtain ⟨l0, l1, l2, l3, l4, l5, l6, l7, l8, l9, l10, l11, v0, v1, v2, v3, v4, v5, v6, v7, v8, v9, v11, b9, rfl, rfl, h⟩ := hI
        have hlt := ready_lt hi
        match i, hi, hlt with
        | 0, hi, _ =>
          have l' : l0 = false := (ready_op (o := _) rfl hi).1
          subst l'
          clear hi hlt
          have c := (h.g.at 2 rfl).c
          have H := Lib.hid h
          clear h
          refine wpOp_shut rfl (fun K hK => ?_)
          try simp only [Act.put, List.setIfInBounds_toArray, List.set_cons_zero, List.set_cons_succ]
          go_simp
          refine hK.out _ _ ?_
          unfold Lh.I
          refine ⟨true, l1, l2, l3, l4, l5, l6, l7, l8, l9, l10, l11, ((iv p q)), v1, v2, v3, v4, v5, v6, v7, v8, v9, v11, b9, rfl, ?_, ?_⟩
          · simp only [Act.put, List.setIfInBounds_toArray, List.set_cons_zero, List.set_cons_succ]
          · exact { H.out with ev0 := fun _ => rfl }
        | 1, hi, _ =>
          have l' : l1 = false := (ready_op (o := _) rfl hi).1
          subst l'
          clear hi hlt
          have c := (h.g.at 1 rfl).c
          have H := Lib.hid h
          clear h
          refine wpOp_shut rfl (fun K hK => ?_)
          try simp only [Act.put, List.setIfInBounds_toArray, List.set_cons_zero, List.set_cons_succ]
          go_simp
          refine hK.out _ _ ?_
          unfold Lh.I
          refine ⟨l0, true, l2, l3, l4, l5, l6, l7, l8, l9, l10, l11, v0, ((iv u x)), v2, v3, v4, v5, v6, v7, v8, v9, v11, b9, rfl, ?_, ?_⟩
          · simp only [Act.put, List.setIfInBounds_toArray, List.set_cons_zero, List.set_cons_succ]
          · exact { H.out with ev1 := fun _ => rfl }
        | 2, hi, _ =>
          have l' : l2 = false := (ready_op (o := _) rfl hi).1
          subst l'
          clear hi hlt
          have H := Lib.hid h
          clear h
          refine wpOp_shut rfl (fun K hK => ?_)
          try simp only [Act.put, List.setIfInBounds_toArray, List.set_cons_zero, List.set_cons_succ]
          go_simp
          refine hK.out _ _ ?_
          unfold Lh.I
          refine ⟨l0, l1, true, l3, l4, l5, l6, l7, l8, l9, l10, l11, v0, v1, (.pointer (some ⟨w.heap.size, 2, none⟩)), v3, v4, v5, v6, v7, v8, v9, v11, b9, rfl, ?_, ?_⟩
          · simp only [Act.put, List.setIfInBounds_toArray, List.set_cons_zero, List.set_cons_succ]
          · exact { H.out with ev2 := fun _ => rfl }
        | 3, hi, _ =>
          have l' : l3 = false := (ready_op (o := _) rfl hi).1
          subst l'
          have k2 : l2 = true := (ready_op (o := _) rfl hi).2 { on := 2, ground := .data } (by simp) rfl
          clear hi hlt
          subst k2
          obtain rfl := h.ev2 rfl
          have c := (h.g.at 5 rfl).c
          have H := Lib.hid h
          clear h
          refine wpOp_shut rfl (fun K hK => ?_)
          try simp only [Act.put, List.setIfInBounds_toArray, List.set_cons_zero, List.set_cons_succ]
          go_simp
          refine hK.out _ _ ?_
          unfold Lh.I
          refine ⟨l0, l1, true, true, l4, l5, l6, l7, l8, l9, l10, l11, v0, v1, (.pointer (some ⟨w.heap.size, 2, none⟩)), ((iv i0 i1)), v4, v5, v6, v7, v8, v9, v11, b9, rfl, ?_, ?_⟩
          · simp only [Act.put, List.setIfInBounds_toArray, List.set_cons_zero, List.set_cons_succ]
          · exact { H.out with ev3 := fun _ => rfl }
        | 4, hi, _ =>
          have l' : l4 = false := (ready_op (o := _) rfl hi).1
          subst l'
          clear hi hlt
          have H := Lib.hid h
          clear h
          refine wpOp_shut rfl (fun K hK => ?_)
          try simp only [Act.put, List.setIfInBounds_toArray, List.set_cons_zero, List.set_cons_succ]
          go_simp
          refine (tunit_any _).mono ?_
          rintro e wY ⟨rfl, hb⟩
          try go_simp
          refine hK.out _ _ ?_
          unfold Lh.I
          refine ⟨l0, l1, l2, l3, true, l5, l6, l7, l8, l9, l10, l11, v0, v1, v2, v3, ((iv 16777216 16777216)), v5, v6, v7, v8, v9, v11, b9, rfl, ?_, ?_⟩
          · simp only [Act.put, List.setIfInBounds_toArray, List.set_cons_zero, List.set_cons_succ]
          · exact { (H.out.kept hb) with ev4 := fun _ => rfl }
        | 5, hi, _ =>
          have l' : l5 = false := (ready_op (o := _) rfl hi).1
          subst l'
          have k0 : l0 = true := (ready_op (o := _) rfl hi).2 { on := 0, ground := .data } (by simp) rfl
          have k1 : l1 = true := (ready_op (o := _) rfl hi).2 { on := 1, ground := .data } (by simp) rfl
          have k3 : l3 = true := (ready_op (o := _) rfl hi).2 { on := 3, ground := .data } (by simp) rfl
          have k4 : l4 = true := (ready_op (o := _) rfl hi).2 { on := 4, ground := .chain } (by simp) rfl
          clear hi hlt
          subst k0
          subst k1
          subst k3
          subst k4
          obtain rfl := h.ev0 rfl
          obtain rfl := h.ev1 rfl
          obtain rfl := h.ev3 rfl
          obtain rfl := h.ev4 rfl
          have H := Lib.hid h
          clear h
          refine wpOp_shut rfl (fun K hK => ?_)
          try simp only [Act.put, List.setIfInBounds_toArray, List.set_cons_zero, List.set_cons_succ]
          go_simp
          refine (pass_any p q u x i0 i1 16777216 16777216 _ HS.out.1 HS.out.2.1 HS.out.2.2.1 HS.out.2.2.2).mono ?_
          rintro e wY ⟨rfl, hb⟩
          rw [HT.out]
          unfold retR
          dsimp only
          try go_simp
          refine hK.out _ _ ?_
          unfold Lh.I
          refine ⟨true, true, l2, true, true, true, l6, l7, l8, l9, l10, l11, ((iv p q)), ((iv u x)), v2, ((iv i0 i1)), ((iv 16777216 16777216)), (.tuple #[(iv tl th), .int .i64 te]), v6, v7, v8, v9, v11, b9, rfl, ?_, ?_⟩
          · simp only [Act.put, List.setIfInBounds_toArray, List.set_cons_zero, List.set_cons_succ]
          · exact { (H.out.kept hb) with ev5 := fun _ => rfl }
        | 6, hi, _ =>
          have l' : l6 = false := (ready_op (o := _) rfl hi).1
          subst l'
          have k5 : l5 = true := (ready_op (o := _) rfl hi).2 { on := 5, ground := .data } (by simp) rfl
          clear hi hlt
          subst k5
          obtain rfl := h.ev5 rfl
          have H := Lib.hid h
          clear h
          refine wpOp_shut rfl (fun K hK => ?_)
          try simp only [Act.put, List.setIfInBounds_toArray, List.set_cons_zero, List.set_cons_succ]
          go_simp
          refine hK.out _ _ ?_
          unfold Lh.I
          refine ⟨l0, l1, l2, l3, l4, true, true, l7, l8, l9, l10, l11, v0, v1, v2, v3, v4, (.tuple #[(iv tl th), .int .i64 te]), (.tuple #[(iv tl th), .int .i64 te]), v7, v8, v9, v11, b9, rfl, ?_, ?_⟩
          · simp only [Act.put, List.setIfInBounds_toArray, List.set_cons_zero, List.set_cons_succ]
          · exact { H.out with ev6 := fun _ => rfl }
        | 7, hi, _ =>
          have l' : l7 = false := (ready_op (o := _) rfl hi).1
          subst l'
          have k6 : l6 = true := (ready_op (o := _) rfl hi).2 { on := 6, ground := .data } (by simp) rfl
          clear hi hlt
          subst k6
          obtain rfl := h.ev6 rfl
          have H := Lib.hid h
          clear h
          refine wpOp_shut rfl (fun K hK => ?_)
          try simp only [Act.put, List.setIfInBounds_toArray, List.set_cons_zero, List.set_cons_succ]
          go_simp
          refine hK.out _ _ ?_
          unfold Lh.I
          refine ⟨l0, l1, l2, l3, l4, l5, true, true, l8, l9, l10, l11, v0, v1, v2, v3, v4, v5, (.tuple #[(iv tl th), .int .i64 te]), ((iv tl th)), v8, v9, v11, b9, rfl, ?_, ?_⟩
          · simp only [Act.put, List.setIfInBounds_toArray, List.set_cons_zero, List.set_cons_succ]
          · exact { H.out with ev7 := fun _ => rfl }
        | 8, hi, _ =>
          have l' : l8 = false := (ready_op (o := _) rfl hi).1
          subst l'
          have k6 : l6 = true := (ready_op (o := _) rfl hi).2 { on := 6, ground := .data } (by simp) rfl
          clear hi hlt
          subst k6
          obtain rfl := h.ev6 rfl
          have H := Lib.hid h
          clear h
          refine wpOp_shut rfl (fun K hK => ?_)
          try simp only [Act.put, List.setIfInBounds_toArray, List.set_cons_zero, List.set_cons_succ]
          go_simp
          refine hK.out _ _ ?_
          unfold Lh.I
          refine ⟨l0, l1, l2, l3, l4, l5, true, l7, true, l9, l10, l11, v0, v1, v2, v3, v4, v5, (.tuple #[(iv tl th), .int .i64 te]), v7, (.int .i64 te), v9, v11, b9, rfl, ?_, ?_⟩
          · simp only [Act.put, List.setIfInBounds_toArray, List.set_cons_zero, List.set_cons_succ]
          · exact { H.out with ev8 := fun _ => rfl }
        | 9, hi, _ =>
          have l' : l9 = false := (ready_op (o := _) rfl hi).1
          subst l'
          clear hi hlt
          have H := Lib.hid h
          clear h
          refine wpOp_shut rfl (fun K hK => ?_)
          try simp only [Act.put, List.setIfInBounds_toArray, List.set_cons_zero, List.set_cons_succ]
          go_simp
          refine hK.out _ _ ?_
          unfold Lh.I
          refine ⟨l0, l1, l2, l3, l4, l5, l6, l7, l8, true, l10, l11, v0, v1, v2, v3, v4, v5, v6, v7, v8, (.pointer (some ⟨w'.heap.size, 0, none⟩)), v11, w'.heap.size, rfl, ?_, ?_⟩
          · simp only [Act.put, List.setIfInBounds_toArray, List.set_cons_zero, List.set_cons_succ]
          · have h := H.out
            have h2 := h.kept ((Below.refl _ _).alloc (Nat.le_refl _) (.cells (List.toArray [.int .i64 0, .int .i64 0]) 24))
            exact { h2 with ev9 := fun _ => rfl, g9 := fun _ => h.sz, t9 := fun _ => by simp, o9 := fun p => rfl, z9 := fun _ _ => Bx.new rfl, s9 := fun p => (nomatch (h.o9 p)) }
        | 10, hi, _ =>
          have l' : l10 = false := (ready_op (o := _) rfl hi).1
          subst l'
          have k9 : l9 = true := (ready_op (o := _) rfl hi).2 { on := 9, ground := .phase } (by simp) rfl
          have k7 : l7 = true := (ready_op (o := _) rfl hi).2 { on := 7, ground := .phase } (by simp) rfl
          have k5 : l5 = true := (ready_op (o := _) rfl hi).2 { on := 5, ground := .phase } (by simp) rfl
          have k0 : l0 = true := (ready_op (o := _) rfl hi).2 { on := 0, ground := .phase } (by simp) rfl
          have k1 : l1 = true := (ready_op (o := _) rfl hi).2 { on := 1, ground := .phase } (by simp) rfl
          have k2 : l2 = true := (ready_op (o := _) rfl hi).2 { on := 2, ground := .phase } (by simp) rfl
          have k3 : l3 = true := (ready_op (o := _) rfl hi).2 { on := 3, ground := .phase } (by simp) rfl
          have k4 : l4 = true := (ready_op (o := _) rfl hi).2 { on := 4, ground := .phase } (by simp) rfl
          have k6 : l6 = true := (ready_op (o := _) rfl hi).2 { on := 6, ground := .phase } (by simp) rfl
          clear hi hlt
          subst k9
          subst k7
          subst k5
          subst k0
          subst k1
          subst k2
          subst k3
          subst k4
          subst k6
          obtain rfl := h.ev9 rfl
          obtain rfl := h.ev7 rfl
          obtain rfl := h.ev5 rfl
          obtain rfl := h.ev0 rfl
          obtain rfl := h.ev1 rfl
          obtain rfl := h.ev2 rfl
          obtain rfl := h.ev3 rfl
          obtain rfl := h.ev4 rfl
          obtain rfl := h.ev6 rfl
          have bz := h.z9 rfl rfl
          have c := bz.c
          have f := bz.f
          clear bz
          have H := Lib.hid h
          clear h
          refine wpOp_shut rfl (fun K hK => ?_)
          try simp only [Act.put, List.setIfInBounds_toArray, List.set_cons_zero, List.set_cons_succ]
          go_simp
          refine hK.out _ _ ?_
          unfold Lh.I
          refine ⟨true, true, true, true, true, true, true, true, l8, true, true, l11, ((iv p q)), ((iv u x)), (.pointer (some ⟨w.heap.size, 2, none⟩)), ((iv i0 i1)), ((iv 16777216 16777216)), (.tuple #[(iv tl th), .int .i64 te]), (.tuple #[(iv tl th), .int .i64 te]), ((iv tl th)), v8, (.pointer (some ⟨b9, 0, none⟩)), v11, b9, rfl, ?_, ?_⟩
          · simp only [Act.put, List.setIfInBounds_toArray, List.set_cons_zero, List.set_cons_succ]
          · have h := H.out
            have gb := h.g9 rfl
            have gm := Nat.le_trans h.mn gb
            exact { h with g := ((h.g.put gm).put gm), sz := by simpa using h.sz, o9 := fun _ => rfl, z9 := fun _ p => (nomatch p), s9 := fun _ => (((h.z9 rfl rfl).put).put), t9 := fun p => by simpa using h.t9 p }
        | 11, hi, _ =>
          have l' : l11 = false := (ready_op (o := _) rfl hi).1
          subst l'
          have k8 : l8 = true := (ready_op (o := _) rfl hi).2 { on := 8, ground := .phase } (by simp) rfl
          have k10 : l10 = true := (ready_op (o := _) rfl hi).2 { on := 10, ground := .phase } (by simp) rfl
          have k0 : l0 = true := (ready_op (o := _) rfl hi).2 { on := 0, ground := .phase } (by simp) rfl
          have k1 : l1 = true := (ready_op (o := _) rfl hi).2 { on := 1, ground := .phase } (by simp) rfl
          have k2 : l2 = true := (ready_op (o := _) rfl hi).2 { on := 2, ground := .phase } (by simp) rfl
          have k3 : l3 = true := (ready_op (o := _) rfl hi).2 { on := 3, ground := .phase } (by simp) rfl
          have k4 : l4 = true := (ready_op (o := _) rfl hi).2 { on := 4, ground := .phase } (by simp) rfl
          have k5 : l5 = true := (ready_op (o := _) rfl hi).2 { on := 5, ground := .phase } (by simp) rfl
          have k6 : l6 = true := (ready_op (o := _) rfl hi).2 { on := 6, ground := .phase } (by simp) rfl
          have k7 : l7 = true := (ready_op (o := _) rfl hi).2 { on := 7, ground := .phase } (by simp) rfl
          have k9 : l9 = true := (ready_op (o := _) rfl hi).2 { on := 9, ground := .phase } (by simp) rfl
          clear hi hlt
          subst k8
          subst k10
          subst k0
          subst k1
          subst k2
          subst k3
          subst k4
          subst k5
          subst k6
          subst k7
          subst k9
          obtain rfl := h.ev8 rfl
          obtain rfl := h.ev0 rfl
          obtain rfl := h.ev1 rfl
          obtain rfl := h.ev2 rfl
          obtain rfl := h.ev3 rfl
          obtain rfl := h.ev4 rfl
          obtain rfl := h.ev5 rfl
          obtain rfl := h.ev6 rfl
          obtain rfl := h.ev7 rfl
          obtain rfl := h.ev9 rfl
          have H := Lib.hid h
          clear h
          refine wpOp_shut rfl (fun K hK => ?_)
          try simp only [Act.put, List.setIfInBounds_toArray, List.set_cons_zero, List.set_cons_succ]
          go_simp
          refine hK.out _ _ ?_
          unfold Lh.I
          refine ⟨true, true, true, true, true, true, true, true, true, true, true, true, ((iv p q)), ((iv u x)), (.pointer (some ⟨w.heap.size, 2, none⟩)), ((iv i0 i1)), ((iv 16777216 16777216)), (.tuple #[(iv tl th), .int .i64 te]), (.tuple #[(iv tl th), .int .i64 te]), ((iv tl th)), (.int .i64 te), (.pointer (some ⟨b9, 0, none⟩)), (.int .i64 te), b9, rfl, ?_, ?_⟩
          · simp only [Act.put, List.setIfInBounds_toArray, List.set_cons_zero, List.set_cons_succ]
          · exact { H.out with ev11 := fun _ => rfl }
        | i + 12, _, hlt => exact absurd hlt (by simp)
      · intro L a' w' hI hn
        obtain ⟨l0, l1, l2, l3, l4, l5, l6, l7, l8, l9, l10, l11, v0, v1, v2, v3, v4, v5, v6, v7, v8, v9, v11, b9, rfl, rfl, h⟩ := hI
        have k0 : l0 = true := not_ready (i := 0) (o := _) rfl hn (by simp [Region.binds])
        subst k0
        have k1 : l1 = true := not_ready (i := 1) (o := _) rfl hn (by simp [Region.binds])
        subst k1
        have k2 : l2 = true := not_ready (i := 2) (o := _) rfl hn (by simp [Region.binds])
        subst k2
        have k3 : l3 = true := not_ready (i := 3) (o := _) rfl hn (by simp [Region.binds])
        subst k3
        have k4 : l4 = true := not_ready (i := 4) (o := _) rfl hn (by simp [Region.binds])
        subst k4
        have k5 : l5 = true := not_ready (i := 5) (o := _) rfl hn (by simp [Region.binds])
        subst k5
        have k6 : l6 = true := not_ready (i := 6) (o := _) rfl hn (by simp [Region.binds])
        subst k6
        have k7 : l7 = true := not_ready (i := 7) (o := _) rfl hn (by simp [Region.binds])
        subst k7
        have k8 : l8 = true := not_ready (i := 8) (o := _) rfl hn (by simp [Region.binds])
        subst k8
        have k9 : l9 = true := not_ready (i := 9) (o := _) rfl hn (by simp [Region.binds])
        subst k9
        have k10 : l10 = true := not_ready (i := 10) (o := _) rfl hn (by simp [Region.binds])
        subst k10
        have k11 : l11 = true := not_ready (i := 11) (o := _) rfl hn (by simp [Region.binds])
        subst k11
        clear hn
        obtain rfl := h.ev0 rfl
        obtain rfl := h.ev1 rfl
        obtain rfl := h.ev2 rfl
        obtain rfl := h.ev3 rfl
        obtain rfl := h.ev4 rfl
        obtain rfl := h.ev5 rfl
        obtain rfl := h.ev6 rfl
        obtain rfl := h.ev7 rfl
        obtain rfl := h.ev8 rfl
        obtain rfl := h.ev9 rfl
        obtain rfl := h.ev11 rfl
        simp only [Act.put, List.setIfInBounds_toArray, List.set_cons_zero, List.set_cons_succ]
        rename World => w3
        have H3 := h.g
        have B9 := h.s9 rfl
        have hz3 := h.sz
        have e9 := h.g9 rfl
        have BB3 := HBX.out.kept H3.below
        clear h
        by_cases hte : te = 0
        · subst hte
          have x9 := B9.c
          have y9 := B9.lt
          have xg := (H3.at 3 rfl).c
          go_wp2_with fail
          refine (mul_any gl gh tl th _).mono ?_
          rintro e w4 ⟨rfl, hb⟩
          obtain ⟨⟨ml, mh, me⟩, hm⟩ : ∃ r, mulR gl gh tl th = r := ⟨_, rfl⟩
          rw [hm]
          have HM := Lib.hid hm
          clear hm
          unfold retR
          dsimp only
          have H4 := H3.call hb
          have BB4 := BB3.kept hb
          have hz4 := hb.size
          clear hb x9 y9 xg B9
          by_cases hme : me = 0
          · subst hme
            have x14 := (H4.at 0 rfl).c
            have y14 := (H4.at 0 rfl).lt
            have n14 : ¬ (b14 = w4.heap.size) := Nat.ne_of_lt y14
            go_wp2_with fail
            refine (sign_any d4 d5 _).mono ?_
            rintro e w5 ⟨rfl, hb⟩
            obtain ⟨s, hsg⟩ : ∃ s, sgn d4 d5 = s := ⟨_, rfl⟩
            rw [hsg]
            have HS2 := Lib.hid hsg
            clear hsg
            have H5 := (H4.alc (.cells (List.toArray [.int .i64 ml, .int .i64 mh]) 24)).call hb
            have BB5 := (BB4.alc (.cells (List.toArray [.int .i64 ml, .int .i64 mh]) 24)).kept hb
            have M5 : Bx w5 w4.heap.size [.int .i64 ml, .int .i64 mh] := (Bx.new rfl).kept hb
            clear hb x14 n14
            have K14 : Rd w5 b14 [.int .i64 d0, .int .i64 d1, .int .i64 d2, .int .i64 d3, .int .i64 d4, .int .i64 d5] := H5.at 0 rfl
            have nB14 : ¬ (b14 = B) := by omega
            have nBm : ¬ (w4.heap.size = B) := by have := BB4.lt; omega
            have bc := BB5.c
            have bf := BB5.f
            have bl := BB5.lt
            by_cases s1 : s = 1
            · subst s1
              have EL := Lib.hid (show leaveR n v i0 i1 gl gh ⟨xk, ⟨x0, x1, x2, x3, x4, x5⟩, xl, xh⟩ = ⟨1, ⟨d0, d1, d2, d3, d4, d5⟩, ml, mh⟩ from by rw [leaveR, HF.out]; dsimp only; rw [if_pos rfl, HT.out]; dsimp only; rw [if_pos rfl, HM.out]; dsimp only; rw [if_pos rfl, HS2.out]; rw [if_pos rfl])
              go_upto_region 12 with fail
              go_region_held3 (fun X => (∀ j, X.cell? ⟨b14, j, none⟩ = [.int .i64 d0, .int .i64 d1, .int .i64 d2, .int .i64 d3, .int .i64 d4, .int .i64 d5][j]?) ∧ (∀ j, X.cell? ⟨w4.heap.size, j, none⟩ = [.int .i64 ml, .int .i64 mh][j]?)) (refine ⟨Rd.c ?_, Rd.c ?_⟩ <;> (repeat (first | with_reducible exact K14 | with_reducible exact M5.rd | with_reducible refine Rd.set ?_ (by omega) | with_reducible refine Rd.drew ?_))) (fail)
              all_goals go_wp2_with fail
              go_end0
              exact ⟨⟨_, rfl⟩, ((((((((((below_grown H5.below : World.grownBy w w5 (some B)).trans (grown_set _ B 0 _)).trans (grown_set _ B 2 _)).trans (grown_set _ B 3 _)).trans (grown_set _ B 4 _)).trans (grown_set _ B 5 _)).trans (grown_set _ B 6 _)).trans (grown_set _ B 7 _)).trans (grown_set _ B 8 _)).trans (grown_set _ B 9 _)).trans (below_grown (Below.refl _ _).drew), by rw [EL.out]; exact (((((((((BB5.put (i := 0) (u := .int .i64 1)).put (i := 2) (u := .int .i64 d0)).put (i := 3) (u := .int .i64 d1)).put (i := 4) (u := .int .i64 d2)).put (i := 5) (u := .int .i64 d3)).put (i := 6) (u := .int .i64 d4)).put (i := 7) (u := .int .i64 d5)).put (i := 8) (u := .int .i64 ml)).put (i := 9) (u := .int .i64 mh)).drew⟩
            · by_cases s2 : s = -1
              · subst s2
                have EL := Lib.hid (show leaveR n v i0 i1 gl gh ⟨xk, ⟨x0, x1, x2, x3, x4, x5⟩, xl, xh⟩ = ⟨2, ⟨d0, d1, d2, d3, d4, d5⟩, ml, mh⟩ from by rw [leaveR, HF.out]; dsimp only; rw [if_pos rfl, HT.out]; dsimp only; rw [if_pos rfl, HM.out]; dsimp only; rw [if_pos rfl, HS2.out]; rw [if_neg s1, if_pos rfl])
                go_upto_region 12 with fail
                go_region_held3 (fun X => (∀ j, X.cell? ⟨b14, j, none⟩ = [.int .i64 d0, .int .i64 d1, .int .i64 d2, .int .i64 d3, .int .i64 d4, .int .i64 d5][j]?) ∧ (∀ j, X.cell? ⟨w4.heap.size, j, none⟩ = [.int .i64 ml, .int .i64 mh][j]?)) (refine ⟨Rd.c ?_, Rd.c ?_⟩ <;> (repeat (first | with_reducible exact K14 | with_reducible exact M5.rd | with_reducible refine Rd.set ?_ (by omega) | with_reducible refine Rd.drew ?_))) (fail)
                all_goals go_wp2_with fail
                go_end0
                exact ⟨⟨_, rfl⟩, ((((((((((below_grown H5.below : World.grownBy w w5 (some B)).trans (grown_set _ B 0 _)).trans (grown_set _ B 2 _)).trans (grown_set _ B 3 _)).trans (grown_set _ B 4 _)).trans (grown_set _ B 5 _)).trans (grown_set _ B 6 _)).trans (grown_set _ B 7 _)).trans (grown_set _ B 8 _)).trans (grown_set _ B 9 _)).trans (below_grown (Below.refl _ _).drew), by rw [EL.out]; exact (((((((((BB5.put (i := 0) (u := .int .i64 2)).put (i := 2) (u := .int .i64 d0)).put (i := 3) (u := .int .i64 d1)).put (i := 4) (u := .int .i64 d2)).put (i := 5) (u := .int .i64 d3)).put (i := 6) (u := .int .i64 d4)).put (i := 7) (u := .int .i64 d5)).put (i := 8) (u := .int .i64 ml)).put (i := 9) (u := .int .i64 mh)).drew⟩
              · have EL := Lib.hid (show leaveR n v i0 i1 gl gh ⟨xk, ⟨x0, x1, x2, x3, x4, x5⟩, xl, xh⟩ = ⟨xk, ⟨x0, x1, x2, x3, x4, x5⟩, xl, xh⟩ from by rw [leaveR, HF.out]; dsimp only; rw [if_pos rfl, HT.out]; dsimp only; rw [if_pos rfl, HM.out]; dsimp only; rw [if_pos rfl, HS2.out, if_neg s1, if_neg s2])
                go_wp2_with fail
                exact bodyPost_ret (results_none rfl _ _ _) rfl ⟨⟨_, rfl⟩, below_grown H5.below, by rw [EL.out]; exact BB5⟩
          · have EL := Lib.hid (show leaveR n v i0 i1 gl gh ⟨xk, ⟨x0, x1, x2, x3, x4, x5⟩, xl, xh⟩ = ⟨xk, ⟨x0, x1, x2, x3, x4, x5⟩, xl, xh⟩ from by rw [leaveR, HF.out]; dsimp only; rw [if_pos rfl, HT.out]; dsimp only; rw [if_pos rfl, HM.out]; dsimp only; rw [if_neg hme])
            go_wp2_with fail
            exact bodyPost_ret (results_none rfl _ _ _) rfl ⟨⟨_, rfl⟩, below_grown (H4.alc _).below, by rw [EL.out]; exact BB4.alc _⟩
        · have EL := Lib.hid (show leaveR n v i0 i1 gl gh ⟨xk, ⟨x0, x1, x2, x3, x4, x5⟩, xl, xh⟩ = ⟨xk, ⟨x0, x1, x2, x3, x4, x5⟩, xl, xh⟩ from by rw [leaveR, HF.out]; dsimp only; rw [if_pos rfl, HT.out]; dsimp only; rw [if_neg hte])
          go_wp2_with fail
          exact bodyPost_ret (results_none rfl _ _ _) rfl ⟨⟨_, rfl⟩, below_grown H3.below, by rw [EL.out]; exact BB3⟩
    · have EL := Lib.hid (show leaveR n v i0 i1 gl gh ⟨xk, ⟨x0, x1, x2, x3, x4, x5⟩, xl, xh⟩ = ⟨xk, ⟨x0, x1, x2, x3, x4, x5⟩, xl, xh⟩ from by rw [leaveR, HF.out]; dsimp only; rw [if_neg hee])
      go_wp2_with fail
      exact bodyPost_ret (results_none rfl _ _ _) rfl ⟨⟨_, rfl⟩, below_grown H1.below, by rw [EL.out]; exact BB2⟩
end Go.Proofs.Ytedfciddfpcifaa.Iv

/- Following a ray: what the program computes, and the face that is hit. -/
namespace Go.Proofs.Ytedfciddfpcifaa.Iv

theorem faceR_w {i : Int} {n : D} {p : Int × Int} {a v : D} {x : W4} (h : (faceR i n p a v).w = some x) : x.f = i ∧ (x.b = true → (dotR n v).e = 0 ∧ 0 < (dotR n v).lo) := by
  unfold faceR at h
  split at h
  · rename_i h0
    split at h
    · split at h
      · dsimp only at h
        unfold wayF at h
        split at h
        · cases h
        · cases h
          exact ⟨rfl, fun hb => ⟨h0, by simpa using hb⟩⟩
      · cases h
    · cases h
  · cases h
theorem ways_mem (a v : D) : ∀ (l : List (D × Int × Int)) (i : Nat) (x : W4), x ∈ (waysR a v i l).l → ∃ j y, l[j]? = some y ∧ x.f = ((i + j : Nat) : Int) ∧ (x.b = true → (dotR y.1 v).e = 0 ∧ 0 < (dotR y.1 v).lo)
  | [], i, x, h => by simp [waysR] at h
  | y :: t, i, x, h => by
    rw [waysR] at h
    split at h
    · dsimp only at h
      rw [List.mem_append] at h
      rcases h with h | h
      · rw [Option.mem_toList] at h
        obtain ⟨h1, h2⟩ := faceR_w h
        exact ⟨0, y, rfl, by rw [h1, Nat.add_zero], h2⟩
      · obtain ⟨j, z, h1, h2, h3⟩ := ways_mem a v t (i + 1) x h
        exact ⟨j + 1, z, by rw [List.getElem?_cons_succ]; exact h1, by rw [h2]; congr 1; omega, h3⟩
    · cases h
theorem best_mem (l : List W4) : ∀ b : W4, l.foldl better b = b ∨ l.foldl better b ∈ l := by
  induction l with
  | nil => exact fun b => .inl rfl
  | cons x t ih =>
    intro b
    rw [List.foldl_cons]
    rcases ih (better b x) with h | h
    · rw [h]
      unfold better
      split
      · exact .inr (List.mem_cons_self ..)
      · exact .inl rfl
    · exact .inr (List.mem_cons_of_mem _ h)
/-- the face that is hit is one of the body's, and the ray goes outward there -/
theorem hit_face {l : List (D × Int × Int)} {a v : D} (h : (hitR l a v).e = 0) : ∃ (k : Nat) (x : D × Int × Int), (hitR l a v).f = (k : Int) ∧ l[k]? = some x ∧ (dotR x.1 v).e = 0 ∧ 0 < (dotR x.1 v).lo := by
  unfold hitR at h ⊢
  split at h
  · rename_i h0
    split at h
    · cases h
    · rename_i h1
      split at h
      · cases h
      · rename_i h2
        split at h
        · cases h
        · rename_i h3
          split at h
          · cases h
          · rename_i h4
            rw [if_pos h0, if_neg h1, if_neg h2, if_neg h3, if_neg h4]
            dsimp only
            have hb : (bestR (waysR a v 0 l).l).b = true := by simpa using h2
            rcases best_mem (waysR a v 0 l).l ⟨0, 0, 0, false⟩ with h5 | h5
            · rw [bestR, h5] at hb
              cases hb
            · obtain ⟨j, y, g1, g2, g3⟩ := ways_mem a v l 0 _ h5
              rw [Nat.zero_add] at g2
              exact ⟨j, y, g2, g1, g3 hb⟩
  · rename_i h0
    exact absurd h h0
end Go.Proofs.Ytedfciddfpcifaa.Iv

/- Following a ray: the plain function, and what leave needs. -/
namespace Go.Proofs.Ytedfciddfpcifaa.Iv

theorem mul_c (a b c d : Int) : mulR a b c d = mulR c d a b := by
  unfold mulR
  have e1 : min4 (a * c) (a * d) (b * c) (b * d) = min4 (c * a) (c * b) (d * a) (d * b) := by
    rw [Int.mul_comm c a, Int.mul_comm c b, Int.mul_comm d a, Int.mul_comm d b]
    unfold min4
    omega
  have e2 : max4 (a * c) (a * d) (b * c) (b * d) = max4 (c * a) (c * b) (d * a) (d * b) := by
    rw [Int.mul_comm c a, Int.mul_comm c b, Int.mul_comm d a, Int.mul_comm d b]
    unfold max4
    omega
  rw [e1, e2]
  by_cases h : vB a b = true ∧ vB c d = true
  · rw [if_pos h, if_pos h.symm]
  · rw [if_neg h, if_neg (fun k => h k.symm)]
theorem dot_c (s t : D) : dotR s t = dotR t s := by
  have e : prodD s t = prodD t s := by
    unfold prodD
    rw [mul_c s.a, mul_c s.c, mul_c s.e]
  unfold dotR
  rw [e]
  by_cases h : vD s = true ∧ vD t = true
  · rw [if_pos h, if_pos h.symm]
  · rw [if_neg h, if_neg (fun k => h k.symm)]
theorem after_nn {p q x y : Int} (h : 0 ≤ sgn p q) (h0 : ¬ (x < 0)) : vB (afterR p q x y).lo (afterR p q x y).hi = true ∧ 0 ≤ (afterR p q x y).lo := by
  rw [afterR, if_neg (by omega)]
  cases hv : vB x y
  · rw [show sqrtR x y = ⟨0, 0, 1⟩ from by rw [sqrtR, if_neg (by rw [hv]; decide)]]
    exact ⟨rfl, Int.le_refl _⟩
  · obtain ⟨h1, h2, h3⟩ := vB_iff.1 hv
    rw [sqrtR, if_pos hv, if_neg h0]
    obtain ⟨s1, s2, _⟩ := isq_sq x (by omega) (by omega)
    exact ⟨vB_iff.2 ⟨by dsimp only; omega, rup_ge h2, by have := rup_le (b := y) (by omega) h3; dsimp only; omega⟩, isq_nonneg _⟩
/-- what leave's cosines are, where the ray goes outward -/
theorem leave_pre {n v : D} {i0 i1 : Int} (h1 : 0 < (dotR n v).lo) (h2 : (dotR n v).e = 0) (h : (refrR v n i0 i1).e = 0) :
    vB (refrR v n i0 i1).p (refrR v n i0 i1).q = true ∧ 0 ≤ (refrR v n i0 i1).p ∧ vB (refrR v n i0 i1).u (refrR v n i0 i1).v = true ∧ 0 ≤ (refrR v n i0 i1).u := by
  have hd := dot_in h2
  rw [dot_c] at h1 h2 hd
  unfold refrR at h ⊢
  split at h
  · rename_i c1
    rw [if_pos c1]
    rw [if_pos h2]
    split at h
    · cases h
    · rename_i c2
      rw [if_neg c2]
      split at h
      · rename_i c3
        rw [if_pos c3]
        split at h
        · cases h
        · rename_i c4
          rw [if_neg c4]
          have ha := after_nn (p := (dotR v n).lo) (q := (dotR v n).hi) (y := (radR (dotR v n).lo (dotR v n).hi i0 i1).hi) (sgn_nn (by omega)) c4
          unfold tailF at h ⊢
          dsimp only at h ⊢
          split at h
          · rename_i c5
            rw [if_pos c5]
            exact ⟨hd, Int.le_of_lt h1, ha.1, ha.2⟩
          · rename_i c5
            exact absurd h c5
      · rename_i c3
        exact absurd h c3
  · cases h
def unk : LV := ⟨3, zD, 0, 0⟩
def nrm (l : List (D × Int × Int)) (f : Int) : D := ((l[f.toNat]?).getD (zD, 0, 0)).1
theorem nrm_eq {l : List (D × Int × Int)} {k : Nat} {x : D × Int × Int} (h : l[k]? = some x) : nrm l k = x.1 := by
  rw [nrm, Int.toNat_natCast, h, Option.getD_some]
/-- one round: the hit, the point, what happens there; 'next' is the way on -/
def oneF (l : List (D × Int × Int)) (i0 i1 gl gh : Int) (a v : D) (fs : List Int) (last : Bool) (next : D → D → List Int → LV × List Int) : LV × List Int :=
  if (hitR l a v).e = 0 then
    if (scaleD v (hitR l a v).l (hitR l a v).g).e = 0 then
      if (addD a (scaleD v (hitR l a v).l (hitR l a v).g).d).e = 0 then
        if (hitsR v (nrm l (hitR l a v).f) i0 i1).e = 0 then
          if (hitsR v (nrm l (hitR l a v).f) i0 i1).k = 2 then (leaveR (nrm l (hitR l a v).f) v i0 i1 gl gh unk, fs ++ [(hitR l a v).f])
          else if (hitsR v (nrm l (hitR l a v).f) i0 i1).k = 1 ∧ last = false then
            if (reflR v (nrm l (hitR l a v).f)).e = 0 then next (addD a (scaleD v (hitR l a v).l (hitR l a v).g).d).d (reflR v (nrm l (hitR l a v).f)).d (fs ++ [(hitR l a v).f])
            else (unk, fs ++ [(hitR l a v).f])
          else (unk, fs ++ [(hitR l a v).f])
        else (unk, fs ++ [(hitR l a v).f])
      else (unk, fs ++ [(hitR l a v).f])
    else (unk, fs ++ [(hitR l a v).f])
  else (unk, fs)
def followL (l : List (D × Int × Int)) (i0 i1 gl gh : Int) : Nat → D → D → List Int → LV × List Int
  | 0, a, v, fs => oneF l i0 i1 gl gh a v fs true fun _ _ fs => (unk, fs)
  | m + 1, a, v, fs => oneF l i0 i1 gl gh a v fs false (followL l i0 i1 gl gh m)
/-- Follow's results: what is said of the path, its faces, the error -/
structure FO where
  lv : LV
  fs : List Int
  e : Int
def followV (L : List D) (M : List (Int × Int)) (i0 i1 : Int) (a v : D) (gl gh most : Int) : FO :=
  if ((vBody L M i0 i1 && (vD a && vD v)) && (vB gl gh && (decide (0 ≤ gl) && decide (gh ≤ 16777216)))) = true then
    if 0 ≤ most ∧ most ≤ 20 then ⟨(followL (L.zip M) i0 i1 gl gh most.toNat a v []).1, (followL (L.zip M) i0 i1 gl gh most.toNat a v []).2, 0⟩
    else ⟨⟨0, zD, 0, 0⟩, [], 2⟩
  else ⟨⟨0, zD, 0, 0⟩, [], 1⟩
end Go.Proofs.Ytedfciddfpcifaa.Iv

/- Contracts of the reference's tests of paths, of Way. -/
namespace Go.Proofs.Ytedfciddfpcifaa.Iv
open Go.RowKit

attribute [local go_sem] Oper.semAt_some

/-- whether a list begins with another one -/
def startsR (L1 L2 : List Int) : Bool := decide (L1.take L2.length = L2)
set_option maxRecDepth 100000 in
set_option maxHeartbeats 4000000 in
theorem starts_any (a1 a2 : Option Addr) (c1 c2 : Nat) (L1 L2 : List Int) (w : World) (h1 : IntsAt w a1 L1) (h2 : IntsAt w a2 L2) (hl : L1.length ≤ 1000000) :
    Calls Try.prog 30 #[.slice a1 L1.length c1, .slice a2 L2.length c2] w fun e w' => e = .returned (.bool (startsR L1 L2)) ∧ Below w.heap.size w w' := by
  by_cases hn : (L1.length : Int) < (L2.length : Int)
  · rw [show startsR L1 L2 = false from decide_eq_false (fun h => by have := congrArg List.length h; rw [List.length_take] at this; omega)]
    clear h1 h2
    go_enter Try.func30, Try.ntmps30
    go_wp2_with fail
    go_ret
    exact ⟨rfl, Below.refl _ _⟩
  · have hn' : L2.length ≤ L1.length := by omega
    have HL := Lib.hid hn'
    have H1 := Lib.hid h1
    have H2 := Lib.hid h2
    clear hn' h1 h2
    go_enter Try.func30, Try.ntmps30
    go_wp2_with fail
    go_loopw [5] (fun i wr => ∃ k : Nat, k ≤ L2.length ∧ i = .int .i64 k ∧ (∀ j, j < k → L1[j]? = L2[j]?) ∧ Below w.heap.size w wr) (fun i _ => L2.length - (intOf i).toNat)
    case atStart => exact ⟨0, Nat.zero_le _, rfl, fun j h => absurd h (by omega), Below.refl _ _⟩
    case round =>
      obtain ⟨k, hk, rfl, hno, hbel⟩ := hrel
      have HNO := Lib.hid hno
      have HB := Lib.hid hbel
      have HL' := HL.out
      have i15 : IntKind.i64.wrap ((k : Int) + 1) = (k : Int) + 1 := IntWalk.i64_in _ (by omega)
      have g1 := H1.out.kept hbel
      have g2 := H2.out.kept hbel
      clear hno hbel
      rcases Nat.lt_or_ge k L2.length with hlt | hge
      · obtain ⟨b1, o1, rfl, l1, hc1⟩ := g1 (by omega)
        obtain ⟨b2, o2, rfl, l2, hc2⟩ := g2 (by omega)
        have q1 := hc1 k (by omega)
        have q2 := hc2 k hlt
        obtain ⟨x, hx⟩ : ∃ x, L1[k]? = some x := ⟨_, List.getElem?_eq_getElem (by omega)⟩
        obtain ⟨y, hy⟩ : ∃ y, L2[k]? = some y := ⟨_, List.getElem?_eq_getElem hlt⟩
        rw [hx, Option.getD_some] at q1
        rw [hy, Option.getD_some] at q2
        have HX := Lib.hid hx
        have HY := Lib.hid hy
        have hlt' : (k : Int) < (L2.length : Int) := by omega
        have hlt1 : (k : Int) < (L1.length : Int) := by omega
        have hge' : (0 : Int) ≤ (k : Int) := by omega
        clear hc1 hc2 hx hy HL'
        by_cases hxy : x = y
        · subst hxy
          go_wp2_with fail
          go_quiet (fail)
          go_wp2_with fail
          go_roundw
          case rel =>
            refine ⟨k + 1, hlt, by simp, fun j hj => ?_, by first | exact HB.out | exact HB.out.drew | exact HB.out.trans ((below_dN _ _).mono HB.out.size)⟩
            rcases Nat.lt_or_ge j k with h' | h'
            · exact HNO.out j h'
            · obtain rfl : j = k := by omega
              rw [HX.out, HY.out]
          case measure => simp only [intOf]; omega
        · go_wp2_with fail
          go_quiet (fail)
          go_wp2_with fail
          go_ret
          refine ⟨?_, by first | exact HB.out | exact HB.out.drew | exact HB.out.trans ((below_dN _ _).mono HB.out.size)⟩
          rw [show startsR L1 L2 = false from decide_eq_false (fun h => hxy (by
            have e : (L1.take L2.length)[k]? = L2[k]? := by rw [h]
            rw [List.getElem?_take, if_pos hlt, HX.out, HY.out] at e
            exact Option.some.inj e))]
          rfl
      · obtain rfl : k = L2.length := by omega
        clear HL'
        go_wp2_with fail
        go_ret
        refine ⟨?_, HB.out⟩
        rw [show startsR L1 L2 = true from decide_eq_true (List.ext_getElem? fun j => by
          rw [List.getElem?_take]
          rcases Nat.lt_or_ge j L2.length with h | h
          · rw [if_pos h]; exact HNO.out j h
          · rw [if_neg (by omega), List.getElem?_eq_none h])]
        rfl
set_option maxRecDepth 100000 in
theorem rinsb_any (a b c d : Int) (w : World) :
    Calls Try.prog 32 #[iv a b, iv c d] w fun e w' => e = .returned (.bool (insB a b c d)) ∧ Below w.heap.size w w' := by
  have H0 := (((Ho.nil w).bx [.int .i64 a, .int .i64 b] 24 (w.heap.size) (by simp)).bx [.int .i64 c, .int .i64 d] 24 (w.heap.size + 1) (by simp))
  cases hv : (vB a b && vB c d)
  · have EI := Lib.hid (show insB a b c d = false from decide_eq_false (fun h => by rw [h.1, h.2.1] at hv; exact absurd hv (by decide)))
    have HV := Lib.hid hv
    clear hv
    rw [EI.out]
    go_enter Try.func32, Try.ntmps32
    go_wp2_with fail
    refine (both_any a b c d _).mono ?_
    rintro r w1 ⟨rfl, hb⟩
    rw [HV.out]
    have H1 := H0.call hb
    clear hb
    have x0 := (H1.at 1 rfl).c
    have x1 := (H1.at 0 rfl).c
    go_wp2_with fail
    go_ret
    exact ⟨rfl, H1.below⟩
  · have hv' : vB a b = true ∧ vB c d = true := by simpa using hv
    by_cases h1 : c ≤ a
    · have EI := Lib.hid (show insB a b c d = decide (b ≤ d) from by simp [insB, hv'.1, hv'.2, h1])
      clear hv'
      have HV := Lib.hid hv
      clear hv
      rw [EI.out]
      go_enter Try.func32, Try.ntmps32
      go_wp2_with fail
      refine (both_any a b c d _).mono ?_
      rintro r w1 ⟨rfl, hb⟩
      rw [HV.out]
      have H1 := H0.call hb
      clear hb
      have x0 := (H1.at 1 rfl).c
      have x1 := (H1.at 0 rfl).c
      go_wp2_with fail
      go_ret
      exact ⟨rfl, H1.below⟩
    · have EI := Lib.hid (show insB a b c d = false from decide_eq_false (fun h => h1 h.2.2.1))
      clear hv'
      have HV := Lib.hid hv
      clear hv
      rw [EI.out]
      go_enter Try.func32, Try.ntmps32
      go_wp2_with fail
      refine (both_any a b c d _).mono ?_
      rintro r w1 ⟨rfl, hb⟩
      rw [HV.out]
      have H1 := H0.call hb
      clear hb
      have x0 := (H1.at 1 rfl).c
      have x1 := (H1.at 0 rfl).c
      go_wp2_with fail
      go_ret
      exact ⟨rfl, H1.below⟩
set_option maxRecDepth 100000 in
theorem rdin_any (s t : D) (w : World) :
    Calls Try.prog 31 #[dv s, dv t] w fun e w' => e = .returned (.bool (insD s t)) ∧ Below w.heap.size w w' := by
  have H0 := ((Ho.nil w).bx [.int .i64 s.a, .int .i64 s.b, .int .i64 s.c, .int .i64 s.d, .int .i64 s.e, .int .i64 s.f] 32 w.heap.size rfl).bx [.int .i64 t.a, .int .i64 t.b, .int .i64 t.c, .int .i64 t.d, .int .i64 t.e, .int .i64 t.f] 32 (w.heap.size + 1) (by simp)
  cases h1 : insB s.a s.b t.a t.b
  · rw [show insD s t = false from by simp [insD, h1]]
    have E1 := Lib.hid h1
    clear h1
    go_enter Try.func31, Try.ntmps31
    go_wp2_with fail
    refine (rinsb_any s.a s.b t.a t.b _).mono ?_
    rintro e w1 ⟨rfl, hb⟩
    rw [E1.out]
    have H1 := H0.call hb
    clear hb
    have x1 := (H1.at 1 rfl).c
    have y1 := (H1.at 0 rfl).c
    go_wp2_with fail
    go_ret
    exact ⟨rfl, H1.below⟩
  · cases h2 : insB s.c s.d t.c t.d
    · rw [show insD s t = false from by simp [insD, h2]]
      have E1 := Lib.hid h1
      have E2 := Lib.hid h2
      clear h1 h2
      go_enter Try.func31, Try.ntmps31
      go_wp2_with fail
      refine (rinsb_any s.a s.b t.a t.b _).mono ?_
      rintro e w1 ⟨rfl, hb⟩
      rw [E1.out]
      have H1 := H0.call hb
      clear hb
      have x1 := (H1.at 1 rfl).c
      have y1 := (H1.at 0 rfl).c
      go_wp2_with fail
      refine (rinsb_any s.c s.d t.c t.d _).mono ?_
      rintro e w2 ⟨rfl, hb⟩
      rw [E2.out]
      have H2 := H1.call hb
      clear hb
      have x2 := (H2.at 1 rfl).c
      have y2 := (H2.at 0 rfl).c
      go_wp2_with fail
      go_ret
      exact ⟨rfl, H2.below⟩
    · rw [show insD s t = insB s.e s.f t.e t.f from by simp [insD, h1, h2]]
      have E1 := Lib.hid h1
      have E2 := Lib.hid h2
      clear h1 h2
      go_enter Try.func31, Try.ntmps31
      go_wp2_with fail
      refine (rinsb_any s.a s.b t.a t.b _).mono ?_
      rintro e w1 ⟨rfl, hb⟩
      rw [E1.out]
      have H1 := H0.call hb
      clear hb
      have x1 := (H1.at 1 rfl).c
      have y1 := (H1.at 0 rfl).c
      go_wp2_with fail
      refine (rinsb_any s.c s.d t.c t.d _).mono ?_
      rintro e w2 ⟨rfl, hb⟩
      rw [E2.out]
      have H2 := H1.call hb
      clear hb
      have x2 := (H2.at 1 rfl).c
      have y2 := (H2.at 0 rfl).c
      go_wp2_with fail
      refine (rinsb_any s.e s.f t.e t.f _).mono ?_
      rintro e w3 ⟨rfl, hb⟩
      have H3 := H2.call hb
      clear hb
      have x3 := (H3.at 1 rfl).c
      have y3 := (H3.at 0 rfl).c
      go_wp2_with fail
      go_ret
      exact ⟨rfl, H3.below⟩
/-- the reference's test -/
def rinsP (p q : Pa) : Bool :=
  if q.k = 3 then startsR p.fs q.fs else decide (p.k = q.k) && (decide (p.fs.length = q.fs.length) && (startsR p.fs q.fs && (insD p.o q.o && insB p.lo p.hi q.lo q.hi)))
theorem rinsP_eq (p q : Pa) : rinsP p q = insP p q := by
  have h1 : startsR p.fs q.fs = (decide (q.fs.length ≤ p.fs.length) && decide (p.fs.take q.fs.length = q.fs)) := by
    unfold startsR
    by_cases h : p.fs.take q.fs.length = q.fs
    · have : q.fs.length ≤ p.fs.length := by have := congrArg List.length h; rw [List.length_take] at this; omega
      simp [h, this]
    · simp [h]
  have h2 : (decide (p.fs.length = q.fs.length) && startsR p.fs q.fs) = decide (p.fs = q.fs) := by
    unfold startsR
    by_cases h : p.fs = q.fs
    · simp [h]
    · by_cases g : p.fs.length = q.fs.length
      · have : ¬ (p.fs.take q.fs.length = q.fs) := by rw [← g, List.take_length]; exact h
        simp [h, this]
      · simp [h, g]
  unfold rinsP insP
  split
  · exact h1
  · rw [← h2, Bool.and_assoc]
set_option maxRecDepth 100000 in
set_option maxHeartbeats 16000000 in
theorem rpins_any (a1 a2 : Option Addr) (c1 c2 : Nat) (p q : Pa) (w : World) (h1 : IntsAt w a1 p.fs) (h2 : IntsAt w a2 q.fs) (hl : p.fs.length ≤ 1000000) :
    Calls Try.prog 10 #[pv a1 c1 p, pv a2 c2 q] w fun e w' => e = .returned (.bool (insP p q)) ∧ Below w.heap.size w w' := by
  rw [← rinsP_eq]
  obtain ⟨pk, pf, po, pl, ph⟩ := p
  obtain ⟨qk, qf, qo, ql, qh⟩ := q
  dsimp only at h1 h2 hl
  have H0 := ((Ho.nil w).bx [.int .i64 pk, .slice a1 pf.length c1, .int .i64 po.a, .int .i64 po.b, .int .i64 po.c, .int .i64 po.d, .int .i64 po.e, .int .i64 po.f, .int .i64 pl, .int .i64 ph] 34 w.heap.size rfl).bx [.int .i64 qk, .slice a2 qf.length c2, .int .i64 qo.a, .int .i64 qo.b, .int .i64 qo.c, .int .i64 qo.d, .int .i64 qo.e, .int .i64 qo.f, .int .i64 ql, .int .i64 qh] 34 (w.heap.size + 1) (by simp)
  have G1 := Lib.hid h1
  have G2 := Lib.hid h2
  clear h1 h2
  by_cases hk : qk = 3
  · subst hk
    have EI := Lib.hid (show rinsP ⟨pk, pf, po, pl, ph⟩ ⟨3, qf, qo, ql, qh⟩ = startsR pf qf from by rw [rinsP, if_pos rfl])
    rw [EI.out]
    go_enter Try.func10, Try.ntmps10
    go_wp2_with fail
    refine (starts_any _ _ _ _ pf qf _ (G1.out.kept H0.below) (G2.out.kept H0.below) hl).mono ?_
    rintro e w1 ⟨rfl, hb⟩
    have H1 := H0.call hb
    clear hb
    have x0 := (H1.at 1 rfl).c
    have x1 := (H1.at 0 rfl).c
    go_wp2_with fail
    go_ret
    exact ⟨rfl, H1.below⟩
  · by_cases c1 : pk = qk
    · subst c1
      by_cases c2 : (pf.length : Int) = (qf.length : Int)
      · have c2' : pf.length = qf.length := by omega
        cases c3 : startsR pf qf
        · have EI := Lib.hid (show rinsP ⟨pk, pf, po, pl, ph⟩ ⟨pk, qf, qo, ql, qh⟩ = false from by rw [rinsP, if_neg hk]; dsimp only; rw [decide_eq_true rfl, decide_eq_true c2', Bool.true_and, Bool.true_and, c3, Bool.false_and])
          have E3 := Lib.hid c3
          clear c3 c2'
          rw [EI.out]
          go_enter Try.func10, Try.ntmps10
          go_wp2_with fail
          refine (starts_any _ _ _ _ pf qf _ (G1.out.kept H0.below) (G2.out.kept H0.below) hl).mono ?_
          rintro e w1 ⟨rfl, hb⟩
          rw [E3.out]
          have H1 := H0.call hb
          clear hb
          have x0 := (H1.at 1 rfl).c
          have x1 := (H1.at 0 rfl).c
          go_wp2_with fail
          go_ret
          exact ⟨rfl, H1.below⟩
        · cases c4 : insD po qo
          · have EI := Lib.hid (show rinsP ⟨pk, pf, po, pl, ph⟩ ⟨pk, qf, qo, ql, qh⟩ = false from by rw [rinsP, if_neg hk]; dsimp only; rw [decide_eq_true rfl, decide_eq_true c2', Bool.true_and, Bool.true_and, c3, c4, Bool.true_and, Bool.false_and])
            have E3 := Lib.hid c3
            have E4 := Lib.hid c4
            clear c3 c4 c2'
            rw [EI.out]
            go_enter Try.func10, Try.ntmps10
            go_wp2_with fail
            refine (starts_any _ _ _ _ pf qf _ (G1.out.kept H0.below) (G2.out.kept H0.below) hl).mono ?_
            rintro e w1 ⟨rfl, hb⟩
            rw [E3.out]
            have H1 := H0.call hb
            clear hb
            have x0 := (H1.at 1 rfl).c
            have x1 := (H1.at 0 rfl).c
            go_wp2_with fail
            refine (rdin_any po qo _).mono ?_
            rintro e w2 ⟨rfl, hb⟩
            rw [E4.out]
            have H2 := H1.call hb
            clear hb x0 x1
            have x0 := (H2.at 1 rfl).c
            have x1 := (H2.at 0 rfl).c
            go_wp2_with fail
            go_ret
            exact ⟨rfl, H2.below⟩
          · have EI := Lib.hid (show rinsP ⟨pk, pf, po, pl, ph⟩ ⟨pk, qf, qo, ql, qh⟩ = insB pl ph ql qh from by rw [rinsP, if_neg hk]; dsimp only; rw [decide_eq_true rfl, decide_eq_true c2', Bool.true_and, Bool.true_and, c3, c4, Bool.true_and, Bool.true_and])
            have E3 := Lib.hid c3
            have E4 := Lib.hid c4
            clear c3 c4 c2'
            rw [EI.out]
            go_enter Try.func10, Try.ntmps10
            go_wp2_with fail
            refine (starts_any _ _ _ _ pf qf _ (G1.out.kept H0.below) (G2.out.kept H0.below) hl).mono ?_
            rintro e w1 ⟨rfl, hb⟩
            rw [E3.out]
            have H1 := H0.call hb
            clear hb
            have x0 := (H1.at 1 rfl).c
            have x1 := (H1.at 0 rfl).c
            go_wp2_with fail
            refine (rdin_any po qo _).mono ?_
            rintro e w2 ⟨rfl, hb⟩
            rw [E4.out]
            have H2 := H1.call hb
            clear hb x0 x1
            have x0 := (H2.at 1 rfl).c
            have x1 := (H2.at 0 rfl).c
            go_wp2_with fail
            refine (rinsb_any pl ph ql qh _).mono ?_
            rintro e w3 ⟨rfl, hb⟩
            have H3 := H2.call hb
            clear hb x0 x1
            have x0 := (H3.at 1 rfl).c
            have x1 := (H3.at 0 rfl).c
            go_wp2_with fail
            go_ret
            exact ⟨rfl, H3.below⟩
      · have EI := Lib.hid (show rinsP ⟨pk, pf, po, pl, ph⟩ ⟨pk, qf, qo, ql, qh⟩ = false from by rw [rinsP, if_neg hk]; dsimp only; rw [decide_eq_true rfl, decide_eq_false (by omega), Bool.true_and, Bool.false_and])
        rw [EI.out]
        go_enter Try.func10, Try.ntmps10
        go_wp2_with fail
        go_ret
        exact ⟨rfl, H0.below⟩
    · have EI := Lib.hid (show rinsP ⟨pk, pf, po, pl, ph⟩ ⟨qk, qf, qo, ql, qh⟩ = false from by rw [rinsP, if_neg hk]; dsimp only; rw [decide_eq_false c1, Bool.false_and])
      rw [EI.out]
      go_enter Try.func10, Try.ntmps10
      go_wp2_with fail
      go_ret
      exact ⟨rfl, H0.below⟩
set_option maxRecDepth 100000 in
set_option maxHeartbeats 4000000 in
theorem way_any (a : Option Addr) (c : Nat) (p : Pa) (w : World) :
    Calls Try.prog 11 #[pv a c p] w fun e w' => e = .returned (pv a c p) ∧ Below w.heap.size w w' := by
  obtain ⟨pk, pf, po, pl, ph⟩ := p
  have H0 := (Ho.nil w).bx [.int .i64 pk, .slice a pf.length c, .int .i64 po.a, .int .i64 po.b, .int .i64 po.c, .int .i64 po.d, .int .i64 po.e, .int .i64 po.f, .int .i64 pl, .int .i64 ph] 28 w.heap.size rfl
  go_enter Try.func11, Try.ntmps11
  go_wp2_with fail
  refine bodyPost_box (b := w.heap.size + 1) (cs := [.int .i64 pk, .slice a pf.length c, .int .i64 po.a, .int .i64 po.b, .int .i64 po.c, .int .i64 po.d, .int .i64 po.e, .int .i64 po.f, .int .i64 pl, .int .i64 ph]) (v := pv a c ⟨pk, pf, po, pl, ph⟩) (by
    (repeat (first | (with_reducible refine Bx.new ?_; (· (simp; done))) | with_reducible refine Bx.alc ?_ _))) (fun X hX => by simp [results, Try.results11, go_sem, hX]) rfl ⟨rfl, by
    refine Ho.below (n := w.heap.size + 1) (l := [(w.heap.size, [.int .i64 pk, .slice a pf.length c, .int .i64 po.a, .int .i64 po.b, .int .i64 po.c, .int .i64 po.d, .int .i64 po.e, .int .i64 po.f, .int .i64 pl, .int .i64 ph])]) ?_
    (repeat (first | with_reducible exact H0 | with_reducible refine Ho.alc ?_ _ | with_reducible refine Ho.put ?_ (by omega)))⟩
end Go.Proofs.Ytedfciddfpcifaa.Iv

/- Plain facts: numbers of the boxes of a ray and of a body, and where the ray meets a face. -/
namespace Go.Proofs.Ytedfciddfpcifaa.Iv

theorem min4_le (x y z t : Int) : min4 x y z t ≤ x ∧ min4 x y z t ≤ y ∧ min4 x y z t ≤ z ∧ min4 x y z t ≤ t := by unfold min4; omega
theorem le_max4 (x y z t : Int) : x ≤ max4 x y z t ∧ y ≤ max4 x y z t ∧ z ≤ max4 x y z t ∧ t ≤ max4 x y z t := by unfold max4; omega
theorem min4_sc {x y z t C : Int} (h : 0 ≤ C) : min4 x y z t * C ≤ min4 (x * C) (y * C) (z * C) (t * C) := by
  obtain ⟨h1, h2, h3, h4⟩ := min4_le x y z t
  have k1 := Int.mul_le_mul_of_nonneg_right h1 h
  have k2 := Int.mul_le_mul_of_nonneg_right h2 h
  have k3 := Int.mul_le_mul_of_nonneg_right h3 h
  have k4 := Int.mul_le_mul_of_nonneg_right h4 h
  generalize min4 x y z t * C = m at *
  unfold min4
  omega
theorem max4_sc {x y z t C : Int} (h : 0 ≤ C) : max4 (x * C) (y * C) (z * C) (t * C) ≤ max4 x y z t * C := by
  obtain ⟨h1, h2, h3, h4⟩ := le_max4 x y z t
  have k1 := Int.mul_le_mul_of_nonneg_right h1 h
  have k2 := Int.mul_le_mul_of_nonneg_right h2 h
  have k3 := Int.mul_le_mul_of_nonneg_right h3 h
  have k4 := Int.mul_le_mul_of_nonneg_right h4 h
  generalize max4 x y z t * C = m at *
  unfold max4
  omega
theorem mul_v {a b c d : Int} (h : (mulR a b c d).e = 0) : (mulR a b c d).lo = fl (min4 (a * c) (a * d) (b * c) (b * d)) ∧ (mulR a b c d).hi = ce (max4 (a * c) (a * d) (b * c) (b * d)) ∧ vB a b = true ∧ vB c d = true := by
  unfold mulR at h ⊢
  split at h
  · rename_i hv
    rw [if_pos hv]
    unfold withinR at h ⊢
    split at h
    · cases h
    · rename_i hw
      rw [if_neg hw]
      exact ⟨rfl, rfl, hv.1, hv.2⟩
  · cases h
/-- a product of a number of a box and a fraction Y / C of another one -/
theorem mulQ {a b c d A Y C : Int} (h : (mulR a b c d).e = 0) (h1 : a ≤ A) (h2 : A ≤ b) (hC : 0 ≤ C) (h3 : c * C ≤ Y) (h4 : Y ≤ d * C) :
    (mulR a b c d).lo * 16777216 * C ≤ A * Y ∧ A * Y ≤ (mulR a b c d).hi * 16777216 * C := by
  obtain ⟨e1, e2, _, _⟩ := mul_v h
  have k := mul_in h1 h2 h3 h4
  rw [← Int.mul_assoc, ← Int.mul_assoc, ← Int.mul_assoc, ← Int.mul_assoc] at k
  have m1 := min4_sc (x := a * c) (y := a * d) (z := b * c) (t := b * d) hC
  have m2 := max4_sc (x := a * c) (y := a * d) (z := b * c) (t := b * d) hC
  have f1 := Int.mul_le_mul_of_nonneg_right (fl_le (min4 (a * c) (a * d) (b * c) (b * d))) hC
  have f2 := Int.mul_le_mul_of_nonneg_right (ce_ge (max4 (a * c) (a * d) (b * c) (b * d))) hC
  rw [e1, e2]
  exact ⟨Int.le_trans f1 (Int.le_trans m1 k.1), Int.le_trans k.2 (Int.le_trans m2 f2)⟩
theorem comb_in {r s t : R} (h : (comb r s t).e = 0) : r.e = 0 ∧ s.e = 0 ∧ t.e = 0 ∧ (comb r s t).d = ⟨r.lo, r.hi, s.lo, s.hi, t.lo, t.hi⟩ := by
  unfold comb at h ⊢
  split at h
  · rename_i h1
    split at h
    · rename_i h2
      split at h
      · rename_i h3
        rw [if_pos h1, if_pos h2, if_pos h3]
        exact ⟨h1, h2, h3, rfl⟩
      · rename_i h3; exact absurd h h3
    · rename_i h2; exact absurd h h2
  · rename_i h1; exact absurd h h1
/-- numbers X / C of a box -/
structure In3 (s : D) (X Y Z C : Int) : Prop where
  x0 : s.a * C ≤ X
  x1 : X ≤ s.b * C
  y0 : s.c * C ≤ Y
  y1 : Y ≤ s.d * C
  z0 : s.e * C ≤ Z
  z1 : Z ≤ s.f * C
theorem In3.low {s : D} (h : vD s = true) : In3 s s.a s.c s.e 1 := by
  have hv : vB s.a s.b = true ∧ vB s.c s.d = true ∧ vB s.e s.f = true := by simpa [vD] using h
  have v1 := vB_iff.1 hv.1
  have v2 := vB_iff.1 hv.2.1
  have v3 := vB_iff.1 hv.2.2
  constructor <;> omega
theorem dot_v {s t : D} (h : (dotR s t).e = 0) : vD s = true ∧ vD t = true ∧ (mulR s.a s.b t.a t.b).e = 0 ∧ (mulR s.c s.d t.c t.d).e = 0 ∧ (mulR s.e s.f t.e t.f).e = 0 ∧
    (dotR s t).lo = (mulR s.a s.b t.a t.b).lo + (mulR s.c s.d t.c t.d).lo + (mulR s.e s.f t.e t.f).lo ∧ (dotR s t).hi = (mulR s.a s.b t.a t.b).hi + (mulR s.c s.d t.c t.d).hi + (mulR s.e s.f t.e t.f).hi := by
  unfold dotR at h ⊢
  split at h
  · rename_i hv
    rw [if_pos hv]
    unfold onlyR at h ⊢
    split at h
    · rename_i h0
      rw [if_pos h0]
      dsimp only
      unfold sumG at h0 ⊢
      obtain ⟨g1, g2, g3⟩ := goOn_in h0
      obtain ⟨g4, g5, g6⟩ := goOn_in g1
      unfold prodD at g4
      obtain ⟨c1, c2, c3, c4⟩ := comb_in g4
      rw [g3, g6]
      rw [g6] at g2
      unfold prodD at g2 g5 ⊢
      rw [c4] at g2 g5 ⊢
      dsimp only at g2 g5 ⊢
      obtain ⟨a1, _⟩ := add_v g5
      rw [a1] at g2 ⊢
      dsimp only at g2 ⊢
      obtain ⟨a2, _⟩ := add_v g2
      rw [a2]
      exact ⟨hv.1, hv.2, c1, c2, c3, rfl, rfl⟩
    · rename_i h0
      exact absurd h h0
  · cases h
theorem dotQ {s t : D} {x y z X Y Z C : Int} (h : (dotR s t).e = 0) (hC : 0 ≤ C) (hs : In3 s x y z 1) (ht : In3 t X Y Z C) :
    (dotR s t).lo * 16777216 * C ≤ x * X + y * Y + z * Z ∧ x * X + y * Y + z * Z ≤ (dotR s t).hi * 16777216 * C := by
  obtain ⟨_, _, h1, h2, h3, e1, e2⟩ := dot_v h
  obtain ⟨s1, s2, s3, s4, s5, s6⟩ := hs
  have m1 := mulQ h1 (A := x) (by omega) (by omega) hC ht.x0 ht.x1
  have m2 := mulQ h2 (A := y) (by omega) (by omega) hC ht.y0 ht.y1
  have m3 := mulQ h3 (A := z) (by omega) (by omega) hC ht.z0 ht.z1
  rw [e1, e2]
  simp only [Int.add_mul]
  omega
/-- a number of the length to a face, and what it is compared with -/
theorem way_pt {i : Int} {n : D} {p : Int × Int} {a v : D} {x : W4} (h : (faceR i n p a v).w = some x) (hb : x.b = true) :
    0 < n.a * v.a + n.c * v.c + n.e * v.e ∧ 0 ≤ x.l ∧ 0 ≤ x.g ∧
    x.l * (n.a * v.a + n.c * v.c + n.e * v.e) ≤ max 0 (p.1 * 16777216 - (n.a * a.a + n.c * a.c + n.e * a.e)) * 16777216 ∧
    max 0 (p.1 * 16777216 - (n.a * a.a + n.c * a.c + n.e * a.e)) * 16777216 ≤ x.g * (n.a * v.a + n.c * v.c + n.e * v.e) ∧
    (0 < x.l → 0 ≤ p.1 * 16777216 - (n.a * a.a + n.c * a.c + n.e * a.e)) ∧ p.1 ≤ p.2 := by
  unfold faceR at h
  split at h
  · rename_i h1
    split at h
    · rename_i h2
      split at h
      · rename_i h3
        dsimp only at h
        have D1 := dot_v h1
        have D2 := dot_v h2
        have c := dotQ h1 (by decide : (0 : Int) ≤ 1) (In3.low D1.1) (In3.low D1.2.1)
        have q := dotQ h2 (by decide : (0 : Int) ≤ 1) (In3.low D2.1) (In3.low D2.2.1)
        obtain ⟨g1, g2, _, _, _⟩ := sub_v h3
        have hp := (vB_iff.1 g2).2.1
        rw [g1] at h
        generalize n.a * v.a + n.c * v.c + n.e * v.e = C at c ⊢
        generalize n.a * a.a + n.c * a.c + n.e * a.e = P at q ⊢
        unfold wayF at h
        split at h
        · cases h
        · rename_i hc
          cases h
          dsimp only at hb ⊢
          have hlo : 0 < (dotR n v).lo := of_decide_eq_true hb
          rw [if_pos hlo]
          generalize (dotR n v).lo = cl at c hc hlo ⊢
          generalize (dotR n v).hi = ch at c hc ⊢
          generalize (dotR n a).lo = ql at q ⊢
          generalize (dotR n a).hi = qh at q ⊢
          rw [Int.mul_one, Int.mul_one] at c q
          have hC : 0 < C := by omega
          generalize hT : p.1 * 16777216 - P = T
          have t1 : max 0 (p.1 - qh) * 16777216 ≤ max 0 T := by omega
          have t2 : max 0 T ≤ max 0 (p.2 - ql) * 16777216 := by omega
          rw [Int.tdiv_eq_ediv_of_nonneg (by omega), Int.tdiv_eq_ediv_of_nonneg (by omega)]
          have l0 : 0 ≤ max 0 (p.1 - qh) * 16777216 / ch := Int.ediv_nonneg (by omega) (by omega)
          have l1 : max 0 (p.1 - qh) * 16777216 / ch * ch ≤ max 0 (p.1 - qh) * 16777216 := Int.ediv_mul_le _ (by omega)
          have r0 : 0 ≤ (max 0 (p.2 - ql) * 16777216 + cl - 1) / cl := Int.ediv_nonneg (by omega) (by omega)
          have r1 : max 0 (p.2 - ql) * 16777216 ≤ (max 0 (p.2 - ql) * 16777216 + cl - 1) / cl * cl := by
            have := Int.lt_ediv_add_one_mul_self (max 0 (p.2 - ql) * 16777216 + cl - 1) hlo
            rw [Int.add_mul] at this
            omega
          have l2 : 0 < max 0 (p.1 - qh) * 16777216 / ch → 0 < p.1 - qh := by
            intro hh
            rcases Int.lt_or_le 0 (p.1 - qh) with k | k
            · exact k
            · rw [show max 0 (p.1 - qh) = 0 from by omega, Int.zero_mul, Int.zero_ediv] at hh
              exact absurd hh (by decide)
          generalize max 0 (p.1 - qh) * 16777216 / ch = l at *
          generalize (max 0 (p.2 - ql) * 16777216 + cl - 1) / cl = r at *
          refine ⟨hC, l0, r0, ?_, ?_, fun hh => by have := l2 hh; omega, hp⟩
          · have k1 := Int.mul_le_mul_of_nonneg_left c.2 l0
            rw [← Int.mul_assoc] at k1
            omega
          · have k1 := Int.mul_le_mul_of_nonneg_left c.1 r0
            rw [← Int.mul_assoc] at k1
            omega
      · cases h
    · cases h
  · cases h
theorem ways_at (a v : D) : ∀ (l : List (D × Int × Int)) (i : Nat) (x : W4), x ∈ (waysR a v i l).l → ∃ j y, l[j]? = some y ∧ (faceR ((i + j : Nat) : Int) y.1 y.2 a v).w = some x
  | [], i, x, h => by simp [waysR] at h
  | y :: t, i, x, h => by
    rw [waysR] at h
    split at h
    · dsimp only at h
      rw [List.mem_append] at h
      rcases h with h | h
      · rw [Option.mem_toList] at h
        exact ⟨0, y, rfl, by rw [Nat.add_zero]; exact h⟩
      · obtain ⟨j, z, h1, h2⟩ := ways_at a v t (i + 1) x h
        exact ⟨j + 1, z, by rw [List.getElem?_cons_succ]; exact h1, by rw [show i + (j + 1) = i + 1 + j from by omega]; exact h2⟩
    · cases h
theorem ways_in (a v : D) : ∀ (l : List (D × Int × Int)) (i : Nat), (waysR a v i l).e = 0 → ∀ j y, l[j]? = some y → (faceR ((i + j : Nat) : Int) y.1 y.2 a v).e = 0 ∧ ∀ x, (faceR ((i + j : Nat) : Int) y.1 y.2 a v).w = some x → x ∈ (waysR a v i l).l
  | [], i, _, j, y, h => by simp at h
  | z :: t, i, he, j, y, h => by
    rw [waysR] at he
    split at he
    · rename_i h0
      dsimp only at he
      rw [waysR, if_pos h0]
      dsimp only
      cases j with
      | zero =>
        simp only [List.getElem?_cons_zero, Option.some.injEq] at h
        subst h
        exact ⟨h0, fun x hx => List.mem_append_left _ (Option.mem_toList.2 hx)⟩
      | succ j =>
        rw [List.getElem?_cons_succ] at h
        have := ways_in a v t (i + 1) he j y h
        rw [show i + 1 + j = i + (j + 1) from by omega] at this
        exact ⟨this.1, fun x hx => List.mem_append_right _ (this.2 x hx)⟩
    · rename_i h0
      exact absurd he h0
/-- what a hit says: the way to its face, and that each other face that can be hit is farther -/
theorem hit_way {l : List (D × Int × Int)} {a v : D} (h : (hitR l a v).e = 0) : ∃ (k : Nat) (y : D × Int × Int) (x : W4), (hitR l a v).f = (k : Int) ∧ l[k]? = some y ∧ (faceR (k : Int) y.1 y.2 a v).w = some x ∧ x.b = true ∧ (hitR l a v).l = x.l ∧ (hitR l a v).g = x.g ∧ x.g ≤ 1073741824 ∧
    (waysR a v 0 l).e = 0 ∧ bestR (waysR a v 0 l).l = x ∧ ∀ (j : Nat) (z : D × Int × Int) (u : W4), l[j]? = some z → (faceR (j : Int) z.1 z.2 a v).w = some u → j ≠ k → x.g < u.l := by
  unfold hitR at h ⊢
  split at h
  · rename_i h0
    split at h
    · cases h
    · rename_i h1
      split at h
      · cases h
      · rename_i h2
        split at h
        · cases h
        · rename_i h3
          split at h
          · cases h
          · rename_i h4
            rw [if_pos h0, if_neg h1, if_neg h2, if_neg h3, if_neg h4]
            dsimp only
            have hb : (bestR (waysR a v 0 l).l).b = true := by simpa using h2
            rcases best_mem (waysR a v 0 l).l ⟨0, 0, 0, false⟩ with h5 | h5
            · rw [bestR, h5] at hb
              cases hb
            · obtain ⟨k, y, g1, g2⟩ := ways_at a v l 0 _ h5
              rw [Nat.zero_add] at g2
              have gf := (faceR_w g2).1
              rw [← bestR] at gf g2
              refine ⟨k, y, _, gf, g1, g2, hb, rfl, rfl, by omega, h0, rfl, fun j z u hz hu hj => ?_⟩
              have hin := (ways_in a v l 0 h0 j z hz).2 u (by rw [Nat.zero_add]; exact hu)
              have huf := (faceR_w hu).1
              have h6 : amb (bestR (waysR a v 0 l).l) (waysR a v 0 l).l = false := by simpa using h3
              rw [amb, List.any_eq_false] at h6
              have h7 := h6 u hin
              rw [gf, huf] at h7
              have : ((j : Int) ≠ (k : Int)) := by omega
              simp [this] at h7
              exact h7
  · rename_i h0
    exact absurd h h0
end Go.Proofs.Ytedfciddfpcifaa.Iv

/- Plain facts: the point that a ray hits lies on the plane of its face; a doubled body is hit at the same face. -/
namespace Go.Proofs.Ytedfciddfpcifaa.Iv

theorem scale_v {s : D} {a b : Int} (h : (scaleD s a b).e = 0) : (mulR s.a s.b a b).e = 0 ∧ (mulR s.c s.d a b).e = 0 ∧ (mulR s.e s.f a b).e = 0 ∧
    (scaleD s a b).d = ⟨(mulR s.a s.b a b).lo, (mulR s.a s.b a b).hi, (mulR s.c s.d a b).lo, (mulR s.c s.d a b).hi, (mulR s.e s.f a b).lo, (mulR s.e s.f a b).hi⟩ := by
  unfold scaleD at h ⊢
  split at h
  · rename_i hv
    rw [if_pos hv]
    exact comb_in h
  · cases h
theorem addD_v {s t : D} (h : (addD s t).e = 0) : (addD s t).d = ⟨s.a + t.a, s.b + t.b, s.c + t.c, s.d + t.d, s.e + t.e, s.f + t.f⟩ ∧ vD s = true ∧ vD t = true := by
  unfold addD at h ⊢
  split at h
  · rename_i hv
    rw [if_pos hv]
    obtain ⟨h1, h2, h3, h4⟩ := comb_in h
    rw [h4, (add_v h1).1, (add_v h2).1, (add_v h3).1]
    exact ⟨rfl, hv.1, hv.2⟩
  · cases h
/-- the factor 2^24 of a product may be left out -/
theorem drop_u {x A T C : Int} (h : x * 16777216 * C ≤ A * (T * 16777216)) : x * C ≤ A * T := by
  rw [Int.mul_right_comm, ← Int.mul_assoc] at h
  exact Int.le_of_mul_le_mul_right h (by decide)
theorem drop_u' {x A T C : Int} (h : A * (T * 16777216) ≤ x * 16777216 * C) : A * T ≤ x * C := by
  rw [Int.mul_right_comm, ← Int.mul_assoc] at h
  exact Int.le_of_mul_le_mul_right h (by decide)
theorem point_plain {l : List (D × Int × Int)} {a v : D} (h : (hitR l a v).e = 0) (hs : (scaleD v (hitR l a v).l (hitR l a v).g).e = 0) (ha : (addD a (scaleD v (hitR l a v).l (hitR l a v).g).d).e = 0)
    {k : Nat} {y : D × Int × Int} (hk : (hitR l a v).f = (k : Int)) (hy : l[k]? = some y) (hd : (dotR y.1 (addD a (scaleD v (hitR l a v).l (hitR l a v).g).d).d).e = 0) :
    ((dotR y.1 (addD a (scaleD v (hitR l a v).l (hitR l a v).g).d).d).lo ≤ y.2.2 ∧ y.2.1 ≤ (dotR y.1 (addD a (scaleD v (hitR l a v).l (hitR l a v).g).d).d).hi) ∨ (hitR l a v).l = 0 := by
  obtain ⟨k', y', x, e1, e2, e3, e4, e5, e6, _⟩ := hit_way h
  obtain rfl : k' = k := by omega
  rw [hy] at e2
  cases e2
  rw [e5, e6] at hs ha hd ⊢
  obtain ⟨w1, w2, w3, w4, w5, w6, w7⟩ := way_pt e3 e4
  by_cases hl : x.l = 0
  · exact .inr hl
  left
  have w8 := w6 (by omega)
  obtain ⟨s1, s2, s3, s4⟩ := scale_v hs
  obtain ⟨a1, a2, _⟩ := addD_v ha
  have hn := (dot_v hd).1
  have hv : vD v = true := by
    unfold scaleD at hs
    split at hs
    · rename_i q; exact q.1
    · cases hs
  have V := In3.low hv
  have A := In3.low a2
  have hP : max 0 (y.2.1 * 16777216 - (y.1.a * a.a + y.1.c * a.c + y.1.e * a.e)) = y.2.1 * 16777216 - (y.1.a * a.a + y.1.c * a.c + y.1.e * a.e) := by omega
  rw [hP] at w4 w5
  obtain ⟨C, hC⟩ : ∃ C, y.1.a * v.a + y.1.c * v.c + y.1.e * v.e = C := ⟨_, rfl⟩
  obtain ⟨T, hT⟩ : ∃ T, y.2.1 * 16777216 - (y.1.a * a.a + y.1.c * a.c + y.1.e * a.e) = T := ⟨_, rfl⟩
  rw [hC] at w1 w4 w5
  rw [hT] at w4 w5
  have C0 : 0 ≤ C := by omega
  have m1 := mulQ s1 (A := v.a) (by have := V.x0; omega) (by have := V.x1; omega) C0 w4 w5
  have m2 := mulQ s2 (A := v.c) (by have := V.y0; omega) (by have := V.y1; omega) C0 w4 w5
  have m3 := mulQ s3 (A := v.e) (by have := V.z0; omega) (by have := V.z1; omega) C0 w4 w5
  have I : In3 (addD a (scaleD v x.l x.g).d).d (a.a * C + v.a * T) (a.c * C + v.c * T) (a.e * C + v.e * T) C := by
    rw [a1, s4]
    have b1 := Int.mul_le_mul_of_nonneg_right (show a.a ≤ a.b from by have := A.x1; omega) C0
    have b2 := Int.mul_le_mul_of_nonneg_right (show a.c ≤ a.d from by have := A.y1; omega) C0
    have b3 := Int.mul_le_mul_of_nonneg_right (show a.e ≤ a.f from by have := A.z1; omega) C0
    have r1 := drop_u m1.1
    have r2 := drop_u' m1.2
    have r3 := drop_u m2.1
    have r4 := drop_u' m2.2
    have r5 := drop_u m3.1
    have r6 := drop_u' m3.2
    constructor <;> (dsimp only; rw [Int.add_mul]; omega)
  have q := dotQ hd C0 (In3.low hn) I
  have e : y.1.a * (a.a * C + v.a * T) + y.1.c * (a.c * C + v.c * T) + y.1.e * (a.e * C + v.e * T) = y.2.1 * 16777216 * C := by
    have f1 : y.1.a * (a.a * C + v.a * T) = (y.1.a * a.a) * C + (y.1.a * v.a) * T := by rw [Int.mul_add, Int.mul_assoc, Int.mul_assoc]
    have f2 : y.1.c * (a.c * C + v.c * T) = (y.1.c * a.c) * C + (y.1.c * v.c) * T := by rw [Int.mul_add, Int.mul_assoc, Int.mul_assoc]
    have f3 : y.1.e * (a.e * C + v.e * T) = (y.1.e * a.e) * C + (y.1.e * v.e) * T := by rw [Int.mul_add, Int.mul_assoc, Int.mul_assoc]
    have f4 : y.2.1 * 16777216 * C = (y.1.a * a.a + y.1.c * a.c + y.1.e * a.e + T) * C := by
      rw [show y.1.a * a.a + y.1.c * a.c + y.1.e * a.e + T = y.2.1 * 16777216 from by omega]
    have f5 : (y.1.a * v.a + y.1.c * v.c + y.1.e * v.e) * T = C * T := by rw [hC]
    rw [f1, f2, f3, f4, Int.add_mul, Int.add_mul, Int.add_mul]
    rw [Int.add_mul, Int.add_mul] at f5
    rw [Int.mul_comm T C]
    omega
  rw [e] at q
  have q1 := Int.le_of_mul_le_mul_right q.1 w1
  have q2 := Int.le_of_mul_le_mul_right q.2 w1
  omega
/-- two bodies whose distances and points differ by the factor 2 -/
theorem scale_plain {L : List D} {M M' : List (Int × Int)} {a a' v : D} (hM : ∀ (j : Nat) p, M[j]? = some p → ∃ q, M'[j]? = some q ∧ q.1 = 2 * p.1) (hM' : ∀ (j : Nat) q, M'[j]? = some q → ∃ p, M[j]? = some p) (h1 : a'.a = 2 * a.a) (h2 : a'.c = 2 * a.c) (h3 : a'.e = 2 * a.e)
    (h : (hitR (L.zip M) a v).e = 0) (h' : (hitR (L.zip M') a' v).e = 0) :
    (hitR (L.zip M) a v).f = (hitR (L.zip M') a' v).f ∧ (hitR (L.zip M') a' v).l ≤ 2 * (hitR (L.zip M) a v).g ∧ 2 * (hitR (L.zip M) a v).l ≤ (hitR (L.zip M') a' v).g := by
  obtain ⟨k, y, x, e1, e2, e3, e4, e5, e6, e7, e8, e9, e10⟩ := hit_way h
  obtain ⟨k', y', x', f1, f2, f3, f4, f5, f6, f7, f8, f9, f10⟩ := hit_way h'
  rw [e5, e6, f5, f6, e1, f1]
  -- the same point of a face, for both bodies
  have twin : ∀ (n : D) (p q : Int), q = 2 * p → max 0 (q * 16777216 - (n.a * a'.a + n.c * a'.c + n.e * a'.e)) * 16777216 = 2 * (max 0 (p * 16777216 - (n.a * a.a + n.c * a.c + n.e * a.e)) * 16777216) := by
    intro n p q hq
    rw [h1, h2, h3, hq]
    have g1 : n.a * (2 * a.a) = 2 * (n.a * a.a) := by rw [Int.mul_left_comm]
    have g2 : n.c * (2 * a.c) = 2 * (n.c * a.c) := by rw [Int.mul_left_comm]
    have g3 : n.e * (2 * a.e) = 2 * (n.e * a.e) := by rw [Int.mul_left_comm]
    rw [g1, g2, g3]
    omega
  have z1 := List.getElem?_zip_eq_some.1 e2
  have z2 := List.getElem?_zip_eq_some.1 f2
  obtain ⟨q, hq, hq1⟩ := hM k _ z1.2
  obtain ⟨p, hp⟩ := hM' k' _ z2.2
  obtain ⟨p', hp', hp1⟩ := hM k' p hp
  rw [z2.2] at hp'
  cases hp'
  obtain ⟨w1, w2, w3, w4, w5, _⟩ := way_pt e3 e4
  obtain ⟨u1, u2, u3, u4, u5, _⟩ := way_pt f3 f4
  -- the face k for the doubled body, and k' for the body
  have hk2 : (L.zip M')[k]? = some (y.1, q) := List.getElem?_zip_eq_some.2 ⟨z1.1, hq⟩
  have hk1 : (L.zip M)[k']? = some (y'.1, p) := List.getElem?_zip_eq_some.2 ⟨z2.1, hp⟩
  have b1 := ways_in a' v (L.zip M') 0 f8 k _ hk2
  have b2 := ways_in a v (L.zip M) 0 e8 k' _ hk1
  rw [Nat.zero_add] at b1 b2
  have wayw : ∀ (i : Int) (n : D) (r s : Int × Int) (c d : D) (t : W4), (faceR i n r c v).w = some t → t.b = true → (faceR i n s d v).e = 0 → ∃ t', (faceR i n s d v).w = some t' ∧ t'.b = true := by
    intro i n r s c d t ht htb he
    obtain ⟨_, hc⟩ := faceR_w ht
    obtain ⟨hc1, hc2⟩ := hc htb
    have hch := (vB_iff.1 (dot_in hc1)).2.1
    unfold faceR at he ⊢
    rw [if_pos hc1] at he ⊢
    split at he
    · rename_i g1
      rw [if_pos g1]
      split at he
      · rename_i g2
        rw [if_pos g2]
        dsimp only
        unfold wayF
        rw [if_neg (by omega)]
        exact ⟨_, rfl, decide_eq_true hc2⟩
      · rename_i g2
        exact absurd he g2
    · rename_i g1
      exact absurd he g1
  obtain ⟨t1, ht1, hb1⟩ := wayw _ _ _ q _ a' _ e3 e4 b1.1
  obtain ⟨t2, ht2, hb2⟩ := wayw _ _ _ p _ a _ f3 f4 b2.1
  obtain ⟨r1, r2, r3, r4, r5, _⟩ := way_pt ht1 hb1
  obtain ⟨s1, s2, s3, s4, s5, _⟩ := way_pt ht2 hb2
  have hAB : k = k' → y.1 = y'.1 ∧ y.2 = p := by
    intro hkk
    subst hkk
    exact ⟨Option.some.inj (z1.1.symm.trans z2.1), Option.some.inj (z1.2.symm.trans hp)⟩
  rw [twin y.1 y.2.1 q.1 hq1] at r4 r5
  rw [twin y'.1 p.1 y'.2.1 hp1] at u4 u5
  have hA2 : k = k' → max 0 (y.2.1 * 16777216 - (y.1.a * a.a + y.1.c * a.c + y.1.e * a.e)) * 16777216 = max 0 (p.1 * 16777216 - (y'.1.a * a.a + y'.1.c * a.c + y'.1.e * a.e)) * 16777216 ∧ y.1.a * v.a + y.1.c * v.c + y.1.e * v.e = y'.1.a * v.a + y'.1.c * v.c + y'.1.e * v.e := by
    intro hkk
    obtain ⟨g1, g2⟩ := hAB hkk
    rw [g1, g2]
    exact ⟨rfl, rfl⟩
  clear hAB
  generalize max 0 (y.2.1 * 16777216 - (y.1.a * a.a + y.1.c * a.c + y.1.e * a.e)) * 16777216 = A at *
  generalize max 0 (p.1 * 16777216 - (y'.1.a * a.a + y'.1.c * a.c + y'.1.e * a.e)) * 16777216 = B at *
  generalize y.1.a * v.a + y.1.c * v.c + y.1.e * v.e = C at *
  generalize y'.1.a * v.a + y'.1.c * v.c + y'.1.e * v.e = D at *
  by_cases hkk : k = k'
  · subst hkk
    obtain ⟨e0, eC⟩ := hA2 rfl
    subst e0 eC
    refine ⟨rfl, ?_, ?_⟩
    · have k1 : x'.l * C ≤ (2 * x.g) * C := by rw [Int.mul_assoc]; omega
      exact Int.le_of_mul_le_mul_right k1 w1
    · have k1 : (2 * x.l) * C ≤ x'.g * C := by rw [Int.mul_assoc]; omega
      exact Int.le_of_mul_le_mul_right k1 w1
  · exfalso
    have g1 := e10 k' _ _ hk1 ht2 (fun e => hkk e.symm)
    have g2 := f10 k _ _ hk2 ht1 (fun e => hkk e)
    -- A D < B C and B C < A D
    have m1 := Int.mul_le_mul_of_nonneg_right w5 (Int.le_of_lt u1)
    have m2 := Int.mul_lt_mul_of_pos_right g1 (Int.mul_pos w1 u1)
    have m3 := Int.mul_le_mul_of_nonneg_right s4 (Int.le_of_lt w1)
    have m4 := Int.mul_le_mul_of_nonneg_right u5 (Int.le_of_lt w1)
    have m5 := Int.mul_lt_mul_of_pos_right g2 (Int.mul_pos w1 u1)
    have m6 := Int.mul_le_mul_of_nonneg_right r4 (Int.le_of_lt u1)
    have c1 : x.g * C * D = x.g * (C * D) := Int.mul_assoc _ _ _
    have c2 : t2.l * D * C = t2.l * (C * D) := by rw [Int.mul_assoc, Int.mul_comm D C]
    have c3 : x'.g * D * C = x'.g * (C * D) := by rw [Int.mul_assoc, Int.mul_comm D C]
    have c4 : t1.l * C * D = t1.l * (C * D) := Int.mul_assoc _ _ _
    rw [c1] at m1
    rw [c2] at m3
    rw [c3] at m4
    rw [c4] at m6
    rw [Int.mul_assoc] at m4 m6
    omega
end Go.Proofs.Ytedfciddfpcifaa.Iv
