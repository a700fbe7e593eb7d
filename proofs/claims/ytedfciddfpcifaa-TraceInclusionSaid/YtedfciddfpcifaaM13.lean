/- Texts DsM, Dra, Drc. -/
import Derived.Test.YtedfciddfpcifaaM12
import Derived.Test.YtedfciddfpcifaaM06
import Derived.Test.YtedfciddfpcifaaM11

/- Plain facts: with the ratio 1, the box of the refracted ray contains that of the ray, and the cosines meet. -/
namespace Go.Proofs.Ytedfciddfpcifaa.Iv

theorem mul_one_r {a b : Int} (h : vB a b = true) : mulR a b 16777216 16777216 = ⟨a, b, 0⟩ := by
  have v := vB_iff.1 h
  rw [mulR, if_pos ⟨h, by decide⟩]
  have e1 : fl (min4 (a * 16777216) (a * 16777216) (b * 16777216) (b * 16777216)) = a := by unfold fl min4; omega
  have e2 : ce (max4 (a * 16777216) (a * 16777216) (b * 16777216) (b * 16777216)) = b := by unfold ce max4; omega
  rw [e1, e2, within_yes v.1 v.2.2]
theorem mul_one_l {a b : Int} (h : vB a b = true) : mulR 16777216 16777216 a b = ⟨a, b, 0⟩ := by
  have v := vB_iff.1 h
  rw [mulR, if_pos ⟨by decide, h⟩]
  have e1 : fl (min4 (16777216 * a) (16777216 * b) (16777216 * a) (16777216 * b)) = a := by unfold fl min4; omega
  have e2 : ce (max4 (16777216 * a) (16777216 * b) (16777216 * a) (16777216 * b)) = b := by unfold ce max4; omega
  rw [e1, e2, within_yes v.1 v.2.2]
theorem goOn0 (r : R) : goOn 0 r = r := if_pos rfl
theorem goOnD0 (r : RD) : goOnD 0 r = r := if_pos rfl
theorem goOn_e {e : Int} {r : R} (h : (goOn e r).e = 0) : e = 0 := by
  by_cases c : e = 0
  · exact c
  · rw [goOn, if_neg c] at h; exact absurd h c
theorem goOnD_e {e : Int} {r : RD} (h : (goOnD e r).e = 0) : e = 0 := by
  by_cases c : e = 0
  · exact c
  · rw [goOnD, if_neg c] at h; exact absurd h c
theorem sub_v {a b c d : Int} (h : (subR a b c d).e = 0) : subR a b c d = ⟨a - d, b - c, 0⟩ ∧ vB a b = true ∧ vB c d = true ∧ -1073741824 ≤ a - d ∧ b - c ≤ 1073741824 := by
  rw [subR] at h ⊢
  split at h
  · rename_i v
    rw [if_pos v]
    by_cases c' : a - d < -1073741824 ∨ 1073741824 < b - c
    · rw [within_no c'] at h; exact absurd h (by decide)
    · exact ⟨within_yes (by omega) (by omega), v.1, v.2, by omega, by omega⟩
  · exact absurd h (by decide)
theorem add_v {a b c d : Int} (h : (addR a b c d).e = 0) : addR a b c d = ⟨a + c, b + d, 0⟩ ∧ vB a b = true ∧ vB c d = true ∧ -1073741824 ≤ a + c ∧ b + d ≤ 1073741824 := by
  rw [addR] at h ⊢
  split at h
  · rename_i v
    rw [if_pos v]
    by_cases c' : a + c < -1073741824 ∨ 1073741824 < b + d
    · rw [within_no c'] at h; exact absurd h (by decide)
    · exact ⟨within_yes (by omega) (by omega), v.1, v.2, by omega, by omega⟩
  · exact absurd h (by decide)
theorem one_sub_v {c d : Int} (h : (subR 16777216 16777216 c d).e = 0) : vB (16777216 - d) (16777216 - c) = true := by
  obtain ⟨_, _, k, l, m⟩ := sub_v h
  have := vB_iff.1 k
  exact vB_iff.2 ⟨l, by omega, m⟩
/-- with the ratio 1 the radicand is the square -/
theorem rad_one {a b : Int} (h : (radR a b 16777216 16777216).e = 0) : ∃ l k, sqR a b = ⟨l, k, 0⟩ ∧ radR a b 16777216 16777216 = ⟨l, k, 0⟩ ∧ vB a b = true ∧ vB l k = true := by
  by_cases v : vB a b = true ∧ vB 16777216 16777216 = true
  case neg => rw [radR, if_neg v] at h; exact absurd h (by decide)
  rw [radR, if_pos v] at h ⊢
  unfold radG at h ⊢
  rw [show sqR 16777216 16777216 = ⟨16777216, 16777216, 0⟩ from by rfl, goOn0] at h ⊢
  dsimp only at h ⊢
  simp only [goOn0] at h ⊢
  obtain ⟨⟨l, k, e⟩, hs⟩ : ∃ r : R, sqR a b = r := ⟨_, rfl⟩
  rw [hs] at h ⊢
  dsimp only at h ⊢
  have h3 := goOn_e h
  have h2 := goOn_e h3
  have h1 := goOn_e h2
  subst h1
  simp only [goOn0] at h h2 h3 ⊢
  have vl := one_sub_v h2
  obtain ⟨e2, _, vk, _, _⟩ := sub_v h2
  rw [e2] at h h3 ⊢
  dsimp only at h h3 ⊢
  simp only [goOn0] at h h3 ⊢
  rw [mul_one_l vl] at h ⊢
  dsimp only at h ⊢
  simp only [goOn0] at h ⊢
  obtain ⟨e4, _, _, _, _⟩ := sub_v h
  rw [e4]
  refine ⟨l, k, rfl, ?_, v.1, vk⟩
  congr 1 <;> omega
theorem isq_le_of {n a : Int} (ha : 0 ≤ a) (h : n ≤ a * a) : isq n ≤ a := by
  have := isq_mono h
  rw [isq_eq ha (Int.le_refl _) (by rw [Int.add_mul, Int.mul_add]; omega)] at this
  exact this
theorem le_rup {n b : Int} (hn : 0 ≤ n) (h : b * b ≤ n * 16777216) : b ≤ rup n := by
  have i := rup_sq hn
  have z : 0 ≤ rup n := by
    have := isq_nonneg (n * 16777216)
    unfold rup; split <;> omega
  rcases (show b ≤ rup n ∨ rup n + 1 ≤ b from by omega) with g | g
  · exact g
  · have := sq_mono (show 0 ≤ rup n + 1 by omega) g
    rw [Int.add_mul, Int.mul_add] at this
    omega
/-- the root of the square meets the number -/
theorem after_meet {a b l k : Int} (v : vB a b = true) (hs : sqR a b = ⟨l, k, 0⟩) (hl : ¬ l < 0) (hg : ¬ sgn a b = 0) (vk : vB l k = true) :
    ∃ u w, afterR a b l k = ⟨u, w, 0⟩ ∧ u ≤ b ∧ a ≤ w ∧ u ≤ w := by
  have va := vB_iff.1 v
  have vl := vB_iff.1 vk
  have sa := sq_ok hs (Int.le_refl a) va.2.1
  have sb := sq_ok hs va.2.1 (Int.le_refl b)
  have hq : sqrtR l k = ⟨isq (l * 16777216), rup k, 0⟩ := by rw [sqrtR, if_pos vk, if_neg hl]
  have hiq := isq_nonneg (l * 16777216)
  have hir : isq (l * 16777216) ≤ rup k := by
    have := isq_mono (show l * 16777216 ≤ k * 16777216 by omega)
    unfold rup; split <;> omega
  rw [show sgn a b = (if 0 < a then 1 else if b < 0 then -1 else 0) from if_pos v] at hg
  by_cases h0 : 0 < a
  · have hn : ¬ sgn a b < 0 := by rw [show sgn a b = (if 0 < a then 1 else if b < 0 then -1 else 0) from if_pos v, if_pos h0]; decide
    rw [afterR, if_neg hn, hq]
    have h1 := isq_le_of (show 0 ≤ a by omega) sa.1
    have h2 := le_rup (show 0 ≤ k by omega) sb.2.1
    exact ⟨_, _, rfl, by omega, by omega, by omega⟩
  · by_cases h1 : b < 0
    · have hn : sgn a b < 0 := by rw [show sgn a b = (if 0 < a then 1 else if b < 0 then -1 else 0) from if_pos v, if_neg h0, if_pos h1]; decide
      rw [afterR, if_pos hn, hq]
      have e1 : -b * -b = b * b := Int.neg_mul_neg b b
      have e2 : -a * -a = a * a := Int.neg_mul_neg a a
      have h1 := isq_le_of (show 0 ≤ -b by omega) (by rw [e1]; exact sb.1)
      have h2 := le_rup (b := -a) (n := k) (show 0 ≤ k by omega) (by rw [e2]; exact sa.2.1)
      have hv : vB (isq (l * 16777216)) (rup k) = true := by
        refine vB_iff.2 ⟨by omega, hir, ?_⟩
        have hi := isq_mono (show k * 16777216 ≤ 18014398509481984 by omega)
        have he : isq 18014398509481984 = 134217728 := isq_eq (by decide) (by decide) (by decide)
        rw [he] at hi
        unfold rup
        split <;> omega
      dsimp only
      rw [negR, if_pos hv]
      exact ⟨_, _, rfl, by omega, by omega, by omega⟩
    · rw [if_neg h0, if_neg h1] at hg; exact absurd rfl hg
theorem comb_v {r s t : R} (h : (comb r s t).e = 0) : r.e = 0 ∧ s.e = 0 ∧ t.e = 0 ∧ comb r s t = ⟨⟨r.lo, r.hi, s.lo, s.hi, t.lo, t.hi⟩, 0⟩ := by
  unfold comb at h ⊢
  by_cases h1 : r.e = 0
  · rw [if_pos h1] at h ⊢
    by_cases h2 : s.e = 0
    · rw [if_pos h2] at h ⊢
      by_cases h3 : t.e = 0
      · rw [if_pos h3]; exact ⟨h1, h2, h3, rfl⟩
      · rw [if_neg h3] at h; exact absurd h h3
    · rw [if_neg h2] at h; exact absurd h h2
  · rw [if_neg h1] at h; exact absurd h h1
theorem mul_zero_in {a b c d : Int} (h : (mulR a b c d).e = 0) (h1 : c ≤ 0) (h2 : 0 ≤ d) : (mulR a b c d).lo ≤ 0 ∧ 0 ≤ (mulR a b c d).hi := by
  obtain ⟨⟨l, k, e⟩, hm⟩ : ∃ r : R, mulR a b c d = r := ⟨_, rfl⟩
  rw [hm] at h ⊢
  dsimp only at h ⊢
  subst h
  have va : a ≤ b := by
    by_cases v : vB a b = true ∧ vB c d = true
    · exact (vB_iff.1 v.1).2.1
    · rw [mulR, if_neg v] at hm; injection hm with _ _ hm; exact absurd hm (by decide)
  have m := mul_ok hm (Int.le_refl a) va h1 h2
  rw [Int.mul_zero] at m
  omega
def insD (s t : D) : Bool := insB s.a s.b t.a t.b && (insB s.c s.d t.c t.d && insB s.e s.f t.e t.f)
def metB (a b c d : Int) : Bool := decide (a ≤ d) && decide (c ≤ b)
theorem ins_add {a b c d : Int} (h : (addR a b c d).e = 0) (h1 : c ≤ 0) (h2 : 0 ≤ d) : insB a b (addR a b c d).lo (addR a b c d).hi = true := by
  obtain ⟨e, v, _, l, m⟩ := add_v h
  rw [e]
  have := vB_iff.1 v
  simp only [insB, decide_eq_true_eq]
  exact ⟨v, vB_iff.2 ⟨l, by omega, m⟩, by omega, by omega⟩
theorem straight {s t d : D} {p q u v : Int} (h : refrR s t 16777216 16777216 = ⟨d, p, q, u, v, 0⟩) : insD s d = true ∧ metB p q u v = true := by
  rw [refrR] at h
  split at h
  case isFalse => injection h with _ _ _ _ _ h; exact absurd h (by decide)
  rename_i hv
  have hv' : vD s = true ∧ vD t = true := by simpa using hv.1
  split at h
  case isFalse hd => injection h with _ _ _ _ _ h; exact absurd h hd
  rename_i hd
  split at h
  case isTrue => injection h with _ _ _ _ _ h; exact absurd h (by decide)
  rename_i hg
  split at h
  case isFalse hr => injection h with _ _ _ _ _ h; exact absurd h hr
  rename_i hr
  split at h
  case isTrue => injection h with _ _ _ _ _ h; exact absurd h (by decide)
  rename_i hl
  obtain ⟨⟨a, b, e0⟩, hdot⟩ : ∃ r : R, dotR s t = r := ⟨_, rfl⟩
  rw [hdot] at h hd hg hr hl
  dsimp only at h hd hg hr hl
  obtain ⟨l, k, hs, hrad, vab, vlk⟩ := rad_one hr
  rw [hrad] at h hl
  dsimp only at h hl
  obtain ⟨u', v', ha, m1, m2, m3⟩ := after_meet vab hs hl hg vlk
  rw [ha] at h
  dsimp only at h
  unfold tailF at h
  simp only [goOnD0] at h
  split at h
  case isFalse ho => injection h with _ _ _ _ _ h; exact absurd h ho
  rename_i ho
  injection h with hd' hp hq hu hv2 _
  subst hp hq hu hv2
  refine ⟨?_, by simp [metB]; omega⟩
  have o2 := goOnD_e ho
  have n2 := goOnD_e o2
  have n1 := goOn_e n2
  have t1 := goOn_e n1
  have hsv : vB s.a s.b = true ∧ vB s.c s.d = true ∧ vB s.e s.f = true := by simpa [vD] using hv'.1
  have ht1 : scaleD s 16777216 16777216 = ⟨s, 0⟩ := by
    rw [scaleD, if_pos ⟨hv'.1, by decide⟩, mul_one_r hsv.1, mul_one_r hsv.2.1, mul_one_r hsv.2.2]; rfl
  rw [ht1, mul_one_l vab] at hd' ho o2 n2
  dsimp only at hd' ho o2 n2
  simp only [goOn0] at hd' ho o2 n2
  obtain ⟨es, _, _, _, _⟩ := sub_v n2
  rw [es] at hd' ho o2
  dsimp only at hd' ho o2
  simp only [goOnD0] at hd' ho o2
  by_cases vt : vD t = true ∧ vB (u' - b) (v' - a) = true
  case neg => rw [scaleD, if_neg vt] at o2; exact absurd o2 (by decide)
  rw [scaleD, if_pos vt] at hd' ho o2
  obtain ⟨c1, c2, c3, cc⟩ := comb_v o2
  rw [cc] at hd' ho
  dsimp only at hd' ho
  simp only [goOnD0] at hd' ho
  rw [addD] at hd' ho
  split at ho
  case isFalse => exact absurd ho (by decide)
  rename_i w
  rw [if_pos w] at hd'
  obtain ⟨f1, f2, f3, ff⟩ := comb_v ho
  rw [ff] at hd'
  dsimp only at hd'
  subst hd'
  have z1 := mul_zero_in c1 (by omega) (by omega)
  have z2 := mul_zero_in c2 (by omega) (by omega)
  have z3 := mul_zero_in c3 (by omega) (by omega)
  simp only [insD, Bool.and_eq_true]
  exact ⟨ins_add f1 z1.1 z1.2, ins_add f2 z2.1 z2.2, ins_add f3 z3.1 z3.2⟩
end Go.Proofs.Ytedfciddfpcifaa.Iv

/- Contract of package refraction's Refract: refract's results, or nothing but the error. -/
namespace Go.Proofs.Ytedfciddfpcifaa.Iv
open Go.RowKit

set_option maxRecDepth 100000 in
set_option maxHeartbeats 4000000 in
theorem refr_any (s t : D) (a b : Int) (w : World) :
    Calls Try.prog 61 #[dv s, dv t, iv a b] w fun e w' => e = retF (refrR s t a b) ∧ Below w.heap.size w w' := by
  have I0 : F6 w ((((((w.alloc (.cells #[.int .i64 s.a, .int .i64 s.b, .int .i64 s.c, .int .i64 s.d, .int .i64 s.e, .int .i64 s.f] 26)).alloc (.cells #[.int .i64 t.a, .int .i64 t.b, .int .i64 t.c, .int .i64 t.d, .int .i64 t.e, .int .i64 t.f] 26)).alloc (.cells #[.int .i64 a, .int .i64 b] 24)).alloc (.cells #[.int .i64 0, .int .i64 0, .int .i64 0, .int .i64 0, .int .i64 0, .int .i64 0] 26)).alloc (.cells #[.int .i64 0, .int .i64 0] 24)).alloc (.cells #[.int .i64 0, .int .i64 0] 24)) w.heap.size s t a b 0 0 0 0 0 0 0 0 0 0 := by
    refine ⟨by simp [go_sem], by simp [go_sem], by simp [go_sem], by simp [go_sem], by simp [go_sem], by simp [go_sem], by simp [go_sem], by simp [go_sem], by simp [go_sem], by simp [go_sem], by simp [go_sem], by simp [go_sem], by simp [go_sem], by simp [go_sem], by simp [go_sem], by simp [go_sem], by simp [go_sem], by simp [go_sem], by simp [go_sem], by simp [go_sem], by simp [go_sem], by simp [go_sem], by simp [go_sem], by simp [go_sem], by simp [go_sem], by simp [go_sem], by simp [go_sem], by simp [go_sem], by simp [go_sem], by simp [go_sem], by simp [go_sem], by simp [go_sem], by simp [go_sem], by simp [go_sem], by simp, ?_⟩
    · repeat (first | exact Below.refl _ _ | refine Below.alloc ?_ (by first | omega | (simp <;> omega)) _)
  go_enter Try.func61, Try.ntmps61
  go_wp2_with fail
  refine (refract_any s t a b _).mono ?_
  rintro e w1 ⟨⟨⟨⟨d0, d1, d2, d3, d4, d5⟩, p, q, u, v, ee⟩, rfl, HR⟩, hb⟩
  have I1 := I0.call hb
  clear hb
  have HQ := Lib.hid HR
  clear HR
  unfold retF
  dsimp only
  have r0_0_1 := I1.r0_0
  have r0_1_1 := I1.r0_1
  have r0_2_1 := I1.r0_2
  have r0_3_1 := I1.r0_3
  have r0_4_1 := I1.r0_4
  have r0_5_1 := I1.r0_5
  have r1_0_1 := I1.r1_0
  have r1_1_1 := I1.r1_1
  have r1_2_1 := I1.r1_2
  have r1_3_1 := I1.r1_3
  have r1_4_1 := I1.r1_4
  have r1_5_1 := I1.r1_5
  have r2_0_1 := I1.r2_0
  have r2_1_1 := I1.r2_1
  have v3_0_1 := I1.v3_0
  have f3_0_1 := I1.f3_0
  have v3_1_1 := I1.v3_1
  have f3_1_1 := I1.f3_1
  have v3_2_1 := I1.v3_2
  have f3_2_1 := I1.f3_2
  have v3_3_1 := I1.v3_3
  have f3_3_1 := I1.f3_3
  have v3_4_1 := I1.v3_4
  have f3_4_1 := I1.f3_4
  have v3_5_1 := I1.v3_5
  have f3_5_1 := I1.f3_5
  have v4_0_1 := I1.v4_0
  have f4_0_1 := I1.f4_0
  have v4_1_1 := I1.v4_1
  have f4_1_1 := I1.f4_1
  have v5_0_1 := I1.v5_0
  have f5_0_1 := I1.f5_0
  have v5_1_1 := I1.v5_1
  have f5_1_1 := I1.f5_1
  have sz_1 := I1.size
  by_cases hE : ee = 0
  · subst hE
    go_wp2_with fail
    go_region_held3 (fun w' => w'.cell? ⟨w.heap.size + 1 + 1 + 1, 0, none⟩ = some (.int .i64 d0) ∧ w'.cell? ⟨w.heap.size + 1 + 1 + 1, 1, none⟩ = some (.int .i64 d1) ∧ w'.cell? ⟨w.heap.size + 1 + 1 + 1, 2, none⟩ = some (.int .i64 d2) ∧ w'.cell? ⟨w.heap.size + 1 + 1 + 1, 3, none⟩ = some (.int .i64 d3) ∧ w'.cell? ⟨w.heap.size + 1 + 1 + 1, 4, none⟩ = some (.int .i64 d4) ∧ w'.cell? ⟨w.heap.size + 1 + 1 + 1, 5, none⟩ = some (.int .i64 d5) ∧ w'.cell? ⟨w.heap.size + 1 + 1 + 1 + 1, 0, none⟩ = some (.int .i64 p) ∧ w'.cell? ⟨w.heap.size + 1 + 1 + 1 + 1, 1, none⟩ = some (.int .i64 q) ∧ w'.cell? ⟨w.heap.size + 1 + 1 + 1 + 1 + 1, 0, none⟩ = some (.int .i64 u) ∧ w'.cell? ⟨w.heap.size + 1 + 1 + 1 + 1 + 1, 1, none⟩ = some (.int .i64 v)) (with_reducible first | exact (((I1.set3 d0 d1 d2 d3 d4 d5).set4 p q).set5 u v).drew.res | exact ((((I1.set3 d0 d1 d2 d3 d4 d5).set4 p q).set5 u v).set3 (d0) (d1) (d2) (d3) (d4) (d5)).drew.res | exact (((((I1.set3 d0 d1 d2 d3 d4 d5).set4 p q).set5 u v).set3 (d0) (d1) (d2) (d3) (d4) (d5)).set4 (p) (q)).drew.res | exact ((((((I1.set3 d0 d1 d2 d3 d4 d5).set4 p q).set5 u v).set3 (d0) (d1) (d2) (d3) (d4) (d5)).set4 (p) (q)).set5 (u) (v)).drew.res)
      (fail)
    all_goals go_wp2_with fail
    have K := ((((((I1.set3 d0 d1 d2 d3 d4 d5).set4 p q).set5 u v).set3 d0 d1 d2 d3 d4 d5).set4 p q).set5 u v).drew.res
    have KB := ((((((I1.set3 d0 d1 d2 d3 d4 d5).set4 p q).set5 u v).set3 d0 d1 d2 d3 d4 d5).set4 p q).set5 u v).drew.below
    revert K KB
    generalize ((((((((((((((((((((w1.setCell ⟨w.heap.size + 1 + 1 + 1, 0, none⟩ (.int .i64 d0)).setCell ⟨w.heap.size + 1 + 1 + 1, 1, none⟩ (.int .i64 d1)).setCell ⟨w.heap.size + 1 + 1 + 1, 2, none⟩ (.int .i64 d2)).setCell ⟨w.heap.size + 1 + 1 + 1, 3, none⟩ (.int .i64 d3)).setCell ⟨w.heap.size + 1 + 1 + 1, 4, none⟩ (.int .i64 d4)).setCell ⟨w.heap.size + 1 + 1 + 1, 5, none⟩ (.int .i64 d5)).setCell ⟨w.heap.size + 1 + 1 + 1 + 1, 0, none⟩ (.int .i64 p)).setCell ⟨w.heap.size + 1 + 1 + 1 + 1, 1, none⟩ (.int .i64 q)).setCell ⟨w.heap.size + 1 + 1 + 1 + 1 + 1, 0, none⟩ (.int .i64 u)).setCell ⟨w.heap.size + 1 + 1 + 1 + 1 + 1, 1, none⟩ (.int .i64 v)).setCell ⟨w.heap.size + 1 + 1 + 1, 0, none⟩ (.int .i64 d0)).setCell ⟨w.heap.size + 1 + 1 + 1, 1, none⟩ (.int .i64 d1)).setCell ⟨w.heap.size + 1 + 1 + 1, 2, none⟩ (.int .i64 d2)).setCell ⟨w.heap.size + 1 + 1 + 1, 3, none⟩ (.int .i64 d3)).setCell ⟨w.heap.size + 1 + 1 + 1, 4, none⟩ (.int .i64 d4)).setCell ⟨w.heap.size + 1 + 1 + 1, 5, none⟩ (.int .i64 d5)).setCell ⟨w.heap.size + 1 + 1 + 1 + 1, 0, none⟩ (.int .i64 p)).setCell ⟨w.heap.size + 1 + 1 + 1 + 1, 1, none⟩ (.int .i64 q)).setCell ⟨w.heap.size + 1 + 1 + 1 + 1 + 1, 0, none⟩ (.int .i64 u)).setCell ⟨w.heap.size + 1 + 1 + 1 + 1 + 1, 1, none⟩ (.int .i64 v)).drew = X
    intro K KB
    obtain ⟨kk0, kk1, kk2, kk3, kk4, kk5, kk6, kk7, kk8, kk9⟩ := K
    exact bodyPost_ret (v := .tuple #[dv ⟨d0, d1, d2, d3, d4, d5⟩, iv p q, iv u v, .int .i64 0]) (by simp [results, Try.results61, go_sem, kk0, kk1, kk2, kk3, kk4, kk5, kk6, kk7, kk8, kk9]) rfl ⟨by rw [← HQ.out]; rfl, KB⟩
  · have hE' : (ee == 0) = false := by simpa using hE
    go_wp2_with fail
    have K := ((((((I1.set3 d0 d1 d2 d3 d4 d5).set4 p q).set5 u v).set3 0 0 0 0 0 0).set4 0 0).set5 0 0).res
    have KB := ((((((I1.set3 d0 d1 d2 d3 d4 d5).set4 p q).set5 u v).set3 0 0 0 0 0 0).set4 0 0).set5 0 0).below
    revert K KB
    generalize ((((((((((((((((((((w1.setCell ⟨w.heap.size + 1 + 1 + 1, 0, none⟩ (.int .i64 d0)).setCell ⟨w.heap.size + 1 + 1 + 1, 1, none⟩ (.int .i64 d1)).setCell ⟨w.heap.size + 1 + 1 + 1, 2, none⟩ (.int .i64 d2)).setCell ⟨w.heap.size + 1 + 1 + 1, 3, none⟩ (.int .i64 d3)).setCell ⟨w.heap.size + 1 + 1 + 1, 4, none⟩ (.int .i64 d4)).setCell ⟨w.heap.size + 1 + 1 + 1, 5, none⟩ (.int .i64 d5)).setCell ⟨w.heap.size + 1 + 1 + 1 + 1, 0, none⟩ (.int .i64 p)).setCell ⟨w.heap.size + 1 + 1 + 1 + 1, 1, none⟩ (.int .i64 q)).setCell ⟨w.heap.size + 1 + 1 + 1 + 1 + 1, 0, none⟩ (.int .i64 u)).setCell ⟨w.heap.size + 1 + 1 + 1 + 1 + 1, 1, none⟩ (.int .i64 v)).setCell ⟨w.heap.size + 1 + 1 + 1, 0, none⟩ (.int .i64 0)).setCell ⟨w.heap.size + 1 + 1 + 1, 1, none⟩ (.int .i64 0)).setCell ⟨w.heap.size + 1 + 1 + 1, 2, none⟩ (.int .i64 0)).setCell ⟨w.heap.size + 1 + 1 + 1, 3, none⟩ (.int .i64 0)).setCell ⟨w.heap.size + 1 + 1 + 1, 4, none⟩ (.int .i64 0)).setCell ⟨w.heap.size + 1 + 1 + 1, 5, none⟩ (.int .i64 0)).setCell ⟨w.heap.size + 1 + 1 + 1 + 1, 0, none⟩ (.int .i64 0)).setCell ⟨w.heap.size + 1 + 1 + 1 + 1, 1, none⟩ (.int .i64 0)).setCell ⟨w.heap.size + 1 + 1 + 1 + 1 + 1, 0, none⟩ (.int .i64 0)).setCell ⟨w.heap.size + 1 + 1 + 1 + 1 + 1, 1, none⟩ (.int .i64 0)) = X
    intro K KB
    obtain ⟨kk0, kk1, kk2, kk3, kk4, kk5, kk6, kk7, kk8, kk9⟩ := K
    exact bodyPost_ret (v := .tuple #[dv ⟨0, 0, 0, 0, 0, 0⟩, iv 0 0, iv 0 0, .int .i64 ee]) (by simp [results, Try.results61, go_sem, kk0, kk1, kk2, kk3, kk4, kk5, kk6, kk7, kk8, kk9]) rfl ⟨by rw [← HQ.out, show cleanF ⟨⟨d0, d1, d2, d3, d4, d5⟩, p, q, u, v, ee⟩ = failF ee from if_neg hE]; rfl, KB⟩
end Go.Proofs.Ytedfciddfpcifaa.Iv

/- The example's numbers. -/
namespace Go.Proofs.Ytedfciddfpcifaa.Iv
theorem isq_b : isq (16777216 * 16777216) = 16777216 := isq_eq (by decide) (by decide) (by decide)
theorem sqrt_b : sqrtR 16777216 16777216 = ⟨16777216, 16777216, 0⟩ := by
  rw [show sqrtR 16777216 16777216 = ⟨isq (16777216 * 16777216), rup 16777216, 0⟩ from by unfold sqrtR; rw [if_pos (by decide), if_neg (by decide)], isq_b]
  unfold rup
  rw [isq_b, if_pos (by decide)]
abbrev upD : D := ⟨0, 0, 0, 0, 16777216, 16777216⟩
theorem dot_up : dotR upD upD = ⟨16777216, 16777216, 0⟩ := by rfl
theorem rad_up : radR 16777216 16777216 33554432 33554432 = ⟨16777216, 16777216, 0⟩ := by rfl
theorem hits_up : hitsR upD upD 33554432 33554432 = ⟨2, 0⟩ := by rfl
theorem tail_up : tailF upD upD 33554432 33554432 16777216 16777216 16777216 16777216 = ⟨upD, 16777216, 16777216, 16777216, 16777216, 0⟩ := by rfl
theorem refr_up : refrR upD upD 33554432 33554432 = ⟨upD, 16777216, 16777216, 16777216, 16777216, 0⟩ := by
  have ha : afterR 16777216 16777216 16777216 16777216 = ⟨16777216, 16777216, 0⟩ := by
    unfold afterR
    rw [if_neg (by decide), sqrt_b]
  rw [show refrR upD upD 33554432 33554432 = _ from if_pos (by decide), dot_up]
  dsimp only
  rw [rad_up, if_pos rfl, if_neg (by decide)]
  dsimp only
  rw [if_pos rfl, if_neg (by decide), ha]
  exact tail_up
end Go.Proofs.Ytedfciddfpcifaa.Iv
