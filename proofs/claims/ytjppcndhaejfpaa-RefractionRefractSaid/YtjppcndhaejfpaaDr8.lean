/- Contract of package refraction's Hits. -/
import Derived.Test.YtjppcndhaejfpaaDr7
namespace Go.Proofs.Ytjppcndhaejfpaa.Iv
open Go.RowKit

structure H3 (w0 W : World) (n : Nat) (s t : D) (a b : Int) : Prop where
  r0_0 : W.cell? ⟨n, 0, none⟩ = some (.int .i64 s.a)
  r0_1 : W.cell? ⟨n, 1, none⟩ = some (.int .i64 s.b)
  r0_2 : W.cell? ⟨n, 2, none⟩ = some (.int .i64 s.c)
  r0_3 : W.cell? ⟨n, 3, none⟩ = some (.int .i64 s.d)
  r0_4 : W.cell? ⟨n, 4, none⟩ = some (.int .i64 s.e)
  r0_5 : W.cell? ⟨n, 5, none⟩ = some (.int .i64 s.f)
  r1_0 : W.cell? ⟨n + 1, 0, none⟩ = some (.int .i64 t.a)
  r1_1 : W.cell? ⟨n + 1, 1, none⟩ = some (.int .i64 t.b)
  r1_2 : W.cell? ⟨n + 1, 2, none⟩ = some (.int .i64 t.c)
  r1_3 : W.cell? ⟨n + 1, 3, none⟩ = some (.int .i64 t.d)
  r1_4 : W.cell? ⟨n + 1, 4, none⟩ = some (.int .i64 t.e)
  r1_5 : W.cell? ⟨n + 1, 5, none⟩ = some (.int .i64 t.f)
  r2_0 : W.cell? ⟨n + 1 + 1, 0, none⟩ = some (.int .i64 a)
  r2_1 : W.cell? ⟨n + 1 + 1, 1, none⟩ = some (.int .i64 b)
  size : n + 1 + 1 < W.heap.size
  below : Below n w0 W
theorem H3.drew {w0 W : World} {n : Nat} {s t : D} {a b : Int} (h : H3 w0 W n s t a b) : H3 w0 W.drew n s t a b :=
  ⟨h.r0_0, h.r0_1, h.r0_2, h.r0_3, h.r0_4, h.r0_5, h.r1_0, h.r1_1, h.r1_2, h.r1_3, h.r1_4, h.r1_5, h.r2_0, h.r2_1, h.size, h.below.drew⟩
theorem H3.call {w0 W : World} {n : Nat} {s t : D} {a b : Int} {W' : World} (h : H3 w0 W n s t a b) (hb : Below W.heap.size W W') : H3 w0 W' n s t a b := by
  have z := h.size
  have z' := hb.size
  have hc : ∀ b o, b < W.heap.size → W'.cell? ⟨b, o, none⟩ = W.cell? ⟨b, o, none⟩ := fun b o h => hb.cell (p := ⟨b, o, none⟩) h
  have hf : ∀ b o, b < W.heap.size → W'.frozen? ⟨b, o, none⟩ = W.frozen? ⟨b, o, none⟩ := fun b o h => hb.frozen (p := ⟨b, o, none⟩) h
  have l0 : n < W.heap.size := by omega
  have l1 : n + 1 < W.heap.size := by omega
  have l2 : n + 1 + 1 < W.heap.size := by omega
  exact ⟨(hc _ _ l0).trans h.r0_0, (hc _ _ l0).trans h.r0_1, (hc _ _ l0).trans h.r0_2, (hc _ _ l0).trans h.r0_3, (hc _ _ l0).trans h.r0_4, (hc _ _ l0).trans h.r0_5, (hc _ _ l1).trans h.r1_0, (hc _ _ l1).trans h.r1_1, (hc _ _ l1).trans h.r1_2, (hc _ _ l1).trans h.r1_3, (hc _ _ l1).trans h.r1_4, (hc _ _ l1).trans h.r1_5, (hc _ _ l2).trans h.r2_0, (hc _ _ l2).trans h.r2_1, by omega, h.below.trans (hb.mono (by omega))⟩
theorem H3.all {w0 W : World} {n : Nat} {s t : D} {a b : Int} (h : H3 w0 W n s t a b) : W.cell? ⟨n, 0, none⟩ = some (.int .i64 s.a) ∧ W.cell? ⟨n, 1, none⟩ = some (.int .i64 s.b) ∧ W.cell? ⟨n, 2, none⟩ = some (.int .i64 s.c) ∧ W.cell? ⟨n, 3, none⟩ = some (.int .i64 s.d) ∧ W.cell? ⟨n, 4, none⟩ = some (.int .i64 s.e) ∧ W.cell? ⟨n, 5, none⟩ = some (.int .i64 s.f) ∧ W.cell? ⟨n + 1, 0, none⟩ = some (.int .i64 t.a) ∧ W.cell? ⟨n + 1, 1, none⟩ = some (.int .i64 t.b) ∧ W.cell? ⟨n + 1, 2, none⟩ = some (.int .i64 t.c) ∧ W.cell? ⟨n + 1, 3, none⟩ = some (.int .i64 t.d) ∧ W.cell? ⟨n + 1, 4, none⟩ = some (.int .i64 t.e) ∧ W.cell? ⟨n + 1, 5, none⟩ = some (.int .i64 t.f) ∧ W.cell? ⟨n + 1 + 1, 0, none⟩ = some (.int .i64 a) ∧ W.cell? ⟨n + 1 + 1, 1, none⟩ = some (.int .i64 b) :=
  ⟨h.r0_0, h.r0_1, h.r0_2, h.r0_3, h.r0_4, h.r0_5, h.r1_0, h.r1_1, h.r1_2, h.r1_3, h.r1_4, h.r1_5, h.r2_0, h.r2_1⟩
structure RI where
  k : Int
  e : Int
/-- what happens to a ray at a facet -/
def hitsR (s t : D) (a b : Int) : RI := if (vD s && vD t) = true ∧ vB a b = true then
    (if (dotR s t).e = 0 then (if (radR (dotR s t).lo (dotR s t).hi a b).e = 0 then ⟨decI (radR (dotR s t).lo (dotR s t).hi a b).lo (radR (dotR s t).lo (dotR s t).hi a b).hi, 0⟩ else ⟨0, (radR (dotR s t).lo (dotR s t).hi a b).e⟩) else ⟨0, (dotR s t).e⟩)
  else ⟨0, 1⟩
set_option maxRecDepth 100000 in
set_option maxHeartbeats 4000000 in
theorem hits_any (s t : D) (a b : Int) (w : World) :
    Calls Try.prog 16 #[dv s, dv t, iv a b] w fun e w' => e = .returned (.tuple #[.int .i64 (hitsR s t a b).k, .int .i64 (hitsR s t a b).e]) ∧ Below w.heap.size w w' := by
  have I0 : H3 w (((w.alloc (.cells #[.int .i64 s.a, .int .i64 s.b, .int .i64 s.c, .int .i64 s.d, .int .i64 s.e, .int .i64 s.f] 25)).alloc (.cells #[.int .i64 t.a, .int .i64 t.b, .int .i64 t.c, .int .i64 t.d, .int .i64 t.e, .int .i64 t.f] 25)).alloc (.cells #[.int .i64 a, .int .i64 b] 23)) w.heap.size s t a b := by
    refine ⟨by simp [go_sem], by simp [go_sem], by simp [go_sem], by simp [go_sem], by simp [go_sem], by simp [go_sem], by simp [go_sem], by simp [go_sem], by simp [go_sem], by simp [go_sem], by simp [go_sem], by simp [go_sem], by simp [go_sem], by simp [go_sem], by simp, ?_⟩
    · repeat (first | exact Below.refl _ _ | refine Below.alloc ?_ (by first | omega | (simp <;> omega)) _)
  cases hs : (vD s && vD t)
  · rw [show hitsR s t a b = ⟨0, 1⟩ from if_neg (by rw [hs]; simp)]
    have HS := Lib.hid hs
    clear hs
    go_enter Try.func16, Try.ntmps16
    go_wp2_with fail
    refine (vray_any s t _).mono ?_
    rintro e w1 ⟨rfl, hb⟩
    rw [HS.out]
    have I1 := I0.call hb
    clear hb
    have r0_0_1 := I1.r0_0
    have r0_1_1 := I1.r0_1
    have r0_2_1 := I1.r0_2
    have r0_3_1 := I1.r0_3
    have r0_4_1 := I1.r0_4
    have r0_5_1 := I1.r0_5
    have r1_0_1 := I1.r1_0
    have r1_1_1 := I1.r1_1
    have r1_2_1 := I1.r1_2
    have r1_3_1 := I1.r1_3
    have r1_4_1 := I1.r1_4
    have r1_5_1 := I1.r1_5
    have r2_0_1 := I1.r2_0
    have r2_1_1 := I1.r2_1
    have sz_1 := I1.size
    go_wp2_with fail
    exact bodyPost_ret (v := .tuple #[.int .i64 0, .int .i64 1]) (by simp [results, Try.results16, go_sem]) rfl ⟨rfl, by repeat (first | exact I1.below | refine Below.drew ?_ | refine Below.alloc ?_ (by first | omega | (simp <;> omega)) _)⟩
  · cases ht : vB a b
    · rw [show hitsR s t a b = ⟨0, 1⟩ from if_neg (by rw [ht]; simp)]
      have HS := Lib.hid hs
      have HT := Lib.hid ht
      clear hs ht
      go_enter Try.func16, Try.ntmps16
      go_wp2_with fail
      refine (vray_any s t _).mono ?_
      rintro e w1 ⟨rfl, hb⟩
      rw [HS.out]
      have I1 := I0.call hb
      clear hb
      have r0_0_1 := I1.r0_0
      have r0_1_1 := I1.r0_1
      have r0_2_1 := I1.r0_2
      have r0_3_1 := I1.r0_3
      have r0_4_1 := I1.r0_4
      have r0_5_1 := I1.r0_5
      have r1_0_1 := I1.r1_0
      have r1_1_1 := I1.r1_1
      have r1_2_1 := I1.r1_2
      have r1_3_1 := I1.r1_3
      have r1_4_1 := I1.r1_4
      have r1_5_1 := I1.r1_5
      have r2_0_1 := I1.r2_0
      have r2_1_1 := I1.r2_1
      have sz_1 := I1.size
      go_wp2_with fail
      refine (validb_any a b _).mono ?_
      rintro e w2 ⟨rfl, hb⟩
      rw [HT.out]
      have I2 := I1.call hb
      clear hb
      clear r0_0_1 r0_1_1 r0_2_1 r0_3_1 r0_4_1 r0_5_1 r1_0_1 r1_1_1 r1_2_1 r1_3_1 r1_4_1 r1_5_1 r2_0_1 r2_1_1 sz_1
      have r0_0_2 := I2.r0_0
      have r0_1_2 := I2.r0_1
      have r0_2_2 := I2.r0_2
      have r0_3_2 := I2.r0_3
      have r0_4_2 := I2.r0_4
      have r0_5_2 := I2.r0_5
      have r1_0_2 := I2.r1_0
      have r1_1_2 := I2.r1_1
      have r1_2_2 := I2.r1_2
      have r1_3_2 := I2.r1_3
      have r1_4_2 := I2.r1_4
      have r1_5_2 := I2.r1_5
      have r2_0_2 := I2.r2_0
      have r2_1_2 := I2.r2_1
      have sz_2 := I2.size
      go_wp2_with fail
      exact bodyPost_ret (v := .tuple #[.int .i64 0, .int .i64 1]) (by simp [results, Try.results16, go_sem]) rfl ⟨rfl, by repeat (first | exact I2.below | refine Below.drew ?_ | refine Below.alloc ?_ (by first | omega | (simp <;> omega)) _)⟩
    · obtain ⟨⟨c1, k1, e1⟩, h1⟩ : ∃ r : R, dotR s t = r := ⟨_, rfl⟩
      have H1 := Lib.hid (show retR (dotR s t) = .returned (.tuple #[iv c1 k1, .int .i64 e1]) from by rw [h1])
      obtain ⟨⟨c2, k2, e2⟩, h2⟩ : ∃ r : R, radR c1 k1 a b = r := ⟨_, rfl⟩
      have H2 := Lib.hid (show retR (radR c1 k1 a b) = .returned (.tuple #[iv c2 k2, .int .i64 e2]) from by rw [h2])
      have HH : hitsR s t a b = (if e1 = 0 then (if e2 = 0 then ⟨decI c2 k2, 0⟩ else ⟨0, e2⟩) else ⟨0, e1⟩) := by rw [show hitsR s t a b = _ from if_pos ⟨hs, ht⟩, h1]; dsimp only; rw [h2]
      rw [HH]
      clear h1 h2 HH
      by_cases hE : e1 = 0
      · subst hE
        rw [if_pos rfl]
        by_cases hF : e2 = 0
        · subst hF
          rw [if_pos rfl]
          have HS := Lib.hid hs
          have HT := Lib.hid ht
          clear hs ht
          go_enter Try.func16, Try.ntmps16
          go_wp2_with fail
          refine (vray_any s t _).mono ?_
          rintro e w1 ⟨rfl, hb⟩
          rw [HS.out]
          have I1 := I0.call hb
          clear hb
          have r0_0_1 := I1.r0_0
          have r0_1_1 := I1.r0_1
          have r0_2_1 := I1.r0_2
          have r0_3_1 := I1.r0_3
          have r0_4_1 := I1.r0_4
          have r0_5_1 := I1.r0_5
          have r1_0_1 := I1.r1_0
          have r1_1_1 := I1.r1_1
          have r1_2_1 := I1.r1_2
          have r1_3_1 := I1.r1_3
          have r1_4_1 := I1.r1_4
          have r1_5_1 := I1.r1_5
          have r2_0_1 := I1.r2_0
          have r2_1_1 := I1.r2_1
          have sz_1 := I1.size
          go_wp2_with fail
          refine (validb_any a b _).mono ?_
          rintro e w2 ⟨rfl, hb⟩
          rw [HT.out]
          have I2 := I1.call hb
          clear hb
          clear r0_0_1 r0_1_1 r0_2_1 r0_3_1 r0_4_1 r0_5_1 r1_0_1 r1_1_1 r1_2_1 r1_3_1 r1_4_1 r1_5_1 r2_0_1 r2_1_1 sz_1
          have r0_0_2 := I2.r0_0
          have r0_1_2 := I2.r0_1
          have r0_2_2 := I2.r0_2
          have r0_3_2 := I2.r0_3
          have r0_4_2 := I2.r0_4
          have r0_5_2 := I2.r0_5
          have r1_0_2 := I2.r1_0
          have r1_1_2 := I2.r1_1
          have r1_2_2 := I2.r1_2
          have r1_3_2 := I2.r1_3
          have r1_4_2 := I2.r1_4
          have r1_5_2 := I2.r1_5
          have r2_0_2 := I2.r2_0
          have r2_1_2 := I2.r2_1
          have sz_2 := I2.size
          go_wp2_with fail
          refine (ddot_any s t _).mono ?_
          rintro e w3 ⟨rfl, hb⟩
          rw [H1.out]
          have I3 := I2.call hb
          clear hb
          clear r0_0_2 r0_1_2 r0_2_2 r0_3_2 r0_4_2 r0_5_2 r1_0_2 r1_1_2 r1_2_2 r1_3_2 r1_4_2 r1_5_2 r2_0_2 r2_1_2 sz_2
          have r0_0_3 := I3.r0_0
          have r0_1_3 := I3.r0_1
          have r0_2_3 := I3.r0_2
          have r0_3_3 := I3.r0_3
          have r0_4_3 := I3.r0_4
          have r0_5_3 := I3.r0_5
          have r1_0_3 := I3.r1_0
          have r1_1_3 := I3.r1_1
          have r1_2_3 := I3.r1_2
          have r1_3_3 := I3.r1_3
          have r1_4_3 := I3.r1_4
          have r1_5_3 := I3.r1_5
          have r2_0_3 := I3.r2_0
          have r2_1_3 := I3.r2_1
          have sz_3 := I3.size
          have naq_0 : w.heap.size < w3.heap.size := by omega
          have nbq_0 : ¬ (w.heap.size = w3.heap.size) := by omega
          have ncq_0 : ¬ (w3.heap.size = w.heap.size) := by omega
          have ndq_0 : w.heap.size < w3.heap.size + 1 := by omega
          have naq_1 : w.heap.size + 1 < w3.heap.size := by omega
          have nbq_1 : ¬ (w.heap.size + 1 = w3.heap.size) := by omega
          have ncq_1 : ¬ (w3.heap.size = w.heap.size + 1) := by omega
          have ndq_1 : w.heap.size + 1 < w3.heap.size + 1 := by omega
          have naq_2 : w.heap.size + 1 + 1 < w3.heap.size := by omega
          have nbq_2 : ¬ (w.heap.size + 1 + 1 = w3.heap.size) := by omega
          have ncq_2 : ¬ (w3.heap.size = w.heap.size + 1 + 1) := by omega
          have ndq_2 : w.heap.size + 1 + 1 < w3.heap.size + 1 := by omega
          go_wp2_with fail
          refine (radicand_any c1 k1 a b _).mono ?_
          rintro e w4 ⟨rfl, hb⟩
          rw [H2.out]
          have I4 := (I3.call ((Below.refl _ _).alloc (Nat.le_refl _) (.cells #[.int .i64 c1, .int .i64 k1] 23))).call hb
          clear hb
          have sz4 := I4.size
          clear r0_0_3 r0_1_3 r0_2_3 r0_3_3 r0_4_3 r0_5_3 r1_0_3 r1_1_3 r1_2_3 r1_3_3 r1_4_3 r1_5_3 r2_0_3 r2_1_3 sz_3
          go_wp2_with fail
          refine (decide_any c2 k2 _).mono ?_
          rintro e w5 ⟨rfl, hb⟩
          have I5 := (I4.call ((Below.refl _ _).alloc (Nat.le_refl _) (.cells #[.int .i64 c2, .int .i64 k2] 23))).call hb
          go_wp2_with fail
          exact bodyPost_ret (v := .tuple #[.int .i64 (decI c2 k2), .int .i64 0]) (by simp [results, Try.results16, go_sem]) rfl ⟨rfl, by repeat (first | exact I5.below | refine Below.drew ?_ | refine Below.alloc ?_ (by first | omega | (simp <;> omega)) _)⟩
        · rw [if_neg hF]
          have hF' : (e2 == 0) = false := by simpa using hF
          have HS := Lib.hid hs
          have HT := Lib.hid ht
          clear hs ht
          go_enter Try.func16, Try.ntmps16
          go_wp2_with fail
          refine (vray_any s t _).mono ?_
          rintro e w1 ⟨rfl, hb⟩
          rw [HS.out]
          have I1 := I0.call hb
          clear hb
          have r0_0_1 := I1.r0_0
          have r0_1_1 := I1.r0_1
          have r0_2_1 := I1.r0_2
          have r0_3_1 := I1.r0_3
          have r0_4_1 := I1.r0_4
          have r0_5_1 := I1.r0_5
          have r1_0_1 := I1.r1_0
          have r1_1_1 := I1.r1_1
          have r1_2_1 := I1.r1_2
          have r1_3_1 := I1.r1_3
          have r1_4_1 := I1.r1_4
          have r1_5_1 := I1.r1_5
          have r2_0_1 := I1.r2_0
          have r2_1_1 := I1.r2_1
          have sz_1 := I1.size
          go_wp2_with fail
          refine (validb_any a b _).mono ?_
          rintro e w2 ⟨rfl, hb⟩
          rw [HT.out]
          have I2 := I1.call hb
          clear hb
          clear r0_0_1 r0_1_1 r0_2_1 r0_3_1 r0_4_1 r0_5_1 r1_0_1 r1_1_1 r1_2_1 r1_3_1 r1_4_1 r1_5_1 r2_0_1 r2_1_1 sz_1
          have r0_0_2 := I2.r0_0
          have r0_1_2 := I2.r0_1
          have r0_2_2 := I2.r0_2
          have r0_3_2 := I2.r0_3
          have r0_4_2 := I2.r0_4
          have r0_5_2 := I2.r0_5
          have r1_0_2 := I2.r1_0
          have r1_1_2 := I2.r1_1
          have r1_2_2 := I2.r1_2
          have r1_3_2 := I2.r1_3
          have r1_4_2 := I2.r1_4
          have r1_5_2 := I2.r1_5
          have r2_0_2 := I2.r2_0
          have r2_1_2 := I2.r2_1
          have sz_2 := I2.size
          go_wp2_with fail
          refine (ddot_any s t _).mono ?_
          rintro e w3 ⟨rfl, hb⟩
          rw [H1.out]
          have I3 := I2.call hb
          clear hb
          clear r0_0_2 r0_1_2 r0_2_2 r0_3_2 r0_4_2 r0_5_2 r1_0_2 r1_1_2 r1_2_2 r1_3_2 r1_4_2 r1_5_2 r2_0_2 r2_1_2 sz_2
          have r0_0_3 := I3.r0_0
          have r0_1_3 := I3.r0_1
          have r0_2_3 := I3.r0_2
          have r0_3_3 := I3.r0_3
          have r0_4_3 := I3.r0_4
          have r0_5_3 := I3.r0_5
          have r1_0_3 := I3.r1_0
          have r1_1_3 := I3.r1_1
          have r1_2_3 := I3.r1_2
          have r1_3_3 := I3.r1_3
          have r1_4_3 := I3.r1_4
          have r1_5_3 := I3.r1_5
          have r2_0_3 := I3.r2_0
          have r2_1_3 := I3.r2_1
          have sz_3 := I3.size
          have naq_0 : w.heap.size < w3.heap.size := by omega
          have nbq_0 : ¬ (w.heap.size = w3.heap.size) := by omega
          have ncq_0 : ¬ (w3.heap.size = w.heap.size) := by omega
          have ndq_0 : w.heap.size < w3.heap.size + 1 := by omega
          have naq_1 : w.heap.size + 1 < w3.heap.size := by omega
          have nbq_1 : ¬ (w.heap.size + 1 = w3.heap.size) := by omega
          have ncq_1 : ¬ (w3.heap.size = w.heap.size + 1) := by omega
          have ndq_1 : w.heap.size + 1 < w3.heap.size + 1 := by omega
          have naq_2 : w.heap.size + 1 + 1 < w3.heap.size := by omega
          have nbq_2 : ¬ (w.heap.size + 1 + 1 = w3.heap.size) := by omega
          have ncq_2 : ¬ (w3.heap.size = w.heap.size + 1 + 1) := by omega
          have ndq_2 : w.heap.size + 1 + 1 < w3.heap.size + 1 := by omega
          go_wp2_with fail
          refine (radicand_any c1 k1 a b _).mono ?_
          rintro e w4 ⟨rfl, hb⟩
          rw [H2.out]
          have I4 := (I3.call ((Below.refl _ _).alloc (Nat.le_refl _) (.cells #[.int .i64 c1, .int .i64 k1] 23))).call hb
          clear hb
          have sz4 := I4.size
          clear r0_0_3 r0_1_3 r0_2_3 r0_3_3 r0_4_3 r0_5_3 r1_0_3 r1_1_3 r1_2_3 r1_3_3 r1_4_3 r1_5_3 r2_0_3 r2_1_3 sz_3
          go_wp2_with fail
          exact bodyPost_ret (v := .tuple #[.int .i64 0, .int .i64 e2]) (by simp [results, Try.results16, go_sem]) rfl ⟨rfl, by repeat (first | exact I4.below | refine Below.drew ?_ | refine Below.alloc ?_ (by first | omega | (simp <;> omega)) _)⟩
      · rw [if_neg hE]
        have hE' : (e1 == 0) = false := by simpa using hE
        have HS := Lib.hid hs
        have HT := Lib.hid ht
        clear hs ht
        go_enter Try.func16, Try.ntmps16
        go_wp2_with fail
        refine (vray_any s t _).mono ?_
        rintro e w1 ⟨rfl, hb⟩
        rw [HS.out]
        have I1 := I0.call hb
        clear hb
        have r0_0_1 := I1.r0_0
        have r0_1_1 := I1.r0_1
        have r0_2_1 := I1.r0_2
        have r0_3_1 := I1.r0_3
        have r0_4_1 := I1.r0_4
        have r0_5_1 := I1.r0_5
        have r1_0_1 := I1.r1_0
        have r1_1_1 := I1.r1_1
        have r1_2_1 := I1.r1_2
        have r1_3_1 := I1.r1_3
        have r1_4_1 := I1.r1_4
        have r1_5_1 := I1.r1_5
        have r2_0_1 := I1.r2_0
        have r2_1_1 := I1.r2_1
        have sz_1 := I1.size
        go_wp2_with fail
        refine (validb_any a b _).mono ?_
        rintro e w2 ⟨rfl, hb⟩
        rw [HT.out]
        have I2 := I1.call hb
        clear hb
        clear r0_0_1 r0_1_1 r0_2_1 r0_3_1 r0_4_1 r0_5_1 r1_0_1 r1_1_1 r1_2_1 r1_3_1 r1_4_1 r1_5_1 r2_0_1 r2_1_1 sz_1
        have r0_0_2 := I2.r0_0
        have r0_1_2 := I2.r0_1
        have r0_2_2 := I2.r0_2
        have r0_3_2 := I2.r0_3
        have r0_4_2 := I2.r0_4
        have r0_5_2 := I2.r0_5
        have r1_0_2 := I2.r1_0
        have r1_1_2 := I2.r1_1
        have r1_2_2 := I2.r1_2
        have r1_3_2 := I2.r1_3
        have r1_4_2 := I2.r1_4
        have r1_5_2 := I2.r1_5
        have r2_0_2 := I2.r2_0
        have r2_1_2 := I2.r2_1
        have sz_2 := I2.size
        go_wp2_with fail
        refine (ddot_any s t _).mono ?_
        rintro e w3 ⟨rfl, hb⟩
        rw [H1.out]
        have I3 := I2.call hb
        clear hb
        clear r0_0_2 r0_1_2 r0_2_2 r0_3_2 r0_4_2 r0_5_2 r1_0_2 r1_1_2 r1_2_2 r1_3_2 r1_4_2 r1_5_2 r2_0_2 r2_1_2 sz_2
        have r0_0_3 := I3.r0_0
        have r0_1_3 := I3.r0_1
        have r0_2_3 := I3.r0_2
        have r0_3_3 := I3.r0_3
        have r0_4_3 := I3.r0_4
        have r0_5_3 := I3.r0_5
        have r1_0_3 := I3.r1_0
        have r1_1_3 := I3.r1_1
        have r1_2_3 := I3.r1_2
        have r1_3_3 := I3.r1_3
        have r1_4_3 := I3.r1_4
        have r1_5_3 := I3.r1_5
        have r2_0_3 := I3.r2_0
        have r2_1_3 := I3.r2_1
        have sz_3 := I3.size
        have naq_0 : w.heap.size < w3.heap.size := by omega
        have nbq_0 : ¬ (w.heap.size = w3.heap.size) := by omega
        have ncq_0 : ¬ (w3.heap.size = w.heap.size) := by omega
        have ndq_0 : w.heap.size < w3.heap.size + 1 := by omega
        have naq_1 : w.heap.size + 1 < w3.heap.size := by omega
        have nbq_1 : ¬ (w.heap.size + 1 = w3.heap.size) := by omega
        have ncq_1 : ¬ (w3.heap.size = w.heap.size + 1) := by omega
        have ndq_1 : w.heap.size + 1 < w3.heap.size + 1 := by omega
        have naq_2 : w.heap.size + 1 + 1 < w3.heap.size := by omega
        have nbq_2 : ¬ (w.heap.size + 1 + 1 = w3.heap.size) := by omega
        have ncq_2 : ¬ (w3.heap.size = w.heap.size + 1 + 1) := by omega
        have ndq_2 : w.heap.size + 1 + 1 < w3.heap.size + 1 := by omega
        go_wp2_with fail
        exact bodyPost_ret (v := .tuple #[.int .i64 0, .int .i64 e1]) (by simp [results, Try.results16, go_sem]) rfl ⟨rfl, by repeat (first | exact I3.below | refine Below.drew ?_ | refine Below.alloc ?_ (by first | omega | (simp <;> omega)) _)⟩
end Go.Proofs.Ytjppcndhaejfpaa.Iv
