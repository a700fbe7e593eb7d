/- The laws of package fresnel's statements begin with an example: it holds. Contracts of Straight, Turn and of the example. -/
import Derived.Test.YtognaejbpioihaaFr4
import Derived.Deep.DeepCutAuto
import Derived.Tactics2
namespace Go.Proofs.Ytognaejbpioihaa.Iv
open Go.RowKit

def straightR (a b c d : Int) : R := if winB a b 1 4 = true ∧ winB c d 1 4 = true then contrastR a b c d else ⟨0, 0, 1⟩
theorem one_any (w : World) : Calls Try.prog 22 #[] w fun e w' => e = .returned (iv 16777216 16777216) ∧ boxed w 16777216 16777216 = w' := by
  go_enter Try.func22, Try.ntmps22
  go_wp2
  exact bodyPost_ret (v := iv 16777216 16777216) (by simp [results, Try.results22, go_sem]) rfl ⟨rfl, rfl⟩
theorem of2_any (w : World) : Calls Try.prog 27 #[.int .i64 2] w fun e w' => e = .returned (.tuple #[iv 33554432 33554432, .int .i64 0]) ∧ boxed w 33554432 33554432 = w' := by
  go_enter Try.func27, Try.ntmps27
  go_wp2
  exact bodyPost_ret (v := .tuple #[iv 33554432 33554432, .int .i64 0]) (by simp [results, Try.results27, go_sem]) rfl ⟨rfl, rfl⟩

set_option maxRecDepth 100000 in
theorem straight_any (a b c d : Int) (w : World) :
    Calls Try.prog 20 #[iv a b, iv c d] w fun e w' => e = retR (straightR a b c d) ∧ Below w.heap.size w w' := by
  go_enter Try.func20, Try.ntmps20
  go_wp2_with fail
  refine (win_any a b 1 4 _ (by decide) (by decide) (by decide) (by decide)).mono ?_
  rintro e w1 ⟨rfl, hb1⟩
  obtain ⟨hc1, hf1⟩ := bcell hb1
  have hz1 := hb1.size
  try simp at hz1
  have hs1_0 : w.heap.size < w1.heap.size := by omega
  have hs1_1 : w.heap.size + 1 < w1.heap.size := by omega
  have hs1_2 : w.heap.size + 1 + 1 < w1.heap.size := by omega
  have hw1 : Below w.heap.size w w1 := Below.trans (by repeat (first | exact Below.refl _ _ | refine Below.drew ?_ | refine Below.setCell ?_ (by first | omega | (simp <;> omega)) _ | refine Below.alloc ?_ (by first | omega | (simp <;> omega)) _)) (hb1.mono (by first | omega | (simp <;> omega)))
  clear hb1 hz1
  cases V1 : winB a b 1 4
  · go_wp2_with fail
    exact bodyPost_ret (v := .tuple #[iv 0 0, .int .i64 1]) (by simp [results, Try.results20, go_sem, *]) rfl ⟨by simp [straightR, V1], by repeat (first | exact hw1 | refine Below.drew ?_ | refine Below.setCell ?_ (by first | omega | (simp <;> omega)) _ | refine Below.alloc ?_ (by first | omega | (simp <;> omega)) _)⟩
  · skip
    go_wp2_with fail
    refine (win_any c d 1 4 _ (by decide) (by decide) (by decide) (by decide)).mono ?_
    rintro e w2 ⟨rfl, hb2⟩
    obtain ⟨hc2, hf2⟩ := bcell hb2
    have hz2 := hb2.size
    try simp at hz2
    have hs2_0 : w.heap.size < w2.heap.size := by omega
    have hs2_1 : w.heap.size + 1 < w2.heap.size := by omega
    have hs2_2 : w.heap.size + 1 + 1 < w2.heap.size := by omega
    have hw2 : Below w.heap.size w w2 := Below.trans (by repeat (first | exact hw1 | refine Below.drew ?_ | refine Below.setCell ?_ (by first | omega | (simp <;> omega)) _ | refine Below.alloc ?_ (by first | omega | (simp <;> omega)) _)) (hb2.mono (by first | omega | (simp <;> omega)))
    clear hb2 hz2
    cases V2 : winB c d 1 4
    · go_wp2_with fail
      exact bodyPost_ret (v := .tuple #[iv 0 0, .int .i64 1]) (by simp [results, Try.results20, go_sem, *]) rfl ⟨by simp [straightR, V2], by repeat (first | exact hw2 | refine Below.drew ?_ | refine Below.setCell ?_ (by first | omega | (simp <;> omega)) _ | refine Below.alloc ?_ (by first | omega | (simp <;> omega)) _)⟩
    · have HV := Lib.hid (show straightR a b c d = contrastR a b c d from if_pos ⟨V1, V2⟩)
      go_wp2_with fail
      refine (contrast_any a b c d _).mono ?_
      rintro e w3 ⟨rfl, hb3⟩
      obtain ⟨hc3, hf3⟩ := bcell hb3
      have hz3 := hb3.size
      try simp at hz3
      have hs3_0 : w.heap.size < w3.heap.size := by omega
      have hs3_1 : w.heap.size + 1 < w3.heap.size := by omega
      have hs3_2 : w.heap.size + 1 + 1 < w3.heap.size := by omega
      have hw3 : Below w.heap.size w w3 := Below.trans (by repeat (first | exact hw2 | refine Below.drew ?_ | refine Below.setCell ?_ (by first | omega | (simp <;> omega)) _ | refine Below.alloc ?_ (by first | omega | (simp <;> omega)) _)) (hb3.mono (by first | omega | (simp <;> omega)))
      clear hb3 hz3
      go_wp2_with fail
      exact bodyPost_ret (v := .tuple #[.agg #[.int .i64 (contrastR a b c d).lo, .int .i64 (contrastR a b c d).hi], .int .i64 (contrastR a b c d).e]) (by simp [results, Try.results20, go_sem, *]) rfl ⟨by rw [HV.out], by repeat (first | exact hw3 | refine Below.drew ?_ | refine Below.setCell ?_ (by first | omega | (simp <;> omega)) _ | refine Below.alloc ?_ (by first | omega | (simp <;> omega)) _)⟩

def s0 : Sf := ⟨16777216, 16777216, 16777216, 16777216, 16777216, 16777216, 33554432, 33554432⟩
theorem aw1 : (straightR 16777216 16777216 33554432 33554432).lo = 1864134 ∧ (straightR 16777216 16777216 33554432 33554432).hi = 1864136 ∧ (straightR 16777216 16777216 33554432 33554432).e = 0 := by decide +kernel
theorem aw2 : (reflR s0).lo = 1864134 ∧ (reflR s0).hi = 1864136 ∧ (reflR s0).e = 0 := by decide +kernel

def AwX (w : World) (x e : Value) (wx : World) : Prop :=
  ∃ bx : Nat, x = .pointer (some ⟨bx, 0, none⟩) ∧ e = .int .i64 0 ∧ w.heap.size + 1 < bx ∧ bx < wx.heap.size ∧ wx.cell? ⟨w.heap.size + 1, 0, none⟩ = some (.int .i64 33554432) ∧ wx.cell? ⟨w.heap.size + 1, 1, none⟩ = some (.int .i64 33554432) ∧
    wx.cell? ⟨bx, 0, none⟩ = some (.int .i64 1864134) ∧ wx.cell? ⟨bx, 1, none⟩ = some (.int .i64 1864136) ∧ Below w.heap.size w wx
def AwY (wc : World) (bx : Nat) (y e : Value) (wx : World) : Prop :=
  ∃ b : Nat, y = .pointer (some ⟨b, 0, none⟩) ∧ e = .int .i64 0 ∧ wx.cell? ⟨bx, 0, none⟩ = some (.int .i64 1864134) ∧ wx.cell? ⟨bx, 1, none⟩ = some (.int .i64 1864136) ∧
    wx.cell? ⟨b, 0, none⟩ = some (.int .i64 1864134) ∧ wx.cell? ⟨b, 1, none⟩ = some (.int .i64 1864136) ∧ Below wc.heap.size wc wx
set_option maxRecDepth 100000 in
set_option maxHeartbeats 1000000 in
theorem awake_any (w : World) :
    Calls Try.prog 9 #[] w fun e w' => e = .returned (.bool true) ∧ Below w.heap.size w w' := by
  obtain ⟨a1, a2, a3⟩ := aw1
  obtain ⟨a4, a5, a6⟩ := aw2
  have X1 : retR (straightR 16777216 16777216 33554432 33554432) = .returned (.tuple #[iv 1864134 1864136, .int .i64 0]) := by show Ending.returned (.tuple #[.agg #[.int .i64 _, .int .i64 _], .int .i64 _]) = _; rw [a1, a2, a3]
  have X2 : retR (reflR s0) = .returned (.tuple #[iv 1864134 1864136, .int .i64 0]) := by show Ending.returned (.tuple #[.agg #[.int .i64 _, .int .i64 _], .int .i64 _]) = _; rw [a4, a5, a6]
  have H1 := Lib.hid X1
  have H2 := Lib.hid X2
  clear a1 a2 a3 a4 a5 a6 X1 X2
  go_enter Try.func9, Try.ntmps9
  go_upto_region 2 with (first | (go_at_call 27; refine (of2_any _).mono ?_; rintro e w1 ⟨rfl, rfl⟩))
  go_cut [3, 4] (fun x e wx => AwX w x e wx)
  case first =>
    go_region_held3 (fun w' => w'.cell? ⟨w.heap.size + 1, 0, none⟩ = some (.int .i64 33554432) ∧ w'.cell? ⟨w.heap.size + 1, 1, none⟩ = some (.int .i64 33554432)) (first | (simp [go_sem]; done) | (simp [go_sem, *]; done))
      (first
        | (go_at_call 22; refine (one_any _).mono ?_; rintro e w' ⟨rfl, rfl⟩)
        | (go_at_call 20; refine (straight_any _ _ _ _ _).mono ?_; rintro e w' ⟨rfl, hb⟩; rw [H1.out]; obtain ⟨hcx, hfx⟩ := bcell hb; have hsx := hb.size; simp at hsx; have hs0 : w.heap.size + 1 < w'.heap.size := (by omega); have hwx : Below w.heap.size w w' := Below.trans (by repeat (first | exact Below.refl _ _ | refine Below.drew ?_ | refine Below.setCell ?_ (by first | omega | (simp <;> omega)) _ | refine Below.alloc ?_ (by first | omega | (simp <;> omega)) _)) (hb.mono (by first | omega | (simp <;> omega))); clear hb))
    all_goals (go_wp2_with fail; go_meet)
    all_goals (refine ⟨_, rfl, rfl, ?_, ?_, ?_, ?_, ?_, ?_, ?_⟩)
    all_goals first
      | omega
      | (simp; done)
      | (simp; omega)
      | (simp [go_sem, hcx]; done)
      | (simp [*]; done)
      | ((repeat (first | exact hwx | refine Below.drew ?_ | refine Below.setCell ?_ (by first | omega | (simp <;> omega)) _ | refine Below.alloc ?_ (by first | omega | (simp <;> omega)) _)); done)
  case rest =>
    obtain ⟨bx, rfl, rfl, b1, b2, k1, k2, x1, x2, hw0⟩ := hcut
    have sz : w.heap.size + 1 < wc.heap.size := by omega
    have sz1 : w.heap.size + 1 < wc.heap.size + 1 := by omega
    have sz2 : w.heap.size + 1 < wc.heap.size + 1 + 1 := by omega
    have sz3 : w.heap.size + 1 < wc.heap.size + 1 + 1 + 1 := by omega
    have sz4 : w.heap.size + 1 < wc.heap.size + 1 + 1 + 1 + 1 := by omega
    have bz4 : bx < wc.heap.size + 1 + 1 + 1 + 1 := by omega
    have bz1 : bx < wc.heap.size + 1 := by omega
    have bz2 : bx < wc.heap.size + 1 + 1 := by omega
    have bz3 : bx < wc.heap.size + 1 + 1 + 1 := by omega
    go_upto_region 3 with fail
    go_cut [5, 6] (fun y e wx => AwY wc bx y e wx)
    case first =>
      go_region_held3 (fun w' => w'.cell? ⟨w.heap.size + 1, 0, none⟩ = some (.int .i64 33554432) ∧ w'.cell? ⟨w.heap.size + 1, 1, none⟩ = some (.int .i64 33554432)) (first | (simp [go_sem]; done) | (simp [go_sem, *]; done))
        (first
          | (go_at_call 22; refine (one_any _).mono ?_; rintro e w' ⟨rfl, rfl⟩)
          | (go_at_call 16; refine (refl_any s0 _).mono ?_; rintro e w' ⟨rfl, hb⟩; rw [H2.out]; obtain ⟨hcy, hfy⟩ := bcell hb; have hsy := hb.size; simp at hsy; have hs1 : w.heap.size + 1 < w'.heap.size := (by omega); have hs2 : bx < w'.heap.size := (by omega); have hwy : Below wc.heap.size wc w' := Below.trans (by repeat (first | exact Below.refl _ _ | refine Below.drew ?_ | refine Below.setCell ?_ (by first | omega | (simp <;> omega)) _ | refine Below.alloc ?_ (by first | omega | (simp <;> omega)) _)) (hb.mono (by first | omega | (simp <;> omega))); clear hb))
      all_goals (go_wp2_with fail; go_meet)
      all_goals (refine ⟨_, rfl, rfl, ?_, ?_, ?_, ?_, ?_⟩)
      all_goals first
        | omega
        | (simp; done)
        | (simp; omega)
        | (simp [go_sem, hcy]; done)
        | (simp [go_sem, *]; done)
        | ((repeat (first | exact hwy | refine Below.drew ?_ | refine Below.setCell ?_ (by first | omega | (simp <;> omega)) _ | refine Below.alloc ?_ (by first | omega | (simp <;> omega)) _)); done)
        | (have q0 := hcy wc.heap.size 0 (by simp; omega); have q1 := hcy wc.heap.size 1 (by simp; omega); simp [go_sem] at q0 q1; simp [go_sem, q0, q1]; done)
    case rest =>
      obtain ⟨y, rfl, rfl, y1, y2, z1, z2, hw2⟩ := hcut
      go_wp2
      go_ret
      exact ⟨rfl, hw0.trans (hw2.mono hw0.size)⟩
end Go.Proofs.Ytognaejbpioihaa.Iv
