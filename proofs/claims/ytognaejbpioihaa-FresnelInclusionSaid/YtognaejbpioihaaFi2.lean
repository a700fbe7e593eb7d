/- FresnelInclusion: for a contained surface reflectance and transmittance are contained. -/
import Derived.Test.YtognaejbpioihaaFiM
import Derived.Test.YtognaejbpioihaaFi1
import Derived.Deep.RegionHeld3
import Derived.Deep.CutRange
import Derived.Deep.DeepCutAuto
import Derived.Deep.QuietTactic
import Derived.BigQuiet
import Derived.Tactics2
namespace Go.Proofs.Ytognaejbpioihaa.Iv
open Go.RowKit
attribute [local go_sem] run_min2' run_max2'

theorem bdrewN {B : Nat} {a w : World} (h : Below B a w) (n : Nat) : Below B a (w.drewN n) := h.trans ⟨rfl, rfl, rfl, Nat.le_refl _, fun _ _ => rfl⟩
theorem win_v' {a b l h : Int} (hw : winB a b l h = true) : vB a b = true := by simp [winB] at hw; exact hw.1
theorem sf_v' {s : Sf} (h : sfB s = true) : vB s.bl s.bh = true ∧ vB s.al s.ah = true ∧ vB s.fl s.fh = true ∧ vB s.tl s.th = true := by
  simp only [sfB, Bool.and_eq_true] at h
  exact ⟨win_v' h.1, win_v' h.2.1, win_v' h.2.2.1, win_v' h.2.2.2⟩

theorem part30_any (lo hi k l : Int) (w : World) (h : vB lo hi = true) (k0 : 0 ≤ k) (k1 : k ≤ 4294967295) (l0 : 0 ≤ l) (l1 : l ≤ 4294967295) :
    Calls Try.prog 25 #[iv lo hi, .int .u32 k, .int .u32 l] w fun e w' => e = .returned (iv (partLo lo hi k l) (partHi lo hi k l)) ∧ Below w.heap.size w w' := by
  obtain ⟨a1, a2, a3⟩ := vB_iff.1 h
  obtain ⟨b1, b2⟩ := in_ok k a2
  obtain ⟨c1, c2⟩ := in_ok l a2
  have e1 : k.tmod (hi - lo + 1) = k % (hi - lo + 1) := Int.tmod_eq_emod_of_nonneg k0
  have f1 : l.tmod (hi - lo + 1) = l % (hi - lo + 1) := Int.tmod_eq_emod_of_nonneg l0
  have z : (hi - lo + 1 == 0) = false := by simp; omega
  have e0 : IntKind.i64.wrap (hi - lo) = hi - lo := IntWalk.i64_in _ (by omega)
  have e2 : IntKind.i64.wrap (hi - lo + 1) = hi - lo + 1 := IntWalk.i64_in _ (by omega)
  simp only [partLo, partHi]
  unfold inR at b1 b2 c1 c2 ⊢
  obtain ⟨r, hr⟩ : ∃ r, k % (hi - lo + 1) = r := ⟨_, rfl⟩
  obtain ⟨q, hq⟩ : ∃ q, l % (hi - lo + 1) = q := ⟨_, rfl⟩
  rw [hr] at e1 b1 b2 ⊢
  rw [hq] at f1 c1 c2 ⊢
  have e4 : IntKind.i64.wrap k = k := IntWalk.i64_in _ (by omega)
  have e5 : IntKind.i64.wrap r = r := IntWalk.i64_in _ (by omega)
  have f4 : IntKind.i64.wrap l = l := IntWalk.i64_in _ (by omega)
  have f5 : IntKind.i64.wrap q = q := IntWalk.i64_in _ (by omega)
  obtain ⟨A, hA⟩ : ∃ A, lo + r = A := ⟨_, rfl⟩
  obtain ⟨B, hB⟩ : ∃ B, lo + q = B := ⟨_, rfl⟩
  have e3 : IntKind.i64.wrap (lo + r) = A := by rw [← hA]; exact IntWalk.i64_in _ (by omega)
  have f3 : IntKind.i64.wrap (lo + q) = B := by rw [← hB]; exact IntWalk.i64_in _ (by omega)
  rw [hA, hB]
  rw [hA] at b1 b2
  rw [hB] at c1 c2
  clear hA hB
  clear h
  have mm : (min A B = A ∧ max A B = B ∧ A ≤ B) ∨ (min A B = B ∧ max A B = A ∧ B < A) := by omega
  rcases mm with ⟨m1, m2, m3⟩ | ⟨m1, m2, m3⟩
  · rw [m1, m2]
    clear m1 m2
    go_enter Try.func25, Try.ntmps25
    go_wp2_with fail
    go_quiet (fail)
    go_wp2
    all_goals exact bodyPost_ret (v := iv A B) (by simp [results, Try.results25, go_sem, *] <;> omega) rfl ⟨rfl, by repeat (first | exact Below.refl _ _ | refine Below.drew ?_ | refine bdrewN ?_ _ | refine Below.setCell ?_ (by first | omega | (simp <;> omega)) _ | refine Below.alloc ?_ (by first | omega | (simp <;> omega)) _)⟩
  · rw [m1, m2]
    clear m1 m2
    go_enter Try.func25, Try.ntmps25
    go_wp2_with fail
    go_quiet (fail)
    go_wp2
    all_goals exact bodyPost_ret (v := iv B A) (by simp [results, Try.results25, go_sem, *] <;> omega) rfl ⟨rfl, by repeat (first | exact Below.refl _ _ | refine Below.drew ?_ | refine bdrewN ?_ _ | refine Below.setCell ?_ (by first | omega | (simp <;> omega)) _ | refine Below.alloc ?_ (by first | omega | (simp <;> omega)) _)⟩

structure Zero8 (W : World) (b : Nat) : Prop where
  c0 : W.cell? ⟨b, 0, none⟩ = some (.int .i64 0)
  c1 : W.cell? ⟨b, 1, none⟩ = some (.int .i64 0)
  c2 : W.cell? ⟨b, 2, none⟩ = some (.int .i64 0)
  c3 : W.cell? ⟨b, 3, none⟩ = some (.int .i64 0)
  c4 : W.cell? ⟨b, 4, none⟩ = some (.int .i64 0)
  c5 : W.cell? ⟨b, 5, none⟩ = some (.int .i64 0)
  c6 : W.cell? ⟨b, 6, none⟩ = some (.int .i64 0)
  c7 : W.cell? ⟨b, 7, none⟩ = some (.int .i64 0)
  f0 : W.frozen? ⟨b, 0, none⟩ = false
  f1 : W.frozen? ⟨b, 1, none⟩ = false
  f2 : W.frozen? ⟨b, 2, none⟩ = false
  f3 : W.frozen? ⟨b, 3, none⟩ = false
  f4 : W.frozen? ⟨b, 4, none⟩ = false
  f5 : W.frozen? ⟨b, 5, none⟩ = false
  f6 : W.frozen? ⟨b, 6, none⟩ = false
  f7 : W.frozen? ⟨b, 7, none⟩ = false
  lt : b < W.heap.size
  n1 : ¬ (b = W.heap.size)
  n2 : ¬ (W.heap.size = b)
theorem zero8_new (w : World) : Zero8 (w.alloc (.cells #[.int .i64 0, .int .i64 0, .int .i64 0, .int .i64 0, .int .i64 0, .int .i64 0, .int .i64 0, .int .i64 0] 25)) w.heap.size := by constructor <;> simp [go_sem]
theorem zero8_new2 (w : World) : Zero8 (w.alloc (.cells #[.int .i64 0, .int .i64 0, .int .i64 0, .int .i64 0, .int .i64 0, .int .i64 0, .int .i64 0, .int .i64 0] 25)).drew w.heap.size := ⟨(zero8_new w).c0, (zero8_new w).c1, (zero8_new w).c2, (zero8_new w).c3, (zero8_new w).c4, (zero8_new w).c5, (zero8_new w).c6, (zero8_new w).c7, (zero8_new w).f0, (zero8_new w).f1, (zero8_new w).f2, (zero8_new w).f3, (zero8_new w).f4, (zero8_new w).f5, (zero8_new w).f6, (zero8_new w).f7, (zero8_new w).lt, (zero8_new w).n1, (zero8_new w).n2⟩
theorem zero8_kept {W w' : World} {b : Nat} (hc : ∀ b o, b < W.heap.size → w'.cell? ⟨b, o, none⟩ = W.cell? ⟨b, o, none⟩) (hf : ∀ b o, b < W.heap.size → w'.frozen? ⟨b, o, none⟩ = W.frozen? ⟨b, o, none⟩) (hs : W.heap.size ≤ w'.heap.size) (z : Zero8 W b) : Zero8 w' b := by
  have l := z.lt
  exact ⟨(hc _ _ z.lt).trans z.c0, (hc _ _ z.lt).trans z.c1, (hc _ _ z.lt).trans z.c2, (hc _ _ z.lt).trans z.c3, (hc _ _ z.lt).trans z.c4, (hc _ _ z.lt).trans z.c5, (hc _ _ z.lt).trans z.c6, (hc _ _ z.lt).trans z.c7, (hf _ _ z.lt).trans z.f0, (hf _ _ z.lt).trans z.f1, (hf _ _ z.lt).trans z.f2, (hf _ _ z.lt).trans z.f3, (hf _ _ z.lt).trans z.f4, (hf _ _ z.lt).trans z.f5, (hf _ _ z.lt).trans z.f6, (hf _ _ z.lt).trans z.f7, by omega, by omega, by omega⟩
theorem al {w : World} {a : Addr} {o : Obj} {v : Value} (h : w.cell? a = some v) : (w.alloc o).cell? a = some v := (World.cell?_alloc_some w a o (by rw [h]; rfl)).trans h
theorem dr {w : World} {a : Addr} {v : Value} (h : w.cell? a = some v) : w.drew.cell? a = some v := h
theorem lt_drew {w : World} {b : Nat} (h : b < w.heap.size) : b < w.drew.heap.size := h
theorem f1 {w : World} {b c o i : Nat} {u v : Value} (h : w.cell? ⟨c, o, none⟩ = some v) (n : ¬ (c = b)) : (w.setCell ⟨b, i, none⟩ u).cell? ⟨c, o, none⟩ = some v := by simp [go_sem, h]
theorem f8 {w : World} {b c o : Nat} {v u0 u1 u2 u3 u4 u5 u6 u7 : Value} (h : w.cell? ⟨c, o, none⟩ = some v) (n : ¬ (c = b)) : ((((((((w.setCell ⟨b, 0, none⟩ u0).setCell ⟨b, 1, none⟩ u1).setCell ⟨b, 2, none⟩ u2).setCell ⟨b, 3, none⟩ u3).setCell ⟨b, 4, none⟩ u4).setCell ⟨b, 5, none⟩ u5).setCell ⟨b, 6, none⟩ u6).setCell ⟨b, 7, none⟩ u7).cell? ⟨c, o, none⟩ = some v := f1 (f1 (f1 (f1 (f1 (f1 (f1 (f1 h n) n) n) n) n) n) n) n
set_option maxHeartbeats 2000000 in
theorem fin_set {w0 w : World} {B b : Nat} {u0 u1 u2 u3 u4 u5 u6 u7 : Int} (z : Zero8 w b) (h : Below B w0 w) (hb : B ≤ b) :
    b < ((((((((w.setCell ⟨b, 0, none⟩ (.int .i64 u0)).setCell ⟨b, 1, none⟩ (.int .i64 u1)).setCell ⟨b, 2, none⟩ (.int .i64 u2)).setCell ⟨b, 3, none⟩ (.int .i64 u3)).setCell ⟨b, 4, none⟩ (.int .i64 u4)).setCell ⟨b, 5, none⟩ (.int .i64 u5)).setCell ⟨b, 6, none⟩ (.int .i64 u6)).setCell ⟨b, 7, none⟩ (.int .i64 u7)).heap.size ∧ ((((((((w.setCell ⟨b, 0, none⟩ (.int .i64 u0)).setCell ⟨b, 1, none⟩ (.int .i64 u1)).setCell ⟨b, 2, none⟩ (.int .i64 u2)).setCell ⟨b, 3, none⟩ (.int .i64 u3)).setCell ⟨b, 4, none⟩ (.int .i64 u4)).setCell ⟨b, 5, none⟩ (.int .i64 u5)).setCell ⟨b, 6, none⟩ (.int .i64 u6)).setCell ⟨b, 7, none⟩ (.int .i64 u7)).cell? ⟨b, 0, none⟩ = some (.int .i64 u0) ∧ ((((((((w.setCell ⟨b, 0, none⟩ (.int .i64 u0)).setCell ⟨b, 1, none⟩ (.int .i64 u1)).setCell ⟨b, 2, none⟩ (.int .i64 u2)).setCell ⟨b, 3, none⟩ (.int .i64 u3)).setCell ⟨b, 4, none⟩ (.int .i64 u4)).setCell ⟨b, 5, none⟩ (.int .i64 u5)).setCell ⟨b, 6, none⟩ (.int .i64 u6)).setCell ⟨b, 7, none⟩ (.int .i64 u7)).cell? ⟨b, 1, none⟩ = some (.int .i64 u1) ∧ ((((((((w.setCell ⟨b, 0, none⟩ (.int .i64 u0)).setCell ⟨b, 1, none⟩ (.int .i64 u1)).setCell ⟨b, 2, none⟩ (.int .i64 u2)).setCell ⟨b, 3, none⟩ (.int .i64 u3)).setCell ⟨b, 4, none⟩ (.int .i64 u4)).setCell ⟨b, 5, none⟩ (.int .i64 u5)).setCell ⟨b, 6, none⟩ (.int .i64 u6)).setCell ⟨b, 7, none⟩ (.int .i64 u7)).cell? ⟨b, 2, none⟩ = some (.int .i64 u2) ∧ ((((((((w.setCell ⟨b, 0, none⟩ (.int .i64 u0)).setCell ⟨b, 1, none⟩ (.int .i64 u1)).setCell ⟨b, 2, none⟩ (.int .i64 u2)).setCell ⟨b, 3, none⟩ (.int .i64 u3)).setCell ⟨b, 4, none⟩ (.int .i64 u4)).setCell ⟨b, 5, none⟩ (.int .i64 u5)).setCell ⟨b, 6, none⟩ (.int .i64 u6)).setCell ⟨b, 7, none⟩ (.int .i64 u7)).cell? ⟨b, 3, none⟩ = some (.int .i64 u3) ∧ ((((((((w.setCell ⟨b, 0, none⟩ (.int .i64 u0)).setCell ⟨b, 1, none⟩ (.int .i64 u1)).setCell ⟨b, 2, none⟩ (.int .i64 u2)).setCell ⟨b, 3, none⟩ (.int .i64 u3)).setCell ⟨b, 4, none⟩ (.int .i64 u4)).setCell ⟨b, 5, none⟩ (.int .i64 u5)).setCell ⟨b, 6, none⟩ (.int .i64 u6)).setCell ⟨b, 7, none⟩ (.int .i64 u7)).cell? ⟨b, 4, none⟩ = some (.int .i64 u4) ∧ ((((((((w.setCell ⟨b, 0, none⟩ (.int .i64 u0)).setCell ⟨b, 1, none⟩ (.int .i64 u1)).setCell ⟨b, 2, none⟩ (.int .i64 u2)).setCell ⟨b, 3, none⟩ (.int .i64 u3)).setCell ⟨b, 4, none⟩ (.int .i64 u4)).setCell ⟨b, 5, none⟩ (.int .i64 u5)).setCell ⟨b, 6, none⟩ (.int .i64 u6)).setCell ⟨b, 7, none⟩ (.int .i64 u7)).cell? ⟨b, 5, none⟩ = some (.int .i64 u5) ∧ ((((((((w.setCell ⟨b, 0, none⟩ (.int .i64 u0)).setCell ⟨b, 1, none⟩ (.int .i64 u1)).setCell ⟨b, 2, none⟩ (.int .i64 u2)).setCell ⟨b, 3, none⟩ (.int .i64 u3)).setCell ⟨b, 4, none⟩ (.int .i64 u4)).setCell ⟨b, 5, none⟩ (.int .i64 u5)).setCell ⟨b, 6, none⟩ (.int .i64 u6)).setCell ⟨b, 7, none⟩ (.int .i64 u7)).cell? ⟨b, 6, none⟩ = some (.int .i64 u6) ∧ ((((((((w.setCell ⟨b, 0, none⟩ (.int .i64 u0)).setCell ⟨b, 1, none⟩ (.int .i64 u1)).setCell ⟨b, 2, none⟩ (.int .i64 u2)).setCell ⟨b, 3, none⟩ (.int .i64 u3)).setCell ⟨b, 4, none⟩ (.int .i64 u4)).setCell ⟨b, 5, none⟩ (.int .i64 u5)).setCell ⟨b, 6, none⟩ (.int .i64 u6)).setCell ⟨b, 7, none⟩ (.int .i64 u7)).cell? ⟨b, 7, none⟩ = some (.int .i64 u7) ∧ Below B w0 ((((((((w.setCell ⟨b, 0, none⟩ (.int .i64 u0)).setCell ⟨b, 1, none⟩ (.int .i64 u1)).setCell ⟨b, 2, none⟩ (.int .i64 u2)).setCell ⟨b, 3, none⟩ (.int .i64 u3)).setCell ⟨b, 4, none⟩ (.int .i64 u4)).setCell ⟨b, 5, none⟩ (.int .i64 u5)).setCell ⟨b, 6, none⟩ (.int .i64 u6)).setCell ⟨b, 7, none⟩ (.int .i64 u7)) := by
  obtain ⟨c0, c1, c2, c3, c4, c5, c6, c7, _, _, _, _, _, _, _, _, lt, _, _⟩ := z
  refine ⟨by simpa using lt, ?_, ?_, ?_, ?_, ?_, ?_, ?_, ?_, ?_⟩
  all_goals first
    | (simp [go_sem, c0, c1, c2, c3, c4, c5, c6, c7]; done)
    | exact (((((((h.setCell (by simpa using hb) _).setCell (by simpa using hb) _).setCell (by simpa using hb) _).setCell (by simpa using hb) _).setCell (by simpa using hb) _).setCell (by simpa using hb) _).setCell (by simpa using hb) _).setCell (by simpa using hb) _
theorem fin_new {w0 w : World} {B : Nat} {u0 u1 u2 u3 u4 u5 u6 u7 : Int} (h : Below B w0 w) (hb : B ≤ w.heap.size) :
    w.heap.size < (w.alloc (.cells #[.int .i64 u0, .int .i64 u1, .int .i64 u2, .int .i64 u3, .int .i64 u4, .int .i64 u5, .int .i64 u6, .int .i64 u7] 25)).heap.size ∧ (w.alloc (.cells #[.int .i64 u0, .int .i64 u1, .int .i64 u2, .int .i64 u3, .int .i64 u4, .int .i64 u5, .int .i64 u6, .int .i64 u7] 25)).cell? ⟨w.heap.size, 0, none⟩ = some (.int .i64 u0) ∧ (w.alloc (.cells #[.int .i64 u0, .int .i64 u1, .int .i64 u2, .int .i64 u3, .int .i64 u4, .int .i64 u5, .int .i64 u6, .int .i64 u7] 25)).cell? ⟨w.heap.size, 1, none⟩ = some (.int .i64 u1) ∧ (w.alloc (.cells #[.int .i64 u0, .int .i64 u1, .int .i64 u2, .int .i64 u3, .int .i64 u4, .int .i64 u5, .int .i64 u6, .int .i64 u7] 25)).cell? ⟨w.heap.size, 2, none⟩ = some (.int .i64 u2) ∧ (w.alloc (.cells #[.int .i64 u0, .int .i64 u1, .int .i64 u2, .int .i64 u3, .int .i64 u4, .int .i64 u5, .int .i64 u6, .int .i64 u7] 25)).cell? ⟨w.heap.size, 3, none⟩ = some (.int .i64 u3) ∧ (w.alloc (.cells #[.int .i64 u0, .int .i64 u1, .int .i64 u2, .int .i64 u3, .int .i64 u4, .int .i64 u5, .int .i64 u6, .int .i64 u7] 25)).cell? ⟨w.heap.size, 4, none⟩ = some (.int .i64 u4) ∧ (w.alloc (.cells #[.int .i64 u0, .int .i64 u1, .int .i64 u2, .int .i64 u3, .int .i64 u4, .int .i64 u5, .int .i64 u6, .int .i64 u7] 25)).cell? ⟨w.heap.size, 5, none⟩ = some (.int .i64 u5) ∧ (w.alloc (.cells #[.int .i64 u0, .int .i64 u1, .int .i64 u2, .int .i64 u3, .int .i64 u4, .int .i64 u5, .int .i64 u6, .int .i64 u7] 25)).cell? ⟨w.heap.size, 6, none⟩ = some (.int .i64 u6) ∧ (w.alloc (.cells #[.int .i64 u0, .int .i64 u1, .int .i64 u2, .int .i64 u3, .int .i64 u4, .int .i64 u5, .int .i64 u6, .int .i64 u7] 25)).cell? ⟨w.heap.size, 7, none⟩ = some (.int .i64 u7) ∧ Below B w0 (w.alloc (.cells #[.int .i64 u0, .int .i64 u1, .int .i64 u2, .int .i64 u3, .int .i64 u4, .int .i64 u5, .int .i64 u6, .int .i64 u7] 25)) := by
  refine ⟨by simp, ?_, ?_, ?_, ?_, ?_, ?_, ?_, ?_, h.alloc hb _⟩ <;> simp [go_sem]
theorem lt_alloc {w : World} {o : Obj} {b : Nat} (h : b < w.heap.size) : b < (w.alloc o).heap.size := by simp; omega
theorem below_undrew {w w' : World} (h : Below w.drew.heap.size w.drew w') : Below w.heap.size w w' := ((Below.refl _ _).drew).trans h
theorem below_unalloc {w w' : World} {o : Obj} (h : Below (w.alloc o).heap.size (w.alloc o) w') : Below w.heap.size w w' := ((Below.refl _ _).alloc (Nat.le_refl _) _).trans (h.mono (by simp))

set_option maxRecDepth 100000 in
set_option maxHeartbeats 8000000 in
theorem fincl_any (s : Sf) (k0 k1 k2 k3 k4 k5 k6 k7 : Int) (w : World) (h0a : 0 ≤ k0) (h0b : k0 ≤ 4294967295) (h1a : 0 ≤ k1) (h1b : k1 ≤ 4294967295) (h2a : 0 ≤ k2) (h2b : k2 ≤ 4294967295) (h3a : 0 ≤ k3) (h3b : k3 ≤ 4294967295) (h4a : 0 ≤ k4) (h4b : k4 ≤ 4294967295) (h5a : 0 ≤ k5) (h5b : k5 ≤ 4294967295) (h6a : 0 ≤ k6) (h6b : k6 ≤ 4294967295) (h7a : 0 ≤ k7) (h7b : k7 ≤ 4294967295) :
    Calls Try.prog 8 #[sv s, .agg #[.int .u32 k0, .int .u32 k1, .int .u32 k2, .int .u32 k3, .int .u32 k4, .int .u32 k5, .int .u32 k6, .int .u32 k7]] w fun e w' => e = .returned (.bool true) ∧ Below w.heap.size w w' := by
  by_cases hv : sfB s = true
  · have hv4 := sf_v' hv
    have V1 := Lib.hid hv4.1
    have V2 := Lib.hid hv4.2.1
    have V3 := Lib.hid hv4.2.2.1
    have V4 := Lib.hid hv4.2.2.2
    have S1 := part_sub k0 k1 V1.out
    obtain ⟨x0, hx0⟩ : ∃ x, partLo s.bl s.bh k0 k1 = x := ⟨_, rfl⟩
    obtain ⟨x1, hx1⟩ : ∃ x, partHi s.bl s.bh k0 k1 = x := ⟨_, rfl⟩
    rw [hx0, hx1] at S1
    have P1 := Lib.hid (show Ending.returned (iv (partLo s.bl s.bh k0 k1) (partHi s.bl s.bh k0 k1)) = .returned (iv x0 x1) from by rw [hx0, hx1])
    clear hx0 hx1
    have S2 := part_sub k2 k3 V2.out
    obtain ⟨x2, hx2⟩ : ∃ x, partLo s.al s.ah k2 k3 = x := ⟨_, rfl⟩
    obtain ⟨x3, hx3⟩ : ∃ x, partHi s.al s.ah k2 k3 = x := ⟨_, rfl⟩
    rw [hx2, hx3] at S2
    have P2 := Lib.hid (show Ending.returned (iv (partLo s.al s.ah k2 k3) (partHi s.al s.ah k2 k3)) = .returned (iv x2 x3) from by rw [hx2, hx3])
    clear hx2 hx3
    have S3 := part_sub k4 k5 V3.out
    obtain ⟨x4, hx4⟩ : ∃ x, partLo s.fl s.fh k4 k5 = x := ⟨_, rfl⟩
    obtain ⟨x5, hx5⟩ : ∃ x, partHi s.fl s.fh k4 k5 = x := ⟨_, rfl⟩
    rw [hx4, hx5] at S3
    have P3 := Lib.hid (show Ending.returned (iv (partLo s.fl s.fh k4 k5) (partHi s.fl s.fh k4 k5)) = .returned (iv x4 x5) from by rw [hx4, hx5])
    clear hx4 hx5
    have S4 := part_sub k6 k7 V4.out
    obtain ⟨x6, hx6⟩ : ∃ x, partLo s.tl s.th k6 k7 = x := ⟨_, rfl⟩
    obtain ⟨x7, hx7⟩ : ∃ x, partHi s.tl s.th k6 k7 = x := ⟨_, rfl⟩
    rw [hx6, hx7] at S4
    have P4 := Lib.hid (show Ending.returned (iv (partLo s.tl s.th k6 k7) (partHi s.tl s.th k6 k7)) = .returned (iv x6 x7) from by rw [hx6, hx7])
    clear hx6 hx7
    have HS := all_sub (p := ⟨x0, x1, x2, x3, x4, x5, x6, x7⟩) (s := s) ⟨S1, S2, S3, S4⟩ hv
    obtain ⟨⟨p1, q1, e1⟩, g1⟩ : ∃ r : R, reflR s = r := ⟨_, rfl⟩
    have H1 := Lib.hid (show retR (reflR s) = .returned (.tuple #[iv p1 q1, .int .i64 e1]) from by rw [g1])
    obtain ⟨⟨p2, q2, e2⟩, g2⟩ : ∃ r : R, reflR (⟨x0, x1, x2, x3, x4, x5, x6, x7⟩ : Sf) = r := ⟨_, rfl⟩
    have H2 := Lib.hid (show retR (reflR (⟨x0, x1, x2, x3, x4, x5, x6, x7⟩ : Sf)) = .returned (.tuple #[iv p2 q2, .int .i64 e2]) from by rw [g2])
    obtain ⟨⟨p3, q3, e3⟩, g3⟩ : ∃ r : R, transR s = r := ⟨_, rfl⟩
    have H3 := Lib.hid (show retR (transR s) = .returned (.tuple #[iv p3 q3, .int .i64 e3]) from by rw [g3])
    obtain ⟨⟨p4, q4, e4⟩, g4⟩ : ∃ r : R, transR (⟨x0, x1, x2, x3, x4, x5, x6, x7⟩ : Sf) = r := ⟨_, rfl⟩
    have H4 := Lib.hid (show retR (transR (⟨x0, x1, x2, x3, x4, x5, x6, x7⟩ : Sf)) = .returned (.tuple #[iv p4 q4, .int .i64 e4]) from by rw [g4])
    rw [g1, g2, g3, g4] at HS
    have HH := Lib.hid HS
    have HV := Lib.hid hv
    clear g1 g2 g3 g4 HS S1 S2 S3 S4 hv4 hv
    go_enter Try.func8, Try.ntmps8
    go_wp2_with fail
    refine (awake_any _).mono ?_
    rintro e w1 ⟨rfl, hb1⟩
    obtain ⟨hc1, hf1⟩ := bcell hb1
    have hz1 := hb1.size
    try simp at hz1
    have hw1 : Below w.heap.size w w1 := Below.trans (by repeat (first | exact Below.refl _ _ | refine Below.drew ?_ | refine bdrewN ?_ _ | refine Below.setCell ?_ (by first | omega | (simp <;> omega)) _ | refine Below.alloc ?_ (by first | omega | (simp <;> omega)) _)) (hb1.mono (by first | omega | (simp <;> omega)))
    have hy1 := hw1.size
    have d1_0_0 : w1.cell? ⟨w.heap.size, 0, none⟩ = some (.int .i64 s.bl) := (hc1 _ _ (by first | omega | (simp <;> omega))).trans (by first | (simp [go_sem, *]; done) | rfl)
    have d1_0_1 : w1.cell? ⟨w.heap.size, 1, none⟩ = some (.int .i64 s.bh) := (hc1 _ _ (by first | omega | (simp <;> omega))).trans (by first | (simp [go_sem, *]; done) | rfl)
    have d1_0_2 : w1.cell? ⟨w.heap.size, 2, none⟩ = some (.int .i64 s.al) := (hc1 _ _ (by first | omega | (simp <;> omega))).trans (by first | (simp [go_sem, *]; done) | rfl)
    have d1_0_3 : w1.cell? ⟨w.heap.size, 3, none⟩ = some (.int .i64 s.ah) := (hc1 _ _ (by first | omega | (simp <;> omega))).trans (by first | (simp [go_sem, *]; done) | rfl)
    have d1_0_4 : w1.cell? ⟨w.heap.size, 4, none⟩ = some (.int .i64 s.fl) := (hc1 _ _ (by first | omega | (simp <;> omega))).trans (by first | (simp [go_sem, *]; done) | rfl)
    have d1_0_5 : w1.cell? ⟨w.heap.size, 5, none⟩ = some (.int .i64 s.fh) := (hc1 _ _ (by first | omega | (simp <;> omega))).trans (by first | (simp [go_sem, *]; done) | rfl)
    have d1_0_6 : w1.cell? ⟨w.heap.size, 6, none⟩ = some (.int .i64 s.tl) := (hc1 _ _ (by first | omega | (simp <;> omega))).trans (by first | (simp [go_sem, *]; done) | rfl)
    have d1_0_7 : w1.cell? ⟨w.heap.size, 7, none⟩ = some (.int .i64 s.th) := (hc1 _ _ (by first | omega | (simp <;> omega))).trans (by first | (simp [go_sem, *]; done) | rfl)
    have d1_1_0 : w1.cell? ⟨w.heap.size + 1, 0, none⟩ = some (.int .u32 k0) := (hc1 _ _ (by first | omega | (simp <;> omega))).trans (by first | (simp [go_sem, *]; done) | rfl)
    have d1_1_1 : w1.cell? ⟨w.heap.size + 1, 1, none⟩ = some (.int .u32 k1) := (hc1 _ _ (by first | omega | (simp <;> omega))).trans (by first | (simp [go_sem, *]; done) | rfl)
    have d1_1_2 : w1.cell? ⟨w.heap.size + 1, 2, none⟩ = some (.int .u32 k2) := (hc1 _ _ (by first | omega | (simp <;> omega))).trans (by first | (simp [go_sem, *]; done) | rfl)
    have d1_1_3 : w1.cell? ⟨w.heap.size + 1, 3, none⟩ = some (.int .u32 k3) := (hc1 _ _ (by first | omega | (simp <;> omega))).trans (by first | (simp [go_sem, *]; done) | rfl)
    have d1_1_4 : w1.cell? ⟨w.heap.size + 1, 4, none⟩ = some (.int .u32 k4) := (hc1 _ _ (by first | omega | (simp <;> omega))).trans (by first | (simp [go_sem, *]; done) | rfl)
    have d1_1_5 : w1.cell? ⟨w.heap.size + 1, 5, none⟩ = some (.int .u32 k5) := (hc1 _ _ (by first | omega | (simp <;> omega))).trans (by first | (simp [go_sem, *]; done) | rfl)
    have d1_1_6 : w1.cell? ⟨w.heap.size + 1, 6, none⟩ = some (.int .u32 k6) := (hc1 _ _ (by first | omega | (simp <;> omega))).trans (by first | (simp [go_sem, *]; done) | rfl)
    have d1_1_7 : w1.cell? ⟨w.heap.size + 1, 7, none⟩ = some (.int .u32 k7) := (hc1 _ _ (by first | omega | (simp <;> omega))).trans (by first | (simp [go_sem, *]; done) | rfl)
    have l1_0 : w.heap.size < w1.heap.size := by omega
    have l1_1 : w.heap.size + 1 < w1.heap.size := by omega
    have hm1_0 : w.heap.size < w1.heap.size := by omega
    have hm1_1 : w.heap.size < w1.heap.size + 1 := by omega
    have hm1_2 : w.heap.size < w1.heap.size + 1 + 1 := by omega
    have hm1_3 : w.heap.size + 1 < w1.heap.size := by omega
    have hm1_4 : w.heap.size + 1 < w1.heap.size + 1 := by omega
    have hm1_5 : w.heap.size < w1.heap.size := by omega
    have hm1_6 : w.heap.size + 1 < w1.heap.size + 1 + 1 := by omega
    have hm1_7 : w.heap.size < w1.heap.size + 1 := by omega
    clear hb1 hc1 hf1 hz1 
    go_wp2_with fail
    refine (rsf_any s _).mono ?_
    rintro e w2 ⟨rfl, hb2⟩
    obtain ⟨hc2, hf2⟩ := bcell hb2
    have hz2 := hb2.size
    try simp at hz2
    have hw2 : Below w.heap.size w w2 := Below.trans (by repeat (first | exact hw1 | refine Below.drew ?_ | refine bdrewN ?_ _ | refine Below.setCell ?_ (by first | omega | (simp <;> omega)) _ | refine Below.alloc ?_ (by first | omega | (simp <;> omega)) _)) (hb2.mono (by first | omega | (simp <;> omega)))
    have hy2 := hw2.size
    have d2_0_0 : w2.cell? ⟨w.heap.size, 0, none⟩ = some (.int .i64 s.bl) := (hc2 _ _ (by first | omega | (simp <;> omega))).trans (by first | (simp [go_sem, *]; done) | rfl)
    have d2_0_1 : w2.cell? ⟨w.heap.size, 1, none⟩ = some (.int .i64 s.bh) := (hc2 _ _ (by first | omega | (simp <;> omega))).trans (by first | (simp [go_sem, *]; done) | rfl)
    have d2_0_2 : w2.cell? ⟨w.heap.size, 2, none⟩ = some (.int .i64 s.al) := (hc2 _ _ (by first | omega | (simp <;> omega))).trans (by first | (simp [go_sem, *]; done) | rfl)
    have d2_0_3 : w2.cell? ⟨w.heap.size, 3, none⟩ = some (.int .i64 s.ah) := (hc2 _ _ (by first | omega | (simp <;> omega))).trans (by first | (simp [go_sem, *]; done) | rfl)
    have d2_0_4 : w2.cell? ⟨w.heap.size, 4, none⟩ = some (.int .i64 s.fl) := (hc2 _ _ (by first | omega | (simp <;> omega))).trans (by first | (simp [go_sem, *]; done) | rfl)
    have d2_0_5 : w2.cell? ⟨w.heap.size, 5, none⟩ = some (.int .i64 s.fh) := (hc2 _ _ (by first | omega | (simp <;> omega))).trans (by first | (simp [go_sem, *]; done) | rfl)
    have d2_0_6 : w2.cell? ⟨w.heap.size, 6, none⟩ = some (.int .i64 s.tl) := (hc2 _ _ (by first | omega | (simp <;> omega))).trans (by first | (simp [go_sem, *]; done) | rfl)
    have d2_0_7 : w2.cell? ⟨w.heap.size, 7, none⟩ = some (.int .i64 s.th) := (hc2 _ _ (by first | omega | (simp <;> omega))).trans (by first | (simp [go_sem, *]; done) | rfl)
    have d2_1_0 : w2.cell? ⟨w.heap.size + 1, 0, none⟩ = some (.int .u32 k0) := (hc2 _ _ (by first | omega | (simp <;> omega))).trans (by first | (simp [go_sem, *]; done) | rfl)
    have d2_1_1 : w2.cell? ⟨w.heap.size + 1, 1, none⟩ = some (.int .u32 k1) := (hc2 _ _ (by first | omega | (simp <;> omega))).trans (by first | (simp [go_sem, *]; done) | rfl)
    have d2_1_2 : w2.cell? ⟨w.heap.size + 1, 2, none⟩ = some (.int .u32 k2) := (hc2 _ _ (by first | omega | (simp <;> omega))).trans (by first | (simp [go_sem, *]; done) | rfl)
    have d2_1_3 : w2.cell? ⟨w.heap.size + 1, 3, none⟩ = some (.int .u32 k3) := (hc2 _ _ (by first | omega | (simp <;> omega))).trans (by first | (simp [go_sem, *]; done) | rfl)
    have d2_1_4 : w2.cell? ⟨w.heap.size + 1, 4, none⟩ = some (.int .u32 k4) := (hc2 _ _ (by first | omega | (simp <;> omega))).trans (by first | (simp [go_sem, *]; done) | rfl)
    have d2_1_5 : w2.cell? ⟨w.heap.size + 1, 5, none⟩ = some (.int .u32 k5) := (hc2 _ _ (by first | omega | (simp <;> omega))).trans (by first | (simp [go_sem, *]; done) | rfl)
    have d2_1_6 : w2.cell? ⟨w.heap.size + 1, 6, none⟩ = some (.int .u32 k6) := (hc2 _ _ (by first | omega | (simp <;> omega))).trans (by first | (simp [go_sem, *]; done) | rfl)
    have d2_1_7 : w2.cell? ⟨w.heap.size + 1, 7, none⟩ = some (.int .u32 k7) := (hc2 _ _ (by first | omega | (simp <;> omega))).trans (by first | (simp [go_sem, *]; done) | rfl)
    have l2_0 : w.heap.size < w2.heap.size := by omega
    have l2_1 : w.heap.size + 1 < w2.heap.size := by omega
    have hm2_0 : w.heap.size < w2.heap.size := by omega
    have hm2_1 : w.heap.size < w2.heap.size + 1 := by omega
    have hm2_2 : w.heap.size < w2.heap.size + 1 + 1 := by omega
    have hm2_3 : w.heap.size + 1 < w2.heap.size := by omega
    have hm2_4 : w.heap.size + 1 < w2.heap.size + 1 := by omega
    have hm2_5 : w.heap.size < w2.heap.size := by omega
    have hm2_6 : w.heap.size + 1 < w2.heap.size + 1 + 1 := by omega
    have hm2_7 : w.heap.size < w2.heap.size + 1 := by omega
    clear hb2 hc2 hf2 hz2 d1_0_0 d1_0_1 d1_0_2 d1_0_3 d1_0_4 d1_0_5 d1_0_6 d1_0_7 d1_1_0 d1_1_1 d1_1_2 d1_1_3 d1_1_4 d1_1_5 d1_1_6 d1_1_7 l1_0 l1_1 hm1_0 hm1_1 hm1_2 hm1_3 hm1_4 hm1_5 hm1_6 hm1_7
    rw [HV.out]
    go_upto_region 5 with fail
    go_cut [5] from 19 to 47 (fun x wx => ∃ b5 : Nat, x = .pointer (some ⟨b5, 0, none⟩) ∧ b5 < wx.heap.size ∧ wx.cell? ⟨b5, 0, none⟩ = some (.int .i64 x0) ∧ wx.cell? ⟨b5, 1, none⟩ = some (.int .i64 x1) ∧ wx.cell? ⟨b5, 2, none⟩ = some (.int .i64 x2) ∧ wx.cell? ⟨b5, 3, none⟩ = some (.int .i64 x3) ∧ wx.cell? ⟨b5, 4, none⟩ = some (.int .i64 x4) ∧ wx.cell? ⟨b5, 5, none⟩ = some (.int .i64 x5) ∧ wx.cell? ⟨b5, 6, none⟩ = some (.int .i64 x6) ∧ wx.cell? ⟨b5, 7, none⟩ = some (.int .i64 x7) ∧ Below w2.heap.size w2 wx)
    case first =>
      have n2_0 : ¬ (w.heap.size = w2.heap.size) := by omega
      have n2_1 : ¬ (w.heap.size + 1 = w2.heap.size) := by omega
      clear H1 H2 H3 H4 HH HV
      go_region_held3 (fun w' => w'.cell? ⟨w.heap.size, 0, none⟩ = some (.int .i64 s.bl) ∧ w'.cell? ⟨w.heap.size, 1, none⟩ = some (.int .i64 s.bh) ∧ w'.cell? ⟨w.heap.size, 2, none⟩ = some (.int .i64 s.al) ∧ w'.cell? ⟨w.heap.size, 3, none⟩ = some (.int .i64 s.ah) ∧ w'.cell? ⟨w.heap.size, 4, none⟩ = some (.int .i64 s.fl) ∧ w'.cell? ⟨w.heap.size, 5, none⟩ = some (.int .i64 s.fh) ∧ w'.cell? ⟨w.heap.size, 6, none⟩ = some (.int .i64 s.tl) ∧ w'.cell? ⟨w.heap.size, 7, none⟩ = some (.int .i64 s.th) ∧ w'.cell? ⟨w.heap.size + 1, 0, none⟩ = some (.int .u32 k0) ∧ w'.cell? ⟨w.heap.size + 1, 1, none⟩ = some (.int .u32 k1) ∧ w'.cell? ⟨w.heap.size + 1, 2, none⟩ = some (.int .u32 k2) ∧ w'.cell? ⟨w.heap.size + 1, 3, none⟩ = some (.int .u32 k3) ∧ w'.cell? ⟨w.heap.size + 1, 4, none⟩ = some (.int .u32 k4) ∧ w'.cell? ⟨w.heap.size + 1, 5, none⟩ = some (.int .u32 k5) ∧ w'.cell? ⟨w.heap.size + 1, 6, none⟩ = some (.int .u32 k6) ∧ w'.cell? ⟨w.heap.size + 1, 7, none⟩ = some (.int .u32 k7)) (with_reducible first | exact ⟨dr d2_0_0, dr d2_0_1, dr d2_0_2, dr d2_0_3, dr d2_0_4, dr d2_0_5, dr d2_0_6, dr d2_0_7, dr d2_1_0, dr d2_1_1, dr d2_1_2, dr d2_1_3, dr d2_1_4, dr d2_1_5, dr d2_1_6, dr d2_1_7⟩ | exact ⟨dr (al d2_0_0), dr (al d2_0_1), dr (al d2_0_2), dr (al d2_0_3), dr (al d2_0_4), dr (al d2_0_5), dr (al d2_0_6), dr (al d2_0_7), dr (al d2_1_0), dr (al d2_1_1), dr (al d2_1_2), dr (al d2_1_3), dr (al d2_1_4), dr (al d2_1_5), dr (al d2_1_6), dr (al d2_1_7)⟩ | exact ⟨dA_0_0, dA_0_1, dA_0_2, dA_0_3, dA_0_4, dA_0_5, dA_0_6, dA_0_7, dA_1_0, dA_1_1, dA_1_2, dA_1_3, dA_1_4, dA_1_5, dA_1_6, dA_1_7⟩ | exact ⟨al dA_0_0, al dA_0_1, al dA_0_2, al dA_0_3, al dA_0_4, al dA_0_5, al dA_0_6, al dA_0_7, al dA_1_0, al dA_1_1, al dA_1_2, al dA_1_3, al dA_1_4, al dA_1_5, al dA_1_6, al dA_1_7⟩ | exact ⟨dB_0_0, dB_0_1, dB_0_2, dB_0_3, dB_0_4, dB_0_5, dB_0_6, dB_0_7, dB_1_0, dB_1_1, dB_1_2, dB_1_3, dB_1_4, dB_1_5, dB_1_6, dB_1_7⟩ | exact ⟨al dB_0_0, al dB_0_1, al dB_0_2, al dB_0_3, al dB_0_4, al dB_0_5, al dB_0_6, al dB_0_7, al dB_1_0, al dB_1_1, al dB_1_2, al dB_1_3, al dB_1_4, al dB_1_5, al dB_1_6, al dB_1_7⟩ | exact ⟨dC_0_0, dC_0_1, dC_0_2, dC_0_3, dC_0_4, dC_0_5, dC_0_6, dC_0_7, dC_1_0, dC_1_1, dC_1_2, dC_1_3, dC_1_4, dC_1_5, dC_1_6, dC_1_7⟩ | exact ⟨al dC_0_0, al dC_0_1, al dC_0_2, al dC_0_3, al dC_0_4, al dC_0_5, al dC_0_6, al dC_0_7, al dC_1_0, al dC_1_1, al dC_1_2, al dC_1_3, al dC_1_4, al dC_1_5, al dC_1_6, al dC_1_7⟩ | exact ⟨dD_0_0, dD_0_1, dD_0_2, dD_0_3, dD_0_4, dD_0_5, dD_0_6, dD_0_7, dD_1_0, dD_1_1, dD_1_2, dD_1_3, dD_1_4, dD_1_5, dD_1_6, dD_1_7⟩ | exact ⟨al dD_0_0, al dD_0_1, al dD_0_2, al dD_0_3, al dD_0_4, al dD_0_5, al dD_0_6, al dD_0_7, al dD_1_0, al dD_1_1, al dD_1_2, al dD_1_3, al dD_1_4, al dD_1_5, al dD_1_6, al dD_1_7⟩ | exact ⟨f8 dD_0_0 n2_0, f8 dD_0_1 n2_0, f8 dD_0_2 n2_0, f8 dD_0_3 n2_0, f8 dD_0_4 n2_0, f8 dD_0_5 n2_0, f8 dD_0_6 n2_0, f8 dD_0_7 n2_0, f8 dD_1_0 n2_1, f8 dD_1_1 n2_1, f8 dD_1_2 n2_1, f8 dD_1_3 n2_1, f8 dD_1_4 n2_1, f8 dD_1_5 n2_1, f8 dD_1_6 n2_1, f8 dD_1_7 n2_1⟩ | exact ⟨f8 dD_0_0 nA_0, f8 dD_0_1 nA_0, f8 dD_0_2 nA_0, f8 dD_0_3 nA_0, f8 dD_0_4 nA_0, f8 dD_0_5 nA_0, f8 dD_0_6 nA_0, f8 dD_0_7 nA_0, f8 dD_1_0 nA_1, f8 dD_1_1 nA_1, f8 dD_1_2 nA_1, f8 dD_1_3 nA_1, f8 dD_1_4 nA_1, f8 dD_1_5 nA_1, f8 dD_1_6 nA_1, f8 dD_1_7 nA_1⟩ | exact ⟨f8 dD_0_0 nB_0, f8 dD_0_1 nB_0, f8 dD_0_2 nB_0, f8 dD_0_3 nB_0, f8 dD_0_4 nB_0, f8 dD_0_5 nB_0, f8 dD_0_6 nB_0, f8 dD_0_7 nB_0, f8 dD_1_0 nB_1, f8 dD_1_1 nB_1, f8 dD_1_2 nB_1, f8 dD_1_3 nB_1, f8 dD_1_4 nB_1, f8 dD_1_5 nB_1, f8 dD_1_6 nB_1, f8 dD_1_7 nB_1⟩ | exact ⟨f8 dD_0_0 nC_0, f8 dD_0_1 nC_0, f8 dD_0_2 nC_0, f8 dD_0_3 nC_0, f8 dD_0_4 nC_0, f8 dD_0_5 nC_0, f8 dD_0_6 nC_0, f8 dD_0_7 nC_0, f8 dD_1_0 nC_1, f8 dD_1_1 nC_1, f8 dD_1_2 nC_1, f8 dD_1_3 nC_1, f8 dD_1_4 nC_1, f8 dD_1_5 nC_1, f8 dD_1_6 nC_1, f8 dD_1_7 nC_1⟩)
        (first | (have hm := hmarkC; go_at_call 25; refine (part30_any _ _ _ _ _ (by first | exact V1.out | exact V2.out | exact V3.out | exact V4.out) (by assumption) (by assumption) (by assumption) (by assumption)).mono ?_; rintro e wD ⟨rfl, hbD⟩; (first | rw [P1.out] | rw [P2.out] | rw [P3.out] | rw [P4.out]); obtain ⟨hcD, hfD⟩ := bcell hbD; have hsD := hbD.size; (try simp at hsD); have hxD := hwC.size; have hvD : Below wC.heap.size wC wD := (by with_reducible first | exact hbD | exact below_unalloc hbD); have hwD : Below w2.heap.size w2 wD := hwC.trans (hvD.mono hxD); have dD_0_0 : wD.cell? ⟨w.heap.size, 0, none⟩ = some (.int .i64 s.bl) := (by with_reducible first | exact (hcD _ _ lC_0).trans dC_0_0 | exact (hcD _ _ (lt_alloc lC_0)).trans (al dC_0_0)); have dD_0_1 : wD.cell? ⟨w.heap.size, 1, none⟩ = some (.int .i64 s.bh) := (by with_reducible first | exact (hcD _ _ lC_0).trans dC_0_1 | exact (hcD _ _ (lt_alloc lC_0)).trans (al dC_0_1)); have dD_0_2 : wD.cell? ⟨w.heap.size, 2, none⟩ = some (.int .i64 s.al) := (by with_reducible first | exact (hcD _ _ lC_0).trans dC_0_2 | exact (hcD _ _ (lt_alloc lC_0)).trans (al dC_0_2)); have dD_0_3 : wD.cell? ⟨w.heap.size, 3, none⟩ = some (.int .i64 s.ah) := (by with_reducible first | exact (hcD _ _ lC_0).trans dC_0_3 | exact (hcD _ _ (lt_alloc lC_0)).trans (al dC_0_3)); have dD_0_4 : wD.cell? ⟨w.heap.size, 4, none⟩ = some (.int .i64 s.fl) := (by with_reducible first | exact (hcD _ _ lC_0).trans dC_0_4 | exact (hcD _ _ (lt_alloc lC_0)).trans (al dC_0_4)); have dD_0_5 : wD.cell? ⟨w.heap.size, 5, none⟩ = some (.int .i64 s.fh) := (by with_reducible first | exact (hcD _ _ lC_0).trans dC_0_5 | exact (hcD _ _ (lt_alloc lC_0)).trans (al dC_0_5)); have dD_0_6 : wD.cell? ⟨w.heap.size, 6, none⟩ = some (.int .i64 s.tl) := (by with_reducible first | exact (hcD _ _ lC_0).trans dC_0_6 | exact (hcD _ _ (lt_alloc lC_0)).trans (al dC_0_6)); have dD_0_7 : wD.cell? ⟨w.heap.size, 7, none⟩ = some (.int .i64 s.th) := (by with_reducible first | exact (hcD _ _ lC_0).trans dC_0_7 | exact (hcD _ _ (lt_alloc lC_0)).trans (al dC_0_7)); have lD_0 : w.heap.size < wD.heap.size := (by omega); have nD_0 : ¬ (w.heap.size = wD.heap.size) := (by omega); have dD_1_0 : wD.cell? ⟨w.heap.size + 1, 0, none⟩ = some (.int .u32 k0) := (by with_reducible first | exact (hcD _ _ lC_1).trans dC_1_0 | exact (hcD _ _ (lt_alloc lC_1)).trans (al dC_1_0)); have dD_1_1 : wD.cell? ⟨w.heap.size + 1, 1, none⟩ = some (.int .u32 k1) := (by with_reducible first | exact (hcD _ _ lC_1).trans dC_1_1 | exact (hcD _ _ (lt_alloc lC_1)).trans (al dC_1_1)); have dD_1_2 : wD.cell? ⟨w.heap.size + 1, 2, none⟩ = some (.int .u32 k2) := (by with_reducible first | exact (hcD _ _ lC_1).trans dC_1_2 | exact (hcD _ _ (lt_alloc lC_1)).trans (al dC_1_2)); have dD_1_3 : wD.cell? ⟨w.heap.size + 1, 3, none⟩ = some (.int .u32 k3) := (by with_reducible first | exact (hcD _ _ lC_1).trans dC_1_3 | exact (hcD _ _ (lt_alloc lC_1)).trans (al dC_1_3)); have dD_1_4 : wD.cell? ⟨w.heap.size + 1, 4, none⟩ = some (.int .u32 k4) := (by with_reducible first | exact (hcD _ _ lC_1).trans dC_1_4 | exact (hcD _ _ (lt_alloc lC_1)).trans (al dC_1_4)); have dD_1_5 : wD.cell? ⟨w.heap.size + 1, 5, none⟩ = some (.int .u32 k5) := (by with_reducible first | exact (hcD _ _ lC_1).trans dC_1_5 | exact (hcD _ _ (lt_alloc lC_1)).trans (al dC_1_5)); have dD_1_6 : wD.cell? ⟨w.heap.size + 1, 6, none⟩ = some (.int .u32 k6) := (by with_reducible first | exact (hcD _ _ lC_1).trans dC_1_6 | exact (hcD _ _ (lt_alloc lC_1)).trans (al dC_1_6)); have dD_1_7 : wD.cell? ⟨w.heap.size + 1, 7, none⟩ = some (.int .u32 k7) := (by with_reducible first | exact (hcD _ _ lC_1).trans dC_1_7 | exact (hcD _ _ (lt_alloc lC_1)).trans (al dC_1_7)); have lD_1 : w.heap.size + 1 < wD.heap.size := (by omega); have nD_1 : ¬ (w.heap.size + 1 = wD.heap.size) := (by omega); (first | (with_reducible have zD := zero8_kept hcD hfD hbD.size (zero8_new wC)) | (with_reducible have zD := zero8_kept hcD hfD hbD.size zC) | skip); (try (have zE := zD; obtain ⟨c0, c1, c2, c3, c4, c5, c6, c7, f0, f1, f2, f3, f4, f5, f6, f7, hlt, hn1, hn2⟩ := zD)); have hmarkD : wD = wD := rfl) | (have hm := hmarkB; go_at_call 25; refine (part30_any _ _ _ _ _ (by first | exact V1.out | exact V2.out | exact V3.out | exact V4.out) (by assumption) (by assumption) (by assumption) (by assumption)).mono ?_; rintro e wC ⟨rfl, hbC⟩; (first | rw [P1.out] | rw [P2.out] | rw [P3.out] | rw [P4.out]); obtain ⟨hcC, hfC⟩ := bcell hbC; have hsC := hbC.size; (try simp at hsC); have hxC := hwB.size; have hvC : Below wB.heap.size wB wC := (by with_reducible first | exact hbC | exact below_unalloc hbC); have hwC : Below w2.heap.size w2 wC := hwB.trans (hvC.mono hxC); have dC_0_0 : wC.cell? ⟨w.heap.size, 0, none⟩ = some (.int .i64 s.bl) := (by with_reducible first | exact (hcC _ _ lB_0).trans dB_0_0 | exact (hcC _ _ (lt_alloc lB_0)).trans (al dB_0_0)); have dC_0_1 : wC.cell? ⟨w.heap.size, 1, none⟩ = some (.int .i64 s.bh) := (by with_reducible first | exact (hcC _ _ lB_0).trans dB_0_1 | exact (hcC _ _ (lt_alloc lB_0)).trans (al dB_0_1)); have dC_0_2 : wC.cell? ⟨w.heap.size, 2, none⟩ = some (.int .i64 s.al) := (by with_reducible first | exact (hcC _ _ lB_0).trans dB_0_2 | exact (hcC _ _ (lt_alloc lB_0)).trans (al dB_0_2)); have dC_0_3 : wC.cell? ⟨w.heap.size, 3, none⟩ = some (.int .i64 s.ah) := (by with_reducible first | exact (hcC _ _ lB_0).trans dB_0_3 | exact (hcC _ _ (lt_alloc lB_0)).trans (al dB_0_3)); have dC_0_4 : wC.cell? ⟨w.heap.size, 4, none⟩ = some (.int .i64 s.fl) := (by with_reducible first | exact (hcC _ _ lB_0).trans dB_0_4 | exact (hcC _ _ (lt_alloc lB_0)).trans (al dB_0_4)); have dC_0_5 : wC.cell? ⟨w.heap.size, 5, none⟩ = some (.int .i64 s.fh) := (by with_reducible first | exact (hcC _ _ lB_0).trans dB_0_5 | exact (hcC _ _ (lt_alloc lB_0)).trans (al dB_0_5)); have dC_0_6 : wC.cell? ⟨w.heap.size, 6, none⟩ = some (.int .i64 s.tl) := (by with_reducible first | exact (hcC _ _ lB_0).trans dB_0_6 | exact (hcC _ _ (lt_alloc lB_0)).trans (al dB_0_6)); have dC_0_7 : wC.cell? ⟨w.heap.size, 7, none⟩ = some (.int .i64 s.th) := (by with_reducible first | exact (hcC _ _ lB_0).trans dB_0_7 | exact (hcC _ _ (lt_alloc lB_0)).trans (al dB_0_7)); have lC_0 : w.heap.size < wC.heap.size := (by omega); have nC_0 : ¬ (w.heap.size = wC.heap.size) := (by omega); have dC_1_0 : wC.cell? ⟨w.heap.size + 1, 0, none⟩ = some (.int .u32 k0) := (by with_reducible first | exact (hcC _ _ lB_1).trans dB_1_0 | exact (hcC _ _ (lt_alloc lB_1)).trans (al dB_1_0)); have dC_1_1 : wC.cell? ⟨w.heap.size + 1, 1, none⟩ = some (.int .u32 k1) := (by with_reducible first | exact (hcC _ _ lB_1).trans dB_1_1 | exact (hcC _ _ (lt_alloc lB_1)).trans (al dB_1_1)); have dC_1_2 : wC.cell? ⟨w.heap.size + 1, 2, none⟩ = some (.int .u32 k2) := (by with_reducible first | exact (hcC _ _ lB_1).trans dB_1_2 | exact (hcC _ _ (lt_alloc lB_1)).trans (al dB_1_2)); have dC_1_3 : wC.cell? ⟨w.heap.size + 1, 3, none⟩ = some (.int .u32 k3) := (by with_reducible first | exact (hcC _ _ lB_1).trans dB_1_3 | exact (hcC _ _ (lt_alloc lB_1)).trans (al dB_1_3)); have dC_1_4 : wC.cell? ⟨w.heap.size + 1, 4, none⟩ = some (.int .u32 k4) := (by with_reducible first | exact (hcC _ _ lB_1).trans dB_1_4 | exact (hcC _ _ (lt_alloc lB_1)).trans (al dB_1_4)); have dC_1_5 : wC.cell? ⟨w.heap.size + 1, 5, none⟩ = some (.int .u32 k5) := (by with_reducible first | exact (hcC _ _ lB_1).trans dB_1_5 | exact (hcC _ _ (lt_alloc lB_1)).trans (al dB_1_5)); have dC_1_6 : wC.cell? ⟨w.heap.size + 1, 6, none⟩ = some (.int .u32 k6) := (by with_reducible first | exact (hcC _ _ lB_1).trans dB_1_6 | exact (hcC _ _ (lt_alloc lB_1)).trans (al dB_1_6)); have dC_1_7 : wC.cell? ⟨w.heap.size + 1, 7, none⟩ = some (.int .u32 k7) := (by with_reducible first | exact (hcC _ _ lB_1).trans dB_1_7 | exact (hcC _ _ (lt_alloc lB_1)).trans (al dB_1_7)); have lC_1 : w.heap.size + 1 < wC.heap.size := (by omega); have nC_1 : ¬ (w.heap.size + 1 = wC.heap.size) := (by omega); (first | (with_reducible have zC := zero8_kept hcC hfC hbC.size (zero8_new wB)) | (with_reducible have zC := zero8_kept hcC hfC hbC.size zB) | skip); have hmarkC : wC = wC := rfl) | (have hm := hmarkA; go_at_call 25; refine (part30_any _ _ _ _ _ (by first | exact V1.out | exact V2.out | exact V3.out | exact V4.out) (by assumption) (by assumption) (by assumption) (by assumption)).mono ?_; rintro e wB ⟨rfl, hbB⟩; (first | rw [P1.out] | rw [P2.out] | rw [P3.out] | rw [P4.out]); obtain ⟨hcB, hfB⟩ := bcell hbB; have hsB := hbB.size; (try simp at hsB); have hxB := hwA.size; have hvB : Below wA.heap.size wA wB := (by with_reducible first | exact hbB | exact below_unalloc hbB); have hwB : Below w2.heap.size w2 wB := hwA.trans (hvB.mono hxB); have dB_0_0 : wB.cell? ⟨w.heap.size, 0, none⟩ = some (.int .i64 s.bl) := (by with_reducible first | exact (hcB _ _ lA_0).trans dA_0_0 | exact (hcB _ _ (lt_alloc lA_0)).trans (al dA_0_0)); have dB_0_1 : wB.cell? ⟨w.heap.size, 1, none⟩ = some (.int .i64 s.bh) := (by with_reducible first | exact (hcB _ _ lA_0).trans dA_0_1 | exact (hcB _ _ (lt_alloc lA_0)).trans (al dA_0_1)); have dB_0_2 : wB.cell? ⟨w.heap.size, 2, none⟩ = some (.int .i64 s.al) := (by with_reducible first | exact (hcB _ _ lA_0).trans dA_0_2 | exact (hcB _ _ (lt_alloc lA_0)).trans (al dA_0_2)); have dB_0_3 : wB.cell? ⟨w.heap.size, 3, none⟩ = some (.int .i64 s.ah) := (by with_reducible first | exact (hcB _ _ lA_0).trans dA_0_3 | exact (hcB _ _ (lt_alloc lA_0)).trans (al dA_0_3)); have dB_0_4 : wB.cell? ⟨w.heap.size, 4, none⟩ = some (.int .i64 s.fl) := (by with_reducible first | exact (hcB _ _ lA_0).trans dA_0_4 | exact (hcB _ _ (lt_alloc lA_0)).trans (al dA_0_4)); have dB_0_5 : wB.cell? ⟨w.heap.size, 5, none⟩ = some (.int .i64 s.fh) := (by with_reducible first | exact (hcB _ _ lA_0).trans dA_0_5 | exact (hcB _ _ (lt_alloc lA_0)).trans (al dA_0_5)); have dB_0_6 : wB.cell? ⟨w.heap.size, 6, none⟩ = some (.int .i64 s.tl) := (by with_reducible first | exact (hcB _ _ lA_0).trans dA_0_6 | exact (hcB _ _ (lt_alloc lA_0)).trans (al dA_0_6)); have dB_0_7 : wB.cell? ⟨w.heap.size, 7, none⟩ = some (.int .i64 s.th) := (by with_reducible first | exact (hcB _ _ lA_0).trans dA_0_7 | exact (hcB _ _ (lt_alloc lA_0)).trans (al dA_0_7)); have lB_0 : w.heap.size < wB.heap.size := (by omega); have nB_0 : ¬ (w.heap.size = wB.heap.size) := (by omega); have dB_1_0 : wB.cell? ⟨w.heap.size + 1, 0, none⟩ = some (.int .u32 k0) := (by with_reducible first | exact (hcB _ _ lA_1).trans dA_1_0 | exact (hcB _ _ (lt_alloc lA_1)).trans (al dA_1_0)); have dB_1_1 : wB.cell? ⟨w.heap.size + 1, 1, none⟩ = some (.int .u32 k1) := (by with_reducible first | exact (hcB _ _ lA_1).trans dA_1_1 | exact (hcB _ _ (lt_alloc lA_1)).trans (al dA_1_1)); have dB_1_2 : wB.cell? ⟨w.heap.size + 1, 2, none⟩ = some (.int .u32 k2) := (by with_reducible first | exact (hcB _ _ lA_1).trans dA_1_2 | exact (hcB _ _ (lt_alloc lA_1)).trans (al dA_1_2)); have dB_1_3 : wB.cell? ⟨w.heap.size + 1, 3, none⟩ = some (.int .u32 k3) := (by with_reducible first | exact (hcB _ _ lA_1).trans dA_1_3 | exact (hcB _ _ (lt_alloc lA_1)).trans (al dA_1_3)); have dB_1_4 : wB.cell? ⟨w.heap.size + 1, 4, none⟩ = some (.int .u32 k4) := (by with_reducible first | exact (hcB _ _ lA_1).trans dA_1_4 | exact (hcB _ _ (lt_alloc lA_1)).trans (al dA_1_4)); have dB_1_5 : wB.cell? ⟨w.heap.size + 1, 5, none⟩ = some (.int .u32 k5) := (by with_reducible first | exact (hcB _ _ lA_1).trans dA_1_5 | exact (hcB _ _ (lt_alloc lA_1)).trans (al dA_1_5)); have dB_1_6 : wB.cell? ⟨w.heap.size + 1, 6, none⟩ = some (.int .u32 k6) := (by with_reducible first | exact (hcB _ _ lA_1).trans dA_1_6 | exact (hcB _ _ (lt_alloc lA_1)).trans (al dA_1_6)); have dB_1_7 : wB.cell? ⟨w.heap.size + 1, 7, none⟩ = some (.int .u32 k7) := (by with_reducible first | exact (hcB _ _ lA_1).trans dA_1_7 | exact (hcB _ _ (lt_alloc lA_1)).trans (al dA_1_7)); have lB_1 : w.heap.size + 1 < wB.heap.size := (by omega); have nB_1 : ¬ (w.heap.size + 1 = wB.heap.size) := (by omega); (first | (with_reducible have zB := zero8_kept hcB hfB hbB.size (zero8_new wA)) | (with_reducible have zB := zero8_kept hcB hfB hbB.size zA) | skip); have hmarkB : wB = wB := rfl) | (go_at_call 25; refine (part30_any _ _ _ _ _ (by first | exact V1.out | exact V2.out | exact V3.out | exact V4.out) (by assumption) (by assumption) (by assumption) (by assumption)).mono ?_; rintro e wA ⟨rfl, hbA⟩; (first | rw [P1.out] | rw [P2.out] | rw [P3.out] | rw [P4.out]); obtain ⟨hcA, hfA⟩ := bcell hbA; have hsA := hbA.size; (try simp at hsA); have hwA : Below w2.heap.size w2 wA := (by with_reducible first | exact below_undrew hbA | exact below_unalloc (below_undrew hbA)); have dA_0_0 : wA.cell? ⟨w.heap.size, 0, none⟩ = some (.int .i64 s.bl) := (by with_reducible first | exact (hcA _ _ (lt_drew l2_0)).trans (dr d2_0_0) | exact (hcA _ _ (lt_drew (lt_alloc l2_0))).trans (dr (al d2_0_0))); have dA_0_1 : wA.cell? ⟨w.heap.size, 1, none⟩ = some (.int .i64 s.bh) := (by with_reducible first | exact (hcA _ _ (lt_drew l2_0)).trans (dr d2_0_1) | exact (hcA _ _ (lt_drew (lt_alloc l2_0))).trans (dr (al d2_0_1))); have dA_0_2 : wA.cell? ⟨w.heap.size, 2, none⟩ = some (.int .i64 s.al) := (by with_reducible first | exact (hcA _ _ (lt_drew l2_0)).trans (dr d2_0_2) | exact (hcA _ _ (lt_drew (lt_alloc l2_0))).trans (dr (al d2_0_2))); have dA_0_3 : wA.cell? ⟨w.heap.size, 3, none⟩ = some (.int .i64 s.ah) := (by with_reducible first | exact (hcA _ _ (lt_drew l2_0)).trans (dr d2_0_3) | exact (hcA _ _ (lt_drew (lt_alloc l2_0))).trans (dr (al d2_0_3))); have dA_0_4 : wA.cell? ⟨w.heap.size, 4, none⟩ = some (.int .i64 s.fl) := (by with_reducible first | exact (hcA _ _ (lt_drew l2_0)).trans (dr d2_0_4) | exact (hcA _ _ (lt_drew (lt_alloc l2_0))).trans (dr (al d2_0_4))); have dA_0_5 : wA.cell? ⟨w.heap.size, 5, none⟩ = some (.int .i64 s.fh) := (by with_reducible first | exact (hcA _ _ (lt_drew l2_0)).trans (dr d2_0_5) | exact (hcA _ _ (lt_drew (lt_alloc l2_0))).trans (dr (al d2_0_5))); have dA_0_6 : wA.cell? ⟨w.heap.size, 6, none⟩ = some (.int .i64 s.tl) := (by with_reducible first | exact (hcA _ _ (lt_drew l2_0)).trans (dr d2_0_6) | exact (hcA _ _ (lt_drew (lt_alloc l2_0))).trans (dr (al d2_0_6))); have dA_0_7 : wA.cell? ⟨w.heap.size, 7, none⟩ = some (.int .i64 s.th) := (by with_reducible first | exact (hcA _ _ (lt_drew l2_0)).trans (dr d2_0_7) | exact (hcA _ _ (lt_drew (lt_alloc l2_0))).trans (dr (al d2_0_7))); have lA_0 : w.heap.size < wA.heap.size := (by omega); have nA_0 : ¬ (w.heap.size = wA.heap.size) := (by omega); have dA_1_0 : wA.cell? ⟨w.heap.size + 1, 0, none⟩ = some (.int .u32 k0) := (by with_reducible first | exact (hcA _ _ (lt_drew l2_1)).trans (dr d2_1_0) | exact (hcA _ _ (lt_drew (lt_alloc l2_1))).trans (dr (al d2_1_0))); have dA_1_1 : wA.cell? ⟨w.heap.size + 1, 1, none⟩ = some (.int .u32 k1) := (by with_reducible first | exact (hcA _ _ (lt_drew l2_1)).trans (dr d2_1_1) | exact (hcA _ _ (lt_drew (lt_alloc l2_1))).trans (dr (al d2_1_1))); have dA_1_2 : wA.cell? ⟨w.heap.size + 1, 2, none⟩ = some (.int .u32 k2) := (by with_reducible first | exact (hcA _ _ (lt_drew l2_1)).trans (dr d2_1_2) | exact (hcA _ _ (lt_drew (lt_alloc l2_1))).trans (dr (al d2_1_2))); have dA_1_3 : wA.cell? ⟨w.heap.size + 1, 3, none⟩ = some (.int .u32 k3) := (by with_reducible first | exact (hcA _ _ (lt_drew l2_1)).trans (dr d2_1_3) | exact (hcA _ _ (lt_drew (lt_alloc l2_1))).trans (dr (al d2_1_3))); have dA_1_4 : wA.cell? ⟨w.heap.size + 1, 4, none⟩ = some (.int .u32 k4) := (by with_reducible first | exact (hcA _ _ (lt_drew l2_1)).trans (dr d2_1_4) | exact (hcA _ _ (lt_drew (lt_alloc l2_1))).trans (dr (al d2_1_4))); have dA_1_5 : wA.cell? ⟨w.heap.size + 1, 5, none⟩ = some (.int .u32 k5) := (by with_reducible first | exact (hcA _ _ (lt_drew l2_1)).trans (dr d2_1_5) | exact (hcA _ _ (lt_drew (lt_alloc l2_1))).trans (dr (al d2_1_5))); have dA_1_6 : wA.cell? ⟨w.heap.size + 1, 6, none⟩ = some (.int .u32 k6) := (by with_reducible first | exact (hcA _ _ (lt_drew l2_1)).trans (dr d2_1_6) | exact (hcA _ _ (lt_drew (lt_alloc l2_1))).trans (dr (al d2_1_6))); have dA_1_7 : wA.cell? ⟨w.heap.size + 1, 7, none⟩ = some (.int .u32 k7) := (by with_reducible first | exact (hcA _ _ (lt_drew l2_1)).trans (dr d2_1_7) | exact (hcA _ _ (lt_drew (lt_alloc l2_1))).trans (dr (al d2_1_7))); have lA_1 : w.heap.size + 1 < wA.heap.size := (by omega); have nA_1 : ¬ (w.heap.size + 1 = wA.heap.size) := (by omega); (first | (with_reducible have zA := zero8_kept hcA hfA hbA.size (zero8_new2 w2)) | skip); have hmarkA : wA = wA := rfl))
      all_goals (go_wp2_with fail; go_meet)
      all_goals (refine ⟨_, rfl, ?_⟩)
      all_goals with_reducible first
        | exact fin_new hwD hwD.size
        | exact fin_set zE hwD (Nat.le_refl _)
        | exact fin_set zE hwD hwA.size
        | exact fin_set zE hwD hwB.size
        | exact fin_set zE hwD hwC.size
    case rest =>
      obtain ⟨b5, rfl, l5, y0, y1, y2, y3, y4, y5, y6, y7, hb3⟩ := hcut
      obtain ⟨w3, hwc⟩ : ∃ x, x = wc := ⟨_, rfl⟩
      rw [← hwc] at l5 y0 y1 y2 y3 y4 y5 y6 y7 hb3
      rw [← hwc]
      clear hwc
      obtain ⟨hc3, hf3⟩ := bcell hb3
      have hz3 := hb3.size
      have hw3 : Below w.heap.size w w3 := Below.trans hw2 (hb3.mono (by first | omega | (simp <;> omega)))
      have d3_0_0 : w3.cell? ⟨w.heap.size, 0, none⟩ = some (.int .i64 s.bl) := (hc3 _ _ (by first | omega | (simp <;> omega))).trans (by first | (simp [go_sem, *]; done) | rfl)
      have d3_0_1 : w3.cell? ⟨w.heap.size, 1, none⟩ = some (.int .i64 s.bh) := (hc3 _ _ (by first | omega | (simp <;> omega))).trans (by first | (simp [go_sem, *]; done) | rfl)
      have d3_0_2 : w3.cell? ⟨w.heap.size, 2, none⟩ = some (.int .i64 s.al) := (hc3 _ _ (by first | omega | (simp <;> omega))).trans (by first | (simp [go_sem, *]; done) | rfl)
      have d3_0_3 : w3.cell? ⟨w.heap.size, 3, none⟩ = some (.int .i64 s.ah) := (hc3 _ _ (by first | omega | (simp <;> omega))).trans (by first | (simp [go_sem, *]; done) | rfl)
      have d3_0_4 : w3.cell? ⟨w.heap.size, 4, none⟩ = some (.int .i64 s.fl) := (hc3 _ _ (by first | omega | (simp <;> omega))).trans (by first | (simp [go_sem, *]; done) | rfl)
      have d3_0_5 : w3.cell? ⟨w.heap.size, 5, none⟩ = some (.int .i64 s.fh) := (hc3 _ _ (by first | omega | (simp <;> omega))).trans (by first | (simp [go_sem, *]; done) | rfl)
      have d3_0_6 : w3.cell? ⟨w.heap.size, 6, none⟩ = some (.int .i64 s.tl) := (hc3 _ _ (by first | omega | (simp <;> omega))).trans (by first | (simp [go_sem, *]; done) | rfl)
      have d3_0_7 : w3.cell? ⟨w.heap.size, 7, none⟩ = some (.int .i64 s.th) := (hc3 _ _ (by first | omega | (simp <;> omega))).trans (by first | (simp [go_sem, *]; done) | rfl)
      have l3_0 : w.heap.size < w3.heap.size := by omega
      have hm3_0 : w.heap.size < w3.heap.size := by omega
      have hm3_1 : w.heap.size < w3.heap.size + 1 := by omega
      have hm3_2 : w.heap.size < w3.heap.size + 1 + 1 := by omega
      clear hb3 hc3 hf3 hz3 d2_0_0 d2_0_1 d2_0_2 d2_0_3 d2_0_4 d2_0_5 d2_0_6 d2_0_7 d2_1_0 d2_1_1 d2_1_2 d2_1_3 d2_1_4 d2_1_5 d2_1_6 d2_1_7 l2_0 l2_1 hm2_0 hm2_1 hm2_2 hm2_3 hm2_4 hm2_5 hm2_6 hm2_7
      go_wp2_with fail
      refine (refl_any s _).mono ?_
      rintro e w4 ⟨rfl, hb4⟩
      obtain ⟨hc4, hf4⟩ := bcell hb4
      have hz4 := hb4.size
      try simp at hz4
      have hw4 : Below w.heap.size w w4 := Below.trans (by repeat (first | exact hw3 | refine Below.drew ?_ | refine bdrewN ?_ _ | refine Below.setCell ?_ (by first | omega | (simp <;> omega)) _ | refine Below.alloc ?_ (by first | omega | (simp <;> omega)) _)) (hb4.mono (by first | omega | (simp <;> omega)))
      have hy4 := hw4.size
      have d4_0_0 : w4.cell? ⟨w.heap.size, 0, none⟩ = some (.int .i64 s.bl) := (hc4 _ _ (by first | omega | (simp <;> omega))).trans (by first | (simp [go_sem, *]; done) | rfl)
      have d4_0_1 : w4.cell? ⟨w.heap.size, 1, none⟩ = some (.int .i64 s.bh) := (hc4 _ _ (by first | omega | (simp <;> omega))).trans (by first | (simp [go_sem, *]; done) | rfl)
      have d4_0_2 : w4.cell? ⟨w.heap.size, 2, none⟩ = some (.int .i64 s.al) := (hc4 _ _ (by first | omega | (simp <;> omega))).trans (by first | (simp [go_sem, *]; done) | rfl)
      have d4_0_3 : w4.cell? ⟨w.heap.size, 3, none⟩ = some (.int .i64 s.ah) := (hc4 _ _ (by first | omega | (simp <;> omega))).trans (by first | (simp [go_sem, *]; done) | rfl)
      have d4_0_4 : w4.cell? ⟨w.heap.size, 4, none⟩ = some (.int .i64 s.fl) := (hc4 _ _ (by first | omega | (simp <;> omega))).trans (by first | (simp [go_sem, *]; done) | rfl)
      have d4_0_5 : w4.cell? ⟨w.heap.size, 5, none⟩ = some (.int .i64 s.fh) := (hc4 _ _ (by first | omega | (simp <;> omega))).trans (by first | (simp [go_sem, *]; done) | rfl)
      have d4_0_6 : w4.cell? ⟨w.heap.size, 6, none⟩ = some (.int .i64 s.tl) := (hc4 _ _ (by first | omega | (simp <;> omega))).trans (by first | (simp [go_sem, *]; done) | rfl)
      have d4_0_7 : w4.cell? ⟨w.heap.size, 7, none⟩ = some (.int .i64 s.th) := (hc4 _ _ (by first | omega | (simp <;> omega))).trans (by first | (simp [go_sem, *]; done) | rfl)
      have d4_1_0 : w4.cell? ⟨b5, 0, none⟩ = some (.int .i64 x0) := (hc4 _ _ (by first | omega | (simp <;> omega))).trans (by first | (simp [go_sem, *]; done) | rfl)
      have d4_1_1 : w4.cell? ⟨b5, 1, none⟩ = some (.int .i64 x1) := (hc4 _ _ (by first | omega | (simp <;> omega))).trans (by first | (simp [go_sem, *]; done) | rfl)
      have d4_1_2 : w4.cell? ⟨b5, 2, none⟩ = some (.int .i64 x2) := (hc4 _ _ (by first | omega | (simp <;> omega))).trans (by first | (simp [go_sem, *]; done) | rfl)
      have d4_1_3 : w4.cell? ⟨b5, 3, none⟩ = some (.int .i64 x3) := (hc4 _ _ (by first | omega | (simp <;> omega))).trans (by first | (simp [go_sem, *]; done) | rfl)
      have d4_1_4 : w4.cell? ⟨b5, 4, none⟩ = some (.int .i64 x4) := (hc4 _ _ (by first | omega | (simp <;> omega))).trans (by first | (simp [go_sem, *]; done) | rfl)
      have d4_1_5 : w4.cell? ⟨b5, 5, none⟩ = some (.int .i64 x5) := (hc4 _ _ (by first | omega | (simp <;> omega))).trans (by first | (simp [go_sem, *]; done) | rfl)
      have d4_1_6 : w4.cell? ⟨b5, 6, none⟩ = some (.int .i64 x6) := (hc4 _ _ (by first | omega | (simp <;> omega))).trans (by first | (simp [go_sem, *]; done) | rfl)
      have d4_1_7 : w4.cell? ⟨b5, 7, none⟩ = some (.int .i64 x7) := (hc4 _ _ (by first | omega | (simp <;> omega))).trans (by first | (simp [go_sem, *]; done) | rfl)
      have l4_0 : w.heap.size < w4.heap.size := by omega
      have l4_1 : b5 < w4.heap.size := by omega
      have hm4_0 : w.heap.size < w4.heap.size := by omega
      have hm4_1 : w.heap.size < w4.heap.size + 1 := by omega
      have hm4_2 : w.heap.size < w4.heap.size + 1 + 1 := by omega
      have hm4_3 : b5 < w4.heap.size := by omega
      have hm4_4 : b5 < w4.heap.size + 1 := by omega
      have hm4_5 : b5 < w4.heap.size + 1 + 1 := by omega
      clear hb4 hc4 hf4 hz4 d3_0_0 d3_0_1 d3_0_2 d3_0_3 d3_0_4 d3_0_5 d3_0_6 d3_0_7 l3_0 hm3_0 hm3_1 hm3_2 y0 y1 y2 y3 y4 y5 y6 y7
      rw [H1.out]
      go_wp2_with fail
      refine (refl_any ⟨x0, x1, x2, x3, x4, x5, x6, x7⟩ _).mono ?_
      rintro e w5 ⟨rfl, hb5⟩
      obtain ⟨hc5, hf5⟩ := bcell hb5
      have hz5 := hb5.size
      try simp at hz5
      have hw5 : Below w.heap.size w w5 := Below.trans (by repeat (first | exact hw4 | refine Below.drew ?_ | refine bdrewN ?_ _ | refine Below.setCell ?_ (by first | omega | (simp <;> omega)) _ | refine Below.alloc ?_ (by first | omega | (simp <;> omega)) _)) (hb5.mono (by first | omega | (simp <;> omega)))
      have hy5 := hw5.size
      have d5_0_0 : w5.cell? ⟨w.heap.size, 0, none⟩ = some (.int .i64 s.bl) := (hc5 _ _ (by first | omega | (simp <;> omega))).trans (by first | (simp [go_sem, *]; done) | rfl)
      have d5_0_1 : w5.cell? ⟨w.heap.size, 1, none⟩ = some (.int .i64 s.bh) := (hc5 _ _ (by first | omega | (simp <;> omega))).trans (by first | (simp [go_sem, *]; done) | rfl)
      have d5_0_2 : w5.cell? ⟨w.heap.size, 2, none⟩ = some (.int .i64 s.al) := (hc5 _ _ (by first | omega | (simp <;> omega))).trans (by first | (simp [go_sem, *]; done) | rfl)
      have d5_0_3 : w5.cell? ⟨w.heap.size, 3, none⟩ = some (.int .i64 s.ah) := (hc5 _ _ (by first | omega | (simp <;> omega))).trans (by first | (simp [go_sem, *]; done) | rfl)
      have d5_0_4 : w5.cell? ⟨w.heap.size, 4, none⟩ = some (.int .i64 s.fl) := (hc5 _ _ (by first | omega | (simp <;> omega))).trans (by first | (simp [go_sem, *]; done) | rfl)
      have d5_0_5 : w5.cell? ⟨w.heap.size, 5, none⟩ = some (.int .i64 s.fh) := (hc5 _ _ (by first | omega | (simp <;> omega))).trans (by first | (simp [go_sem, *]; done) | rfl)
      have d5_0_6 : w5.cell? ⟨w.heap.size, 6, none⟩ = some (.int .i64 s.tl) := (hc5 _ _ (by first | omega | (simp <;> omega))).trans (by first | (simp [go_sem, *]; done) | rfl)
      have d5_0_7 : w5.cell? ⟨w.heap.size, 7, none⟩ = some (.int .i64 s.th) := (hc5 _ _ (by first | omega | (simp <;> omega))).trans (by first | (simp [go_sem, *]; done) | rfl)
      have d5_1_0 : w5.cell? ⟨b5, 0, none⟩ = some (.int .i64 x0) := (hc5 _ _ (by first | omega | (simp <;> omega))).trans (by first | (simp [go_sem, *]; done) | rfl)
      have d5_1_1 : w5.cell? ⟨b5, 1, none⟩ = some (.int .i64 x1) := (hc5 _ _ (by first | omega | (simp <;> omega))).trans (by first | (simp [go_sem, *]; done) | rfl)
      have d5_1_2 : w5.cell? ⟨b5, 2, none⟩ = some (.int .i64 x2) := (hc5 _ _ (by first | omega | (simp <;> omega))).trans (by first | (simp [go_sem, *]; done) | rfl)
      have d5_1_3 : w5.cell? ⟨b5, 3, none⟩ = some (.int .i64 x3) := (hc5 _ _ (by first | omega | (simp <;> omega))).trans (by first | (simp [go_sem, *]; done) | rfl)
      have d5_1_4 : w5.cell? ⟨b5, 4, none⟩ = some (.int .i64 x4) := (hc5 _ _ (by first | omega | (simp <;> omega))).trans (by first | (simp [go_sem, *]; done) | rfl)
      have d5_1_5 : w5.cell? ⟨b5, 5, none⟩ = some (.int .i64 x5) := (hc5 _ _ (by first | omega | (simp <;> omega))).trans (by first | (simp [go_sem, *]; done) | rfl)
      have d5_1_6 : w5.cell? ⟨b5, 6, none⟩ = some (.int .i64 x6) := (hc5 _ _ (by first | omega | (simp <;> omega))).trans (by first | (simp [go_sem, *]; done) | rfl)
      have d5_1_7 : w5.cell? ⟨b5, 7, none⟩ = some (.int .i64 x7) := (hc5 _ _ (by first | omega | (simp <;> omega))).trans (by first | (simp [go_sem, *]; done) | rfl)
      have d5_2_0 : w5.cell? ⟨w4.heap.size, 0, none⟩ = some (.int .i64 p1) := (hc5 _ _ (by first | omega | (simp <;> omega))).trans (by first | (simp [go_sem, *]; done) | rfl)
      have d5_2_1 : w5.cell? ⟨w4.heap.size, 1, none⟩ = some (.int .i64 q1) := (hc5 _ _ (by first | omega | (simp <;> omega))).trans (by first | (simp [go_sem, *]; done) | rfl)
      have l5_0 : w.heap.size < w5.heap.size := by omega
      have l5_1 : b5 < w5.heap.size := by omega
      have l5_2 : w4.heap.size < w5.heap.size := by omega
      have hm5_0 : w.heap.size < w5.heap.size := by omega
      have hm5_1 : w.heap.size < w5.heap.size + 1 := by omega
      have hm5_2 : w.heap.size < w5.heap.size + 1 + 1 := by omega
      have hm5_3 : b5 < w5.heap.size := by omega
      have hm5_4 : b5 < w5.heap.size + 1 := by omega
      have hm5_5 : b5 < w5.heap.size + 1 + 1 := by omega
      have hm5_6 : w4.heap.size < w5.heap.size := by omega
      have hm5_7 : w4.heap.size < w5.heap.size + 1 := by omega
      have hm5_8 : w4.heap.size < w5.heap.size + 1 + 1 := by omega
      clear hb5 hc5 hf5 hz5 d4_0_0 d4_0_1 d4_0_2 d4_0_3 d4_0_4 d4_0_5 d4_0_6 d4_0_7 d4_1_0 d4_1_1 d4_1_2 d4_1_3 d4_1_4 d4_1_5 d4_1_6 d4_1_7 l4_0 l4_1 hm4_0 hm4_1 hm4_2 hm4_3 hm4_4 hm4_5
      rw [H2.out]
      go_wp2_with fail
      refine (trans_any s _).mono ?_
      rintro e w6 ⟨rfl, hb6⟩
      obtain ⟨hc6, hf6⟩ := bcell hb6
      have hz6 := hb6.size
      try simp at hz6
      have hw6 : Below w.heap.size w w6 := Below.trans (by repeat (first | exact hw5 | refine Below.drew ?_ | refine bdrewN ?_ _ | refine Below.setCell ?_ (by first | omega | (simp <;> omega)) _ | refine Below.alloc ?_ (by first | omega | (simp <;> omega)) _)) (hb6.mono (by first | omega | (simp <;> omega)))
      have hy6 := hw6.size
      have d6_0_0 : w6.cell? ⟨w.heap.size, 0, none⟩ = some (.int .i64 s.bl) := (hc6 _ _ (by first | omega | (simp <;> omega))).trans (by first | (simp [go_sem, *]; done) | rfl)
      have d6_0_1 : w6.cell? ⟨w.heap.size, 1, none⟩ = some (.int .i64 s.bh) := (hc6 _ _ (by first | omega | (simp <;> omega))).trans (by first | (simp [go_sem, *]; done) | rfl)
      have d6_0_2 : w6.cell? ⟨w.heap.size, 2, none⟩ = some (.int .i64 s.al) := (hc6 _ _ (by first | omega | (simp <;> omega))).trans (by first | (simp [go_sem, *]; done) | rfl)
      have d6_0_3 : w6.cell? ⟨w.heap.size, 3, none⟩ = some (.int .i64 s.ah) := (hc6 _ _ (by first | omega | (simp <;> omega))).trans (by first | (simp [go_sem, *]; done) | rfl)
      have d6_0_4 : w6.cell? ⟨w.heap.size, 4, none⟩ = some (.int .i64 s.fl) := (hc6 _ _ (by first | omega | (simp <;> omega))).trans (by first | (simp [go_sem, *]; done) | rfl)
      have d6_0_5 : w6.cell? ⟨w.heap.size, 5, none⟩ = some (.int .i64 s.fh) := (hc6 _ _ (by first | omega | (simp <;> omega))).trans (by first | (simp [go_sem, *]; done) | rfl)
      have d6_0_6 : w6.cell? ⟨w.heap.size, 6, none⟩ = some (.int .i64 s.tl) := (hc6 _ _ (by first | omega | (simp <;> omega))).trans (by first | (simp [go_sem, *]; done) | rfl)
      have d6_0_7 : w6.cell? ⟨w.heap.size, 7, none⟩ = some (.int .i64 s.th) := (hc6 _ _ (by first | omega | (simp <;> omega))).trans (by first | (simp [go_sem, *]; done) | rfl)
      have d6_1_0 : w6.cell? ⟨b5, 0, none⟩ = some (.int .i64 x0) := (hc6 _ _ (by first | omega | (simp <;> omega))).trans (by first | (simp [go_sem, *]; done) | rfl)
      have d6_1_1 : w6.cell? ⟨b5, 1, none⟩ = some (.int .i64 x1) := (hc6 _ _ (by first | omega | (simp <;> omega))).trans (by first | (simp [go_sem, *]; done) | rfl)
      have d6_1_2 : w6.cell? ⟨b5, 2, none⟩ = some (.int .i64 x2) := (hc6 _ _ (by first | omega | (simp <;> omega))).trans (by first | (simp [go_sem, *]; done) | rfl)
      have d6_1_3 : w6.cell? ⟨b5, 3, none⟩ = some (.int .i64 x3) := (hc6 _ _ (by first | omega | (simp <;> omega))).trans (by first | (simp [go_sem, *]; done) | rfl)
      have d6_1_4 : w6.cell? ⟨b5, 4, none⟩ = some (.int .i64 x4) := (hc6 _ _ (by first | omega | (simp <;> omega))).trans (by first | (simp [go_sem, *]; done) | rfl)
      have d6_1_5 : w6.cell? ⟨b5, 5, none⟩ = some (.int .i64 x5) := (hc6 _ _ (by first | omega | (simp <;> omega))).trans (by first | (simp [go_sem, *]; done) | rfl)
      have d6_1_6 : w6.cell? ⟨b5, 6, none⟩ = some (.int .i64 x6) := (hc6 _ _ (by first | omega | (simp <;> omega))).trans (by first | (simp [go_sem, *]; done) | rfl)
      have d6_1_7 : w6.cell? ⟨b5, 7, none⟩ = some (.int .i64 x7) := (hc6 _ _ (by first | omega | (simp <;> omega))).trans (by first | (simp [go_sem, *]; done) | rfl)
      have d6_2_0 : w6.cell? ⟨w4.heap.size, 0, none⟩ = some (.int .i64 p1) := (hc6 _ _ (by first | omega | (simp <;> omega))).trans (by first | (simp [go_sem, *]; done) | rfl)
      have d6_2_1 : w6.cell? ⟨w4.heap.size, 1, none⟩ = some (.int .i64 q1) := (hc6 _ _ (by first | omega | (simp <;> omega))).trans (by first | (simp [go_sem, *]; done) | rfl)
      have d6_3_0 : w6.cell? ⟨w5.heap.size, 0, none⟩ = some (.int .i64 p2) := (hc6 _ _ (by first | omega | (simp <;> omega))).trans (by first | (simp [go_sem, *]; done) | rfl)
      have d6_3_1 : w6.cell? ⟨w5.heap.size, 1, none⟩ = some (.int .i64 q2) := (hc6 _ _ (by first | omega | (simp <;> omega))).trans (by first | (simp [go_sem, *]; done) | rfl)
      have l6_0 : w.heap.size < w6.heap.size := by omega
      have l6_1 : b5 < w6.heap.size := by omega
      have l6_2 : w4.heap.size < w6.heap.size := by omega
      have l6_3 : w5.heap.size < w6.heap.size := by omega
      have hm6_0 : w.heap.size < w6.heap.size := by omega
      have hm6_1 : w.heap.size < w6.heap.size + 1 := by omega
      have hm6_2 : w.heap.size < w6.heap.size + 1 + 1 := by omega
      have hm6_3 : b5 < w6.heap.size := by omega
      have hm6_4 : b5 < w6.heap.size + 1 := by omega
      have hm6_5 : b5 < w6.heap.size + 1 + 1 := by omega
      have hm6_6 : w4.heap.size < w6.heap.size := by omega
      have hm6_7 : w4.heap.size < w6.heap.size + 1 := by omega
      have hm6_8 : w4.heap.size < w6.heap.size + 1 + 1 := by omega
      have hm6_9 : w5.heap.size < w6.heap.size := by omega
      have hm6_10 : w5.heap.size < w6.heap.size + 1 := by omega
      have hm6_11 : w5.heap.size < w6.heap.size + 1 + 1 := by omega
      clear hb6 hc6 hf6 hz6 d5_0_0 d5_0_1 d5_0_2 d5_0_3 d5_0_4 d5_0_5 d5_0_6 d5_0_7 d5_1_0 d5_1_1 d5_1_2 d5_1_3 d5_1_4 d5_1_5 d5_1_6 d5_1_7 d5_2_0 d5_2_1 l5_0 l5_1 l5_2 hm5_0 hm5_1 hm5_2 hm5_3 hm5_4 hm5_5 hm5_6 hm5_7 hm5_8
      rw [H3.out]
      go_wp2_with fail
      refine (trans_any ⟨x0, x1, x2, x3, x4, x5, x6, x7⟩ _).mono ?_
      rintro e w7 ⟨rfl, hb7⟩
      obtain ⟨hc7, hf7⟩ := bcell hb7
      have hz7 := hb7.size
      try simp at hz7
      have hw7 : Below w.heap.size w w7 := Below.trans (by repeat (first | exact hw6 | refine Below.drew ?_ | refine bdrewN ?_ _ | refine Below.setCell ?_ (by first | omega | (simp <;> omega)) _ | refine Below.alloc ?_ (by first | omega | (simp <;> omega)) _)) (hb7.mono (by first | omega | (simp <;> omega)))
      have hy7 := hw7.size
      have d7_0_0 : w7.cell? ⟨b5, 0, none⟩ = some (.int .i64 x0) := (hc7 _ _ (by first | omega | (simp <;> omega))).trans (by first | (simp [go_sem, *]; done) | rfl)
      have d7_0_1 : w7.cell? ⟨b5, 1, none⟩ = some (.int .i64 x1) := (hc7 _ _ (by first | omega | (simp <;> omega))).trans (by first | (simp [go_sem, *]; done) | rfl)
      have d7_0_2 : w7.cell? ⟨b5, 2, none⟩ = some (.int .i64 x2) := (hc7 _ _ (by first | omega | (simp <;> omega))).trans (by first | (simp [go_sem, *]; done) | rfl)
      have d7_0_3 : w7.cell? ⟨b5, 3, none⟩ = some (.int .i64 x3) := (hc7 _ _ (by first | omega | (simp <;> omega))).trans (by first | (simp [go_sem, *]; done) | rfl)
      have d7_0_4 : w7.cell? ⟨b5, 4, none⟩ = some (.int .i64 x4) := (hc7 _ _ (by first | omega | (simp <;> omega))).trans (by first | (simp [go_sem, *]; done) | rfl)
      have d7_0_5 : w7.cell? ⟨b5, 5, none⟩ = some (.int .i64 x5) := (hc7 _ _ (by first | omega | (simp <;> omega))).trans (by first | (simp [go_sem, *]; done) | rfl)
      have d7_0_6 : w7.cell? ⟨b5, 6, none⟩ = some (.int .i64 x6) := (hc7 _ _ (by first | omega | (simp <;> omega))).trans (by first | (simp [go_sem, *]; done) | rfl)
      have d7_0_7 : w7.cell? ⟨b5, 7, none⟩ = some (.int .i64 x7) := (hc7 _ _ (by first | omega | (simp <;> omega))).trans (by first | (simp [go_sem, *]; done) | rfl)
      have d7_1_0 : w7.cell? ⟨w4.heap.size, 0, none⟩ = some (.int .i64 p1) := (hc7 _ _ (by first | omega | (simp <;> omega))).trans (by first | (simp [go_sem, *]; done) | rfl)
      have d7_1_1 : w7.cell? ⟨w4.heap.size, 1, none⟩ = some (.int .i64 q1) := (hc7 _ _ (by first | omega | (simp <;> omega))).trans (by first | (simp [go_sem, *]; done) | rfl)
      have d7_2_0 : w7.cell? ⟨w5.heap.size, 0, none⟩ = some (.int .i64 p2) := (hc7 _ _ (by first | omega | (simp <;> omega))).trans (by first | (simp [go_sem, *]; done) | rfl)
      have d7_2_1 : w7.cell? ⟨w5.heap.size, 1, none⟩ = some (.int .i64 q2) := (hc7 _ _ (by first | omega | (simp <;> omega))).trans (by first | (simp [go_sem, *]; done) | rfl)
      have d7_3_0 : w7.cell? ⟨w6.heap.size, 0, none⟩ = some (.int .i64 p3) := (hc7 _ _ (by first | omega | (simp <;> omega))).trans (by first | (simp [go_sem, *]; done) | rfl)
      have d7_3_1 : w7.cell? ⟨w6.heap.size, 1, none⟩ = some (.int .i64 q3) := (hc7 _ _ (by first | omega | (simp <;> omega))).trans (by first | (simp [go_sem, *]; done) | rfl)
      have l7_0 : b5 < w7.heap.size := by omega
      have l7_1 : w4.heap.size < w7.heap.size := by omega
      have l7_2 : w5.heap.size < w7.heap.size := by omega
      have l7_3 : w6.heap.size < w7.heap.size := by omega
      have hm7_0 : b5 < w7.heap.size := by omega
      have hm7_1 : b5 < w7.heap.size + 1 := by omega
      have hm7_2 : b5 < w7.heap.size + 1 + 1 := by omega
      have hm7_3 : w4.heap.size < w7.heap.size := by omega
      have hm7_4 : w4.heap.size < w7.heap.size + 1 := by omega
      have hm7_5 : w4.heap.size < w7.heap.size + 1 + 1 := by omega
      have hm7_6 : w5.heap.size < w7.heap.size := by omega
      have hm7_7 : w5.heap.size < w7.heap.size + 1 := by omega
      have hm7_8 : w5.heap.size < w7.heap.size + 1 + 1 := by omega
      have hm7_9 : w6.heap.size < w7.heap.size := by omega
      have hm7_10 : w6.heap.size < w7.heap.size + 1 := by omega
      have hm7_11 : w6.heap.size < w7.heap.size + 1 + 1 := by omega
      clear hb7 hc7 hf7 hz7 d6_0_0 d6_0_1 d6_0_2 d6_0_3 d6_0_4 d6_0_5 d6_0_6 d6_0_7 d6_1_0 d6_1_1 d6_1_2 d6_1_3 d6_1_4 d6_1_5 d6_1_6 d6_1_7 d6_2_0 d6_2_1 d6_3_0 d6_3_1 l6_0 l6_1 l6_2 l6_3 hm6_0 hm6_1 hm6_2 hm6_3 hm6_4 hm6_5 hm6_6 hm6_7 hm6_8 hm6_9 hm6_10 hm6_11
      rw [H4.out]
      rcases HH.out with he | ⟨he1, he2, he3, he4, s1, s2⟩
      · have he' : (e1 == 0) = false := by simpa using he
        go_wp2
        go_ret
        exact ⟨rfl, by repeat (first | exact hw7 | refine Below.drew ?_ | refine bdrewN ?_ _ | refine Below.setCell ?_ (by first | omega | (simp <;> omega)) _ | refine Below.alloc ?_ (by first | omega | (simp <;> omega)) _)⟩
      · subst he1 he2 he3 he4
        have T1 := Lib.hid s1
        have T2 := Lib.hid s2
        clear s1 s2
        go_wp2_with fail
        refine (rinside_any _ _ _ _ _ T1.out.v' T1.out.v T1.out.l T1.out.r).mono ?_
        rintro e w8 ⟨rfl, hb8⟩
        obtain ⟨hc8, hf8⟩ := bcell hb8
        have hz8 := hb8.size
        try simp at hz8
        have hw8 : Below w.heap.size w w8 := Below.trans (by repeat (first | exact hw7 | refine Below.drew ?_ | refine bdrewN ?_ _ | refine Below.setCell ?_ (by first | omega | (simp <;> omega)) _ | refine Below.alloc ?_ (by first | omega | (simp <;> omega)) _)) (hb8.mono (by first | omega | (simp <;> omega)))
        have hy8 := hw8.size
        have d8_0_0 : w8.cell? ⟨w4.heap.size, 0, none⟩ = some (.int .i64 p1) := (hc8 _ _ (by first | omega | (simp <;> omega))).trans (by first | (simp [go_sem, *]; done) | rfl)
        have d8_0_1 : w8.cell? ⟨w4.heap.size, 1, none⟩ = some (.int .i64 q1) := (hc8 _ _ (by first | omega | (simp <;> omega))).trans (by first | (simp [go_sem, *]; done) | rfl)
        have d8_1_0 : w8.cell? ⟨w5.heap.size, 0, none⟩ = some (.int .i64 p2) := (hc8 _ _ (by first | omega | (simp <;> omega))).trans (by first | (simp [go_sem, *]; done) | rfl)
        have d8_1_1 : w8.cell? ⟨w5.heap.size, 1, none⟩ = some (.int .i64 q2) := (hc8 _ _ (by first | omega | (simp <;> omega))).trans (by first | (simp [go_sem, *]; done) | rfl)
        have d8_2_0 : w8.cell? ⟨w6.heap.size, 0, none⟩ = some (.int .i64 p3) := (hc8 _ _ (by first | omega | (simp <;> omega))).trans (by first | (simp [go_sem, *]; done) | rfl)
        have d8_2_1 : w8.cell? ⟨w6.heap.size, 1, none⟩ = some (.int .i64 q3) := (hc8 _ _ (by first | omega | (simp <;> omega))).trans (by first | (simp [go_sem, *]; done) | rfl)
        have d8_3_0 : w8.cell? ⟨w7.heap.size, 0, none⟩ = some (.int .i64 p4) := (hc8 _ _ (by first | omega | (simp <;> omega))).trans (by first | (simp [go_sem, *]; done) | rfl)
        have d8_3_1 : w8.cell? ⟨w7.heap.size, 1, none⟩ = some (.int .i64 q4) := (hc8 _ _ (by first | omega | (simp <;> omega))).trans (by first | (simp [go_sem, *]; done) | rfl)
        have l8_0 : w4.heap.size < w8.heap.size := by omega
        have l8_1 : w5.heap.size < w8.heap.size := by omega
        have l8_2 : w6.heap.size < w8.heap.size := by omega
        have l8_3 : w7.heap.size < w8.heap.size := by omega
        have hm8_0 : w4.heap.size < w8.heap.size := by omega
        have hm8_1 : w4.heap.size < w8.heap.size + 1 := by omega
        have hm8_2 : w4.heap.size < w8.heap.size + 1 + 1 := by omega
        have hm8_3 : w5.heap.size < w8.heap.size := by omega
        have hm8_4 : w5.heap.size < w8.heap.size + 1 := by omega
        have hm8_5 : w5.heap.size < w8.heap.size + 1 + 1 := by omega
        have hm8_6 : w6.heap.size < w8.heap.size := by omega
        have hm8_7 : w6.heap.size < w8.heap.size + 1 := by omega
        have hm8_8 : w6.heap.size < w8.heap.size + 1 + 1 := by omega
        have hm8_9 : w7.heap.size < w8.heap.size := by omega
        have hm8_10 : w7.heap.size < w8.heap.size + 1 := by omega
        have hm8_11 : w7.heap.size < w8.heap.size + 1 + 1 := by omega
        clear hb8 hc8 hf8 hz8 d7_0_0 d7_0_1 d7_0_2 d7_0_3 d7_0_4 d7_0_5 d7_0_6 d7_0_7 d7_1_0 d7_1_1 d7_2_0 d7_2_1 d7_3_0 d7_3_1 l7_0 l7_1 l7_2 l7_3 hm7_0 hm7_1 hm7_2 hm7_3 hm7_4 hm7_5 hm7_6 hm7_7 hm7_8 hm7_9 hm7_10 hm7_11
        go_wp2_with fail
        refine (rinside_any _ _ _ _ _ T2.out.v' T2.out.v T2.out.l T2.out.r).mono ?_
        rintro e w9 ⟨rfl, hb9⟩
        have hw9 : Below w.heap.size w w9 := Below.trans (by repeat (first | exact hw8 | refine Below.drew ?_ | refine bdrewN ?_ _ | refine Below.setCell ?_ (by first | omega | (simp <;> omega)) _ | refine Below.alloc ?_ (by first | omega | (simp <;> omega)) _)) (hb9.mono (by first | omega | (simp <;> omega)))
        go_wp2
        go_ret
        exact ⟨rfl, by repeat (first | exact hw9 | refine Below.drew ?_ | refine bdrewN ?_ _ | refine Below.setCell ?_ (by first | omega | (simp <;> omega)) _ | refine Below.alloc ?_ (by first | omega | (simp <;> omega)) _)⟩
  · have hv' : sfB s = false := by simpa using hv
    have HV := Lib.hid hv'
    clear hv hv'
    go_enter Try.func8, Try.ntmps8
    go_wp2_with fail
    refine (awake_any _).mono ?_
    rintro e w1 ⟨rfl, hb1⟩
    obtain ⟨hc1, hf1⟩ := bcell hb1
    have hz1 := hb1.size
    try simp at hz1
    have hw1 : Below w.heap.size w w1 := Below.trans (by repeat (first | exact Below.refl _ _ | refine Below.drew ?_ | refine bdrewN ?_ _ | refine Below.setCell ?_ (by first | omega | (simp <;> omega)) _ | refine Below.alloc ?_ (by first | omega | (simp <;> omega)) _)) (hb1.mono (by first | omega | (simp <;> omega)))
    have hy1 := hw1.size
    have d1_0_0 : w1.cell? ⟨w.heap.size, 0, none⟩ = some (.int .i64 s.bl) := (hc1 _ _ (by first | omega | (simp <;> omega))).trans (by first | (simp [go_sem, *]; done) | rfl)
    have d1_0_1 : w1.cell? ⟨w.heap.size, 1, none⟩ = some (.int .i64 s.bh) := (hc1 _ _ (by first | omega | (simp <;> omega))).trans (by first | (simp [go_sem, *]; done) | rfl)
    have d1_0_2 : w1.cell? ⟨w.heap.size, 2, none⟩ = some (.int .i64 s.al) := (hc1 _ _ (by first | omega | (simp <;> omega))).trans (by first | (simp [go_sem, *]; done) | rfl)
    have d1_0_3 : w1.cell? ⟨w.heap.size, 3, none⟩ = some (.int .i64 s.ah) := (hc1 _ _ (by first | omega | (simp <;> omega))).trans (by first | (simp [go_sem, *]; done) | rfl)
    have d1_0_4 : w1.cell? ⟨w.heap.size, 4, none⟩ = some (.int .i64 s.fl) := (hc1 _ _ (by first | omega | (simp <;> omega))).trans (by first | (simp [go_sem, *]; done) | rfl)
    have d1_0_5 : w1.cell? ⟨w.heap.size, 5, none⟩ = some (.int .i64 s.fh) := (hc1 _ _ (by first | omega | (simp <;> omega))).trans (by first | (simp [go_sem, *]; done) | rfl)
    have d1_0_6 : w1.cell? ⟨w.heap.size, 6, none⟩ = some (.int .i64 s.tl) := (hc1 _ _ (by first | omega | (simp <;> omega))).trans (by first | (simp [go_sem, *]; done) | rfl)
    have d1_0_7 : w1.cell? ⟨w.heap.size, 7, none⟩ = some (.int .i64 s.th) := (hc1 _ _ (by first | omega | (simp <;> omega))).trans (by first | (simp [go_sem, *]; done) | rfl)
    have d1_1_0 : w1.cell? ⟨w.heap.size + 1, 0, none⟩ = some (.int .u32 k0) := (hc1 _ _ (by first | omega | (simp <;> omega))).trans (by first | (simp [go_sem, *]; done) | rfl)
    have d1_1_1 : w1.cell? ⟨w.heap.size + 1, 1, none⟩ = some (.int .u32 k1) := (hc1 _ _ (by first | omega | (simp <;> omega))).trans (by first | (simp [go_sem, *]; done) | rfl)
    have d1_1_2 : w1.cell? ⟨w.heap.size + 1, 2, none⟩ = some (.int .u32 k2) := (hc1 _ _ (by first | omega | (simp <;> omega))).trans (by first | (simp [go_sem, *]; done) | rfl)
    have d1_1_3 : w1.cell? ⟨w.heap.size + 1, 3, none⟩ = some (.int .u32 k3) := (hc1 _ _ (by first | omega | (simp <;> omega))).trans (by first | (simp [go_sem, *]; done) | rfl)
    have d1_1_4 : w1.cell? ⟨w.heap.size + 1, 4, none⟩ = some (.int .u32 k4) := (hc1 _ _ (by first | omega | (simp <;> omega))).trans (by first | (simp [go_sem, *]; done) | rfl)
    have d1_1_5 : w1.cell? ⟨w.heap.size + 1, 5, none⟩ = some (.int .u32 k5) := (hc1 _ _ (by first | omega | (simp <;> omega))).trans (by first | (simp [go_sem, *]; done) | rfl)
    have d1_1_6 : w1.cell? ⟨w.heap.size + 1, 6, none⟩ = some (.int .u32 k6) := (hc1 _ _ (by first | omega | (simp <;> omega))).trans (by first | (simp [go_sem, *]; done) | rfl)
    have d1_1_7 : w1.cell? ⟨w.heap.size + 1, 7, none⟩ = some (.int .u32 k7) := (hc1 _ _ (by first | omega | (simp <;> omega))).trans (by first | (simp [go_sem, *]; done) | rfl)
    have l1_0 : w.heap.size < w1.heap.size := by omega
    have l1_1 : w.heap.size + 1 < w1.heap.size := by omega
    have hm1_0 : w.heap.size < w1.heap.size := by omega
    have hm1_1 : w.heap.size < w1.heap.size + 1 := by omega
    have hm1_2 : w.heap.size < w1.heap.size + 1 + 1 := by omega
    have hm1_3 : w.heap.size + 1 < w1.heap.size := by omega
    have hm1_4 : w.heap.size + 1 < w1.heap.size + 1 := by omega
    have hm1_5 : w.heap.size < w1.heap.size := by omega
    have hm1_6 : w.heap.size + 1 < w1.heap.size + 1 + 1 := by omega
    have hm1_7 : w.heap.size < w1.heap.size + 1 := by omega
    clear hb1 hc1 hf1 hz1 
    go_wp2_with fail
    refine (rsf_any s _).mono ?_
    rintro e w2 ⟨rfl, hb2⟩
    obtain ⟨hc2, hf2⟩ := bcell hb2
    have hz2 := hb2.size
    try simp at hz2
    have hw2 : Below w.heap.size w w2 := Below.trans (by repeat (first | exact hw1 | refine Below.drew ?_ | refine bdrewN ?_ _ | refine Below.setCell ?_ (by first | omega | (simp <;> omega)) _ | refine Below.alloc ?_ (by first | omega | (simp <;> omega)) _)) (hb2.mono (by first | omega | (simp <;> omega)))
    have hy2 := hw2.size
    have d2_0_0 : w2.cell? ⟨w.heap.size, 0, none⟩ = some (.int .i64 s.bl) := (hc2 _ _ (by first | omega | (simp <;> omega))).trans (by first | (simp [go_sem, *]; done) | rfl)
    have d2_0_1 : w2.cell? ⟨w.heap.size, 1, none⟩ = some (.int .i64 s.bh) := (hc2 _ _ (by first | omega | (simp <;> omega))).trans (by first | (simp [go_sem, *]; done) | rfl)
    have d2_0_2 : w2.cell? ⟨w.heap.size, 2, none⟩ = some (.int .i64 s.al) := (hc2 _ _ (by first | omega | (simp <;> omega))).trans (by first | (simp [go_sem, *]; done) | rfl)
    have d2_0_3 : w2.cell? ⟨w.heap.size, 3, none⟩ = some (.int .i64 s.ah) := (hc2 _ _ (by first | omega | (simp <;> omega))).trans (by first | (simp [go_sem, *]; done) | rfl)
    have d2_0_4 : w2.cell? ⟨w.heap.size, 4, none⟩ = some (.int .i64 s.fl) := (hc2 _ _ (by first | omega | (simp <;> omega))).trans (by first | (simp [go_sem, *]; done) | rfl)
    have d2_0_5 : w2.cell? ⟨w.heap.size, 5, none⟩ = some (.int .i64 s.fh) := (hc2 _ _ (by first | omega | (simp <;> omega))).trans (by first | (simp [go_sem, *]; done) | rfl)
    have d2_0_6 : w2.cell? ⟨w.heap.size, 6, none⟩ = some (.int .i64 s.tl) := (hc2 _ _ (by first | omega | (simp <;> omega))).trans (by first | (simp [go_sem, *]; done) | rfl)
    have d2_0_7 : w2.cell? ⟨w.heap.size, 7, none⟩ = some (.int .i64 s.th) := (hc2 _ _ (by first | omega | (simp <;> omega))).trans (by first | (simp [go_sem, *]; done) | rfl)
    have d2_1_0 : w2.cell? ⟨w.heap.size + 1, 0, none⟩ = some (.int .u32 k0) := (hc2 _ _ (by first | omega | (simp <;> omega))).trans (by first | (simp [go_sem, *]; done) | rfl)
    have d2_1_1 : w2.cell? ⟨w.heap.size + 1, 1, none⟩ = some (.int .u32 k1) := (hc2 _ _ (by first | omega | (simp <;> omega))).trans (by first | (simp [go_sem, *]; done) | rfl)
    have d2_1_2 : w2.cell? ⟨w.heap.size + 1, 2, none⟩ = some (.int .u32 k2) := (hc2 _ _ (by first | omega | (simp <;> omega))).trans (by first | (simp [go_sem, *]; done) | rfl)
    have d2_1_3 : w2.cell? ⟨w.heap.size + 1, 3, none⟩ = some (.int .u32 k3) := (hc2 _ _ (by first | omega | (simp <;> omega))).trans (by first | (simp [go_sem, *]; done) | rfl)
    have d2_1_4 : w2.cell? ⟨w.heap.size + 1, 4, none⟩ = some (.int .u32 k4) := (hc2 _ _ (by first | omega | (simp <;> omega))).trans (by first | (simp [go_sem, *]; done) | rfl)
    have d2_1_5 : w2.cell? ⟨w.heap.size + 1, 5, none⟩ = some (.int .u32 k5) := (hc2 _ _ (by first | omega | (simp <;> omega))).trans (by first | (simp [go_sem, *]; done) | rfl)
    have d2_1_6 : w2.cell? ⟨w.heap.size + 1, 6, none⟩ = some (.int .u32 k6) := (hc2 _ _ (by first | omega | (simp <;> omega))).trans (by first | (simp [go_sem, *]; done) | rfl)
    have d2_1_7 : w2.cell? ⟨w.heap.size + 1, 7, none⟩ = some (.int .u32 k7) := (hc2 _ _ (by first | omega | (simp <;> omega))).trans (by first | (simp [go_sem, *]; done) | rfl)
    have l2_0 : w.heap.size < w2.heap.size := by omega
    have l2_1 : w.heap.size + 1 < w2.heap.size := by omega
    have hm2_0 : w.heap.size < w2.heap.size := by omega
    have hm2_1 : w.heap.size < w2.heap.size + 1 := by omega
    have hm2_2 : w.heap.size < w2.heap.size + 1 + 1 := by omega
    have hm2_3 : w.heap.size + 1 < w2.heap.size := by omega
    have hm2_4 : w.heap.size + 1 < w2.heap.size + 1 := by omega
    have hm2_5 : w.heap.size < w2.heap.size := by omega
    have hm2_6 : w.heap.size + 1 < w2.heap.size + 1 + 1 := by omega
    have hm2_7 : w.heap.size < w2.heap.size + 1 := by omega
    clear hb2 hc2 hf2 hz2 d1_0_0 d1_0_1 d1_0_2 d1_0_3 d1_0_4 d1_0_5 d1_0_6 d1_0_7 d1_1_0 d1_1_1 d1_1_2 d1_1_3 d1_1_4 d1_1_5 d1_1_6 d1_1_7 l1_0 l1_1 hm1_0 hm1_1 hm1_2 hm1_3 hm1_4 hm1_5 hm1_6 hm1_7
    rw [HV.out]
    go_wp2
    go_ret
    exact ⟨rfl, by repeat (first | exact hw2 | refine Below.drew ?_ | refine bdrewN ?_ _ | refine Below.setCell ?_ (by first | omega | (simp <;> omega)) _ | refine Below.alloc ?_ (by first | omega | (simp <;> omega)) _)⟩
end Go.Proofs.Ytognaejbpioihaa.Iv
