/- The same contracts of the reference's calculator as in Ca1, at a seat without package fresnel. -/
import Derived.Test.YtjppcndhaejfpaaRf3
import Derived.Test.YtjppcndhaejfpaaDr0
namespace Go.Proofs.Ytjppcndhaejfpaa.Iv
open Go.RowKit

/-- the first error of two -/
def keepE (e f : Int) : Int := if e = 0 then f else e
/-- what a step of the calculator leaves: the calculator's cell holds the error, all other old cells are as they were -/
structure Step (B : Nat) (w : World) (c : Nat) (E : Int) (w' : World) : Prop where
  cell : w'.cell? ⟨c, 0, none⟩ = some (.int .i64 E)
  other : ∀ b o, b < w.heap.size → ¬ (b = c) → w'.cell? ⟨b, o, none⟩ = w.cell? ⟨b, o, none⟩
  frozen : ∀ b o, b < w.heap.size → w'.frozen? ⟨b, o, none⟩ = w.frozen? ⟨b, o, none⟩
  size : w.heap.size ≤ w'.heap.size
  below : B ≤ c → B ≤ w.heap.size → Below B w w'

set_option maxRecDepth 100000 in
theorem kept_any (B c : Nat) (a b e f : Int) (w : World) (hc : w.cell? ⟨c, 0, none⟩ = some (.int .i64 e)) (hf : w.frozen? ⟨c, 0, none⟩ = false) :
    Calls Try.prog 76 #[.pointer (some ⟨c, 0, none⟩), iv a b, .int .i64 f] w fun r w' => r = .returned (iv a b) ∧ Step B w c (keepE e f) w' := by
  have hlt : c < w.heap.size := World.block_lt_of_cell? w _ hc
  have n1 : ¬ (c = w.heap.size) := by omega
  have n2 : ¬ (c = w.heap.size + 1) := by omega
  have n3 : ¬ (w.heap.size = c) := by omega
  have n4 : ¬ (w.heap.size + 1 = c) := by omega
  have n5 : c < w.heap.size + 1 := by omega
  by_cases he : e = 0
  · subst he
    rw [show keepE 0 f = f from if_pos rfl]
    go_enter Try.func76, Try.ntmps76
    go_wp2_with fail
    refine bodyPost_ret (v := iv a b) (by simp [results, Try.results76, go_sem, *]) rfl ⟨rfl, ?_⟩
    refine ⟨by simp [go_sem, *], fun b o hb hn => ?_, fun b o hb => ?_, by simp; omega, fun h1 h2 => ?_⟩
    · have m1 : b < w.heap.size + 1 := by omega
      simp [go_sem, *]
    · have m1 : b < w.heap.size + 1 := by omega
      simp [go_sem, *]
    · exact (((Below.refl _ _).setCell h1 _).alloc (by simp; omega) _).alloc (by simp; omega) _
  · rw [show keepE e f = e from if_neg he]
    have he' : (e == 0) = false := by simpa using he
    go_enter Try.func76, Try.ntmps76
    go_wp2_with fail
    refine bodyPost_ret (v := iv a b) (by simp [results, Try.results76, go_sem, *]) rfl ⟨rfl, ?_⟩
    refine ⟨by simp [go_sem, *], fun b o hb hn => ?_, fun b o hb => ?_, by simp; omega, fun h1 h2 => ?_⟩
    · have m1 : b < w.heap.size + 1 := by omega
      simp [go_sem, *]
    · have m1 : b < w.heap.size + 1 := by omega
      simp [go_sem, *]
    · exact ((Below.refl _ _).alloc h2 _).alloc (by simp; omega) _

set_option maxRecDepth 100000 in
set_option maxHeartbeats 1000000 in
theorem cmul_any (B c : Nat) (a b x y e : Int) (w : World) (hc : w.cell? ⟨c, 0, none⟩ = some (.int .i64 e)) (hf : w.frozen? ⟨c, 0, none⟩ = false) :
    Calls Try.prog 49 #[.pointer (some ⟨c, 0, none⟩), iv a b, iv x y] w fun r w' => r = .returned (iv (mulR a b x y).lo (mulR a b x y).hi) ∧ Step B w c (keepE e (mulR a b x y).e) w' := by
  have hlt : c < w.heap.size := World.block_lt_of_cell? w _ hc
  obtain ⟨⟨p, q, f⟩, hR⟩ : ∃ r : R, mulR a b x y = r := ⟨_, rfl⟩
  have HR := Lib.hid (show retR (mulR a b x y) = .returned (.tuple #[iv p q, .int .i64 f]) from by rw [hR])
  rw [hR]
  clear hR
  have q1 : c < w.heap.size + 1 := by omega
  have q2 : c < w.heap.size + 1 + 1 := by omega
  have q3 : c < w.heap.size + 1 + 1 + 1 := by omega
  have nn0 : ¬ (c = w.heap.size) := by omega
  have mm0 : ¬ (w.heap.size = c) := by omega
  have nn1 : ¬ (c = w.heap.size + 1) := by omega
  have mm1 : ¬ (w.heap.size + 1 = c) := by omega
  have nn2 : ¬ (c = w.heap.size + 1 + 1) := by omega
  have mm2 : ¬ (w.heap.size + 1 + 1 = c) := by omega
  have nn3 : ¬ (c = w.heap.size + 1 + 1 + 1) := by omega
  have mm3 : ¬ (w.heap.size + 1 + 1 + 1 = c) := by omega
  go_enter Try.func49, Try.ntmps49
  go_wp2_with fail
  refine (rmul_any a b x y _).mono ?_
  rintro r w1 ⟨rfl, hb1⟩
  rw [HR.out]
  obtain ⟨hc1, hf1⟩ := bcell hb1
  have hz1 := hb1.size
  try simp at hz1
  have d1 : w1.cell? ⟨c, 0, none⟩ = some (.int .i64 e) := (hc1 _ _ (by simp; omega)).trans (by simp [go_sem, *])
  have d2 : w1.frozen? ⟨c, 0, none⟩ = false := (hf1 _ _ (by simp; omega)).trans (by simp [go_sem, *])
  have d3 : w1.cell? ⟨w.heap.size + 1 + 1, 0, none⟩ = some (.int .i64 0) := (hc1 _ _ (by simp)).trans (by simp [go_sem])
  have d4 : w1.cell? ⟨w.heap.size + 1 + 1, 1, none⟩ = some (.int .i64 0) := (hc1 _ _ (by simp)).trans (by simp [go_sem])
  have d5 : w1.frozen? ⟨w.heap.size + 1 + 1, 0, none⟩ = false := (hf1 _ _ (by simp)).trans (by simp [go_sem])
  have d6 : w1.frozen? ⟨w.heap.size + 1 + 1, 1, none⟩ = false := (hf1 _ _ (by simp)).trans (by simp [go_sem])
  go_wp2_with fail
  refine (kept_any B c p q e f w1 d1 d2).mono ?_
  rintro r w2 ⟨rfl, st⟩
  have g3 := (st.other (w.heap.size + 1 + 1) 0 (by omega) (by omega)).trans d3
  have g4 := (st.other (w.heap.size + 1 + 1) 1 (by omega) (by omega)).trans d4
  have g5 := (st.frozen (w.heap.size + 1 + 1) 0 (by omega)).trans d5
  have g6 := (st.frozen (w.heap.size + 1 + 1) 1 (by omega)).trans d6
  have sz := st.size
  have ce := st.cell
  have ST := Lib.hid st
  clear st
  go_wp2_with fail
  refine bodyPost_ret (v := iv p q) (by simp [results, Try.results49, go_sem, *]) rfl ⟨rfl, ?_⟩
  refine ⟨by simp [go_sem, *], fun b o hb hn => ?_, fun b o hb => ?_, by simp; omega, fun h1 h2 => ?_⟩
  · have x1 : b < w.heap.size + 1 + 1 := by omega
    have y1 := ST.out.other b o (by omega) hn
    have y2 := hc1 b o (by simp; omega)
    simp [go_sem, y1, y2, x1, hb]
  · have y1 := ST.out.frozen b o (by omega)
    have y2 := hf1 b o (by simp; omega)
    have x1 : b < w.heap.size + 1 + 1 := by omega
    simp [go_sem, y1, y2, x1, hb]
  · have y1 := ST.out.below h1 (by omega)
    exact (((((((Below.refl _ _).alloc (by first | omega | (simp <;> omega)) _).alloc (by first | omega | (simp <;> omega)) _).alloc (by first | omega | (simp <;> omega)) _).trans (hb1.mono (by simp; omega))).trans y1).setCell (by simp; omega) _).setCell (by simp; omega) _

set_option maxRecDepth 100000 in
set_option maxHeartbeats 1000000 in
theorem cadd_any (B c : Nat) (a b x y e : Int) (w : World) (hc : w.cell? ⟨c, 0, none⟩ = some (.int .i64 e)) (hf : w.frozen? ⟨c, 0, none⟩ = false) :
    Calls Try.prog 70 #[.pointer (some ⟨c, 0, none⟩), iv a b, iv x y] w fun r w' => r = .returned (iv (addR a b x y).lo (addR a b x y).hi) ∧ Step B w c (keepE e (addR a b x y).e) w' := by
  have hlt : c < w.heap.size := World.block_lt_of_cell? w _ hc
  obtain ⟨⟨p, q, f⟩, hR⟩ : ∃ r : R, addR a b x y = r := ⟨_, rfl⟩
  have HR := Lib.hid (show retR (addR a b x y) = .returned (.tuple #[iv p q, .int .i64 f]) from by rw [hR])
  rw [hR]
  clear hR
  have q1 : c < w.heap.size + 1 := by omega
  have q2 : c < w.heap.size + 1 + 1 := by omega
  have q3 : c < w.heap.size + 1 + 1 + 1 := by omega
  have nn0 : ¬ (c = w.heap.size) := by omega
  have mm0 : ¬ (w.heap.size = c) := by omega
  have nn1 : ¬ (c = w.heap.size + 1) := by omega
  have mm1 : ¬ (w.heap.size + 1 = c) := by omega
  have nn2 : ¬ (c = w.heap.size + 1 + 1) := by omega
  have mm2 : ¬ (w.heap.size + 1 + 1 = c) := by omega
  have nn3 : ¬ (c = w.heap.size + 1 + 1 + 1) := by omega
  have mm3 : ¬ (w.heap.size + 1 + 1 + 1 = c) := by omega
  go_enter Try.func70, Try.ntmps70
  go_wp2_with fail
  refine (radd_any a b x y _).mono ?_
  rintro r w1 ⟨rfl, hb1⟩
  rw [HR.out]
  obtain ⟨hc1, hf1⟩ := bcell hb1
  have hz1 := hb1.size
  try simp at hz1
  have d1 : w1.cell? ⟨c, 0, none⟩ = some (.int .i64 e) := (hc1 _ _ (by simp; omega)).trans (by simp [go_sem, *])
  have d2 : w1.frozen? ⟨c, 0, none⟩ = false := (hf1 _ _ (by simp; omega)).trans (by simp [go_sem, *])
  have d3 : w1.cell? ⟨w.heap.size + 1 + 1, 0, none⟩ = some (.int .i64 0) := (hc1 _ _ (by simp)).trans (by simp [go_sem])
  have d4 : w1.cell? ⟨w.heap.size + 1 + 1, 1, none⟩ = some (.int .i64 0) := (hc1 _ _ (by simp)).trans (by simp [go_sem])
  have d5 : w1.frozen? ⟨w.heap.size + 1 + 1, 0, none⟩ = false := (hf1 _ _ (by simp)).trans (by simp [go_sem])
  have d6 : w1.frozen? ⟨w.heap.size + 1 + 1, 1, none⟩ = false := (hf1 _ _ (by simp)).trans (by simp [go_sem])
  go_wp2_with fail
  refine (kept_any B c p q e f w1 d1 d2).mono ?_
  rintro r w2 ⟨rfl, st⟩
  have g3 := (st.other (w.heap.size + 1 + 1) 0 (by omega) (by omega)).trans d3
  have g4 := (st.other (w.heap.size + 1 + 1) 1 (by omega) (by omega)).trans d4
  have g5 := (st.frozen (w.heap.size + 1 + 1) 0 (by omega)).trans d5
  have g6 := (st.frozen (w.heap.size + 1 + 1) 1 (by omega)).trans d6
  have sz := st.size
  have ce := st.cell
  have ST := Lib.hid st
  clear st
  go_wp2_with fail
  refine bodyPost_ret (v := iv p q) (by simp [results, Try.results70, go_sem, *]) rfl ⟨rfl, ?_⟩
  refine ⟨by simp [go_sem, *], fun b o hb hn => ?_, fun b o hb => ?_, by simp; omega, fun h1 h2 => ?_⟩
  · have x1 : b < w.heap.size + 1 + 1 := by omega
    have y1 := ST.out.other b o (by omega) hn
    have y2 := hc1 b o (by simp; omega)
    simp [go_sem, y1, y2, x1, hb]
  · have y1 := ST.out.frozen b o (by omega)
    have y2 := hf1 b o (by simp; omega)
    have x1 : b < w.heap.size + 1 + 1 := by omega
    simp [go_sem, y1, y2, x1, hb]
  · have y1 := ST.out.below h1 (by omega)
    exact (((((((Below.refl _ _).alloc (by first | omega | (simp <;> omega)) _).alloc (by first | omega | (simp <;> omega)) _).alloc (by first | omega | (simp <;> omega)) _).trans (hb1.mono (by simp; omega))).trans y1).setCell (by simp; omega) _).setCell (by simp; omega) _

set_option maxRecDepth 100000 in
set_option maxHeartbeats 1000000 in
theorem csub_any (B c : Nat) (a b x y e : Int) (w : World) (hc : w.cell? ⟨c, 0, none⟩ = some (.int .i64 e)) (hf : w.frozen? ⟨c, 0, none⟩ = false) :
    Calls Try.prog 48 #[.pointer (some ⟨c, 0, none⟩), iv a b, iv x y] w fun r w' => r = .returned (iv (subR a b x y).lo (subR a b x y).hi) ∧ Step B w c (keepE e (subR a b x y).e) w' := by
  have hlt : c < w.heap.size := World.block_lt_of_cell? w _ hc
  obtain ⟨⟨p, q, f⟩, hR⟩ : ∃ r : R, subR a b x y = r := ⟨_, rfl⟩
  have HR := Lib.hid (show retR (subR a b x y) = .returned (.tuple #[iv p q, .int .i64 f]) from by rw [hR])
  rw [hR]
  clear hR
  have q1 : c < w.heap.size + 1 := by omega
  have q2 : c < w.heap.size + 1 + 1 := by omega
  have q3 : c < w.heap.size + 1 + 1 + 1 := by omega
  have nn0 : ¬ (c = w.heap.size) := by omega
  have mm0 : ¬ (w.heap.size = c) := by omega
  have nn1 : ¬ (c = w.heap.size + 1) := by omega
  have mm1 : ¬ (w.heap.size + 1 = c) := by omega
  have nn2 : ¬ (c = w.heap.size + 1 + 1) := by omega
  have mm2 : ¬ (w.heap.size + 1 + 1 = c) := by omega
  have nn3 : ¬ (c = w.heap.size + 1 + 1 + 1) := by omega
  have mm3 : ¬ (w.heap.size + 1 + 1 + 1 = c) := by omega
  go_enter Try.func48, Try.ntmps48
  go_wp2_with fail
  refine (rsub_any a b x y _).mono ?_
  rintro r w1 ⟨rfl, hb1⟩
  rw [HR.out]
  obtain ⟨hc1, hf1⟩ := bcell hb1
  have hz1 := hb1.size
  try simp at hz1
  have d1 : w1.cell? ⟨c, 0, none⟩ = some (.int .i64 e) := (hc1 _ _ (by simp; omega)).trans (by simp [go_sem, *])
  have d2 : w1.frozen? ⟨c, 0, none⟩ = false := (hf1 _ _ (by simp; omega)).trans (by simp [go_sem, *])
  have d3 : w1.cell? ⟨w.heap.size + 1 + 1, 0, none⟩ = some (.int .i64 0) := (hc1 _ _ (by simp)).trans (by simp [go_sem])
  have d4 : w1.cell? ⟨w.heap.size + 1 + 1, 1, none⟩ = some (.int .i64 0) := (hc1 _ _ (by simp)).trans (by simp [go_sem])
  have d5 : w1.frozen? ⟨w.heap.size + 1 + 1, 0, none⟩ = false := (hf1 _ _ (by simp)).trans (by simp [go_sem])
  have d6 : w1.frozen? ⟨w.heap.size + 1 + 1, 1, none⟩ = false := (hf1 _ _ (by simp)).trans (by simp [go_sem])
  go_wp2_with fail
  refine (kept_any B c p q e f w1 d1 d2).mono ?_
  rintro r w2 ⟨rfl, st⟩
  have g3 := (st.other (w.heap.size + 1 + 1) 0 (by omega) (by omega)).trans d3
  have g4 := (st.other (w.heap.size + 1 + 1) 1 (by omega) (by omega)).trans d4
  have g5 := (st.frozen (w.heap.size + 1 + 1) 0 (by omega)).trans d5
  have g6 := (st.frozen (w.heap.size + 1 + 1) 1 (by omega)).trans d6
  have sz := st.size
  have ce := st.cell
  have ST := Lib.hid st
  clear st
  go_wp2_with fail
  refine bodyPost_ret (v := iv p q) (by simp [results, Try.results48, go_sem, *]) rfl ⟨rfl, ?_⟩
  refine ⟨by simp [go_sem, *], fun b o hb hn => ?_, fun b o hb => ?_, by simp; omega, fun h1 h2 => ?_⟩
  · have x1 : b < w.heap.size + 1 + 1 := by omega
    have y1 := ST.out.other b o (by omega) hn
    have y2 := hc1 b o (by simp; omega)
    simp [go_sem, y1, y2, x1, hb]
  · have y1 := ST.out.frozen b o (by omega)
    have y2 := hf1 b o (by simp; omega)
    have x1 : b < w.heap.size + 1 + 1 := by omega
    simp [go_sem, y1, y2, x1, hb]
  · have y1 := ST.out.below h1 (by omega)
    exact (((((((Below.refl _ _).alloc (by first | omega | (simp <;> omega)) _).alloc (by first | omega | (simp <;> omega)) _).alloc (by first | omega | (simp <;> omega)) _).trans (hb1.mono (by simp; omega))).trans y1).setCell (by simp; omega) _).setCell (by simp; omega) _

set_option maxRecDepth 100000 in
set_option maxHeartbeats 1000000 in
theorem cdiv_any (B c : Nat) (a b x y e : Int) (w : World) (hc : w.cell? ⟨c, 0, none⟩ = some (.int .i64 e)) (hf : w.frozen? ⟨c, 0, none⟩ = false) :
    Calls Try.prog 56 #[.pointer (some ⟨c, 0, none⟩), iv a b, iv x y] w fun r w' => r = .returned (iv (divR a b x y).lo (divR a b x y).hi) ∧ Step B w c (keepE e (divR a b x y).e) w' := by
  have hlt : c < w.heap.size := World.block_lt_of_cell? w _ hc
  obtain ⟨⟨p, q, f⟩, hR⟩ : ∃ r : R, divR a b x y = r := ⟨_, rfl⟩
  have HR := Lib.hid (show retR (divR a b x y) = .returned (.tuple #[iv p q, .int .i64 f]) from by rw [hR])
  rw [hR]
  clear hR
  have q1 : c < w.heap.size + 1 := by omega
  have q2 : c < w.heap.size + 1 + 1 := by omega
  have q3 : c < w.heap.size + 1 + 1 + 1 := by omega
  have nn0 : ¬ (c = w.heap.size) := by omega
  have mm0 : ¬ (w.heap.size = c) := by omega
  have nn1 : ¬ (c = w.heap.size + 1) := by omega
  have mm1 : ¬ (w.heap.size + 1 = c) := by omega
  have nn2 : ¬ (c = w.heap.size + 1 + 1) := by omega
  have mm2 : ¬ (w.heap.size + 1 + 1 = c) := by omega
  have nn3 : ¬ (c = w.heap.size + 1 + 1 + 1) := by omega
  have mm3 : ¬ (w.heap.size + 1 + 1 + 1 = c) := by omega
  go_enter Try.func56, Try.ntmps56
  go_wp2_with fail
  refine (rdiv_any a b x y _).mono ?_
  rintro r w1 ⟨rfl, hb1⟩
  rw [HR.out]
  obtain ⟨hc1, hf1⟩ := bcell hb1
  have hz1 := hb1.size
  try simp at hz1
  have d1 : w1.cell? ⟨c, 0, none⟩ = some (.int .i64 e) := (hc1 _ _ (by simp; omega)).trans (by simp [go_sem, *])
  have d2 : w1.frozen? ⟨c, 0, none⟩ = false := (hf1 _ _ (by simp; omega)).trans (by simp [go_sem, *])
  have d3 : w1.cell? ⟨w.heap.size + 1 + 1, 0, none⟩ = some (.int .i64 0) := (hc1 _ _ (by simp)).trans (by simp [go_sem])
  have d4 : w1.cell? ⟨w.heap.size + 1 + 1, 1, none⟩ = some (.int .i64 0) := (hc1 _ _ (by simp)).trans (by simp [go_sem])
  have d5 : w1.frozen? ⟨w.heap.size + 1 + 1, 0, none⟩ = false := (hf1 _ _ (by simp)).trans (by simp [go_sem])
  have d6 : w1.frozen? ⟨w.heap.size + 1 + 1, 1, none⟩ = false := (hf1 _ _ (by simp)).trans (by simp [go_sem])
  go_wp2_with fail
  refine (kept_any B c p q e f w1 d1 d2).mono ?_
  rintro r w2 ⟨rfl, st⟩
  have g3 := (st.other (w.heap.size + 1 + 1) 0 (by omega) (by omega)).trans d3
  have g4 := (st.other (w.heap.size + 1 + 1) 1 (by omega) (by omega)).trans d4
  have g5 := (st.frozen (w.heap.size + 1 + 1) 0 (by omega)).trans d5
  have g6 := (st.frozen (w.heap.size + 1 + 1) 1 (by omega)).trans d6
  have sz := st.size
  have ce := st.cell
  have ST := Lib.hid st
  clear st
  go_wp2_with fail
  refine bodyPost_ret (v := iv p q) (by simp [results, Try.results56, go_sem, *]) rfl ⟨rfl, ?_⟩
  refine ⟨by simp [go_sem, *], fun b o hb hn => ?_, fun b o hb => ?_, by simp; omega, fun h1 h2 => ?_⟩
  · have x1 : b < w.heap.size + 1 + 1 := by omega
    have y1 := ST.out.other b o (by omega) hn
    have y2 := hc1 b o (by simp; omega)
    simp [go_sem, y1, y2, x1, hb]
  · have y1 := ST.out.frozen b o (by omega)
    have y2 := hf1 b o (by simp; omega)
    have x1 : b < w.heap.size + 1 + 1 := by omega
    simp [go_sem, y1, y2, x1, hb]
  · have y1 := ST.out.below h1 (by omega)
    exact (((((((Below.refl _ _).alloc (by first | omega | (simp <;> omega)) _).alloc (by first | omega | (simp <;> omega)) _).alloc (by first | omega | (simp <;> omega)) _).trans (hb1.mono (by simp; omega))).trans y1).setCell (by simp; omega) _).setCell (by simp; omega) _

set_option maxRecDepth 100000 in
set_option maxHeartbeats 1000000 in
theorem csq_any (B c : Nat) (a b e : Int) (w : World) (hc : w.cell? ⟨c, 0, none⟩ = some (.int .i64 e)) (hf : w.frozen? ⟨c, 0, none⟩ = false) :
    Calls Try.prog 47 #[.pointer (some ⟨c, 0, none⟩), iv a b] w fun r w' => r = .returned (iv (sqR a b).lo (sqR a b).hi) ∧ Step B w c (keepE e (sqR a b).e) w' := by
  have hlt : c < w.heap.size := World.block_lt_of_cell? w _ hc
  obtain ⟨⟨p, q, f⟩, hR⟩ : ∃ r : R, sqR a b = r := ⟨_, rfl⟩
  have HR := Lib.hid (show retR (sqR a b) = .returned (.tuple #[iv p q, .int .i64 f]) from by rw [hR])
  rw [hR]
  clear hR
  have q1 : c < w.heap.size + 1 := by omega
  have q2 : c < w.heap.size + 1 + 1 := by omega
  have nn0 : ¬ (c = w.heap.size) := by omega
  have mm0 : ¬ (w.heap.size = c) := by omega
  have nn1 : ¬ (c = w.heap.size + 1) := by omega
  have mm1 : ¬ (w.heap.size + 1 = c) := by omega
  have nn2 : ¬ (c = w.heap.size + 1 + 1) := by omega
  have mm2 : ¬ (w.heap.size + 1 + 1 = c) := by omega
  go_enter Try.func47, Try.ntmps47
  go_wp2_with fail
  refine (rsquare_any a b _).mono ?_
  rintro r w1 ⟨rfl, hb1⟩
  rw [HR.out]
  obtain ⟨hc1, hf1⟩ := bcell hb1
  have hz1 := hb1.size
  try simp at hz1
  have d1 : w1.cell? ⟨c, 0, none⟩ = some (.int .i64 e) := (hc1 _ _ (by simp; omega)).trans (by simp [go_sem, *])
  have d2 : w1.frozen? ⟨c, 0, none⟩ = false := (hf1 _ _ (by simp; omega)).trans (by simp [go_sem, *])
  have d3 : w1.cell? ⟨w.heap.size + 1, 0, none⟩ = some (.int .i64 0) := (hc1 _ _ (by simp)).trans (by simp [go_sem])
  have d4 : w1.cell? ⟨w.heap.size + 1, 1, none⟩ = some (.int .i64 0) := (hc1 _ _ (by simp)).trans (by simp [go_sem])
  have d5 : w1.frozen? ⟨w.heap.size + 1, 0, none⟩ = false := (hf1 _ _ (by simp)).trans (by simp [go_sem])
  have d6 : w1.frozen? ⟨w.heap.size + 1, 1, none⟩ = false := (hf1 _ _ (by simp)).trans (by simp [go_sem])
  go_wp2_with fail
  refine (kept_any B c p q e f w1 d1 d2).mono ?_
  rintro r w2 ⟨rfl, st⟩
  have g3 := (st.other (w.heap.size + 1) 0 (by omega) (by omega)).trans d3
  have g4 := (st.other (w.heap.size + 1) 1 (by omega) (by omega)).trans d4
  have g5 := (st.frozen (w.heap.size + 1) 0 (by omega)).trans d5
  have g6 := (st.frozen (w.heap.size + 1) 1 (by omega)).trans d6
  have sz := st.size
  have ce := st.cell
  have ST := Lib.hid st
  clear st
  go_wp2_with fail
  refine bodyPost_ret (v := iv p q) (by simp [results, Try.results47, go_sem, *]) rfl ⟨rfl, ?_⟩
  refine ⟨by simp [go_sem, *], fun b o hb hn => ?_, fun b o hb => ?_, by simp; omega, fun h1 h2 => ?_⟩
  · have x1 : b < w.heap.size + 1 := by omega
    have y1 := ST.out.other b o (by omega) hn
    have y2 := hc1 b o (by simp; omega)
    simp [go_sem, y1, y2, x1, hb]
  · have y1 := ST.out.frozen b o (by omega)
    have y2 := hf1 b o (by simp; omega)
    have x1 : b < w.heap.size + 1 := by omega
    simp [go_sem, y1, y2, x1, hb]
  · have y1 := ST.out.below h1 (by omega)
    exact ((((((Below.refl _ _).alloc (by first | omega | (simp <;> omega)) _).alloc (by first | omega | (simp <;> omega)) _).trans (hb1.mono (by simp; omega))).trans y1).setCell (by simp; omega) _).setCell (by simp; omega) _
end Go.Proofs.Ytjppcndhaejfpaa.Iv
