/- The reference's calculator: roots, opposites, and what it gives back. -/
import Derived.Test.YtjppcndhaejfpaaDj
import Derived.Test.YtjppcndhaejfpaaSq2
namespace Go.Proofs.Ytjppcndhaejfpaa.Iv
open Go.RowKit

set_option maxRecDepth 100000 in
set_option maxHeartbeats 1000000 in
theorem csqrt_any (B c : Nat) (a b e : Int) (w : World) (hc : w.cell? ⟨c, 0, none⟩ = some (.int .i64 e)) (hf : w.frozen? ⟨c, 0, none⟩ = false) :
    Calls Try.prog 59 #[.pointer (some ⟨c, 0, none⟩), iv a b] w fun r w' => r = .returned (iv (sqrtR a b).lo (sqrtR a b).hi) ∧ Step B w c (keepE e (sqrtR a b).e) w' := by
  have hlt : c < w.heap.size := World.block_lt_of_cell? w _ hc
  obtain ⟨⟨p, q, f⟩, hR⟩ : ∃ r : R, sqrtR a b = r := ⟨_, rfl⟩
  have HR := Lib.hid (show retR (sqrtR a b) = .returned (.tuple #[iv p q, .int .i64 f]) from by rw [hR])
  rw [hR]
  clear hR
  have q1 : c < w.heap.size + 1 := by omega
  have q2 : c < w.heap.size + 1 + 1 := by omega
  have nn0 : ¬ (c = w.heap.size) := by omega
  have mm0 : ¬ (w.heap.size = c) := by omega
  have nn1 : ¬ (c = w.heap.size + 1) := by omega
  have mm1 : ¬ (w.heap.size + 1 = c) := by omega
  have nn2 : ¬ (c = w.heap.size + 1 + 1) := by omega
  have mm2 : ¬ (w.heap.size + 1 + 1 = c) := by omega
  go_enter Try.func59, Try.ntmps59
  go_wp2_with fail
  refine (rsqrt_any a b _).mono ?_
  rintro r w1 ⟨rfl, hb1⟩
  rw [HR.out]
  obtain ⟨hc1, hf1⟩ := bcell hb1
  have hz1 := hb1.size
  try simp at hz1
  have d1 : w1.cell? ⟨c, 0, none⟩ = some (.int .i64 e) := (hc1 _ _ (by simp; omega)).trans (by simp [go_sem, *])
  have d2 : w1.frozen? ⟨c, 0, none⟩ = false := (hf1 _ _ (by simp; omega)).trans (by simp [go_sem, *])
  have d3 : w1.cell? ⟨w.heap.size + 1, 0, none⟩ = some (.int .i64 0) := (hc1 _ _ (by simp)).trans (by simp [go_sem])
  have d4 : w1.cell? ⟨w.heap.size + 1, 1, none⟩ = some (.int .i64 0) := (hc1 _ _ (by simp)).trans (by simp [go_sem])
  have d5 : w1.frozen? ⟨w.heap.size + 1, 0, none⟩ = false := (hf1 _ _ (by simp)).trans (by simp [go_sem])
  have d6 : w1.frozen? ⟨w.heap.size + 1, 1, none⟩ = false := (hf1 _ _ (by simp)).trans (by simp [go_sem])
  go_wp2_with fail
  refine (kept_any B c p q e f w1 d1 d2).mono ?_
  rintro r w2 ⟨rfl, st⟩
  have g3 := (st.other (w.heap.size + 1) 0 (by omega) (by omega)).trans d3
  have g4 := (st.other (w.heap.size + 1) 1 (by omega) (by omega)).trans d4
  have g5 := (st.frozen (w.heap.size + 1) 0 (by omega)).trans d5
  have g6 := (st.frozen (w.heap.size + 1) 1 (by omega)).trans d6
  have sz := st.size
  have ce := st.cell
  have ST := Lib.hid st
  clear st
  go_wp2_with fail
  refine bodyPost_ret (v := iv p q) (by simp [results, Try.results59, go_sem, *]) rfl ⟨rfl, ?_⟩
  refine ⟨by simp [go_sem, *], fun b o hb hn => ?_, fun b o hb => ?_, by simp; omega, fun h1 h2 => ?_⟩
  · have x1 : b < w.heap.size + 1 := by omega
    have y1 := ST.out.other b o (by omega) hn
    have y2 := hc1 b o (by simp; omega)
    simp [go_sem, y1, y2, x1, hb]
  · have y1 := ST.out.frozen b o (by omega)
    have y2 := hf1 b o (by simp; omega)
    have x1 : b < w.heap.size + 1 := by omega
    simp [go_sem, y1, y2, x1, hb]
  · have y1 := ST.out.below h1 (by omega)
    exact ((((((Below.refl _ _).alloc (by first | omega | (simp <;> omega)) _).alloc (by first | omega | (simp <;> omega)) _).trans (hb1.mono (by simp; omega))).trans y1).setCell (by simp; omega) _).setCell (by simp; omega) _

set_option maxRecDepth 100000 in
set_option maxHeartbeats 1000000 in
theorem cneg_any (B c : Nat) (a b e : Int) (w : World) (hc : w.cell? ⟨c, 0, none⟩ = some (.int .i64 e)) (hf : w.frozen? ⟨c, 0, none⟩ = false) :
    Calls Try.prog 60 #[.pointer (some ⟨c, 0, none⟩), iv a b] w fun r w' => r = .returned (iv (negR a b).lo (negR a b).hi) ∧ Step B w c (keepE e (negR a b).e) w' := by
  have hlt : c < w.heap.size := World.block_lt_of_cell? w _ hc
  obtain ⟨⟨p, q, f⟩, hR⟩ : ∃ r : R, negR a b = r := ⟨_, rfl⟩
  have HR := Lib.hid (show retR (negR a b) = .returned (.tuple #[iv p q, .int .i64 f]) from by rw [hR])
  rw [hR]
  clear hR
  have q1 : c < w.heap.size + 1 := by omega
  have q2 : c < w.heap.size + 1 + 1 := by omega
  have nn0 : ¬ (c = w.heap.size) := by omega
  have mm0 : ¬ (w.heap.size = c) := by omega
  have nn1 : ¬ (c = w.heap.size + 1) := by omega
  have mm1 : ¬ (w.heap.size + 1 = c) := by omega
  have nn2 : ¬ (c = w.heap.size + 1 + 1) := by omega
  have mm2 : ¬ (w.heap.size + 1 + 1 = c) := by omega
  go_enter Try.func60, Try.ntmps60
  go_wp2_with fail
  refine (rneg_any a b _).mono ?_
  rintro r w1 ⟨rfl, hb1⟩
  rw [HR.out]
  obtain ⟨hc1, hf1⟩ := bcell hb1
  have hz1 := hb1.size
  try simp at hz1
  have d1 : w1.cell? ⟨c, 0, none⟩ = some (.int .i64 e) := (hc1 _ _ (by simp; omega)).trans (by simp [go_sem, *])
  have d2 : w1.frozen? ⟨c, 0, none⟩ = false := (hf1 _ _ (by simp; omega)).trans (by simp [go_sem, *])
  have d3 : w1.cell? ⟨w.heap.size + 1, 0, none⟩ = some (.int .i64 0) := (hc1 _ _ (by simp)).trans (by simp [go_sem])
  have d4 : w1.cell? ⟨w.heap.size + 1, 1, none⟩ = some (.int .i64 0) := (hc1 _ _ (by simp)).trans (by simp [go_sem])
  have d5 : w1.frozen? ⟨w.heap.size + 1, 0, none⟩ = false := (hf1 _ _ (by simp)).trans (by simp [go_sem])
  have d6 : w1.frozen? ⟨w.heap.size + 1, 1, none⟩ = false := (hf1 _ _ (by simp)).trans (by simp [go_sem])
  go_wp2_with fail
  refine (kept_any B c p q e f w1 d1 d2).mono ?_
  rintro r w2 ⟨rfl, st⟩
  have g3 := (st.other (w.heap.size + 1) 0 (by omega) (by omega)).trans d3
  have g4 := (st.other (w.heap.size + 1) 1 (by omega) (by omega)).trans d4
  have g5 := (st.frozen (w.heap.size + 1) 0 (by omega)).trans d5
  have g6 := (st.frozen (w.heap.size + 1) 1 (by omega)).trans d6
  have sz := st.size
  have ce := st.cell
  have ST := Lib.hid st
  clear st
  go_wp2_with fail
  refine bodyPost_ret (v := iv p q) (by simp [results, Try.results60, go_sem, *]) rfl ⟨rfl, ?_⟩
  refine ⟨by simp [go_sem, *], fun b o hb hn => ?_, fun b o hb => ?_, by simp; omega, fun h1 h2 => ?_⟩
  · have x1 : b < w.heap.size + 1 := by omega
    have y1 := ST.out.other b o (by omega) hn
    have y2 := hc1 b o (by simp; omega)
    simp [go_sem, y1, y2, x1, hb]
  · have y1 := ST.out.frozen b o (by omega)
    have y2 := hf1 b o (by simp; omega)
    have x1 : b < w.heap.size + 1 := by omega
    simp [go_sem, y1, y2, x1, hb]
  · have y1 := ST.out.below h1 (by omega)
    exact ((((((Below.refl _ _).alloc (by first | omega | (simp <;> omega)) _).alloc (by first | omega | (simp <;> omega)) _).trans (hb1.mono (by simp; omega))).trans y1).setCell (by simp; omega) _).setCell (by simp; omega) _
/-- an interval, or the first error -/
def onlE (e a b : Int) : R := if e = 0 then ⟨a, b, 0⟩ else ⟨0, 0, e⟩
set_option maxRecDepth 100000 in
set_option maxHeartbeats 4000000 in
theorem only_any (c : Nat) (e : Int) (a b : Int) (w : World) (hc : w.cell? ⟨c, 0, none⟩ = some (.int .i64 e)) :
    Calls Try.prog 69 #[.pointer (some ⟨c, 0, none⟩), iv a b] w fun r w' => r = retR (onlE e a b) ∧ Below w.heap.size w w' := by
  have hlt : c < w.heap.size := World.block_lt_of_cell? w _ hc
  have q1 : c < w.heap.size + 1 := by omega
  have q2 : c < w.heap.size + 1 + 1 := by omega
  have n1 : ¬ (c = w.heap.size) := by omega
  have n2 : ¬ (c = w.heap.size + 1) := by omega
  have n3 : ¬ (w.heap.size = c) := by omega
  have n4 : ¬ (w.heap.size + 1 = c) := by omega
  by_cases he : e = 0
  · subst he
    rw [show onlE 0 a b = ⟨a, b, 0⟩ from if_pos rfl]
    have H0 := ((Ho.nil w).bx [.int .i64 a, .int .i64 b] 23 (w.heap.size) (by simp))
    have o_0 : Bx ((w.alloc (.cells (List.toArray [.int .i64 a, .int .i64 b]) 23)).alloc (.cells (List.toArray [.int .i64 0, .int .i64 0]) 23)) (w.heap.size + 1) [.int .i64 0, .int .i64 0] := by
      (repeat (first | with_reducible exact Bx.new (by simp) | with_reducible apply Bx.put6 | with_reducible apply Bx.put2 | with_reducible apply Bx.put1 | with_reducible refine Bx.set ?_ (by omega) | with_reducible refine Bx.alc ?_ _ | with_reducible refine Bx.drew ?_))
    go_enter Try.func69, Try.ntmps69
    have o_0c := o_0.c
    have o_0f := o_0.f
    go_wp2_with fail
    refine bodyPost_box (b := w.heap.size + 1) (cs := [.int .i64 a, .int .i64 b]) (v := .tuple #[iv a b, .int .i64 0]) (by
      (repeat (first | with_reducible exact o_0 | with_reducible exact Bx.new (by simp) | with_reducible apply Bx.put6 | with_reducible apply Bx.put2 | with_reducible apply Bx.put1 | with_reducible refine Bx.set ?_ (by omega) | with_reducible refine Bx.alc ?_ _ | with_reducible refine Bx.drew ?_))) (fun X hX => by simp [results, Try.results69, go_sem, hX]) rfl ⟨rfl, by
      refine Ho.below (n := w.heap.size + 1) (l := [(w.heap.size, [.int .i64 a, .int .i64 b])]) ?_
      (repeat (first | with_reducible exact H0 | with_reducible refine Ho.alc ?_ _ | with_reducible refine Ho.drew ?_ | with_reducible refine Ho.put ?_ (by omega)))⟩
  · have he' : (e == 0) = false := by simpa using he
    have he2 : (e != 0) = true := by simpa using he
    rw [show onlE e a b = ⟨0, 0, e⟩ from if_neg he]
    have H0 := ((Ho.nil w).bx [.int .i64 a, .int .i64 b] 23 (w.heap.size) (by simp))
    have o_0 : Bx ((w.alloc (.cells (List.toArray [.int .i64 a, .int .i64 b]) 23)).alloc (.cells (List.toArray [.int .i64 0, .int .i64 0]) 23)) (w.heap.size + 1) [.int .i64 0, .int .i64 0] := by
      (repeat (first | with_reducible exact Bx.new (by simp) | with_reducible apply Bx.put6 | with_reducible apply Bx.put2 | with_reducible apply Bx.put1 | with_reducible refine Bx.set ?_ (by omega) | with_reducible refine Bx.alc ?_ _ | with_reducible refine Bx.drew ?_))
    go_enter Try.func69, Try.ntmps69
    have o_0c := o_0.c
    have o_0f := o_0.f
    go_wp2_with fail
    go_region
    all_goals (try go_wp2_with fail)
    all_goals refine bodyPost_box (b := w.heap.size + 1) (cs := [.int .i64 0, .int .i64 0]) (v := .tuple #[iv 0 0, .int .i64 e]) (by
      (repeat (first | with_reducible exact o_0 | with_reducible exact Bx.new (by simp) | with_reducible apply Bx.put6 | with_reducible apply Bx.put2 | with_reducible apply Bx.put1 | with_reducible refine Bx.set ?_ (by omega) | with_reducible refine Bx.alc ?_ _ | with_reducible refine Bx.drew ?_))) (fun X hX => by simp [results, Try.results69, go_sem, hX]) rfl ⟨rfl, by
      refine Ho.below (n := w.heap.size + 1) (l := [(w.heap.size, [.int .i64 a, .int .i64 b])]) ?_
      (repeat (first | with_reducible exact H0 | with_reducible refine Ho.alc ?_ _ | with_reducible refine Ho.drew ?_ | with_reducible refine Ho.put ?_ (by omega)))⟩
set_option maxRecDepth 100000 in
set_option maxHeartbeats 4000000 in
theorem done_any (c : Nat) (e : Int) (s : D) (w : World) (hc : w.cell? ⟨c, 0, none⟩ = some (.int .i64 e)) :
    Calls Try.prog 72 #[.pointer (some ⟨c, 0, none⟩), dv s] w fun r w' => r = retD (dirR e s) ∧ Below w.heap.size w w' := by
  have hlt : c < w.heap.size := World.block_lt_of_cell? w _ hc
  have q1 : c < w.heap.size + 1 := by omega
  have q2 : c < w.heap.size + 1 + 1 := by omega
  have n1 : ¬ (c = w.heap.size) := by omega
  have n2 : ¬ (c = w.heap.size + 1) := by omega
  have n3 : ¬ (w.heap.size = c) := by omega
  have n4 : ¬ (w.heap.size + 1 = c) := by omega
  by_cases he : e = 0
  · subst he
    rw [show dirR 0 s = ⟨s, 0⟩ from if_pos rfl]
    have H0 := ((Ho.nil w).bx [.int .i64 s.a, .int .i64 s.b, .int .i64 s.c, .int .i64 s.d, .int .i64 s.e, .int .i64 s.f] 30 (w.heap.size) (by simp))
    have o_0 : Bx ((w.alloc (.cells (List.toArray [.int .i64 s.a, .int .i64 s.b, .int .i64 s.c, .int .i64 s.d, .int .i64 s.e, .int .i64 s.f]) 30)).alloc (.cells (List.toArray [.int .i64 0, .int .i64 0, .int .i64 0, .int .i64 0, .int .i64 0, .int .i64 0]) 30)) (w.heap.size + 1) [.int .i64 0, .int .i64 0, .int .i64 0, .int .i64 0, .int .i64 0, .int .i64 0] := by
      (repeat (first | with_reducible exact Bx.new (by simp) | with_reducible apply Bx.put6 | with_reducible apply Bx.put2 | with_reducible apply Bx.put1 | with_reducible refine Bx.set ?_ (by omega) | with_reducible refine Bx.alc ?_ _ | with_reducible refine Bx.drew ?_))
    go_enter Try.func72, Try.ntmps72
    have o_0c := o_0.c
    have o_0f := o_0.f
    go_wp2_with fail
    refine bodyPost_box (b := w.heap.size + 1) (cs := [.int .i64 s.a, .int .i64 s.b, .int .i64 s.c, .int .i64 s.d, .int .i64 s.e, .int .i64 s.f]) (v := .tuple #[dv s, .int .i64 0]) (by
      (repeat (first | with_reducible exact o_0 | with_reducible exact Bx.new (by simp) | with_reducible apply Bx.put6 | with_reducible apply Bx.put2 | with_reducible apply Bx.put1 | with_reducible refine Bx.set ?_ (by omega) | with_reducible refine Bx.alc ?_ _ | with_reducible refine Bx.drew ?_))) (fun X hX => by simp [results, Try.results72, go_sem, hX]) rfl ⟨rfl, by
      refine Ho.below (n := w.heap.size + 1) (l := [(w.heap.size, [.int .i64 s.a, .int .i64 s.b, .int .i64 s.c, .int .i64 s.d, .int .i64 s.e, .int .i64 s.f])]) ?_
      (repeat (first | with_reducible exact H0 | with_reducible refine Ho.alc ?_ _ | with_reducible refine Ho.drew ?_ | with_reducible refine Ho.put ?_ (by omega)))⟩
  · have he' : (e == 0) = false := by simpa using he
    have he2 : (e != 0) = true := by simpa using he
    rw [show dirR e s = ⟨zD, e⟩ from if_neg he]
    have H0 := ((Ho.nil w).bx [.int .i64 s.a, .int .i64 s.b, .int .i64 s.c, .int .i64 s.d, .int .i64 s.e, .int .i64 s.f] 30 (w.heap.size) (by simp))
    have o_0 : Bx ((w.alloc (.cells (List.toArray [.int .i64 s.a, .int .i64 s.b, .int .i64 s.c, .int .i64 s.d, .int .i64 s.e, .int .i64 s.f]) 30)).alloc (.cells (List.toArray [.int .i64 0, .int .i64 0, .int .i64 0, .int .i64 0, .int .i64 0, .int .i64 0]) 30)) (w.heap.size + 1) [.int .i64 0, .int .i64 0, .int .i64 0, .int .i64 0, .int .i64 0, .int .i64 0] := by
      (repeat (first | with_reducible exact Bx.new (by simp) | with_reducible apply Bx.put6 | with_reducible apply Bx.put2 | with_reducible apply Bx.put1 | with_reducible refine Bx.set ?_ (by omega) | with_reducible refine Bx.alc ?_ _ | with_reducible refine Bx.drew ?_))
    go_enter Try.func72, Try.ntmps72
    have o_0c := o_0.c
    have o_0f := o_0.f
    go_wp2_with fail
    go_region
    all_goals (try go_wp2_with fail)
    all_goals refine bodyPost_box (b := w.heap.size + 1) (cs := [.int .i64 0, .int .i64 0, .int .i64 0, .int .i64 0, .int .i64 0, .int .i64 0]) (v := .tuple #[dv zD, .int .i64 e]) (by
      (repeat (first | with_reducible exact o_0 | with_reducible exact Bx.new (by simp) | with_reducible apply Bx.put6 | with_reducible apply Bx.put2 | with_reducible apply Bx.put1 | with_reducible refine Bx.set ?_ (by omega) | with_reducible refine Bx.alc ?_ _ | with_reducible refine Bx.drew ?_))) (fun X hX => by simp [results, Try.results72, go_sem, hX, zD]) rfl ⟨rfl, by
      refine Ho.below (n := w.heap.size + 1) (l := [(w.heap.size, [.int .i64 s.a, .int .i64 s.b, .int .i64 s.c, .int .i64 s.d, .int .i64 s.e, .int .i64 s.f])]) ?_
      (repeat (first | with_reducible exact H0 | with_reducible refine Ho.alc ?_ _ | with_reducible refine Ho.drew ?_ | with_reducible refine Ho.put ?_ (by omega)))⟩
end Go.Proofs.Ytjppcndhaejfpaa.Iv
