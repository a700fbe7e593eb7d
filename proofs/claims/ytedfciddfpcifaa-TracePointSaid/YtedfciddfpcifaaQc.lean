/- The reference's calculator: roots, opposites, and what it gives back. -/
import Derived.Test.YtedfciddfpcifaaM21
import Derived.Test.YtedfciddfpcifaaM20

/- The reference's calculator: roots, opposites, and what it gives back. -/
namespace Go.Proofs.Ytedfciddfpcifaa.Iv
open Go.RowKit

/-- an interval, or the first error -/
def onlE (e a b : Int) : R := if e = 0 then ⟨a, b, 0⟩ else ⟨0, 0, e⟩
set_option maxRecDepth 100000 in
set_option maxHeartbeats 4000000 in
theorem only_any (c : Nat) (e : Int) (a b : Int) (w : World) (hc : w.cell? ⟨c, 0, none⟩ = some (.int .i64 e)) :
    Calls Try.prog 39 #[.pointer (some ⟨c, 0, none⟩), iv a b] w fun r w' => r = retR (onlE e a b) ∧ Below w.heap.size w w' := by
  have hlt : c < w.heap.size := World.block_lt_of_cell? w _ hc
  have q1 : c < w.heap.size + 1 := by omega
  have q2 : c < w.heap.size + 1 + 1 := by omega
  have n1 : ¬ (c = w.heap.size) := by omega
  have n2 : ¬ (c = w.heap.size + 1) := by omega
  have n3 : ¬ (w.heap.size = c) := by omega
  have n4 : ¬ (w.heap.size + 1 = c) := by omega
  by_cases he : e = 0
  · subst he
    rw [show onlE 0 a b = ⟨a, b, 0⟩ from if_pos rfl]
    have H0 := ((Ho.nil w).bx [.int .i64 a, .int .i64 b] 24 (w.heap.size) (by simp))
    have o_0 : Bx ((w.alloc (.cells (List.toArray [.int .i64 a, .int .i64 b]) 24)).alloc (.cells (List.toArray [.int .i64 0, .int .i64 0]) 24)) (w.heap.size + 1) [.int .i64 0, .int .i64 0] := by
      (repeat (first | with_reducible exact Bx.new (by simp) | with_reducible apply Bx.put6 | with_reducible apply Bx.put2 | with_reducible apply Bx.put1 | with_reducible refine Bx.set ?_ (by omega) | with_reducible refine Bx.alc ?_ _ | with_reducible refine Bx.drew ?_))
    go_enter Try.func39, Try.ntmps39
    have o_0c := o_0.c
    have o_0f := o_0.f
    go_wp2_with fail
    refine bodyPost_box (b := w.heap.size + 1) (cs := [.int .i64 a, .int .i64 b]) (v := .tuple #[iv a b, .int .i64 0]) (by
      (repeat (first | with_reducible exact o_0 | with_reducible exact Bx.new (by simp) | with_reducible apply Bx.put6 | with_reducible apply Bx.put2 | with_reducible apply Bx.put1 | with_reducible refine Bx.set ?_ (by omega) | with_reducible refine Bx.alc ?_ _ | with_reducible refine Bx.drew ?_))) (fun X hX => by simp [results, Try.results39, go_sem, hX]) rfl ⟨rfl, by
      refine Ho.below (n := w.heap.size + 1) (l := [(w.heap.size, [.int .i64 a, .int .i64 b])]) ?_
      (repeat (first | with_reducible exact H0 | with_reducible refine Ho.alc ?_ _ | with_reducible refine Ho.drew ?_ | with_reducible refine Ho.put ?_ (by omega)))⟩
  · have he' : (e == 0) = false := by simpa using he
    have he2 : (e != 0) = true := by simpa using he
    rw [show onlE e a b = ⟨0, 0, e⟩ from if_neg he]
    have H0 := ((Ho.nil w).bx [.int .i64 a, .int .i64 b] 24 (w.heap.size) (by simp))
    have o_0 : Bx ((w.alloc (.cells (List.toArray [.int .i64 a, .int .i64 b]) 24)).alloc (.cells (List.toArray [.int .i64 0, .int .i64 0]) 24)) (w.heap.size + 1) [.int .i64 0, .int .i64 0] := by
      (repeat (first | with_reducible exact Bx.new (by simp) | with_reducible apply Bx.put6 | with_reducible apply Bx.put2 | with_reducible apply Bx.put1 | with_reducible refine Bx.set ?_ (by omega) | with_reducible refine Bx.alc ?_ _ | with_reducible refine Bx.drew ?_))
    go_enter Try.func39, Try.ntmps39
    have o_0c := o_0.c
    have o_0f := o_0.f
    go_wp2_with fail
    go_region
    all_goals (try go_wp2_with fail)
    all_goals refine bodyPost_box (b := w.heap.size + 1) (cs := [.int .i64 0, .int .i64 0]) (v := .tuple #[iv 0 0, .int .i64 e]) (by
      (repeat (first | with_reducible exact o_0 | with_reducible exact Bx.new (by simp) | with_reducible apply Bx.put6 | with_reducible apply Bx.put2 | with_reducible apply Bx.put1 | with_reducible refine Bx.set ?_ (by omega) | with_reducible refine Bx.alc ?_ _ | with_reducible refine Bx.drew ?_))) (fun X hX => by simp [results, Try.results39, go_sem, hX]) rfl ⟨rfl, by
      refine Ho.below (n := w.heap.size + 1) (l := [(w.heap.size, [.int .i64 a, .int .i64 b])]) ?_
      (repeat (first | with_reducible exact H0 | with_reducible refine Ho.alc ?_ _ | with_reducible refine Ho.drew ?_ | with_reducible refine Ho.put ?_ (by omega)))⟩
set_option maxRecDepth 100000 in
set_option maxHeartbeats 4000000 in
theorem done_any (c : Nat) (e : Int) (s : D) (w : World) (hc : w.cell? ⟨c, 0, none⟩ = some (.int .i64 e)) :
    Calls Try.prog 37 #[.pointer (some ⟨c, 0, none⟩), dv s] w fun r w' => r = retD (dirR e s) ∧ Below w.heap.size w w' := by
  have hlt : c < w.heap.size := World.block_lt_of_cell? w _ hc
  have q1 : c < w.heap.size + 1 := by omega
  have q2 : c < w.heap.size + 1 + 1 := by omega
  have n1 : ¬ (c = w.heap.size) := by omega
  have n2 : ¬ (c = w.heap.size + 1) := by omega
  have n3 : ¬ (w.heap.size = c) := by omega
  have n4 : ¬ (w.heap.size + 1 = c) := by omega
  by_cases he : e = 0
  · subst he
    rw [show dirR 0 s = ⟨s, 0⟩ from if_pos rfl]
    have H0 := ((Ho.nil w).bx [.int .i64 s.a, .int .i64 s.b, .int .i64 s.c, .int .i64 s.d, .int .i64 s.e, .int .i64 s.f] 32 (w.heap.size) (by simp))
    have o_0 : Bx ((w.alloc (.cells (List.toArray [.int .i64 s.a, .int .i64 s.b, .int .i64 s.c, .int .i64 s.d, .int .i64 s.e, .int .i64 s.f]) 32)).alloc (.cells (List.toArray [.int .i64 0, .int .i64 0, .int .i64 0, .int .i64 0, .int .i64 0, .int .i64 0]) 32)) (w.heap.size + 1) [.int .i64 0, .int .i64 0, .int .i64 0, .int .i64 0, .int .i64 0, .int .i64 0] := by
      (repeat (first | with_reducible exact Bx.new (by simp) | with_reducible apply Bx.put6 | with_reducible apply Bx.put2 | with_reducible apply Bx.put1 | with_reducible refine Bx.set ?_ (by omega) | with_reducible refine Bx.alc ?_ _ | with_reducible refine Bx.drew ?_))
    go_enter Try.func37, Try.ntmps37
    have o_0c := o_0.c
    have o_0f := o_0.f
    go_wp2_with fail
    refine bodyPost_box (b := w.heap.size + 1) (cs := [.int .i64 s.a, .int .i64 s.b, .int .i64 s.c, .int .i64 s.d, .int .i64 s.e, .int .i64 s.f]) (v := .tuple #[dv s, .int .i64 0]) (by
      (repeat (first | with_reducible exact o_0 | with_reducible exact Bx.new (by simp) | with_reducible apply Bx.put6 | with_reducible apply Bx.put2 | with_reducible apply Bx.put1 | with_reducible refine Bx.set ?_ (by omega) | with_reducible refine Bx.alc ?_ _ | with_reducible refine Bx.drew ?_))) (fun X hX => by simp [results, Try.results37, go_sem, hX]) rfl ⟨rfl, by
      refine Ho.below (n := w.heap.size + 1) (l := [(w.heap.size, [.int .i64 s.a, .int .i64 s.b, .int .i64 s.c, .int .i64 s.d, .int .i64 s.e, .int .i64 s.f])]) ?_
      (repeat (first | with_reducible exact H0 | with_reducible refine Ho.alc ?_ _ | with_reducible refine Ho.drew ?_ | with_reducible refine Ho.put ?_ (by omega)))⟩
  · have he' : (e == 0) = false := by simpa using he
    have he2 : (e != 0) = true := by simpa using he
    rw [show dirR e s = ⟨zD, e⟩ from if_neg he]
    have H0 := ((Ho.nil w).bx [.int .i64 s.a, .int .i64 s.b, .int .i64 s.c, .int .i64 s.d, .int .i64 s.e, .int .i64 s.f] 32 (w.heap.size) (by simp))
    have o_0 : Bx ((w.alloc (.cells (List.toArray [.int .i64 s.a, .int .i64 s.b, .int .i64 s.c, .int .i64 s.d, .int .i64 s.e, .int .i64 s.f]) 32)).alloc (.cells (List.toArray [.int .i64 0, .int .i64 0, .int .i64 0, .int .i64 0, .int .i64 0, .int .i64 0]) 32)) (w.heap.size + 1) [.int .i64 0, .int .i64 0, .int .i64 0, .int .i64 0, .int .i64 0, .int .i64 0] := by
      (repeat (first | with_reducible exact Bx.new (by simp) | with_reducible apply Bx.put6 | with_reducible apply Bx.put2 | with_reducible apply Bx.put1 | with_reducible refine Bx.set ?_ (by omega) | with_reducible refine Bx.alc ?_ _ | with_reducible refine Bx.drew ?_))
    go_enter Try.func37, Try.ntmps37
    have o_0c := o_0.c
    have o_0f := o_0.f
    go_wp2_with fail
    go_region
    all_goals (try go_wp2_with fail)
    all_goals refine bodyPost_box (b := w.heap.size + 1) (cs := [.int .i64 0, .int .i64 0, .int .i64 0, .int .i64 0, .int .i64 0, .int .i64 0]) (v := .tuple #[dv zD, .int .i64 e]) (by
      (repeat (first | with_reducible exact o_0 | with_reducible exact Bx.new (by simp) | with_reducible apply Bx.put6 | with_reducible apply Bx.put2 | with_reducible apply Bx.put1 | with_reducible refine Bx.set ?_ (by omega) | with_reducible refine Bx.alc ?_ _ | with_reducible refine Bx.drew ?_))) (fun X hX => by simp [results, Try.results37, go_sem, hX, zD]) rfl ⟨rfl, by
      refine Ho.below (n := w.heap.size + 1) (l := [(w.heap.size, [.int .i64 s.a, .int .i64 s.b, .int .i64 s.c, .int .i64 s.d, .int .i64 s.e, .int .i64 s.f])]) ?_
      (repeat (first | with_reducible exact H0 | with_reducible refine Ho.alc ?_ _ | with_reducible refine Ho.drew ?_ | with_reducible refine Ho.put ?_ (by omega)))⟩
end Go.Proofs.Ytedfciddfpcifaa.Iv
