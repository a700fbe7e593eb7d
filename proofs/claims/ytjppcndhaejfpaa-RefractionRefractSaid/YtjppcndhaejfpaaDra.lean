/- Contract of package refraction's Refract: refract's results, or nothing but the error. -/
import Derived.Test.YtjppcndhaejfpaaDr9
namespace Go.Proofs.Ytjppcndhaejfpaa.Iv
open Go.RowKit

set_option maxRecDepth 100000 in
set_option maxHeartbeats 4000000 in
theorem refr_any (s t : D) (a b : Int) (w : World) :
    Calls Try.prog 20 #[dv s, dv t, iv a b] w fun e w' => e = retF (refrR s t a b) ∧ Below w.heap.size w w' := by
  have I0 : F6 w ((((((w.alloc (.cells #[.int .i64 s.a, .int .i64 s.b, .int .i64 s.c, .int .i64 s.d, .int .i64 s.e, .int .i64 s.f] 25)).alloc (.cells #[.int .i64 t.a, .int .i64 t.b, .int .i64 t.c, .int .i64 t.d, .int .i64 t.e, .int .i64 t.f] 25)).alloc (.cells #[.int .i64 a, .int .i64 b] 23)).alloc (.cells #[.int .i64 0, .int .i64 0, .int .i64 0, .int .i64 0, .int .i64 0, .int .i64 0] 25)).alloc (.cells #[.int .i64 0, .int .i64 0] 23)).alloc (.cells #[.int .i64 0, .int .i64 0] 23)) w.heap.size s t a b 0 0 0 0 0 0 0 0 0 0 := by
    refine ⟨by simp [go_sem], by simp [go_sem], by simp [go_sem], by simp [go_sem], by simp [go_sem], by simp [go_sem], by simp [go_sem], by simp [go_sem], by simp [go_sem], by simp [go_sem], by simp [go_sem], by simp [go_sem], by simp [go_sem], by simp [go_sem], by simp [go_sem], by simp [go_sem], by simp [go_sem], by simp [go_sem], by simp [go_sem], by simp [go_sem], by simp [go_sem], by simp [go_sem], by simp [go_sem], by simp [go_sem], by simp [go_sem], by simp [go_sem], by simp [go_sem], by simp [go_sem], by simp [go_sem], by simp [go_sem], by simp [go_sem], by simp [go_sem], by simp [go_sem], by simp [go_sem], by simp, ?_⟩
    · repeat (first | exact Below.refl _ _ | refine Below.alloc ?_ (by first | omega | (simp <;> omega)) _)
  go_enter Try.func20, Try.ntmps20
  go_wp2_with fail
  refine (refract_any s t a b _).mono ?_
  rintro e w1 ⟨⟨⟨⟨d0, d1, d2, d3, d4, d5⟩, p, q, u, v, ee⟩, rfl, HR⟩, hb⟩
  have I1 := I0.call hb
  clear hb
  have HQ := Lib.hid HR
  clear HR
  unfold retF
  dsimp only
  have r0_0_1 := I1.r0_0
  have r0_1_1 := I1.r0_1
  have r0_2_1 := I1.r0_2
  have r0_3_1 := I1.r0_3
  have r0_4_1 := I1.r0_4
  have r0_5_1 := I1.r0_5
  have r1_0_1 := I1.r1_0
  have r1_1_1 := I1.r1_1
  have r1_2_1 := I1.r1_2
  have r1_3_1 := I1.r1_3
  have r1_4_1 := I1.r1_4
  have r1_5_1 := I1.r1_5
  have r2_0_1 := I1.r2_0
  have r2_1_1 := I1.r2_1
  have v3_0_1 := I1.v3_0
  have f3_0_1 := I1.f3_0
  have v3_1_1 := I1.v3_1
  have f3_1_1 := I1.f3_1
  have v3_2_1 := I1.v3_2
  have f3_2_1 := I1.f3_2
  have v3_3_1 := I1.v3_3
  have f3_3_1 := I1.f3_3
  have v3_4_1 := I1.v3_4
  have f3_4_1 := I1.f3_4
  have v3_5_1 := I1.v3_5
  have f3_5_1 := I1.f3_5
  have v4_0_1 := I1.v4_0
  have f4_0_1 := I1.f4_0
  have v4_1_1 := I1.v4_1
  have f4_1_1 := I1.f4_1
  have v5_0_1 := I1.v5_0
  have f5_0_1 := I1.f5_0
  have v5_1_1 := I1.v5_1
  have f5_1_1 := I1.f5_1
  have sz_1 := I1.size
  by_cases hE : ee = 0
  · subst hE
    go_wp2_with fail
    go_region_held3 (fun w' => w'.cell? ⟨w.heap.size + 1 + 1 + 1, 0, none⟩ = some (.int .i64 d0) ∧ w'.cell? ⟨w.heap.size + 1 + 1 + 1, 1, none⟩ = some (.int .i64 d1) ∧ w'.cell? ⟨w.heap.size + 1 + 1 + 1, 2, none⟩ = some (.int .i64 d2) ∧ w'.cell? ⟨w.heap.size + 1 + 1 + 1, 3, none⟩ = some (.int .i64 d3) ∧ w'.cell? ⟨w.heap.size + 1 + 1 + 1, 4, none⟩ = some (.int .i64 d4) ∧ w'.cell? ⟨w.heap.size + 1 + 1 + 1, 5, none⟩ = some (.int .i64 d5) ∧ w'.cell? ⟨w.heap.size + 1 + 1 + 1 + 1, 0, none⟩ = some (.int .i64 p) ∧ w'.cell? ⟨w.heap.size + 1 + 1 + 1 + 1, 1, none⟩ = some (.int .i64 q) ∧ w'.cell? ⟨w.heap.size + 1 + 1 + 1 + 1 + 1, 0, none⟩ = some (.int .i64 u) ∧ w'.cell? ⟨w.heap.size + 1 + 1 + 1 + 1 + 1, 1, none⟩ = some (.int .i64 v)) (with_reducible first | exact (((I1.set3 d0 d1 d2 d3 d4 d5).set4 p q).set5 u v).drew.res | exact ((((I1.set3 d0 d1 d2 d3 d4 d5).set4 p q).set5 u v).set3 (d0) (d1) (d2) (d3) (d4) (d5)).drew.res | exact (((((I1.set3 d0 d1 d2 d3 d4 d5).set4 p q).set5 u v).set3 (d0) (d1) (d2) (d3) (d4) (d5)).set4 (p) (q)).drew.res | exact ((((((I1.set3 d0 d1 d2 d3 d4 d5).set4 p q).set5 u v).set3 (d0) (d1) (d2) (d3) (d4) (d5)).set4 (p) (q)).set5 (u) (v)).drew.res)
      (fail)
    all_goals go_wp2_with fail
    have K := ((((((I1.set3 d0 d1 d2 d3 d4 d5).set4 p q).set5 u v).set3 d0 d1 d2 d3 d4 d5).set4 p q).set5 u v).drew.res
    have KB := ((((((I1.set3 d0 d1 d2 d3 d4 d5).set4 p q).set5 u v).set3 d0 d1 d2 d3 d4 d5).set4 p q).set5 u v).drew.below
    revert K KB
    generalize ((((((((((((((((((((w1.setCell ⟨w.heap.size + 1 + 1 + 1, 0, none⟩ (.int .i64 d0)).setCell ⟨w.heap.size + 1 + 1 + 1, 1, none⟩ (.int .i64 d1)).setCell ⟨w.heap.size + 1 + 1 + 1, 2, none⟩ (.int .i64 d2)).setCell ⟨w.heap.size + 1 + 1 + 1, 3, none⟩ (.int .i64 d3)).setCell ⟨w.heap.size + 1 + 1 + 1, 4, none⟩ (.int .i64 d4)).setCell ⟨w.heap.size + 1 + 1 + 1, 5, none⟩ (.int .i64 d5)).setCell ⟨w.heap.size + 1 + 1 + 1 + 1, 0, none⟩ (.int .i64 p)).setCell ⟨w.heap.size + 1 + 1 + 1 + 1, 1, none⟩ (.int .i64 q)).setCell ⟨w.heap.size + 1 + 1 + 1 + 1 + 1, 0, none⟩ (.int .i64 u)).setCell ⟨w.heap.size + 1 + 1 + 1 + 1 + 1, 1, none⟩ (.int .i64 v)).setCell ⟨w.heap.size + 1 + 1 + 1, 0, none⟩ (.int .i64 d0)).setCell ⟨w.heap.size + 1 + 1 + 1, 1, none⟩ (.int .i64 d1)).setCell ⟨w.heap.size + 1 + 1 + 1, 2, none⟩ (.int .i64 d2)).setCell ⟨w.heap.size + 1 + 1 + 1, 3, none⟩ (.int .i64 d3)).setCell ⟨w.heap.size + 1 + 1 + 1, 4, none⟩ (.int .i64 d4)).setCell ⟨w.heap.size + 1 + 1 + 1, 5, none⟩ (.int .i64 d5)).setCell ⟨w.heap.size + 1 + 1 + 1 + 1, 0, none⟩ (.int .i64 p)).setCell ⟨w.heap.size + 1 + 1 + 1 + 1, 1, none⟩ (.int .i64 q)).setCell ⟨w.heap.size + 1 + 1 + 1 + 1 + 1, 0, none⟩ (.int .i64 u)).setCell ⟨w.heap.size + 1 + 1 + 1 + 1 + 1, 1, none⟩ (.int .i64 v)).drew = X
    intro K KB
    obtain ⟨kk0, kk1, kk2, kk3, kk4, kk5, kk6, kk7, kk8, kk9⟩ := K
    exact bodyPost_ret (v := .tuple #[dv ⟨d0, d1, d2, d3, d4, d5⟩, iv p q, iv u v, .int .i64 0]) (by simp [results, Try.results20, go_sem, kk0, kk1, kk2, kk3, kk4, kk5, kk6, kk7, kk8, kk9]) rfl ⟨by rw [← HQ.out]; rfl, KB⟩
  · have hE' : (ee == 0) = false := by simpa using hE
    go_wp2_with fail
    have K := ((((((I1.set3 d0 d1 d2 d3 d4 d5).set4 p q).set5 u v).set3 0 0 0 0 0 0).set4 0 0).set5 0 0).res
    have KB := ((((((I1.set3 d0 d1 d2 d3 d4 d5).set4 p q).set5 u v).set3 0 0 0 0 0 0).set4 0 0).set5 0 0).below
    revert K KB
    generalize ((((((((((((((((((((w1.setCell ⟨w.heap.size + 1 + 1 + 1, 0, none⟩ (.int .i64 d0)).setCell ⟨w.heap.size + 1 + 1 + 1, 1, none⟩ (.int .i64 d1)).setCell ⟨w.heap.size + 1 + 1 + 1, 2, none⟩ (.int .i64 d2)).setCell ⟨w.heap.size + 1 + 1 + 1, 3, none⟩ (.int .i64 d3)).setCell ⟨w.heap.size + 1 + 1 + 1, 4, none⟩ (.int .i64 d4)).setCell ⟨w.heap.size + 1 + 1 + 1, 5, none⟩ (.int .i64 d5)).setCell ⟨w.heap.size + 1 + 1 + 1 + 1, 0, none⟩ (.int .i64 p)).setCell ⟨w.heap.size + 1 + 1 + 1 + 1, 1, none⟩ (.int .i64 q)).setCell ⟨w.heap.size + 1 + 1 + 1 + 1 + 1, 0, none⟩ (.int .i64 u)).setCell ⟨w.heap.size + 1 + 1 + 1 + 1 + 1, 1, none⟩ (.int .i64 v)).setCell ⟨w.heap.size + 1 + 1 + 1, 0, none⟩ (.int .i64 0)).setCell ⟨w.heap.size + 1 + 1 + 1, 1, none⟩ (.int .i64 0)).setCell ⟨w.heap.size + 1 + 1 + 1, 2, none⟩ (.int .i64 0)).setCell ⟨w.heap.size + 1 + 1 + 1, 3, none⟩ (.int .i64 0)).setCell ⟨w.heap.size + 1 + 1 + 1, 4, none⟩ (.int .i64 0)).setCell ⟨w.heap.size + 1 + 1 + 1, 5, none⟩ (.int .i64 0)).setCell ⟨w.heap.size + 1 + 1 + 1 + 1, 0, none⟩ (.int .i64 0)).setCell ⟨w.heap.size + 1 + 1 + 1 + 1, 1, none⟩ (.int .i64 0)).setCell ⟨w.heap.size + 1 + 1 + 1 + 1 + 1, 0, none⟩ (.int .i64 0)).setCell ⟨w.heap.size + 1 + 1 + 1 + 1 + 1, 1, none⟩ (.int .i64 0)) = X
    intro K KB
    obtain ⟨kk0, kk1, kk2, kk3, kk4, kk5, kk6, kk7, kk8, kk9⟩ := K
    exact bodyPost_ret (v := .tuple #[dv ⟨0, 0, 0, 0, 0, 0⟩, iv 0 0, iv 0 0, .int .i64 ee]) (by simp [results, Try.results20, go_sem, kk0, kk1, kk2, kk3, kk4, kk5, kk6, kk7, kk8, kk9]) rfl ⟨by rw [← HQ.out, show cleanF ⟨⟨d0, d1, d2, d3, d4, d5⟩, p, q, u, v, ee⟩ = failF ee from if_neg hE]; rfl, KB⟩
end Go.Proofs.Ytjppcndhaejfpaa.Iv
