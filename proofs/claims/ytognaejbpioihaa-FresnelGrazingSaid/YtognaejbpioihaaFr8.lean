/- FresnelGrazing returns true for every surface, and leaves memory that was there as it was: what Reflectance gives, and the walk. -/
import Derived.Test.YtognaejbpioihaaFr8m
namespace Go.Proofs.Ytognaejbpioihaa.Iv
open Go.RowKit

def flat (s : Sf) : Sf := ⟨0, 0, s.al, s.ah, s.fl, s.fh, s.tl, s.th⟩
theorem win_lo {a b l h : Int} (hw : winB a b l h = true) : l * 16777216 ≤ a := by simp [winB] at hw; exact hw.2.1
theorem sf_lo {s : Sf} (h : sfB s = true) : 0 ≤ s.al ∧ 16777216 ≤ s.fl ∧ 16777216 ≤ s.tl := by
  simp only [sfB, Bool.and_eq_true] at h
  have a := win_lo h.2.1
  have b := win_lo h.2.2.1
  have c := win_lo h.2.2.2
  omega
/-- one polarization of light that grazes: positive cosines behind -/
theorem pol_graz {a b c d x y : Int} (h1 : vB a b = true) (h2 : vB c d = true) (h3 : vB x y = true) (hc : 16777216 ≤ c) (hx : 0 < x) :
    ((bind (mulR a b 0 0) fun p q => bind (mulR c d x y) fun u v => contrastR p q u v).e = 0 ∨ ((bind (mulR a b 0 0) fun p q => bind (mulR c d x y) fun u v => contrastR p q u v).e = 1 ∨ (bind (mulR a b 0 0) fun p q => bind (mulR c d x y) fun u v => contrastR p q u v).e = 3)) ∧
    ((bind (mulR a b 0 0) fun p q => bind (mulR c d x y) fun u v => contrastR p q u v).e = 0 → (bind (mulR a b 0 0) fun p q => bind (mulR c d x y) fun u v => contrastR p q u v).hi = 16777216) := by
  rw [mul_zero' h1, bind_ok rfl]
  show ((bind (mulR c d x y) fun u v => contrastR 0 0 u v).e = 0 ∨ _) ∧ ((bind (mulR c d x y) fun u v => contrastR 0 0 u v).e = 0 → (bind (mulR c d x y) fun u v => contrastR 0 0 u v).hi = 16777216)
  by_cases h : (mulR c d x y).e = 0
  · rw [bind_ok h]
    have hv := mulR_v h
    have hp : 0 < (mulR c d x y).lo := by
      rcases mul_pos' h2 h3 hc hx with k | k
      · omega
      · exact absurd h k
    refine ⟨contrast_e _ _ _ _ (fun _ => by rw [add_zero' hv]; exact hp), fun he => contrast_one hv hp he⟩
  · rw [bind_err h]
    refine ⟨?_, fun h0 => absurd h0 h⟩
    rcases mul_e c d x y with k | k
    · exact absurd k h
    · exact .inr k
/-- and with the cosine 0: a division by 0 -/
theorem pol_flat {a b c d y : Int} (h1 : vB a b = true) (h2 : vB c d = true) (h3 : vB 0 y = true) (hc : 16777216 ≤ c) :
    (bind (mulR a b 0 0) fun p q => bind (mulR c d 0 y) fun u v => contrastR p q u v).e ≠ 0 := by
  rw [mul_zero' h1, bind_ok rfl]
  show (bind (mulR c d 0 y) fun u v => contrastR 0 0 u v).e ≠ 0
  by_cases h : (mulR c d 0 y).e = 0
  · rw [bind_ok h]
    have hv := mulR_v h
    have k2 := vB_iff.1 h2
    have k3 := vB_iff.1 h3
    have hz : (mulR c d 0 y).lo = 0 ∧ 0 ≤ (mulR c d 0 y).hi := by
      have o := mulR_ord c d 0 y
      have e : (mulR c d 0 y).lo = 0 := by
        revert h
        rw [mulR, if_pos ⟨h2, h3⟩]
        unfold withinR
        split
        · intro h; cases h
        · intro _
          show fl (min4 (c * 0) (c * y) (d * 0) (d * y)) = 0
          have m1 := Int.mul_nonneg (show 0 ≤ c by omega) (show 0 ≤ y by omega)
          have m2 := Int.mul_nonneg (show 0 ≤ d by omega) (show 0 ≤ y by omega)
          unfold fl min4
          omega
      omega
    obtain ⟨v, hv'⟩ : ∃ v, v = (mulR c d 0 y).hi := ⟨_, rfl⟩
    rw [hz.1, ← hv'] at hv ⊢
    have hv0 : 0 ≤ v := by omega
    unfold contrastR
    rw [sub_zero' hv, bind_ok rfl, add_zero' hv, bind_ok rfl]
    have hd : divR (-v) (-0) 0 v = ⟨0, 0, 10⟩ := by
      rw [divR, if_pos ⟨by rw [vB_neg]; exact hv, hv⟩, if_pos ⟨by omega, hv0⟩]
    show (bind (divR (-v) (-0) 0 v) _).e ≠ 0
    rw [hd, bind_err (by decide)]
    decide
  · rw [bind_err h]; exact h
theorem graz_of (s : Sf) : ((reflR (flat s)).e = 0 ∧ (reflR (flat s)).lo ≤ 16777216 ∧ (reflR (flat s)).hi = 16777216) ∨ ((reflR (flat s)).e ≠ 0 ∧ ((reflR (flat s)).e = 1 ∨ (reflR (flat s)).e = 3 ∨ s.al = 0)) := by
  by_cases hs : sfB (flat s) = true
  · obtain ⟨v1, v2, v3, v4⟩ := sf_v hs
    obtain ⟨l1, l2, l3⟩ := sf_lo hs
    simp only [flat] at v1 v2 v3 v4 l1 l2 l3
    have ep : perpR (flat s) = bind (mulR s.fl s.fh 0 0) fun p q => bind (mulR s.tl s.th s.al s.ah) fun u v => contrastR p q u v := by rw [perpR, polR_ok hs]; rfl
    have eq : parR (flat s) = bind (mulR s.tl s.th 0 0) fun p q => bind (mulR s.fl s.fh s.al s.ah) fun u v => contrastR p q u v := by
      rw [parR, polR_ok hs]
      exact (bind_swap (mulR_e v3 v2) (mulR_e v4 v1)).symm
    by_cases ha : s.al = 0
    · right
      refine ⟨?_, .inr (.inr ha)⟩
      intro he
      have := (bind_inv (show (bind (perpR (flat s)) _).e = 0 from he)).1
      rw [ep, ha] at this
      rw [ha] at v2
      exact pol_flat v3 v4 v2 l3 this
    · have hp : 0 < s.al := by omega
      have g1 := pol_graz v3 v4 v2 l3 hp
      have g2 := pol_graz v4 v3 v2 l2 hp
      rw [← ep] at g1
      rw [← eq] at g2
      by_cases he : (reflR (flat s)).e = 0
      · left
        obtain ⟨P, Q, T, U, hP, hQ, hT, hU, p0, q0, t0, u0, e⟩ := refl_inv he
        rw [hP] at g1
        rw [hQ] at g2
        have x1 := g1.2 p0
        have x2 := g2.2 q0
        have x3 : T.hi = 33554432 := by
          rw [← hT] at t0 ⊢
          revert t0
          unfold addR
          split
          · unfold withinR
            split
            · intro h; cases h
            · intro _; show P.hi + Q.hi = _; omega
          · intro h; cases h
        have x4 : 16777216 ≤ U.hi := by
          rw [← hU] at u0 ⊢
          revert u0
          unfold mulR
          split
          · unfold withinR
            split
            · intro h; cases h
            · intro _
              show 16777216 ≤ ce (max4 (T.lo * 8388608) (T.lo * 8388608) (T.hi * 8388608) (T.hi * 8388608))
              unfold ce max4
              omega
          · intro h; cases h
        rw [e]
        refine ⟨rfl, cutI_hi _, ?_⟩
        show cutI U.hi = _
        unfold cutI
        omega
      · right
        refine ⟨he, ?_⟩
        have : (reflR (flat s)).e = 0 ∨ ((reflR (flat s)).e = 1 ∨ (reflR (flat s)).e = 3) := by
          refine bind_e (p := fun e => e = 1 ∨ e = 3) g1.1 (fun _ => ?_)
          refine (bind_e (p := fun e => e = 1 ∨ e = 3) g2.1 (fun _ => ?_)).symm
          refine (bind_e (p := fun e => e = 1 ∨ e = 3) (add_e _ _ _ _) (fun _ => ?_)).symm
          refine (bind_e (p := fun e => e = 1 ∨ e = 3) (mul_e _ _ _ _) (fun _ => .inr rfl)).symm
        rcases this with k | k | k
        · exact absurd k he
        · exact .inl k
        · exact .inr (.inl k)
  · right
    have hs' : sfB (flat s) = false := by simpa using hs
    have e : reflR (flat s) = ⟨0, 0, 1⟩ := by
      rw [reflR, perpR, polR_no hs', bind_err (by decide)]
    rw [e]
    exact ⟨by decide, .inl rfl⟩

set_option maxRecDepth 100000 in
set_option maxHeartbeats 2000000 in
theorem grazing_any (s : Sf) (w : World) :
    Calls Try.prog 7 #[sv s] w fun e w' => e = .returned (.bool true) ∧ Below w.heap.size w w' := by
  go_enter Try.func7, Try.ntmps7
  go_wp2_with fail
  refine (awake_any _).mono ?_
  rintro e w1 ⟨rfl, hb1⟩
  obtain ⟨hc1, hf1⟩ := bcell hb1
  have hz1 := hb1.size
  try simp at hz1
  have hs1_0 : w.heap.size < w1.heap.size := by omega
  have hw1 : Below w.heap.size w w1 := Below.trans (by repeat (first | exact Below.refl _ _ | refine Below.drew ?_ | refine Below.setCell ?_ (by first | omega | (simp <;> omega)) _ | refine Below.alloc ?_ (by first | omega | (simp <;> omega)) _)) (hb1.mono (by first | omega | (simp <;> omega)))
  clear hb1 hz1
  go_wp2_with fail
  refine (refl_any (flat s) _).mono ?_
  rintro e w2 ⟨rfl, hb2⟩
  obtain ⟨hc2, hf2⟩ := bcell hb2
  have hz2 := hb2.size
  try simp at hz2
  have hs2_0 : w.heap.size < w2.heap.size := by omega
  have hw2 : Below w.heap.size w w2 := Below.trans (by repeat (first | exact hw1 | refine Below.drew ?_ | refine Below.setCell ?_ (by first | omega | (simp <;> omega)) _ | refine Below.alloc ?_ (by first | omega | (simp <;> omega)) _)) (hb2.mono (by first | omega | (simp <;> omega)))
  clear hb2 hz2
  have G := graz_of s
  obtain ⟨Q, hQ⟩ : ∃ Q, Q = reflR (flat s) := ⟨_, rfl⟩
  rw [← hQ] at G ⊢
  clear hQ
  rcases G with ⟨g0, g1, g2⟩ | ⟨g0, g1⟩
  · have g3 : (Q.hi == 16777216) = true := by simp [g2]
    clear g2
    go_wp2_with fail
    go_ret
    exact ⟨ret_bool (by simp), by repeat (first | exact hw2 | refine Below.drew ?_ | refine Below.setCell ?_ (by first | omega | (simp <;> omega)) _ | refine Below.alloc ?_ (by first | omega | (simp <;> omega)) _)⟩
  · rcases g1 with g1 | g1 | g1
    · clear g0
      go_wp2_with fail
      go_ret
      exact ⟨ret_bool (by simp), by repeat (first | exact hw2 | refine Below.drew ?_ | refine Below.setCell ?_ (by first | omega | (simp <;> omega)) _ | refine Below.alloc ?_ (by first | omega | (simp <;> omega)) _)⟩
    · clear g0
      go_wp2_with fail
      go_ret
      exact ⟨ret_bool (by simp), by repeat (first | exact hw2 | refine Below.drew ?_ | refine Below.setCell ?_ (by first | omega | (simp <;> omega)) _ | refine Below.alloc ?_ (by first | omega | (simp <;> omega)) _)⟩
    · have g2 : (s.al == 0) = true := by simp [g1]
      clear g1
      go_wp2_with fail
      all_goals go_ret
      all_goals exact ⟨ret_bool (by simp), by repeat (first | exact hw2 | refine Below.drew ?_ | refine Below.setCell ?_ (by first | omega | (simp <;> omega)) _ | refine Below.alloc ?_ (by first | omega | (simp <;> omega)) _)⟩
end Go.Proofs.Ytognaejbpioihaa.Iv
