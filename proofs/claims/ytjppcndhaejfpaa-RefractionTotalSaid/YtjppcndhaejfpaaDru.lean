/- What Hits tells, Refract bears out: plain facts about hitsR and refrR. -/
import Derived.Test.YtjppcndhaejfpaaDr8
import Derived.Test.YtjppcndhaejfpaaDr9
import Derived.Test.YtjppcndhaejfpaaSq2
namespace Go.Proofs.Ytjppcndhaejfpaa.Iv

/-- a valid interval, or the error of a limit -/
def okR (r : R) : Prop := (r.e = 0 ∧ vB r.lo r.hi = true) ∨ r.e = 3
theorem within_ok {lo hi : Int} (h : lo ≤ hi) : okR (withinR lo hi) := by
  by_cases c : lo < -1073741824 ∨ 1073741824 < hi
  · rw [within_no c]; exact .inr rfl
  · rw [withinR, if_neg c]
    exact .inl ⟨rfl, vB_iff.2 ⟨by dsimp only; omega, h, by dsimp only; omega⟩⟩
theorem add_ok {a b c d : Int} (h : vB a b = true) (k : vB c d = true) : okR (addR a b c d) := by
  have h1 := vB_iff.1 h
  have h2 := vB_iff.1 k
  rw [addR, if_pos ⟨h, k⟩]
  exact within_ok (by omega)
theorem sub_ok {a b c d : Int} (h : vB a b = true) (k : vB c d = true) : okR (subR a b c d) := by
  have h1 := vB_iff.1 h
  have h2 := vB_iff.1 k
  rw [subR, if_pos ⟨h, k⟩]
  exact within_ok (by omega)
theorem mul_ok {a b c d : Int} (h : vB a b = true) (k : vB c d = true) : okR (mulR a b c d) := by
  rw [mulR, if_pos ⟨h, k⟩]
  exact within_ok (fl_le_ce (min4_le_max4 _ _ _ _))
theorem sq_ok {a b : Int} (h : vB a b = true) : okR (sqR a b) := by
  rw [sqR, if_pos h]
  refine within_ok (fl_le_ce ?_)
  unfold least2
  split
  · have : 0 ≤ a * a := by
      rcases Int.le_total 0 a with h | h
      · exact Int.mul_nonneg h h
      · exact Int.mul_nonneg_of_nonpos_of_nonpos h h
    omega
  · omega
theorem goOn_ok {e : Int} {r : R} (he : e = 0 ∨ e = 3) (h : e = 0 → okR r) : okR (goOn e r) := by
  rcases he with rfl | rfl
  · exact h rfl
  · exact .inr rfl
theorem okR.err {r : R} (h : okR r) : r.e = 0 ∨ r.e = 3 := by
  rcases h with h | h
  · exact .inl h.1
  · exact .inr h
theorem okR.val {r : R} (h : okR r) (e : r.e = 0) : vB r.lo r.hi = true := by
  rcases h with h | h
  · exact h.2
  · rw [h] at e; cases e
def okD (r : RD) : Prop := (r.e = 0 ∧ vD r.d = true) ∨ r.e = 3
theorem okD.err {r : RD} (h : okD r) : r.e = 0 ∨ r.e = 3 := by
  rcases h with h | h
  · exact .inl h.1
  · exact .inr h
theorem okD.val {r : RD} (h : okD r) (e : r.e = 0) : vD r.d = true := by
  rcases h with h | h
  · exact h.2
  · rw [h] at e; cases e
theorem comb_ok {r s t : R} (h1 : okR r) (h2 : okR s) (h3 : okR t) : okD (comb r s t) := by
  unfold comb
  rcases h1 with ⟨e1, v1⟩ | e1
  · rw [if_pos e1]
    rcases h2 with ⟨e2, v2⟩ | e2
    · rw [if_pos e2]
      rcases h3 with ⟨e3, v3⟩ | e3
      · rw [if_pos e3]
        exact .inl ⟨rfl, by simp [vD, v1, v2, v3]⟩
      · rw [if_neg (by rw [e3]; decide)]
        exact .inr e3
    · rw [if_neg (by rw [e2]; decide)]
      exact .inr e2
  · rw [if_neg (by rw [e1]; decide)]
    exact .inr e1
theorem vD_parts {s : D} (h : vD s = true) : vB s.a s.b = true ∧ vB s.c s.d = true ∧ vB s.e s.f = true := by
  simpa [vD] using h
theorem scale_ok {s : D} {a b : Int} (h : vD s = true) (k : vB a b = true) : okD (scaleD s a b) := by
  obtain ⟨h1, h2, h3⟩ := vD_parts h
  rw [scaleD, if_pos ⟨h, k⟩]
  exact comb_ok (mul_ok h1 k) (mul_ok h2 k) (mul_ok h3 k)
theorem addD_ok {s t : D} (h : vD s = true) (k : vD t = true) : okD (addD s t) := by
  obtain ⟨h1, h2, h3⟩ := vD_parts h
  obtain ⟨k1, k2, k3⟩ := vD_parts k
  rw [addD, if_pos ⟨h, k⟩]
  exact comb_ok (add_ok h1 k1) (add_ok h2 k2) (add_ok h3 k3)
theorem goOnD_ok {e : Int} {r : RD} (he : e = 0 ∨ e = 3) (h : e = 0 → okD r) : okD (goOnD e r) := by
  rcases he with rfl | rfl
  · exact h rfl
  · exact .inr rfl
theorem goOn_zero {e : Int} {r : R} (h : (goOn e r).e = 0) : e = 0 := by
  by_cases c : e = 0
  · exact c
  · rw [show goOn e r = ⟨0, 0, e⟩ from if_neg c] at h; exact absurd h c
theorem goOnD_zero {e : Int} {r : RD} (h : (goOnD e r).e = 0) : e = 0 := by
  by_cases c : e = 0
  · exact c
  · rw [show goOnD e r = ⟨zD, e⟩ from if_neg c] at h; exact absurd h c
theorem unit_v : vB 16777216 16777216 = true := by decide
theorem rad_ok {a b x y : Int} (h : vB a b = true) (k : vB x y = true) : okR (radR a b x y) := by
  rw [show radR a b x y = radG a b x y from if_pos ⟨h, k⟩]
  unfold radG
  have o1 : okR (goOn 0 (sqR x y)) := goOn_ok (.inl rfl) fun _ => sq_ok k
  have o2 : okR (goOn (goOn 0 (sqR x y)).e (sqR a b)) := goOn_ok o1.err fun _ => sq_ok h
  have o3 : okR (goOn (goOn (goOn 0 (sqR x y)).e (sqR a b)).e (subR 16777216 16777216 (goOn (goOn 0 (sqR x y)).e (sqR a b)).lo (goOn (goOn 0 (sqR x y)).e (sqR a b)).hi)) := goOn_ok o2.err fun e => sub_ok unit_v (o2.val e)
  exact goOn_ok (goOn_ok o3.err fun e => mul_ok (o1.val (goOn_zero (goOn_zero e))) (o3.val e)).err fun e => sub_ok unit_v ((goOn_ok o3.err fun e => mul_ok (o1.val (goOn_zero (goOn_zero e))) (o3.val e)).val e)
theorem sum_ok {e : Int} {s : D} (he : e = 0 ∨ e = 3) (h : e = 0 → vD s = true) : okR (sumG e s) := by
  unfold sumG
  have o1 : okR (goOn e (addR s.a s.b s.c s.d)) := goOn_ok he fun k => add_ok (vD_parts (h k)).1 (vD_parts (h k)).2.1
  exact goOn_ok o1.err fun k => add_ok (o1.val k) (vD_parts (h (goOn_zero k))).2.2
theorem dot_ok {s t : D} (h : vD s = true) (k : vD t = true) : okR (dotR s t) := by
  obtain ⟨h1, h2, h3⟩ := vD_parts h
  obtain ⟨k1, k2, k3⟩ := vD_parts k
  rw [show dotR s t = onlyR (sumG (prodD s t).e (prodD s t).d) from if_pos ⟨h, k⟩]
  have o : okD (prodD s t) := comb_ok (mul_ok h1 k1) (mul_ok h2 k2) (mul_ok h3 k3)
  have o2 := sum_ok o.err o.val
  unfold onlyR
  rcases o2 with ⟨e, v⟩ | e
  · rw [if_pos e]; exact .inl ⟨rfl, v⟩
  · rw [if_neg (by rw [e]; decide)]; exact .inr e
theorem sqrt_ok {a b : Int} (h : vB a b = true) (h0 : 0 ≤ a) : okR (sqrtR a b) := by
  obtain ⟨h1, h2, h3⟩ := vB_iff.1 h
  rw [show sqrtR a b = ⟨isq (a * 16777216), rup b, 0⟩ from by rw [sqrtR, if_pos h, if_neg (by omega)]]
  obtain ⟨s1, s2, _⟩ := isq_sq a h0 (by omega)
  exact .inl ⟨rfl, vB_iff.2 ⟨by dsimp only; omega, rup_ge h2, by have := rup_le (b := b) (by omega) h3; dsimp only; omega⟩⟩
theorem neg_ok {a b : Int} (h : vB a b = true) : okR (negR a b) := by
  obtain ⟨h1, h2, h3⟩ := vB_iff.1 h
  rw [negR, if_pos h]
  exact .inl ⟨rfl, vB_iff.2 ⟨by dsimp only; omega, by dsimp only; omega, by dsimp only; omega⟩⟩
theorem after_ok {p q x y : Int} (h : vB x y = true) (h0 : 0 ≤ x) : vB (afterR p q x y).lo (afterR p q x y).hi = true := by
  have s := sqrt_ok h h0
  have s0 : (sqrtR x y).e = 0 := by rw [sqrtR, if_pos h, if_neg (by omega)]
  unfold afterR
  split
  · have n := neg_ok (s.val s0)
    exact n.val (by rw [negR, if_pos (s.val s0)])
  · exact s.val s0
theorem tail_err {s t : D} {a b p q u v : Int} (hs : vD s = true) (ht : vD t = true) (h : vB a b = true) (k : vB p q = true) (l : vB u v = true) : (tailF s t a b p q u v).e = 0 ∨ (tailF s t a b p q u v).e = 3 := by
  unfold tailF
  have o1 : okD (goOnD 0 (scaleD s a b)) := goOnD_ok (.inl rfl) fun _ => scale_ok hs h
  have o2 : okR (goOn (goOnD 0 (scaleD s a b)).e (mulR a b p q)) := goOn_ok o1.err fun _ => mul_ok h k
  have o3 : okR (goOn (goOn (goOnD 0 (scaleD s a b)).e (mulR a b p q)).e (subR u v (goOn (goOnD 0 (scaleD s a b)).e (mulR a b p q)).lo (goOn (goOnD 0 (scaleD s a b)).e (mulR a b p q)).hi)) := goOn_ok o2.err fun e => sub_ok l (o2.val e)
  have o4 := goOnD_ok (r := scaleD t (goOn (goOn (goOnD 0 (scaleD s a b)).e (mulR a b p q)).e (subR u v (goOn (goOnD 0 (scaleD s a b)).e (mulR a b p q)).lo (goOn (goOnD 0 (scaleD s a b)).e (mulR a b p q)).hi)).lo (goOn (goOn (goOnD 0 (scaleD s a b)).e (mulR a b p q)).e (subR u v (goOn (goOnD 0 (scaleD s a b)).e (mulR a b p q)).lo (goOn (goOnD 0 (scaleD s a b)).e (mulR a b p q)).hi)).hi) o3.err fun e => scale_ok ht (o3.val e)
  have o5 := goOnD_ok (r := addD (goOnD 0 (scaleD s a b)).d (goOnD (goOn (goOn (goOnD 0 (scaleD s a b)).e (mulR a b p q)).e (subR u v (goOn (goOnD 0 (scaleD s a b)).e (mulR a b p q)).lo (goOn (goOnD 0 (scaleD s a b)).e (mulR a b p q)).hi)).e (scaleD t (goOn (goOn (goOnD 0 (scaleD s a b)).e (mulR a b p q)).e (subR u v (goOn (goOnD 0 (scaleD s a b)).e (mulR a b p q)).lo (goOn (goOnD 0 (scaleD s a b)).e (mulR a b p q)).hi)).lo (goOn (goOn (goOnD 0 (scaleD s a b)).e (mulR a b p q)).e (subR u v (goOn (goOnD 0 (scaleD s a b)).e (mulR a b p q)).lo (goOn (goOnD 0 (scaleD s a b)).e (mulR a b p q)).hi)).hi)).d) o4.err fun e => addD_ok (o1.val (goOn_zero (goOn_zero (goOnD_zero e)))) (o4.val e)
  dsimp only
  split
  · exact .inl rfl
  · rename_i hne
    rcases o5.err with e | e
    · exact absurd e hne
    · exact .inr e
/-- the law's cases -/
theorem total_cases (s t : D) (a b : Int) : (hitsR s t a b).e ≠ 0 ∨ ((hitsR s t a b).e = 0 ∧ (hitsR s t a b).k ≠ 0 ∧ ((refrR s t a b).e = 3 ∨ (refrR s t a b).e = 9 ∨ ((hitsR s t a b).k = 1 ∧ (refrR s t a b).e = 15) ∨ ((hitsR s t a b).k = 2 ∧ (refrR s t a b).e = 0) ∨ ((hitsR s t a b).k = 3 ∧ (refrR s t a b).e = 0) ∨ ((hitsR s t a b).k = 3 ∧ (refrR s t a b).e = 15))) := by
  by_cases hv : (vD s && vD t) = true ∧ vB a b = true
  · have hs : vD s = true := by have := hv.1; simp at this; exact this.1
    have ht : vD t = true := by have := hv.1; simp at this; exact this.2
    rw [show hitsR s t a b = _ from if_pos hv, show refrR s t a b = _ from if_pos hv]
    have od := dot_ok hs ht
    rcases od with ⟨e1, v1⟩ | e1
    · rw [if_pos e1, if_pos e1]
      have or := rad_ok v1 hv.2
      rcases or with ⟨e2, v2⟩ | e2
      · rw [if_pos e2, if_pos e2]
        have hd : decI (radR (dotR s t).lo (dotR s t).hi a b).lo (radR (dotR s t).lo (dotR s t).hi a b).hi = (if sgn (radR (dotR s t).lo (dotR s t).hi a b).lo (radR (dotR s t).lo (dotR s t).hi a b).hi = -1 then 1 else if sgn (radR (dotR s t).lo (dotR s t).hi a b).lo (radR (dotR s t).lo (dotR s t).hi a b).hi = 1 then 2 else 3) := if_pos v2
        have hg : sgn (radR (dotR s t).lo (dotR s t).hi a b).lo (radR (dotR s t).lo (dotR s t).hi a b).hi = (if 0 < (radR (dotR s t).lo (dotR s t).hi a b).lo then 1 else if (radR (dotR s t).lo (dotR s t).hi a b).hi < 0 then -1 else 0) := if_pos v2
        have hb := vB_iff.1 v2
        have hdz : decI (radR (dotR s t).lo (dotR s t).hi a b).lo (radR (dotR s t).lo (dotR s t).hi a b).hi ≠ 0 := by rw [hd]; split <;> (try split) <;> decide
        refine .inr ⟨rfl, hdz, ?_⟩
        dsimp only
        by_cases hz : sgn (dotR s t).lo (dotR s t).hi = 0
        · rw [if_pos hz]
          exact .inr (.inl rfl)
        · rw [if_neg hz]
          by_cases hn : (radR (dotR s t).lo (dotR s t).hi a b).lo < 0
          · rw [if_pos hn, hd, hg, if_neg (show ¬ 0 < (radR (dotR s t).lo (dotR s t).hi a b).lo by omega)]
            by_cases hh : (radR (dotR s t).lo (dotR s t).hi a b).hi < 0
            · rw [if_pos hh]
              exact .inr (.inr (.inl ⟨rfl, rfl⟩))
            · rw [if_neg hh]
              exact .inr (.inr (.inr (.inr (.inr ⟨rfl, rfl⟩))))
          · rw [if_neg hn]
            rcases tail_err (p := (dotR s t).lo) (q := (dotR s t).hi) hs ht hv.2 v1 (after_ok (p := (dotR s t).lo) (q := (dotR s t).hi) v2 (by omega)) with e | e
            · rw [e, hd, hg]
              by_cases hp : 0 < (radR (dotR s t).lo (dotR s t).hi a b).lo
              · rw [if_pos hp]
                exact .inr (.inr (.inr (.inl ⟨rfl, rfl⟩)))
              · rw [if_neg hp, if_neg (show ¬ (radR (dotR s t).lo (dotR s t).hi a b).hi < 0 by omega)]
                exact .inr (.inr (.inr (.inr (.inl ⟨rfl, rfl⟩))))
            · exact .inl e
      · rw [if_neg (by rw [e2]; decide)]
        exact .inl (by dsimp only; rw [e2]; decide)
    · rw [if_neg (by rw [e1]; decide)]
      exact .inl (by dsimp only; rw [e1]; decide)
  · rw [show hitsR s t a b = ⟨0, 1⟩ from if_neg hv]
    exact .inl (by decide)
end Go.Proofs.Ytjppcndhaejfpaa.Iv
