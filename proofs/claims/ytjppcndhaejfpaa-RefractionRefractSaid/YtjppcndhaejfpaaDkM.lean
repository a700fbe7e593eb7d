/- Plain facts: what Reflect, Hits and Refract return for boxes that are contained in others is contained in what they return for these. -/
import Derived.Test.YtjppcndhaejfpaaInM
import Derived.Test.YtjppcndhaejfpaaDsM
import Derived.Test.YtjppcndhaejfpaaDi
import Derived.Test.YtjppcndhaejfpaaDr8
namespace Go.Proofs.Ytjppcndhaejfpaa.Iv

structure SubD (s' s : D) : Prop where
  x : Sub s'.a s'.b s.a s.b
  y : Sub s'.c s'.d s.c s.d
  z : Sub s'.e s'.f s.e s.f
def InclD (r r' : RD) : Prop := r.e = 0 → r'.e = 0 ∧ SubD r'.d r.d
theorem SubD.v {s' s : D} (h : SubD s' s) : vD s = true := by simp [vD, h.x.v, h.y.v, h.z.v]
theorem SubD.v' {s' s : D} (h : SubD s' s) : vD s' = true := by simp [vD, h.x.v', h.y.v', h.z.v']
theorem ins_of_sub {a' b' a b : Int} (h : Sub a' b' a b) : insB a' b' a b = true := by
  simp only [insB, decide_eq_true_eq]; exact ⟨h.v', h.v, h.l, h.r⟩
theorem SubD.ins {s' s : D} (h : SubD s' s) : insD s' s = true := by
  simp [insD, ins_of_sub h.x, ins_of_sub h.y, ins_of_sub h.z]
theorem incl_goOn {e e' : Int} {r r' : R} (h : e = 0 → e' = 0) (k : e = 0 → Incl r r') : Incl (goOn e r) (goOn e' r') := by
  intro h0
  have h1 := goOn_e h0
  subst h1
  have h2 := h rfl
  subst h2
  rw [goOn0] at h0 ⊢
  exact k rfl h0
theorem incl_goOnD {e e' : Int} {r r' : RD} (h : e = 0 → e' = 0) (k : e = 0 → InclD r r') : InclD (goOnD e r) (goOnD e' r') := by
  intro h0
  have h1 := goOnD_e h0
  subst h1
  have h2 := h rfl
  subst h2
  rw [goOnD0] at h0 ⊢
  exact k rfl h0
theorem incl_comb {a b c a' b' c' : R} (h1 : Incl a a') (h2 : Incl b b') (h3 : Incl c c') : InclD (comb a b c) (comb a' b' c') := by
  intro h0
  obtain ⟨x, y, z, e⟩ := comb_v h0
  obtain ⟨x1, x2⟩ := h1 x
  obtain ⟨y1, y2⟩ := h2 y
  obtain ⟨z1, z2⟩ := h3 z
  have h' : comb a' b' c' = ⟨⟨a'.lo, a'.hi, b'.lo, b'.hi, c'.lo, c'.hi⟩, 0⟩ := by
    rw [comb, if_pos x1, if_pos y1, if_pos z1]
  rw [e, h']
  exact ⟨rfl, x2, y2, z2⟩
theorem incl_addD {s t s' t' : D} (h : SubD s' s) (k : SubD t' t) : InclD (addD s t) (addD s' t') := by
  rw [addD, addD, if_pos ⟨h.v, k.v⟩, if_pos ⟨h.v', k.v'⟩]
  exact incl_comb (incl_add h.x k.x) (incl_add h.y k.y) (incl_add h.z k.z)
theorem incl_subD {s t s' t' : D} (h : SubD s' s) (k : SubD t' t) : InclD (subD s t) (subD s' t') := by
  rw [subD, subD, if_pos ⟨h.v, k.v⟩, if_pos ⟨h.v', k.v'⟩]
  exact incl_comb (incl_sub h.x k.x) (incl_sub h.y k.y) (incl_sub h.z k.z)
theorem incl_scaleD {s s' : D} {a b a' b' : Int} (h : SubD s' s) (k : Sub a' b' a b) : InclD (scaleD s a b) (scaleD s' a' b') := by
  rw [scaleD, scaleD, if_pos ⟨h.v, k.v⟩, if_pos ⟨h.v', k.v'⟩]
  exact incl_comb (incl_mul h.x k) (incl_mul h.y k) (incl_mul h.z k)
theorem incl_only {r r' : R} (h : Incl r r') : Incl (onlyR r) (onlyR r') := by
  intro h0
  unfold onlyR at h0 ⊢
  by_cases c : r.e = 0
  · obtain ⟨c', s⟩ := h c
    rw [if_pos c, if_pos c']
    exact ⟨rfl, s⟩
  · rw [if_neg c] at h0; exact absurd h0 c
theorem incl_sumG {e e' : Int} {s s' : D} (h : e = 0 → e' = 0 ∧ SubD s' s) : Incl (sumG e s) (sumG e' s') := by
  have h1 : Incl (goOn e (addR s.a s.b s.c s.d)) (goOn e' (addR s'.a s'.b s'.c s'.d)) := incl_goOn (fun x => (h x).1) (fun x => incl_add (h x).2.x (h x).2.y)
  exact incl_goOn (fun x => (h1 x).1) (fun x => incl_add (h1 x).2 (h (goOn_e x)).2.z)
theorem incl_dot {s t s' t' : D} (h : SubD s' s) (k : SubD t' t) : Incl (dotR s t) (dotR s' t') := by
  rw [dotR, dotR, if_pos ⟨h.v, k.v⟩, if_pos ⟨h.v', k.v'⟩]
  exact incl_only (incl_sumG (incl_comb (incl_mul h.x k.x) (incl_mul h.y k.y) (incl_mul h.z k.z)))
theorem sub_refl {a b : Int} (h : vB a b = true) : Sub a b a b := ⟨h, h, Int.le_refl _, (vB_iff.1 h).2.1, Int.le_refl _⟩
theorem incl_rad {a b x y a' b' : Int} (h : Sub a' b' a b) (k : vB x y = true) : Incl (radR a b x y) (radR a' b' x y) := by
  rw [radR, radR, if_pos ⟨h.v, k⟩, if_pos ⟨h.v', k⟩]
  have one := sub_refl (a := 16777216) (b := 16777216) (by decide)
  have h1 : Incl (goOn 0 (sqR x y)) (goOn 0 (sqR x y)) := incl_goOn id (fun _ => incl_sq (sub_refl k))
  have h2 : Incl (goOn (goOn 0 (sqR x y)).e (sqR a b)) (goOn (goOn 0 (sqR x y)).e (sqR a' b')) := incl_goOn (fun e => (h1 e).1) (fun _ => incl_sq h)
  have h3 := incl_goOn (fun e => (h2 e).1) (fun e => incl_sub one (h2 e).2)
  have h4 := incl_goOn (fun e => (h3 e).1) (fun e => incl_mul (h1 (goOn_e (goOn_e e))).2 (h3 e).2)
  exact incl_goOn (fun e => (h4 e).1) (fun e => incl_sub one (h4 e).2)
theorem incl_refl {s t s' t' : D} (h : SubD s' s) (k : SubD t' t) : InclD (reflR s t) (reflR s' t') := by
  rw [reflR, reflR, if_pos (by simp [h.v, k.v]), if_pos (by simp [h.v', k.v'])]
  have h1 : Incl (goOn 0 (dotR s t)) (goOn 0 (dotR s' t')) := incl_goOn id (fun _ => incl_dot h k)
  have h2 := incl_goOn (fun e => (h1 e).1) (fun e => incl_add (h1 e).2 (h1 e).2)
  have h3 := incl_goOnD (fun e => (h2 e).1) (fun e => incl_scaleD k (h2 e).2)
  exact incl_goOnD (fun e => (h3 e).1) (fun e => incl_subD h (h3 e).2)
theorem sgn_sub {a b a' b' : Int} (h : Sub a' b' a b) : sgn a b = 0 ∨ sgn a' b' = sgn a b := by
  have h1 := h.l
  have h2 := h.m
  have h3 := h.r
  rw [show sgn a b = (if 0 < a then 1 else if b < 0 then -1 else 0) from if_pos h.v, show sgn a' b' = (if 0 < a' then 1 else if b' < 0 then -1 else 0) from if_pos h.v']
  by_cases c : 0 < a
  · right; rw [if_pos c, if_pos (by omega)]
  · rw [if_neg c]
    by_cases d : b < 0
    · right; rw [if_pos d, if_neg (by omega), if_pos (by omega)]
    · left; rw [if_neg d]
theorem dec_sub {a b a' b' : Int} (h : Sub a' b' a b) : decI a b = 3 ∨ decI a' b' = decI a b := by
  rw [decI, decI, if_pos h.v, if_pos h.v']
  rcases sgn_sub h with e | e
  · left; rw [e]; decide
  · right; rw [e]
theorem hits_sub {s t s' t' : D} {a b : Int} (h : SubD s' s) (k : SubD t' t) (v : vB a b = true) (h0 : (hitsR s t a b).e = 0) :
    (hitsR s' t' a b).e = 0 ∧ ((hitsR s t a b).k = 3 ∨ (hitsR s' t' a b).k = (hitsR s t a b).k) := by
  have e1 : (vD s && vD t) = true ∧ vB a b = true := ⟨by simp [h.v, k.v], v⟩
  have e2 : (vD s' && vD t') = true ∧ vB a b = true := ⟨by simp [h.v', k.v'], v⟩
  rw [show hitsR s t a b = _ from if_pos e1] at h0 ⊢
  rw [show hitsR s' t' a b = _ from if_pos e2]
  by_cases c : (dotR s t).e = 0
  · obtain ⟨c1, c2⟩ := incl_dot h k c
    rw [if_pos c] at h0 ⊢
    rw [if_pos c1]
    by_cases d : (radR (dotR s t).lo (dotR s t).hi a b).e = 0
    · obtain ⟨d1, d2⟩ := incl_rad c2 v d
      rw [if_pos d, if_pos d1]
      exact ⟨rfl, dec_sub d2⟩
    · rw [if_neg d] at h0; exact absurd h0 d
  · rw [if_neg c] at h0; exact absurd h0 c
theorem incl_neg {a b a' b' : Int} (h : Sub a' b' a b) : Incl (negR a b) (negR a' b') := by
  intro _
  rw [negR, negR, if_pos h.v, if_pos h.v']
  have x := vB_iff.1 h.v
  have y := vB_iff.1 h.v'
  have l := h.l
  have r := h.r
  exact ⟨rfl, vB_iff.2 ⟨by dsimp only; omega, by dsimp only; omega, by dsimp only; omega⟩, vB_iff.2 ⟨by dsimp only; omega, by dsimp only; omega, by dsimp only; omega⟩, by dsimp only; omega, by dsimp only; omega, by dsimp only; omega⟩
theorem sqrt_e {x y : Int} (h : vB x y = true) (z : ¬ x < 0) : (sqrtR x y).e = 0 := by rw [sqrtR, if_pos h, if_neg z]
theorem after_sub {p q x y p' q' x' y' : Int} (h : Sub p' q' p q) (hg : ¬ sgn p q = 0) (k : Sub x' y' x y) (z : ¬ x < 0) :
    Sub (afterR p' q' x' y').lo (afterR p' q' x' y').hi (afterR p q x y).lo (afterR p q x y).hi := by
  have e : sgn p' q' = sgn p q := (sgn_sub h).resolve_left hg
  have d := (incl_sqrt k (sqrt_e k.v z)).2
  rw [afterR, afterR, e]
  by_cases c : sgn p q < 0
  · rw [if_pos c, if_pos c]
    exact (incl_neg d (by rw [negR, if_pos d.v])).2
  · rw [if_neg c, if_neg c]
    exact d
/-- all of Refract's results -/
structure SubF (f' f : RF) : Prop where
  e : f'.e = 0
  d : SubD f'.d f.d
  b : Sub f'.p f'.q f.p f.q
  a : Sub f'.u f'.v f.u f.v
theorem tail_sub {s t s' t' : D} {a b p q u v p' q' u' v' : Int} (h : SubD s' s) (k : SubD t' t) (vb : vB a b = true) (hp : Sub p' q' p q) (hu : Sub u' v' u v)
    (h0 : (tailF s t a b p q u v).e = 0) : SubF (tailF s' t' a b p' q' u' v') (tailF s t a b p q u v) := by
  have t1 : InclD (goOnD 0 (scaleD s a b)) (goOnD 0 (scaleD s' a b)) := incl_goOnD id (fun _ => incl_scaleD h (sub_refl vb))
  have n1 := incl_goOn (fun e => (t1 e).1) (fun _ => incl_mul (sub_refl vb) hp)
  have n2 := incl_goOn (fun e => (n1 e).1) (fun e => incl_sub hu (n1 e).2)
  have t2 := incl_goOnD (fun e => (n2 e).1) (fun e => incl_scaleD k (n2 e).2)
  have o := incl_goOnD (fun e => (t2 e).1) (fun e => incl_addD (t1 (goOn_e (goOn_e (goOnD_e e)))).2 (t2 e).2)
  unfold tailF at h0 ⊢
  dsimp only at h0 ⊢
  split at h0
  case isFalse x => exact absurd h0 x
  rename_i c
  obtain ⟨c1, c2⟩ := o c
  rw [if_pos c, if_pos c1]
  exact ⟨rfl, c2, hp, hu⟩
theorem fail_e (e : Int) : (failF e).e = e := rfl
theorem refr_sub {s t s' t' : D} {a b : Int} (h : SubD s' s) (k : SubD t' t) (v : vB a b = true) (h0 : (refrR s t a b).e = 0) : SubF (refrR s' t' a b) (refrR s t a b) := by
  have e1 : (vD s && vD t) = true ∧ vB a b = true := ⟨by simp [h.v, k.v], v⟩
  have e2 : (vD s' && vD t') = true ∧ vB a b = true := ⟨by simp [h.v', k.v'], v⟩
  rw [show refrR s t a b = _ from if_pos e1] at h0 ⊢
  rw [show refrR s' t' a b = _ from if_pos e2]
  split at h0
  case isFalse x => exact absurd h0 x
  rename_i c
  obtain ⟨c1, c2⟩ := incl_dot h k c
  split at h0
  case isTrue => exact absurd h0 (by rw [fail_e]; decide)
  rename_i g
  have g' : ¬ sgn (dotR s' t').lo (dotR s' t').hi = 0 := by rw [(sgn_sub c2).resolve_left g]; exact g
  split at h0
  case isFalse x => exact absurd h0 x
  rename_i r
  obtain ⟨r1, r2⟩ := incl_rad c2 v r
  split at h0
  case isTrue => exact absurd h0 (by rw [fail_e]; decide)
  rename_i z
  have z' : ¬ (radR (dotR s' t').lo (dotR s' t').hi a b).lo < 0 := by have := r2.l; omega
  rw [if_pos c, if_neg g, if_pos r, if_neg z, if_pos c1, if_neg g', if_pos r1, if_neg z']
  exact tail_sub h k v c2 (after_sub c2 g r2 z) h0
end Go.Proofs.Ytjppcndhaejfpaa.Iv
