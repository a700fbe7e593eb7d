/- Plain facts: for a contained surface, reflectance and transmittance are contained. -/
import Derived.Test.YtiecdgcdcpmgaaaM07
import Derived.Test.YtiecdgcdcpmgaaaM04
import Derived.Test.YtiecdgcdcpmgaaaSbFr6
namespace Go.Proofs.Ytiecdgcdcpmgaaa.Ivf
open Go.Proofs.Ytiecdgcdcpmgaaa.Iv
theorem within_sub {lo hi lo' hi' p q:Int} (h:withinR lo hi=⟨p,q,0⟩) (h1:lo≤lo') (h2:lo'≤hi') (h3:hi'≤hi) :
  ∃p' q',withinR lo' hi'=⟨p',q',0⟩∧insB p' q' p q=true:=by
 obtain ⟨rfl,rfl,k1,k2⟩:=within_ok h;exact ⟨lo',hi',within_yes (by omega) (by omega),by simp [insB,vB];omega⟩
structure Sub (a' b' a b:Int):Prop where
 v:vB a b=true
 v':vB a' b'=true
 l:a≤a'
 m:a'≤b'
 r:b'≤b
theorem add_sub {a b c d a' b' c' d' p q:Int} (h:addR a b c d=⟨p,q,0⟩) (s:Sub a' b' a b) (t:Sub c' d' c d):∃p' q',addR a' b' c' d'=⟨p',q',0⟩∧insB p' q' p q=true:=by
 obtain ⟨s1,s2,s3,s4,s5⟩:=s;obtain ⟨t1,t2,t3,t4,t5⟩:=t;unfold addR at h ⊢;rw [if_pos ⟨s1,t1⟩] at h;rw [if_pos ⟨s2,t2⟩];exact within_sub h (by omega) (by omega) (by omega)
theorem sub_sub {a b c d a' b' c' d' p q:Int} (h:subR a b c d=⟨p,q,0⟩) (s:Sub a' b' a b) (t:Sub c' d' c d):∃p' q',subR a' b' c' d'=⟨p',q',0⟩∧insB p' q' p q=true:=by
 obtain ⟨s1,s2,s3,s4,s5⟩:=s;obtain ⟨t1,t2,t3,t4,t5⟩:=t;unfold subR at h ⊢;rw [if_pos ⟨s1,t1⟩] at h;rw [if_pos ⟨s2,t2⟩];exact within_sub h (by omega) (by omega) (by omega)
theorem mul_sub {a b c d a' b' c' d' p q:Int} (h:mulR a b c d=⟨p,q,0⟩) (s:Sub a' b' a b) (t:Sub c' d' c d):∃p' q',mulR a' b' c' d'=⟨p',q',0⟩∧insB p' q' p q=true:=by
 obtain ⟨s1,s2,s3,s4,s5⟩:=s;obtain ⟨t1,t2,t3,t4,t5⟩:=t;unfold mulR at h ⊢;rw [if_pos ⟨s1,t1⟩] at h;rw [if_pos ⟨s2,t2⟩];have i1:=mul_in s3 (by omega:a'≤b) t3 (by omega:c'≤d);have i2:=mul_in s3 (by omega:a'≤b) (by omega:c≤d') t5;have i3:=mul_in (by omega:a≤b') s5 t3 (by omega:c'≤d);have i4:=mul_in (by omega:a≤b') s5 (by omega:c≤d') t5;refine within_sub h (fl_mono ?_) (fl_le_ce (min4_le_max4 _ _ _ _)) (ce_mono ?_)
 ·generalize min4 (a*c) (a*d) (b*c) (b*d)=m at i1 i2 i3 i4 ⊢;unfold min4;omega
 ·generalize max4 (a*c) (a*d) (b*c) (b*d)=m at i1 i2 i3 i4 ⊢;unfold max4;omega
theorem div_sub {a b c d a' b' c' d' p q:Int} (h:divR a b c d=⟨p,q,0⟩) (s:Sub a' b' a b) (t:Sub c' d' c d):∃p' q',divR a' b' c' d'=⟨p',q',0⟩∧insB p' q' p q=true:=by
 obtain ⟨s1,s2,s3,s4,s5⟩:=s;obtain ⟨t1,t2,t3,t4,t5⟩:=t;unfold divR at h ⊢;rw [if_pos ⟨s1,t1⟩] at h;rw [if_pos ⟨s2,t2⟩];split at h
 ·injection h with _ _ h;exact absurd h (by decide)
 ·rename_i h0;rw [if_neg (by omega)]
  have hcd:c≤d:=by omega
  have i1:=qfl_in h0 hcd s3 (by omega:a'≤b) t3 (by omega:c'≤d);have i2:=qfl_in h0 hcd s3 (by omega:a'≤b) (by omega:c≤d') t5;have i3:=qfl_in h0 hcd (by omega:a≤b') s5 t3 (by omega:c'≤d);have i4:=qfl_in h0 hcd (by omega:a≤b') s5 (by omega:c≤d') t5;have j1:=qce_in h0 hcd s3 (by omega:a'≤b) t3 (by omega:c'≤d);have j2:=qce_in h0 hcd s3 (by omega:a'≤b) (by omega:c≤d') t5;have j3:=qce_in h0 hcd (by omega:a≤b') s5 t3 (by omega:c'≤d);have j4:=qce_in h0 hcd (by omega:a≤b') s5 (by omega:c≤d') t5;have le:=qfl_le_qce (n:=a') (d:=c') (by omega);refine within_sub h ?_ ?_ ?_
  ·generalize min4 (qfl a c) (qfl a d) (qfl b c) (qfl b d)=m at i1 i2 i3 i4 ⊢;unfold min4;omega
  ·unfold min4 max4;omega
  ·generalize max4 (qce a c) (qce a d) (qce b c) (qce b d)=m at j1 j2 j3 j4 ⊢;unfold max4;omega
theorem sq_sub {a b a' b' p q:Int} (h:sqR a b=⟨p,q,0⟩) (s:Sub a' b' a b):∃p' q',sqR a' b'=⟨p',q',0⟩∧insB p' q' p q=true:=by
 obtain ⟨s1,s2,s3,s4,s5⟩:=s;unfold sqR at h ⊢;rw [if_pos s1] at h;rw [if_pos s2];have i1:=sq_in s3 (by omega:a'≤b);have i2:=sq_in (by omega:a≤b') s5;have i3:=sq_in (Int.le_refl a') s4;refine within_sub h (fl_mono ?_) (fl_le_ce (by omega)) (ce_mono (by omega))
 by_cases h0:a'≤0∧0≤b'
 ·rw [show least2 a' b'=0 from if_pos h0,show least2 a b=0 from if_pos (by omega)];omega
 ·rw [show least2 a' b'=min (a'*a') (b'*b') from if_neg h0];omega
theorem sub_of_ins {p' q' p q:Int} (h:insB p' q' p q=true):Sub p' q' p q:=by
 simp only [insB,decide_eq_true_eq] at h;obtain ⟨h1,h2,h3,h4⟩:=h;exact ⟨h2,h1,h3,(vB_iff.1 h1).2.1,h4⟩
def Incl (r r':R):Prop:=r.e=0→r'.e=0∧Sub r'.lo r'.hi r.lo r.hi
theorem incl_of {r r':R} (h:∀p q,r=⟨p,q,0⟩→∃p' q',r'=⟨p',q',0⟩∧insB p' q' p q=true):Incl r r':=by
 intro h0;obtain ⟨p',q',e,i⟩:=h r.lo r.hi (by cases r;cases h0;rfl);rw [e];exact ⟨rfl,sub_of_ins i⟩
theorem incl_add {a b c d a' b' c' d':Int} (s:Sub a' b' a b) (t:Sub c' d' c d):Incl (addR a b c d) (addR a' b' c' d'):=incl_of fun _ _ h=>add_sub h s t
theorem incl_sub {a b c d a' b' c' d':Int} (s:Sub a' b' a b) (t:Sub c' d' c d):Incl (subR a b c d) (subR a' b' c' d'):=incl_of fun _ _ h=>sub_sub h s t
theorem incl_mul {a b c d a' b' c' d':Int} (s:Sub a' b' a b) (t:Sub c' d' c d):Incl (mulR a b c d) (mulR a' b' c' d'):=incl_of fun _ _ h=>mul_sub h s t
theorem incl_div {a b c d a' b' c' d':Int} (s:Sub a' b' a b) (t:Sub c' d' c d):Incl (divR a b c d) (divR a' b' c' d'):=incl_of fun _ _ h=>div_sub h s t
theorem incl_sq {a b a' b':Int} (s:Sub a' b' a b):Incl (sqR a b) (sqR a' b'):=incl_of fun _ _ h=>sq_sub h s
theorem incl_bind {r r':R} {f f':Int→Int→R} (h:Incl r r') (k:∀{a b a' b':Int},Sub a' b' a b→Incl (f a b) (f' a' b')):Incl (bind r f) (bind r' f'):=by
 intro h0;obtain ⟨h1,h2⟩:=bind_inv h0;obtain ⟨h3,h4⟩:=h h1;rw [h2] at h0 ⊢;rw [bind_ok h3];exact k h4 h0
theorem incl_cut {a b a' b':Int} (s:Sub a' b' a b):Incl ⟨cutI a,cutI b,0⟩ ⟨cutI a',cutI b',0⟩:=by
 intro _;obtain ⟨_,_,s3,s4,s5⟩:=s;refine ⟨rfl,vB_iff.2 ?_,vB_iff.2 ?_,cutI_mono s3,cutI_mono s4,cutI_mono s5⟩
 all_goals (simp only [cutI];omega)
theorem incl_contrast {a b c d a' b' c' d':Int} (s:Sub a' b' a b) (t:Sub c' d' c d):Incl (contrastR a b c d) (contrastR a' b' c' d'):=
 incl_bind (incl_sub s t) fun s1=>incl_bind (incl_add s t) fun s2=>incl_bind (incl_div s1 s2) fun s3=>incl_bind (incl_sq s3) fun s4=>incl_cut s4
structure SubS (p s:Sf):Prop where
 b:Sub p.bl p.bh s.bl s.bh
 a:Sub p.al p.ah s.al s.ah
 f:Sub p.fl p.fh s.fl s.fh
 t:Sub p.tl p.th s.tl s.th
theorem win_sub {a b a' b' l h:Int} (s:Sub a' b' a b) (k:winB a b l h=true):winB a' b' l h=true:=by
 obtain ⟨s1,s2,s3,s4,s5⟩:=s;simp only [winB,decide_eq_true_eq] at k ⊢;exact ⟨s2,by omega,by omega⟩
theorem sf_sub {p s:Sf} (h:SubS p s) (k:sfB s=true):sfB p=true:=by
 simp only [sfB,Bool.and_eq_true] at k ⊢;exact ⟨win_sub h.b k.1,win_sub h.a k.2.1,win_sub h.f k.2.2.1,win_sub h.t k.2.2.2⟩
theorem incl_pol {p s:Sf} {a b c d a' b' c' d':Int} (h:SubS p s) (k:sfB s=true) (x:Sub a' b' a b) (y:Sub c' d' c d):Incl (polR s a b c d) (polR p a' b' c' d'):=by
 rw [polR_ok k,polR_ok (sf_sub h k)];exact incl_bind (incl_mul h.f x) fun s1=>incl_bind (incl_mul h.t y) fun s2=>incl_contrast s1 s2
theorem half_sub:Sub 8388608 8388608 8388608 8388608:=⟨by decide,by decide,by decide,by decide,by decide⟩
theorem incl_refl {p s:Sf} (h:SubS p s) (k:sfB s=true):Incl (reflR s) (reflR p):=
 incl_bind (incl_pol h k h.b h.a) fun s1=>incl_bind (incl_pol h k h.a h.b) fun s2=>incl_bind (incl_add s1 s2) fun s3=>incl_bind (incl_mul s3 half_sub) fun s4=>incl_cut s4
theorem one_sub:Sub 16777216 16777216 16777216 16777216:=⟨by decide,by decide,by decide,by decide,by decide⟩
theorem incl_trans {p s:Sf} (h:SubS p s) (k:sfB s=true):Incl (transR s) (transR p):=
 incl_bind (incl_refl h k) fun s1=>incl_sub one_sub s1
end Go.Proofs.Ytiecdgcdcpmgaaa.Ivf
