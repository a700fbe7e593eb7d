/- Texts PFiM. -/
import Derived.Test.YtiecdgcdcpmgaaaGreatM07
import Derived.Test.YtiecdgcdcpmgaaaGreatM04
import Derived.Test.YtiecdgcdcpmgaaaGreatM32

/- Plain facts: for a contained surface, reflectance and transmittance are contained. -/
namespace Go.Proofs.YtiecdgcdcpmgaaaGreat.Ivf
open Go.Proofs.YtiecdgcdcpmgaaaGreat.Iv
theorem within_sub {lo hi lo' hi' p q:Int} (h:withinR lo hi=⟨p,q,0⟩) (h1:lo≤lo') (h2:lo'≤hi') (h3:hi'≤hi) :
  ∃p' q',withinR lo' hi'=⟨p',q',0⟩∧insB p' q' p q=true:=by
 obtain ⟨rfl,rfl,k1,k2⟩:=within_ok h;exact ⟨lo',hi',within_yes (by omega) (by omega),by simp [insB,vB];omega⟩
structure Sub (a' b' a b:Int):Prop where
 v:vB a b=true
 v':vB a' b'=true
 l:a≤a'
 m:a'≤b'
 r:b'≤b
theorem add_sub {a b c d a' b' c' d' p q:Int} (h:addR a b c d=⟨p,q,0⟩) (s:Sub a' b' a b) (t:Sub c' d' c d):∃p' q',addR a' b' c' d'=⟨p',q',0⟩∧insB p' q' p q=true:=by
 obtain ⟨s1,s2,s3,s4,s5⟩:=s;obtain ⟨t1,t2,t3,t4,t5⟩:=t;unfold addR at h ⊢;rw [if_pos ⟨s1,t1⟩] at h;rw [if_pos ⟨s2,t2⟩];exact within_sub h (by omega) (by omega) (by omega)
theorem sub_sub {a b c d a' b' c' d' p q:Int} (h:subR a b c d=⟨p,q,0⟩) (s:Sub a' b' a b) (t:Sub c' d' c d):∃p' q',subR a' b' c' d'=⟨p',q',0⟩∧insB p' q' p q=true:=by
 obtain ⟨s1,s2,s3,s4,s5⟩:=s;obtain ⟨t1,t2,t3,t4,t5⟩:=t;unfold subR at h ⊢;rw [if_pos ⟨s1,t1⟩] at h;rw [if_pos ⟨s2,t2⟩];exact within_sub h (by omega) (by omega) (by omega)
theorem mul_sub {a b c d a' b' c' d' p q:Int} (h:mulR a b c d=⟨p,q,0⟩) (s:Sub a' b' a b) (t:Sub c' d' c d):∃p' q',mulR a' b' c' d'=⟨p',q',0⟩∧insB p' q' p q=true:=by
 obtain ⟨s1,s2,s3,s4,s5⟩:=s;obtain ⟨t1,t2,t3,t4,t5⟩:=t;unfold mulR at h ⊢;rw [if_pos ⟨s1,t1⟩] at h;rw [if_pos ⟨s2,t2⟩];have i1:=mul_in s3 (by omega:a'≤b) t3 (by omega:c'≤d);have i2:=mul_in s3 (by omega:a'≤b) (by omega:c≤d') t5;have i3:=mul_in (by omega:a≤b') s5 t3 (by omega:c'≤d);have i4:=mul_in (by omega:a≤b') s5 (by omega:c≤d') t5;refine within_sub h (fl_mono ?_) (fl_le_ce (min4_le_max4 _ _ _ _)) (ce_mono ?_)
 ·generalize min4 (a*c) (a*d) (b*c) (b*d)=m at i1 i2 i3 i4 ⊢;unfold min4;omega
 ·generalize max4 (a*c) (a*d) (b*c) (b*d)=m at i1 i2 i3 i4 ⊢;unfold max4;omega
theorem div_sub {a b c d a' b' c' d' p q:Int} (h:divR a b c d=⟨p,q,0⟩) (s:Sub a' b' a b) (t:Sub c' d' c d):∃p' q',divR a' b' c' d'=⟨p',q',0⟩∧insB p' q' p q=true:=by
 obtain ⟨s1,s2,s3,s4,s5⟩:=s;obtain ⟨t1,t2,t3,t4,t5⟩:=t;unfold divR at h ⊢;rw [if_pos ⟨s1,t1⟩] at h;rw [if_pos ⟨s2,t2⟩];split at h
 ·injection h with _ _ h;exact absurd h (by decide)
 ·rename_i h0;rw [if_neg (by omega)]
  have hcd:c≤d:=by omega
  have i1:=qfl_in h0 hcd s3 (by omega:a'≤b) t3 (by omega:c'≤d);have i2:=qfl_in h0 hcd s3 (by omega:a'≤b) (by omega:c≤d') t5;have i3:=qfl_in h0 hcd (by omega:a≤b') s5 t3 (by omega:c'≤d);have i4:=qfl_in h0 hcd (by omega:a≤b') s5 (by omega:c≤d') t5;have j1:=qce_in h0 hcd s3 (by omega:a'≤b) t3 (by omega:c'≤d);have j2:=qce_in h0 hcd s3 (by omega:a'≤b) (by omega:c≤d') t5;have j3:=qce_in h0 hcd (by omega:a≤b') s5 t3 (by omega:c'≤d);have j4:=qce_in h0 hcd (by omega:a≤b') s5 (by omega:c≤d') t5;have le:=qfl_le_qce (n:=a') (d:=c') (by omega);refine within_sub h ?_ ?_ ?_
  ·generalize min4 (qfl a c) (qfl a d) (qfl b c) (qfl b d)=m at i1 i2 i3 i4 ⊢;unfold min4;omega
  ·unfold min4 max4;omega
  ·generalize max4 (qce a c) (qce a d) (qce b c) (qce b d)=m at j1 j2 j3 j4 ⊢;unfold max4;omega
theorem sub_of_ins {p' q' p q:Int} (h:insB p' q' p q=true):Sub p' q' p q:=by
 simp only [insB,decide_eq_true_eq] at h;obtain ⟨h1,h2,h3,h4⟩:=h;exact ⟨h2,h1,h3,(vB_iff.1 h1).2.1,h4⟩
def Incl (r r':R):Prop:=r.e=0→r'.e=0∧Sub r'.lo r'.hi r.lo r.hi
theorem incl_of {r r':R} (h:∀p q,r=⟨p,q,0⟩→∃p' q',r'=⟨p',q',0⟩∧insB p' q' p q=true):Incl r r':=by
 intro h0;obtain ⟨p',q',e,i⟩:=h r.lo r.hi (by cases r;cases h0;rfl);rw [e];exact ⟨rfl,sub_of_ins i⟩
theorem incl_add {a b c d a' b' c' d':Int} (s:Sub a' b' a b) (t:Sub c' d' c d):Incl (addR a b c d) (addR a' b' c' d'):=incl_of fun _ _ h=>add_sub h s t
theorem incl_sub {a b c d a' b' c' d':Int} (s:Sub a' b' a b) (t:Sub c' d' c d):Incl (subR a b c d) (subR a' b' c' d'):=incl_of fun _ _ h=>sub_sub h s t
theorem incl_mul {a b c d a' b' c' d':Int} (s:Sub a' b' a b) (t:Sub c' d' c d):Incl (mulR a b c d) (mulR a' b' c' d'):=incl_of fun _ _ h=>mul_sub h s t
theorem incl_div {a b c d a' b' c' d':Int} (s:Sub a' b' a b) (t:Sub c' d' c d):Incl (divR a b c d) (divR a' b' c' d'):=incl_of fun _ _ h=>div_sub h s t
end Go.Proofs.YtiecdgcdcpmgaaaGreat.Ivf
