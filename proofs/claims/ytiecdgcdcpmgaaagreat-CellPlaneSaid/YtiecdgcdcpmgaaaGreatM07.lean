/- Texts PSqMath, PIeM. -/
import Derived.Test.YtiecdgcdcpmgaaaGreatM02
import Derived.Lib.BitFns

/- Plain facts for square roots of whole numbers: Newton's step from above, and the number of binary digits. -/
namespace Go.Proofs.YtiecdgcdcpmgaaaGreat.Iv
theorem lt_bitLenAux:∀(f x:Nat),x<2 ^ f→x<2 ^ Lib.bitLenAux f x
 |0,x,h=>by simpa [Lib.bitLenAux] using h
 |f+1,x,h=>by
  rw [Lib.bitLenAux]
  by_cases h0:x=0
  ·rw [if_pos h0,h0];decide
  ·rw [if_neg h0];have i:=lt_bitLenAux f (x / 2) (by rw [Nat.pow_succ] at h;omega);rw [Nat.add_comm,Nat.pow_succ];omega
theorem lt_bitLen (x:Nat) (h:x<2 ^ 64):x<2 ^ Lib.bitLen x:=lt_bitLenAux 64 x h
theorem sq_le_mul {r s:Int} : (2*s - r)*r≤s*s:=by
 have h:0≤(s - r)*(s - r):=by
  rcases Int.le_total 0 (s - r) with h|h
  ·exact Int.mul_nonneg h h
  ·exact Int.mul_nonneg_of_nonpos_of_nonpos h h
 have e1:(2*s - r)*r=2*(s*r) - r*r:=by rw [Int.sub_mul,Int.mul_assoc]
 have e2:(s - r)*(s - r)=s*s - 2*(s*r)+r*r:=by
  rw [Int.sub_mul,Int.mul_sub,Int.mul_sub,Int.mul_comm r s];omega
 omega
theorem newton_ge {n r:Int} (hn:0≤n) (hr:0<r):isq n≤(r+n / r) / 2:=by
 have h:=isq_le hn;have q:=Int.lt_ediv_add_one_mul_self n hr;have m:=sq_le_mul (r:=r) (s:=isq n);rcases (show r+n / r<2*isq n∨2*isq n≤r+n / r from by omega) with k|k
 ·exfalso;have:(n / r+1)*r≤(2*isq n - r)*r:=Int.mul_le_mul_of_nonneg_right (by omega) (by omega);omega
 ·omega
theorem sq_mono {a b:Int} (h:0≤a) (k:a≤b):a*a≤b*b:=Int.mul_le_mul k k h (by omega)
theorem le_isq {n r:Int} (h:0≤n) (hr:r*r≤n):r≤isq n:=by
 rcases (show isq n<r∨r≤isq n from by omega) with k|k
 ·have:=sq_mono (a:=isq n+1) (by have:=isq_nonneg n;omega) (by omega:isq n+1≤r);have:=isq_lt h;omega
 ·exact k
theorem isq_pos {n:Int} (h:1≤n):1≤isq n:=le_isq (by omega) (by omega)
theorem newton_stop {n r:Int} (hn:0≤n) (hr:0<r) (h:r≤(r+n / r) / 2) (k:isq n≤r):isq n=r:=by
 have h1:r≤n / r:=by omega
 have h2:=Int.mul_le_of_le_ediv hr h1;have:=le_isq hn h2;omega
theorem isq_up {n r:Int} (hr:0≤r) (h:n<r*r) (hn:0≤n):isq n≤r:=by
 rcases (show r<isq n∨isq n≤r from by omega) with k|k
 ·have:=sq_mono hr (by omega:r≤isq n);have:=isq_le hn;omega
 ·exact k
theorem start_ge {n:Nat} (h:n<2 ^ 64):isq (n:Int)≤((2 ^ ((Lib.bitLen n+1) / 2):Nat):Int):=by
 have l:=lt_bitLen n h;refine isq_up (Int.natCast_nonneg _) ?_ (Int.natCast_nonneg _)
 have e:2 ^ Lib.bitLen n≤2 ^ ((Lib.bitLen n+1) / 2)*2 ^ ((Lib.bitLen n+1) / 2):=by
  rw [←Nat.pow_add];exact Nat.pow_le_pow_right (by decide) (by omega)
 have:n<2 ^ ((Lib.bitLen n+1) / 2)*2 ^ ((Lib.bitLen n+1) / 2):=by omega
 exact_mod_cast this
theorem isq_zero:isq 0=0:=isq_eq (by decide) (by decide) (by decide)
end Go.Proofs.YtiecdgcdcpmgaaaGreat.Iv

/- Plain facts: the results of the operations enclose the values at numbers of the arguments, and contain the results for contained arguments. -/
namespace Go.Proofs.YtiecdgcdcpmgaaaGreat.Iv
theorem mul_in1 {x y X:Int} (B:Int) (h1:x≤X) (h2:X≤y):min (x*B) (y*B)≤X*B∧X*B≤max (x*B) (y*B):=by
 rcases (show 0≤B∨B≤0 from by omega) with h|h
 ·have:=Int.mul_le_mul_of_nonneg_right h1 h;have:=Int.mul_le_mul_of_nonneg_right h2 h;omega
 ·have:=Int.mul_le_mul_of_nonpos_right h1 h;have:=Int.mul_le_mul_of_nonpos_right h2 h;omega
theorem mul_in2 {x y X:Int} (B:Int) (h1:x≤X) (h2:X≤y):min (B*x) (B*y)≤B*X∧B*X≤max (B*x) (B*y):=by
 rw [Int.mul_comm B x,Int.mul_comm B y,Int.mul_comm B X];exact mul_in1 B h1 h2
theorem mul_in {a b c d A B:Int} (h1:a≤A) (h2:A≤b) (h3:c≤B) (h4:B≤d) :
  min4 (a*c) (a*d) (b*c) (b*d)≤A*B∧A*B≤max4 (a*c) (a*d) (b*c) (b*d):=by
 have e1:=mul_in1 B h1 h2;have e2:=mul_in2 a h3 h4;have e3:=mul_in2 b h3 h4;unfold min4 max4;omega
theorem qfl_in {a b c d A B:Int} (h0:¬(c≤0∧0≤d)) (hcd:c≤d) (h1:a≤A) (h2:A≤b) (h3:c≤B) (h4:B≤d) :
  min4 (qfl a c) (qfl a d) (qfl b c) (qfl b d)≤qfl A B:=by
 obtain ⟨m,hm⟩:∃m,min4 (qfl a c) (qfl a d) (qfl b c) (qfl b d)=m:=⟨_,rfl⟩
 have m1:m≤qfl a c:=by rw [←hm];unfold min4;omega
 have m2:m≤qfl a d:=by rw [←hm];unfold min4;omega
 have m3:m≤qfl b c:=by rw [←hm];unfold min4;omega
 have m4:m≤qfl b d:=by rw [←hm];unfold min4;omega
 rw [hm];have e:=mul_in2 m h3 h4;unfold qfl at m1 m2 m3 m4 ⊢;rcases (show 0<c∨d<0 from by omega) with h|h
 ·have f1:=fdiv_le (n:=a*16777216) h;have f2:=fdiv_le (n:=a*16777216) (show 0<d by omega);have g1:=Int.mul_le_mul_of_nonneg_right m1 (show 0≤c by omega);have g2:=Int.mul_le_mul_of_nonneg_right m2 (show 0≤d by omega);rcases (show (A*16777216).fdiv B+1≤m∨m≤(A*16777216).fdiv B from by omega) with k|k
  ·have l:=fdiv_lt (n:=A*16777216) (show 0<B by omega);have:=Int.mul_le_mul_of_nonneg_right k (show 0≤B by omega);omega
  ·exact k
 ·have f1:=fdiv_ge' (n:=b*16777216) (show c<0 by omega);have f2:=fdiv_ge' (n:=b*16777216) h;have g1:=Int.mul_le_mul_of_nonpos_right m3 (show c≤0 by omega);have g2:=Int.mul_le_mul_of_nonpos_right m4 (show d≤0 by omega);rcases (show (A*16777216).fdiv B+1≤m∨m≤(A*16777216).fdiv B from by omega) with k|k
  ·have l:=fdiv_gt' (n:=A*16777216) (show B<0 by omega);have:=Int.mul_le_mul_of_nonpos_right k (show B≤0 by omega);omega
  ·exact k
theorem qce_neg (n d:Int):qce n d = -(qfl (-n) d):=by unfold qce qfl;rw [Int.neg_mul]
theorem qce_in {a b c d A B:Int} (h0:¬(c≤0∧0≤d)) (hcd:c≤d) (h1:a≤A) (h2:A≤b) (h3:c≤B) (h4:B≤d) :
  qce A B≤max4 (qce a c) (qce a d) (qce b c) (qce b d):=by
 have e:=qfl_in h0 hcd (show -b ≤ -A by omega) (show -A ≤ -a by omega) h3 h4;simp only [qce_neg];unfold min4 at e;unfold max4;omega
structure Bd (p q:Int):Prop where
 lo : -1073741824≤p
 hi:q≤1073741824
theorem within_ok {lo hi p q:Int} (h:withinR lo hi=⟨p,q,0⟩):p=lo∧q=hi∧Bd p q:=by
 unfold withinR at h;split at h
 ·injection h with _ _ h;exact absurd h (by decide)
 ·injection h with h1 h2 _;subst h1 h2;exact ⟨rfl,rfl,by omega,by omega⟩
theorem div_ok {a b c d p q A B:Int} (h:divR a b c d=⟨p,q,0⟩) (h1:a≤A) (h2:A≤b) (h3:c≤B) (h4:B≤d) :
  (0<B∧p*B≤A*16777216∧A*16777216≤q*B∨B<0∧A*16777216≤p*B∧q*B≤A*16777216)∧Bd p q:=by
 unfold divR at h;split at h
 ·rename_i v;obtain ⟨_,hcd,_⟩:=vB_iff.1 v.2;split at h
  ·injection h with _ _ h;exact absurd h (by decide)
  ·rename_i h0;obtain ⟨hp,hq,k⟩:=within_ok h
   have m1:p≤qfl A B:=by rw [hp];exact qfl_in h0 hcd h1 h2 h3 h4
   have m2:qce A B≤q:=by rw [hq];exact qce_in h0 hcd h1 h2 h3 h4
   unfold qfl at m1;unfold qce at m2;refine ⟨?_,k⟩;rcases (show 0<B∨B<0 from by omega) with hB|hB
   ·have:=fdiv_le (n:=A*16777216) hB;have:=fdiv_le (n:=-(A*16777216)) hB;have:=Int.mul_le_mul_of_nonneg_right m1 (show 0≤B by omega);have e:=Int.mul_le_mul_of_nonneg_right m2 (show 0≤B by omega);rw [Int.neg_mul] at e;exact .inl ⟨hB,by omega,by omega⟩
   ·have:=fdiv_ge' (n:=A*16777216) hB;have:=fdiv_ge' (n:=-(A*16777216)) hB;have:=Int.mul_le_mul_of_nonpos_right m1 (show B≤0 by omega);have e:=Int.mul_le_mul_of_nonpos_right m2 (show B≤0 by omega);rw [Int.neg_mul] at e;exact .inr ⟨hB,by omega,by omega⟩
 ·injection h with _ _ h;exact absurd h (by decide)
end Go.Proofs.YtiecdgcdcpmgaaaGreat.Iv
