/- Texts PIvMath. -/

/- Plain functions on pairs of integers that say what the operations on intervals return, with the facts about them that the proofs need; no program is named here. -/
namespace Go.Proofs.YtiecdgcdcpmgaaaGreat.Iv
structure R where
 lo:Int
 hi:Int
 e:Int
def vB (a b:Int):Bool:=decide (-1073741824≤a∧a≤b∧b≤1073741824)
theorem vB_iff {a b:Int} : vB a b=true↔-1073741824≤a∧a≤b∧b≤1073741824:=by simp [vB]
theorem vB_not {a b:Int} : vB a b=false↔a < -1073741824∨b<a∨1073741824<b:=by
 simp only [vB,decide_eq_false_iff_not];omega
def withinR (lo hi:Int):R:=if lo < -1073741824∨1073741824<hi then ⟨0,0,3⟩ else ⟨lo,hi,0⟩
theorem within_no {lo hi:Int} (h:lo < -1073741824∨1073741824<hi):withinR lo hi=⟨0,0,3⟩:=if_pos h
theorem within_yes {lo hi:Int} (h1 : -1073741824≤lo) (h2:hi≤1073741824):withinR lo hi=⟨lo,hi,0⟩:=if_neg (by omega)
def addR (a b c d:Int):R:=if vB a b=true∧vB c d=true then withinR (a+c) (b+d) else ⟨0,0,1⟩
def subR (a b c d:Int):R:=if vB a b=true∧vB c d=true then withinR (a - d) (b - c) else ⟨0,0,1⟩
def fl (n:Int):Int:=n / 16777216
def ce (n:Int):Int:=-((-n) / 16777216)
theorem fl_le (n:Int):fl n*16777216≤n:=by unfold fl;omega
theorem ce_ge (n:Int):n≤ce n*16777216:=by unfold ce;omega
theorem fl_mono {n m:Int} (h:n≤m):fl n≤fl m:=by unfold fl;omega
theorem ce_mono {n m:Int} (h:n≤m):ce n≤ce m:=by unfold ce;omega
theorem fl_le_ce {n m:Int} (h:n≤m):fl n≤ce m:=by unfold fl ce;omega
def min4 (a b c d:Int):Int:=min (min (min a b) c) d
def max4 (a b c d:Int):Int:=max (max (max a b) c) d
theorem min4_le_max4 (a b c d:Int):min4 a b c d≤max4 a b c d:=by unfold min4 max4;omega
theorem mul_bd {a b:Int} (ha : -1073741824≤a) (ha':a≤1073741824) (hb : -1073741824≤b) (hb':b≤1073741824) : -1152921504606846976≤a*b∧a*b≤1152921504606846976:=by
 have h1:=Int.mul_nonneg (show 0≤1073741824 - a by omega) (show 0≤1073741824 - b by omega);have h2:=Int.mul_nonneg (show 0≤1073741824+a by omega) (show 0≤1073741824+b by omega);have h3:=Int.mul_nonneg (show 0≤1073741824 - a by omega) (show 0≤1073741824+b by omega);have h4:=Int.mul_nonneg (show 0≤1073741824+a by omega) (show 0≤1073741824 - b by omega);simp only [Int.sub_mul,Int.mul_sub,Int.add_mul,Int.mul_add] at h1 h2 h3 h4;omega
def mulR (a b c d:Int):R:=if vB a b=true∧vB c d=true then withinR (fl (min4 (a*c) (a*d) (b*c) (b*d))) (ce (max4 (a*c) (a*d) (b*c) (b*d))) else ⟨0,0,1⟩
def qfl (n d:Int):Int:=(n*16777216).fdiv d
def qce (n d:Int):Int:=-((-(n*16777216)).fdiv d)
def divR (a b c d:Int):R:=
 if vB a b=true∧vB c d=true then
  if c≤0∧0≤d then ⟨0,0,10⟩
  else withinR (min4 (qfl a c) (qfl a d) (qfl b c) (qfl b d)) (max4 (qce a c) (qce a d) (qce b c) (qce b d))
 else ⟨0,0,1⟩
def negR (a b:Int):R:=if vB a b=true then ⟨-b,-a,0⟩ else ⟨0,0,1⟩
def least2 (a b:Int):Int:=if a≤0∧0≤b then 0 else min (a*a) (b*b)
def sqR (a b:Int):R:=if vB a b=true then withinR (fl (least2 a b)) (ce (max (a*a) (b*b))) else ⟨0,0,1⟩
def sqStep (n:Nat):Nat→Nat→Nat
 |0,r=>r
 |k+1,r=>if (r+2 ^ k)*(r+2 ^ k)≤n then sqStep n k (r+2 ^ k) else sqStep n k r
theorem sqStep_ok (n:Nat):∀(k r:Nat),r*r≤n→n<(r+2 ^ k)*(r+2 ^ k)→sqStep n k r*sqStep n k r≤n∧n<(sqStep n k r+1)*(sqStep n k r+1)
 |0,r,h1,h2=>⟨h1,by simpa [sqStep] using h2⟩
 |k+1,r,h1,h2=>by
  unfold sqStep
  by_cases c:(r+2 ^ k)*(r+2 ^ k)≤n
  ·rw [if_pos c];refine sqStep_ok n k (r+2 ^ k) c ?_;rw [show r+2 ^ k+2 ^ k=r+2 ^ (k+1) from by rw [Nat.pow_succ];omega];exact h2
  ·rw [if_neg c];exact sqStep_ok n k r h1 (Nat.lt_of_not_le c)
def isqN (n:Nat):Nat:=sqStep n (n.log2+1) 0
theorem isqN_ok (n:Nat):isqN n*isqN n≤n∧n<(isqN n+1)*(isqN n+1):=by
 refine sqStep_ok n (n.log2+1) 0 (Nat.zero_le _) ?_;have h:n<2 ^ (n.log2+1):=Nat.lt_log2_self;rw [Nat.zero_add];exact Nat.lt_of_lt_of_le h (Nat.le_mul_of_pos_left _ (Nat.two_pow_pos _))
theorem isqN_le (n:Nat):isqN n*isqN n≤n:=(isqN_ok n).1
theorem isqN_lt (n:Nat):n<(isqN n+1)*(isqN n+1):=(isqN_ok n).2
theorem isqN_eq {n r:Nat} (h1:r*r≤n) (h2:n<(r+1)*(r+1)):isqN n=r:=by
 have a:=isqN_le n;have b:=isqN_lt n;rcases Nat.lt_trichotomy (isqN n) r with h|h|h
 ·have:=Nat.mul_le_mul (show isqN n+1≤r from h) (show isqN n+1≤r from h);omega
 ·exact h
 ·have:=Nat.mul_le_mul (show r+1≤isqN n from h) (show r+1≤isqN n from h);omega
theorem isqN_mono {n m:Nat} (h:n≤m):isqN n≤isqN m:=by
 rcases Nat.lt_or_ge (isqN m) (isqN n) with hlt|hge
 ·have:=Nat.mul_le_mul (show isqN m+1≤isqN n from hlt) (show isqN m+1≤isqN n from hlt);have a:=isqN_le n;have b:=isqN_lt m;omega
 ·exact hge
def isq (n:Int):Int:=(isqN n.toNat:Int)
theorem isq_nonneg (n:Int):0≤isq n:=by unfold isq;omega
theorem isq_le {n:Int} (h:0≤n):isq n*isq n≤n:=by
 have:=isqN_le n.toNat;unfold isq
 have e:((isqN n.toNat*isqN n.toNat:Nat):Int)≤(n.toNat:Int):=by exact_mod_cast this
 rw [Int.natCast_mul] at e;omega
theorem isq_lt {n:Int} (h:0≤n):n<(isq n+1)*(isq n+1):=by
 have:=isqN_lt n.toNat;unfold isq
 have e:(n.toNat:Int)<(((isqN n.toNat+1)*(isqN n.toNat+1):Nat):Int):=by exact_mod_cast this
 rw [Int.natCast_mul,Int.natCast_add] at e;have e1:((1:Nat):Int)=1:=rfl;rw [e1] at e;omega
theorem isq_eq {n r:Int} (hr:0≤r) (h1:r*r≤n) (h2:n<(r+1)*(r+1)):isq n=r:=by
 obtain ⟨k,rfl⟩:=Int.eq_ofNat_of_zero_le hr;have h0:0≤n:=Int.le_trans (Int.mul_nonneg hr hr) h1;obtain ⟨m,rfl⟩:=Int.eq_ofNat_of_zero_le h0;unfold isq;rw [Int.toNat_natCast]
 congr 1
 exact isqN_eq (by exact_mod_cast h1) (by exact_mod_cast h2)
theorem isq_mono {n m:Int} (h:n≤m):isq n≤isq m:=by
 have:=isqN_mono (show n.toNat≤m.toNat by omega);unfold isq;omega
def rup (b:Int):Int:=if isq (b*16777216)*isq (b*16777216)=b*16777216 then isq (b*16777216) else isq (b*16777216)+1
def sqrtR (a b:Int):R:=if vB a b=true then if a<0 then ⟨0,0,2⟩ else ⟨isq (a*16777216),rup b,0⟩ else ⟨0,0,1⟩
def insB (a b c d:Int):Bool:=decide (vB a b=true∧vB c d=true∧c≤a∧b≤d)
/-! quotients rounded down -/
theorem fdiv_pos {n d q:Int} (hd:0<d) (h1:q*d≤n) (h2:n<(q+1)*d):n.fdiv d=q:=by
 rw [Int.fdiv_eq_ediv_of_nonneg _ (by omega)];have e:=Int.ediv_emod_unique (a:=n) (b:=d) (r:=n - q*d) (q:=q) hd;refine (e.2 ⟨?_,?_,?_⟩).1
 ·rw [Int.mul_comm d q];omega
 ·omega
 ·rw [Int.add_mul] at h2;omega
theorem fdiv_negneg (n d:Int):(-n).fdiv (-d)=n.fdiv d:=Int.neg_fdiv_neg n d
theorem fdiv_neg' {n d q:Int} (hd:d<0) (h1:n≤q*d) (h2:(q+1)*d<n):n.fdiv d=q:=by
 rw [←fdiv_negneg];refine fdiv_pos (by omega) ?_ ?_
 ·rw [Int.mul_neg];omega
 ·rw [Int.mul_neg];omega
theorem fdiv_le {n d:Int} (hd:0<d):n.fdiv d*d≤n:=by
 rw [Int.fdiv_eq_ediv_of_nonneg _ (by omega)];exact Int.ediv_mul_le _ (by omega)
theorem fdiv_lt {n d:Int} (hd:0<d):n<(n.fdiv d+1)*d:=by
 rw [Int.fdiv_eq_ediv_of_nonneg _ (by omega)];exact Int.lt_ediv_add_one_mul_self _ hd
theorem fdiv_ge' {n d:Int} (hd:d<0):n≤n.fdiv d*d:=by
 have:=fdiv_le (n:=-n) (d:=-d) (by omega);rw [fdiv_negneg,Int.mul_neg] at this;omega
theorem fdiv_gt' {n d:Int} (hd:d<0):(n.fdiv d+1)*d<n:=by
 have:=fdiv_lt (n:=-n) (d:=-d) (by omega);rw [fdiv_negneg,Int.mul_neg] at this;omega
/-! Go's own quotient and remainder -/
theorem tm_sign (N d:Int):(0≤N→0≤N.tmod d)∧(N≤0→N.tmod d≤0):=by
 refine ⟨fun h=>Int.tmod_nonneg d h,fun h=>?_⟩;have:=Int.tmod_nonneg d (show 0 ≤ -N by omega);rw [Int.neg_tmod] at this;omega
theorem tm_lt (N d:Int) (hd:d≠0):N.tmod d<d∧-d<N.tmod d∨N.tmod d < -d∧d<N.tmod d:=by
 have key:∀(M c:Int),0<c→M.tmod c<c∧-c<M.tmod c:=by
  intro M c hc;refine ⟨Int.tmod_lt_of_pos M hc,?_⟩;have:=Int.tmod_lt_of_pos (-M) hc;rw [Int.neg_tmod] at this;omega
 by_cases h:0<d
 ·exact .inl (key N d h)
 ·have:=key N (-d) (by omega);rw [Int.tmod_neg] at this;exact .inr ⟨this.1,by omega⟩
theorem td_bd (N d:Int):N.tdiv d≤N.natAbs∧-(N.natAbs:Int)≤N.tdiv d:=by
 have:=Int.natAbs_tdiv_le_natAbs N d;omega
theorem fdiv_same {N d:Int} (hd:d≠0) (h:N.tmod d=0∨(N<0↔d<0)):N.fdiv d=N.tdiv d:=by
 have e:=Int.mul_tdiv_add_tmod N d;have s:=tm_sign N d;have l:=tm_lt N d hd;rw [Int.mul_comm] at e
 by_cases hp:0<d
 ·refine fdiv_pos hp ?_ ?_
  ·rcases h with h|h<;>omega
  ·rw [Int.add_mul];rcases h with h|h<;>omega
 ·refine fdiv_neg' (by omega) ?_ ?_
  ·rcases h with h|h<;>omega
  ·rw [Int.add_mul];rcases h with h|h<;>omega
theorem fdiv_less {N d:Int} (hd:d≠0) (h:¬N.tmod d=0) (h':¬(N<0↔d<0)):N.fdiv d=N.tdiv d - 1:=by
 have e:=Int.mul_tdiv_add_tmod N d;have s:=tm_sign N d;have l:=tm_lt N d hd;rw [Int.mul_comm] at e
 by_cases hp:0<d
 ·refine fdiv_pos hp ?_ ?_
  ·rw [Int.sub_mul];omega
  ·rw [Int.sub_add_cancel];omega
 ·refine fdiv_neg' (by omega) ?_ ?_
  ·rw [Int.sub_mul];omega
  ·rw [Int.sub_add_cancel];omega
end Go.Proofs.YtiecdgcdcpmgaaaGreat.Iv
