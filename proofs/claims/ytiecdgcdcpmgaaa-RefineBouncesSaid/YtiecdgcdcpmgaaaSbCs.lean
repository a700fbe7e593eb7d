/- Plain facts on the shares of a cell: they add up; a greater depth and one more reflection decide no less. -/
import Derived.Test.YtiecdgcdcpmgaaaSbCm
import Derived.Test.YtiecdgcdcpmgaaaM28
import Derived.Test.YtiecdgcdcpmgaaaSbCi
import Derived.Test.YtiecdgcdcpmgaaaSbFiM
import Derived.Test.YtiecdgcdcpmgaaaSbFr6
import Derived.Test.YtiecdgcdcpmgaaaSbHm
import Derived.Test.YtiecdgcdcpmgaaaSbTv1
import Derived.Test.YtiecdgcdcpmgaaaSbTv3
import Derived.Test.YtiecdgcdcpmgaaaSbTv5
import Derived.Test.YtiecdgcdcpmgaaaSbVm
import Derived.Test.YtiecdgcdcpmgaaaM06
namespace Go.Proofs.Ytiecdgcdcpmgaaa.Iv
open Go.RowKit
theorem halves_sub {c:CV} (h:(halvesR c).e=0):SubC (halvesR c).a c∧SubC (halvesR c).b c:=by
 have hk:axisR c=((axisR c).1,0):=by
  unfold halvesR at h;split at h
  ·rename_i z;exact Prod.ext rfl z
  ·rename_i z;exact absurd h z
 have e:=halves_eq hk (x0:=(getC c (axisR c).1).1) (x1:=(getC c (axisR c).1).2) rfl;obtain ⟨i1,i2⟩:=halves_in hk (x0:=(getC c (axisR c).1).1) (x1:=(getC c (axisR c).1).2) rfl;rw [e];exact ⟨subC_of i1,subC_of i2⟩
def uC (k n:Int):C3:=if k=1 then ⟨n,0,0⟩ else if k=2 then ⟨0,n,0⟩ else if k=3 then ⟨0,0,n⟩ else ⟨0,0,0⟩
theorem add_u {k n:Int} (h0:0≤n) (h1:n≤1099511627776):addC ⟨0,0,0⟩ k n=uC k n:=by
 have e0:wrap64 (0+n)=n:=by rw [Int.zero_add];exact IntWalk.wrap64_in _ (by omega)
 unfold addC uC;dsimp only;rw [e0]
noncomputable def vR (L:List D) (M:List (Int × Int)) (i0 i1 most:Int) (n:Nat) (c:CV):C3:=visitR L M i0 i1 most n c ⟨0,0,0⟩
theorem vR_zero {L:List D} {M:List (Int × Int)} {i0 i1 most:Int} (c:CV):vR L M i0 i1 most 0 c=uC (traceR L M i0 i1 c most).lv.k 1:=by
 unfold vR visitR;exact add_u (by decide) (by decide)
theorem vR_ok {L:List D} {M:List (Int × Int)} {i0 i1 most:Int} {n:Nat} (c:CV) (h:(2:Int) ^ n≤1099511627776):okC (vR L M i0 i1 most n c) (2 ^ n):=
 (visit_plus n c ⟨0,0,0⟩ 0 ok_zero (by omega)).2
theorem vR_succ {L:List D} {M:List (Int × Int)} {i0 i1 most:Int} {n:Nat} (c:CV) (h:(2:Int) ^ (n+1)≤1099511627776) :
  vR L M i0 i1 most (n+1) c=if (traceR L M i0 i1 c most).lv.k=3∧(halvesR c).e=0 then plusC (vR L M i0 i1 most n (halvesR c).a) (vR L M i0 i1 most n (halvesR c).b) else uC (traceR L M i0 i1 c most).lv.k (2 ^ (n+1)):=by
 have p2:(2:Int) ^ (n+1)=2 ^ n+2 ^ n:=by rw [Int.pow_succ];omega
 have pp:=pow_pos2 n;have ka:=vR_ok (L:=L) (M:=M) (i0:=i0) (i1:=i1) (most:=most) (n:=n) (halvesR c).a (by omega);unfold vR at ka ⊢;rw [show visitR L M i0 i1 most (n+1) c ⟨0,0,0⟩=_ from by unfold visitR;rfl];split
 ·exact (visit_plus n (halvesR c).b (visitR L M i0 i1 most n (halvesR c).a ⟨0,0,0⟩) (2 ^ n) ka (by omega)).1
 ·exact add_u (by omega) (by omega)
theorem kinds {L:List D} {M:List (Int × Int)} {i0 i1 most:Int} {c:CV} (h:(traceR L M i0 i1 c most).e=0):(traceR L M i0 i1 c most).lv.k=1∨(traceR L M i0 i1 c most).lv.k=2∨(traceR L M i0 i1 c most).lv.k=3:=by
 obtain ⟨h1,h2,h3⟩:=trace_inv h;obtain ⟨_,h4,h5⟩:=trace_ok h1 h2 h3;omega
theorem u_sum {k n:Int} (h:k=1∨k=2∨k=3):(uC k n).x+(uC k n).y+(uC k n).z=n:=by
 rcases h with rfl|rfl|rfl<;>simp [uC]
theorem vR_sum {L:List D} {M:List (Int × Int)} {i0 i1 most:Int} : ∀(n:Nat) (c:CV),(traceR L M i0 i1 c most).e=0→(2:Int) ^ n≤1099511627776→(vR L M i0 i1 most n c).x+(vR L M i0 i1 most n c).y+(vR L M i0 i1 most n c).z=2 ^ n
 |0,c,h,_=>by rw [vR_zero];exact u_sum (kinds h)
 |n+1,c,h,hn=>by
  have p2:(2:Int) ^ (n+1)=2 ^ n+2 ^ n:=by rw [Int.pow_succ];omega
  have pp:=pow_pos2 n;rw [vR_succ c hn];split
  ·rename_i z;obtain ⟨s1,s2⟩:=halves_sub z.2;have a:=vR_sum n (halvesR c).a (trace_sub s1 h).1 (by omega);have b:=vR_sum n (halvesR c).b (trace_sub s2 h).1 (by omega);unfold plusC;dsimp only;omega
  ·exact u_sum (kinds h)
theorem trace_more {L:List D} {M:List (Int × Int)} {i0 i1 most:Int} {c:CV} (h:(traceR L M i0 i1 c most).e=0) (hm:most<20) :
  (traceR L M i0 i1 c (most+1)).e=0∧(¬(traceR L M i0 i1 c most).lv.k=3→(traceR L M i0 i1 c (most+1)).lv.k=(traceR L M i0 i1 c most).lv.k):=by
 obtain ⟨h1,h2,h3⟩:=trace_inv h
 have h2':0≤most+1∧most+1≤20:=by omega
 refine ⟨(trace_ok h1 h2' h3).1,fun hk=>?_⟩
 have hb:vBody L M i0 i1=true:=by
  have:=h1;simp only [vCell,Bool.and_eq_true] at this;exact this.1
 rw [trace_eq h1 h2 h3] at hk ⊢;rw [trace_eq h1 h2' h3];split at hk
 case isFalse=>exact absurd rfl hk
 rename_i c1;split at hk
 case isFalse=>exact absurd rfl hk
 rename_i c2;rw [if_pos c1,if_pos c2,if_pos c1,if_pos c2];obtain ⟨f1,_,_⟩:=fol_ok hb c2 h2;obtain ⟨g1,_,_⟩:=fol_ok hb c2 h2';rw [f1] at hk ⊢;rw [g1]
 have e:(most+1).toNat=most.toNat+1:=by omega
 rw [e];rcases follow_more (l:=L.zip M) (i0:=i0) (i1:=i1) (gl:=(enterR L M i0 i1 c.f (pointV L M i0 i1 c).d (ofR c.p c.q c.r c.s).d).lo) (gh:=(enterR L M i0 i1 c.f (pointV L M i0 i1 c).d (ofR c.p c.q c.r c.s).d).hi) most.toNat (enterR L M i0 i1 c.f (pointV L M i0 i1 c).d (ofR c.p c.q c.r c.s).d).a (enterR L M i0 i1 c.f (pointV L M i0 i1 c).d (ofR c.p c.q c.r c.s).d).v [] with q|q
 ·exact absurd q.1 hk
 ·rw [←q]
theorem vR_only {L:List D} {M:List (Int × Int)} {i0 i1 most:Int} (hm:most<20):∀(n:Nat) (c:CV),(traceR L M i0 i1 c most).e=0→(2:Int) ^ n≤1099511627776 →
  ((traceR L M i0 i1 c (most+1)).lv.k=1→(vR L M i0 i1 most n c).y=0)∧((traceR L M i0 i1 c (most+1)).lv.k=2→(vR L M i0 i1 most n c).x=0)
 |n,c,h,hn=>by
  have un (N:Int):((traceR L M i0 i1 c (most+1)).lv.k=1→(uC (traceR L M i0 i1 c most).lv.k N).y=0)∧((traceR L M i0 i1 c (most+1)).lv.k=2→(uC (traceR L M i0 i1 c most).lv.k N).x=0):=by
   by_cases k3:(traceR L M i0 i1 c most).lv.k=3
   ·rw [k3];exact ⟨fun _=>rfl,fun _=>rfl⟩
   ·rw [(trace_more h hm).2 k3];exact ⟨fun z=>by rw [z];rfl,fun z=>by rw [z];rfl⟩
  cases n with
  |zero=>rw [vR_zero];exact un 1
  |succ n=>
   have p2:(2:Int) ^ (n+1)=2 ^ n+2 ^ n:=by rw [Int.pow_succ];omega
   have pp:=pow_pos2 n;rw [vR_succ c hn];split
   ·rename_i z;obtain ⟨s1,s2⟩:=halves_sub z.2;have hc:=(trace_more h hm).1;obtain ⟨a1,a2⟩:=vR_only hm n (halvesR c).a (trace_sub s1 h).1 (by omega);obtain ⟨b1,b2⟩:=vR_only hm n (halvesR c).b (trace_sub s2 h).1 (by omega);have ta:=(trace_sub s1 hc).2;have tb:=(trace_sub s2 hc).2;unfold plusC;dsimp only;constructor
    ·intro k;rw [k] at ta tb;have x1:=a1 (ta (by decide));have x2:=b1 (tb (by decide));omega
    ·intro k;rw [k] at ta tb;have x1:=a2 (ta (by decide));have x2:=b2 (tb (by decide));omega
   ·exact un _
 termination_by n=>n
theorem vR_more {L:List D} {M:List (Int × Int)} {i0 i1 most:Int} (hm:most<20):∀(n:Nat) (c:CV),(traceR L M i0 i1 c most).e=0→(2:Int) ^ n≤1099511627776 →
  (vR L M i0 i1 most n c).x≤(vR L M i0 i1 (most+1) n c).x∧(vR L M i0 i1 most n c).y≤(vR L M i0 i1 (most+1) n c).y∧(vR L M i0 i1 (most+1) n c).z≤(vR L M i0 i1 most n c).z
 |n,c,h,hn=>by
  have hc:=trace_more h hm;have S:=vR_sum n c h hn;have S':=vR_sum n c hc.1 hn;obtain ⟨o1,o2,o3,o4⟩:=vR_ok (L:=L) (M:=M) (i0:=i0) (i1:=i1) (most:=most) (n:=n) c hn;obtain ⟨q1,q2,q3,q4⟩:=vR_ok (L:=L) (M:=M) (i0:=i0) (i1:=i1) (most:=most+1) (n:=n) c hn;obtain ⟨y1,y2⟩:=vR_only hm n c h hn
  have flat (e:vR L M i0 i1 (most+1) n c=uC (traceR L M i0 i1 c (most+1)).lv.k (2 ^ n)) (k:¬(traceR L M i0 i1 c (most+1)).lv.k=3) :
    (vR L M i0 i1 most n c).x≤(vR L M i0 i1 (most+1) n c).x∧(vR L M i0 i1 most n c).y≤(vR L M i0 i1 (most+1) n c).y∧(vR L M i0 i1 (most+1) n c).z≤(vR L M i0 i1 most n c).z:=by
   rcases kinds hc.1 with z|z|z
   ·have w:=y1 z;rw [e,z,show uC 1 (2 ^ n)=⟨2 ^ n,0,0⟩ from rfl];dsimp only;refine ⟨?_,?_,?_⟩<;>omega
   ·have w:=y2 z;rw [e,z,show uC 2 (2 ^ n)=⟨0,2 ^ n,0⟩ from rfl];dsimp only;refine ⟨?_,?_,?_⟩<;>omega
   ·exact absurd z k
  have full (e:vR L M i0 i1 most n c=uC 3 (2 ^ n)) :
    (vR L M i0 i1 most n c).x≤(vR L M i0 i1 (most+1) n c).x∧(vR L M i0 i1 most n c).y≤(vR L M i0 i1 (most+1) n c).y∧(vR L M i0 i1 (most+1) n c).z≤(vR L M i0 i1 most n c).z:=by
   rw [e,show uC 3 (2 ^ n)=⟨0,0,2 ^ n⟩ from rfl];dsimp only;refine ⟨?_,?_,?_⟩<;>omega
  cases n with
  |zero=>
   by_cases k3:(traceR L M i0 i1 c (most+1)).lv.k=3
   ·by_cases k2:(traceR L M i0 i1 c most).lv.k=3
    ·exact full (by rw [vR_zero,k2];rfl)
    ·exact absurd ((hc.2 k2).symm.trans k3) k2
   ·exact flat (by rw [vR_zero];rfl) k3
  |succ n=>
   have p2:(2:Int) ^ (n+1)=2 ^ n+2 ^ n:=by rw [Int.pow_succ];omega
   have pp:=pow_pos2 n
   by_cases k3:(traceR L M i0 i1 c (most+1)).lv.k=3
   ·have k2:(traceR L M i0 i1 c most).lv.k=3:=by
     by_cases k2:(traceR L M i0 i1 c most).lv.k=3
     ·exact k2
     ·exact absurd ((hc.2 k2).symm.trans k3) k2
    by_cases z:(halvesR c).e=0
    ·obtain ⟨s1,s2⟩:=halves_sub z;obtain ⟨a1,a2,a3⟩:=vR_more hm n (halvesR c).a (trace_sub s1 h).1 (by omega);obtain ⟨b1,b2,b3⟩:=vR_more hm n (halvesR c).b (trace_sub s2 h).1 (by omega);rw [vR_succ c hn,vR_succ c hn,if_pos ⟨k2,z⟩,if_pos ⟨k3,z⟩];unfold plusC;dsimp only;refine ⟨?_,?_,?_⟩<;>omega
    ·exact full (by rw [vR_succ c hn,if_neg (fun w=>z w.2),k2])
   ·exact flat (by rw [vR_succ c hn,if_neg (fun w=>k3 w.1)]) k3
 termination_by n=>n
theorem check_inv {L:List D} {M:List (Int × Int)} {i0 i1 d m:Int} {c:CV} (h:checkR L M i0 i1 c d m=0):(traceR L M i0 i1 c m).e=0∧0≤d∧d≤12:=by
 unfold checkR at h;split at h
 ·split at h
  ·rename_i z;exact ⟨h,z⟩
  ·exact absurd h (by decide)
 ·rename_i z;exact absurd (Or.inl h) z
theorem check_of {L:List D} {M:List (Int × Int)} {i0 i1 d m:Int} {c:CV} (h:(traceR L M i0 i1 c m).e=0) (hd:0≤d∧d≤12):checkR L M i0 i1 c d m=0:=by
 rw [checkR,if_pos (Or.inl h),if_pos hd,h]
theorem share_of {L:List D} {M:List (Int × Int)} {i0 i1 d m:Int} {c:CV} (h:(traceR L M i0 i1 c m).e=0) (hd:0≤d∧d≤12):shareR L M i0 i1 c d m=(vR L M i0 i1 m d.toNat c,0):=by
 rw [shareR,if_pos (check_of h hd),vR]
theorem pow_12 {n:Nat} (h:n≤13):(2:Int) ^ n≤8192:=by
 have:=Nat.pow_le_pow_right (by decide:0<2) h
 have e:((2 ^ n:Nat):Int)=(2:Int) ^ n:=by simp
 have:(2:Nat) ^ n≤8192:=this;omega
end Go.Proofs.Ytiecdgcdcpmgaaa.Iv
