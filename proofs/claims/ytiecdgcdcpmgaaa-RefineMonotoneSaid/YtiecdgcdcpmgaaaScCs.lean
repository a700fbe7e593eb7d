/- Plain facts on the shares of a cell: they add up; a greater depth and one more reflection decide no less. -/
import Derived.Test.YtiecdgcdcpmgaaaScCm
import Derived.Test.YtiecdgcdcpmgaaaM28
import Derived.Test.YtiecdgcdcpmgaaaScCi
import Derived.Test.YtiecdgcdcpmgaaaScFiM
import Derived.Test.YtiecdgcdcpmgaaaScFr6
import Derived.Test.YtiecdgcdcpmgaaaScHm
import Derived.Test.YtiecdgcdcpmgaaaScTv1
import Derived.Test.YtiecdgcdcpmgaaaScTv3
import Derived.Test.YtiecdgcdcpmgaaaScTv5
import Derived.Test.YtiecdgcdcpmgaaaScVm
import Derived.Test.YtiecdgcdcpmgaaaM06
namespace Go.Proofs.Ytiecdgcdcpmgaaa.Iv
open Go.RowKit
theorem halves_sub {c:CV} (h:(halvesR c).e=0):SubC (halvesR c).a c∧SubC (halvesR c).b c:=by
 have hk:axisR c=((axisR c).1,0):=by
  unfold halvesR at h;split at h
  ·rename_i z;exact Prod.ext rfl z
  ·rename_i z;exact absurd h z
 have e:=halves_eq hk (x0:=(getC c (axisR c).1).1) (x1:=(getC c (axisR c).1).2) rfl;obtain ⟨i1,i2⟩:=halves_in hk (x0:=(getC c (axisR c).1).1) (x1:=(getC c (axisR c).1).2) rfl;rw [e];exact ⟨subC_of i1,subC_of i2⟩
def uC (k n:Int):C3:=if k=1 then ⟨n,0,0⟩ else if k=2 then ⟨0,n,0⟩ else if k=3 then ⟨0,0,n⟩ else ⟨0,0,0⟩
theorem add_u {k n:Int} (h0:0≤n) (h1:n≤1099511627776):addC ⟨0,0,0⟩ k n=uC k n:=by
 have e0:wrap64 (0+n)=n:=by rw [Int.zero_add];exact IntWalk.wrap64_in _ (by omega)
 unfold addC uC;dsimp only;rw [e0]
noncomputable def vR (L:List D) (M:List (Int × Int)) (i0 i1 most:Int) (n:Nat) (c:CV):C3:=visitR L M i0 i1 most n c ⟨0,0,0⟩
theorem vR_zero {L:List D} {M:List (Int × Int)} {i0 i1 most:Int} (c:CV):vR L M i0 i1 most 0 c=uC (traceR L M i0 i1 c most).lv.k 1:=by
 unfold vR visitR;exact add_u (by decide) (by decide)
theorem vR_ok {L:List D} {M:List (Int × Int)} {i0 i1 most:Int} {n:Nat} (c:CV) (h:(2:Int) ^ n≤1099511627776):okC (vR L M i0 i1 most n c) (2 ^ n):=
 (visit_plus n c ⟨0,0,0⟩ 0 ok_zero (by omega)).2
theorem vR_succ {L:List D} {M:List (Int × Int)} {i0 i1 most:Int} {n:Nat} (c:CV) (h:(2:Int) ^ (n+1)≤1099511627776) :
  vR L M i0 i1 most (n+1) c=if (traceR L M i0 i1 c most).lv.k=3∧(halvesR c).e=0 then plusC (vR L M i0 i1 most n (halvesR c).a) (vR L M i0 i1 most n (halvesR c).b) else uC (traceR L M i0 i1 c most).lv.k (2 ^ (n+1)):=by
 have p2:(2:Int) ^ (n+1)=2 ^ n+2 ^ n:=by rw [Int.pow_succ];omega
 have pp:=pow_pos2 n;have ka:=vR_ok (L:=L) (M:=M) (i0:=i0) (i1:=i1) (most:=most) (n:=n) (halvesR c).a (by omega);unfold vR at ka ⊢;rw [show visitR L M i0 i1 most (n+1) c ⟨0,0,0⟩=_ from by unfold visitR;rfl];split
 ·exact (visit_plus n (halvesR c).b (visitR L M i0 i1 most n (halvesR c).a ⟨0,0,0⟩) (2 ^ n) ka (by omega)).1
 ·exact add_u (by omega) (by omega)
theorem kinds {L:List D} {M:List (Int × Int)} {i0 i1 most:Int} {c:CV} (h:(traceR L M i0 i1 c most).e=0):(traceR L M i0 i1 c most).lv.k=1∨(traceR L M i0 i1 c most).lv.k=2∨(traceR L M i0 i1 c most).lv.k=3:=by
 obtain ⟨h1,h2,h3⟩:=trace_inv h;obtain ⟨_,h4,h5⟩:=trace_ok h1 h2 h3;omega
theorem u_sum {k n:Int} (h:k=1∨k=2∨k=3):(uC k n).x+(uC k n).y+(uC k n).z=n:=by
 rcases h with rfl|rfl|rfl<;>simp [uC]
theorem vR_sum {L:List D} {M:List (Int × Int)} {i0 i1 most:Int} : ∀(n:Nat) (c:CV),(traceR L M i0 i1 c most).e=0→(2:Int) ^ n≤1099511627776→(vR L M i0 i1 most n c).x+(vR L M i0 i1 most n c).y+(vR L M i0 i1 most n c).z=2 ^ n
 |0,c,h,_=>by rw [vR_zero];exact u_sum (kinds h)
 |n+1,c,h,hn=>by
  have p2:(2:Int) ^ (n+1)=2 ^ n+2 ^ n:=by rw [Int.pow_succ];omega
  have pp:=pow_pos2 n;rw [vR_succ c hn];split
  ·rename_i z;obtain ⟨s1,s2⟩:=halves_sub z.2;have a:=vR_sum n (halvesR c).a (trace_sub s1 h).1 (by omega);have b:=vR_sum n (halvesR c).b (trace_sub s2 h).1 (by omega);unfold plusC;dsimp only;omega
  ·exact u_sum (kinds h)
theorem u_dbl {k n:Int} : (uC k (n+n)).x=2*(uC k n).x∧(uC k (n+n)).y=2*(uC k n).y∧(uC k (n+n)).z=2*(uC k n).z:=by
 unfold uC;split
 ·refine ⟨?_,?_,?_⟩<;>dsimp only<;>omega
 ·split
  ·refine ⟨?_,?_,?_⟩<;>dsimp only<;>omega
  ·split
   ·refine ⟨?_,?_,?_⟩<;>dsimp only<;>omega
   ·refine ⟨?_,?_,?_⟩<;>dsimp only<;>omega
theorem vR_mono {L:List D} {M:List (Int × Int)} {i0 i1 most:Int} : ∀(n:Nat) (c:CV),(traceR L M i0 i1 c most).e=0→(2:Int) ^ (n+1)≤1099511627776 →
  2*(vR L M i0 i1 most n c).x≤(vR L M i0 i1 most (n+1) c).x∧2*(vR L M i0 i1 most n c).y≤(vR L M i0 i1 most (n+1) c).y∧(vR L M i0 i1 most (n+1) c).z≤2*(vR L M i0 i1 most n c).z
 |0,c,h,hn=>by
  have hs:=vR_sum (0+1) c h hn;obtain ⟨o1,o2,o3,o4⟩:=vR_ok (L:=L) (M:=M) (i0:=i0) (i1:=i1) (most:=most) (n:=0+1) c hn
  by_cases k3:(traceR L M i0 i1 c most).lv.k=3
  ·rw [vR_zero,k3,show uC 3 1=⟨0,0,1⟩ from rfl];dsimp only
   have:(2:Int) ^ (0+1)=2:=by decide
   refine ⟨?_,?_,?_⟩<;>omega
  ·rw [vR_succ c hn,if_neg (fun z=>k3 z.1),vR_zero,show (2:Int) ^ (0+1)=1+1 from rfl];obtain ⟨d1,d2,d3⟩:=u_dbl (k:=(traceR L M i0 i1 c most).lv.k) (n:=1);rw [d1,d2,d3];exact ⟨Int.le_refl _,Int.le_refl _,Int.le_refl _⟩
 |n+1,c,h,hn=>by
  have p2:(2:Int) ^ (n+1)=2 ^ n+2 ^ n:=by rw [Int.pow_succ];omega
  have p3:(2:Int) ^ (n+1+1)=2 ^ (n+1)+2 ^ (n+1):=by rw [Int.pow_succ];omega
  have pp:=pow_pos2 (n+1);rw [vR_succ c hn,vR_succ c (by omega)];split
  ·rename_i z;obtain ⟨s1,s2⟩:=halves_sub z.2;obtain ⟨a1,a2,a3⟩:=vR_mono n (halvesR c).a (trace_sub s1 h).1 (by omega);obtain ⟨b1,b2,b3⟩:=vR_mono n (halvesR c).b (trace_sub s2 h).1 (by omega);unfold plusC;dsimp only;refine ⟨?_,?_,?_⟩<;>omega
  ·rw [p3];obtain ⟨d1,d2,d3⟩:=u_dbl (k:=(traceR L M i0 i1 c most).lv.k) (n:=2 ^ (n+1));rw [d1,d2,d3];exact ⟨Int.le_refl _,Int.le_refl _,Int.le_refl _⟩
theorem check_inv {L:List D} {M:List (Int × Int)} {i0 i1 d m:Int} {c:CV} (h:checkR L M i0 i1 c d m=0):(traceR L M i0 i1 c m).e=0∧0≤d∧d≤12:=by
 unfold checkR at h;split at h
 ·split at h
  ·rename_i z;exact ⟨h,z⟩
  ·exact absurd h (by decide)
 ·rename_i z;exact absurd (Or.inl h) z
theorem check_of {L:List D} {M:List (Int × Int)} {i0 i1 d m:Int} {c:CV} (h:(traceR L M i0 i1 c m).e=0) (hd:0≤d∧d≤12):checkR L M i0 i1 c d m=0:=by
 rw [checkR,if_pos (Or.inl h),if_pos hd,h]
theorem share_of {L:List D} {M:List (Int × Int)} {i0 i1 d m:Int} {c:CV} (h:(traceR L M i0 i1 c m).e=0) (hd:0≤d∧d≤12):shareR L M i0 i1 c d m=(vR L M i0 i1 m d.toNat c,0):=by
 rw [shareR,if_pos (check_of h hd),vR]
theorem pow_12 {n:Nat} (h:n≤13):(2:Int) ^ n≤8192:=by
 have:=Nat.pow_le_pow_right (by decide:0<2) h
 have e:((2 ^ n:Nat):Int)=(2:Int) ^ n:=by simp
 have:(2:Nat) ^ n≤8192:=this;omega
end Go.Proofs.Ytiecdgcdcpmgaaa.Iv
