/- Plain facts on the shares of a cell: they add up; a greater depth and one more reflection decide no less. -/
import Derived.Test.YtiecdgcdcpmgaaaSaCm
import Derived.Test.YtiecdgcdcpmgaaaM28
import Derived.Test.YtiecdgcdcpmgaaaSaCi
import Derived.Test.YtiecdgcdcpmgaaaSaFiM
import Derived.Test.YtiecdgcdcpmgaaaSaFr6
import Derived.Test.YtiecdgcdcpmgaaaSaHm
import Derived.Test.YtiecdgcdcpmgaaaSaTv1
import Derived.Test.YtiecdgcdcpmgaaaSaTv3
import Derived.Test.YtiecdgcdcpmgaaaSaTv5
import Derived.Test.YtiecdgcdcpmgaaaSaVm
import Derived.Test.YtiecdgcdcpmgaaaM06
namespace Go.Proofs.Ytiecdgcdcpmgaaa.Iv
open Go.RowKit
theorem halves_sub {c:CV} (h:(halvesR c).e=0):SubC (halvesR c).a c∧SubC (halvesR c).b c:=by
 have hk:axisR c=((axisR c).1,0):=by
  unfold halvesR at h;split at h
  ·rename_i z;exact Prod.ext rfl z
  ·rename_i z;exact absurd h z
 have e:=halves_eq hk (x0:=(getC c (axisR c).1).1) (x1:=(getC c (axisR c).1).2) rfl;obtain ⟨i1,i2⟩:=halves_in hk (x0:=(getC c (axisR c).1).1) (x1:=(getC c (axisR c).1).2) rfl;rw [e];exact ⟨subC_of i1,subC_of i2⟩
def uC (k n:Int):C3:=if k=1 then ⟨n,0,0⟩ else if k=2 then ⟨0,n,0⟩ else if k=3 then ⟨0,0,n⟩ else ⟨0,0,0⟩
theorem add_u {k n:Int} (h0:0≤n) (h1:n≤1099511627776):addC ⟨0,0,0⟩ k n=uC k n:=by
 have e0:wrap64 (0+n)=n:=by rw [Int.zero_add];exact IntWalk.wrap64_in _ (by omega)
 unfold addC uC;dsimp only;rw [e0]
noncomputable def vR (L:List D) (M:List (Int × Int)) (i0 i1 most:Int) (n:Nat) (c:CV):C3:=visitR L M i0 i1 most n c ⟨0,0,0⟩
theorem vR_ok {L:List D} {M:List (Int × Int)} {i0 i1 most:Int} {n:Nat} (c:CV) (h:(2:Int) ^ n≤1099511627776):okC (vR L M i0 i1 most n c) (2 ^ n):=
 (visit_plus n c ⟨0,0,0⟩ 0 ok_zero (by omega)).2
theorem vR_succ {L:List D} {M:List (Int × Int)} {i0 i1 most:Int} {n:Nat} (c:CV) (h:(2:Int) ^ (n+1)≤1099511627776) :
  vR L M i0 i1 most (n+1) c=if (traceR L M i0 i1 c most).lv.k=3∧(halvesR c).e=0 then plusC (vR L M i0 i1 most n (halvesR c).a) (vR L M i0 i1 most n (halvesR c).b) else uC (traceR L M i0 i1 c most).lv.k (2 ^ (n+1)):=by
 have p2:(2:Int) ^ (n+1)=2 ^ n+2 ^ n:=by rw [Int.pow_succ];omega
 have pp:=pow_pos2 n;have ka:=vR_ok (L:=L) (M:=M) (i0:=i0) (i1:=i1) (most:=most) (n:=n) (halvesR c).a (by omega);unfold vR at ka ⊢;rw [show visitR L M i0 i1 most (n+1) c ⟨0,0,0⟩=_ from by unfold visitR;rfl];split
 ·exact (visit_plus n (halvesR c).b (visitR L M i0 i1 most n (halvesR c).a ⟨0,0,0⟩) (2 ^ n) ka (by omega)).1
 ·exact add_u (by omega) (by omega)
theorem check_of {L:List D} {M:List (Int × Int)} {i0 i1 d m:Int} {c:CV} (h:(traceR L M i0 i1 c m).e=0) (hd:0≤d∧d≤12):checkR L M i0 i1 c d m=0:=by
 rw [checkR,if_pos (Or.inl h),if_pos hd,h]
theorem share_of {L:List D} {M:List (Int × Int)} {i0 i1 d m:Int} {c:CV} (h:(traceR L M i0 i1 c m).e=0) (hd:0≤d∧d≤12):shareR L M i0 i1 c d m=(vR L M i0 i1 m d.toNat c,0):=by
 rw [shareR,if_pos (check_of h hd),vR]
theorem pow_12 {n:Nat} (h:n≤13):(2:Int) ^ n≤8192:=by
 have:=Nat.pow_le_pow_right (by decide:0<2) h
 have e:((2 ^ n:Nat):Int)=(2:Int) ^ n:=by simp
 have:(2:Nat) ^ n≤8192:=this;omega
end Go.Proofs.Ytiecdgcdcpmgaaa.Iv
