/- The plain facts that RefineMonotone asks of the shares. -/
import Derived.Test.YtiecdgcdcpmgaaaScCs
import Derived.Test.YtiecdgcdcpmgaaaScMo
import Derived.Test.YtiecdgcdcpmgaaaScCRo2
import Derived.Test.YtiecdgcdcpmgaaaScCi
import Derived.Test.YtiecdgcdcpmgaaaScCm
import Derived.Test.YtiecdgcdcpmgaaaScFiM
import Derived.Test.YtiecdgcdcpmgaaaScFr6
import Derived.Test.YtiecdgcdcpmgaaaScHm
import Derived.Test.YtiecdgcdcpmgaaaScSm
import Derived.Test.YtiecdgcdcpmgaaaScTv1
import Derived.Test.YtiecdgcdcpmgaaaScTv3
import Derived.Test.YtiecdgcdcpmgaaaScTv5
import Derived.Test.YtiecdgcdcpmgaaaScVm
import Derived.Test.YtiecdgcdcpmgaaaM06
namespace Go.Proofs.Ytiecdgcdcpmgaaa.Iv
open Go.RowKit Go.WideShapes
theorem mono_plain {L:List D} {M:List (Int × Int)} {i0 i1 d m:Int} {c:CV} (h3:d≤3):monoP L M i0 i1 c d m:=by
 by_cases he:(traceR L M i0 i1 c m).e=0
 ·by_cases h0:0≤d
  ·rw [monoP,share_of he (by omega),share_of he (by omega),show (d+1).toNat=d.toNat+1 from by omega];have p:=pow_12 (n:=d.toNat+1) (by omega);have q:=pow_12 (n:=d.toNat) (by omega)
   have p2:(2:Int) ^ (d.toNat+1)=2*2 ^ d.toNat:=by rw [Int.pow_succ];omega
   obtain ⟨a1,a2,a3,_⟩:=vR_ok (L:=L) (M:=M) (i0:=i0) (i1:=i1) (most:=m) (n:=d.toNat) c (by omega);obtain ⟨b1,b2,b3,_⟩:=vR_ok (L:=L) (M:=M) (i0:=i0) (i1:=i1) (most:=m) (n:=d.toNat+1) c (by omega);obtain ⟨m1,m2,m3⟩:=vR_mono (L:=L) (M:=M) (i0:=i0) (i1:=i1) (most:=m) d.toNat c he (by omega);exact ⟨fun z=>absurd ⟨rfl,rfl⟩ z,fun _ _=>⟨h0,a1,a2,a3,b1,b2,b3,vR_sum _ _ he (by omega),(vR_sum _ _ he (by omega)).trans p2,m1,m2,m3⟩⟩
  ·have e1:checkR L M i0 i1 c d m=2:=by rw [checkR,if_pos (Or.inl he),if_neg (by omega)]
   have s1:(shareR L M i0 i1 c d m).2=2:=by rw [shareR,if_neg (by rw [e1];decide),e1]
   refine ⟨fun _=>?_,fun z=>absurd (s1.symm.trans z) (by decide)⟩
   by_cases h1:d = -1
   ·exact .inr h1
   ·have e2:checkR L M i0 i1 c (d+1) m=2:=by rw [checkR,if_pos (Or.inl he),if_neg (by omega)]
    exact .inl (by rw [s1,shareR,if_neg (by rw [e2];decide),e2])
 ·have n0 (x:Int):¬checkR L M i0 i1 c x m=0:=fun z=>he (check_inv z).1
  have sx (x:Int):(shareR L M i0 i1 c x m).2=checkR L M i0 i1 c x m:=by rw [shareR,if_neg (n0 x)]
  refine ⟨fun _=>?_,fun z=>absurd ((sx d).symm.trans z) (n0 d)⟩;rw [sx,sx]
  by_cases h9:(traceR L M i0 i1 c m).e=9
  ·by_cases h1:d = -1
   ·exact .inr h1
   ·refine .inl ?_;rw [checkR,checkR,if_pos (Or.inr h9),if_pos (Or.inr h9)]
    by_cases h0:0≤d
    ·rw [if_pos (by omega),if_pos (by omega)]
    ·rw [if_neg (by omega),if_neg (by omega)]
  ·exact .inl (by rw [checkR,checkR,if_neg (fun z=>z.elim he h9),if_neg (fun z=>z.elim he h9)])
set_option maxRecDepth 100000 in
theorem depth_in {w:World} {r:Reach} {b0:Nat} {a b:Int} (hv:Value.okWide Try.prog w r b0 62 (.agg #[.int .i64 a,.int .i64 b])) : -9223372036854775808≤a:=by
 unfold Value.okWide at hv;rw [Try.underlying62] at hv;obtain ⟨cs,h1,_,ts,h2,_,h3⟩:=hv;injection h1 with h1;subst h1
 have e:Try.prog.cellTypes Try.prog.depth 62=some [3,3]:=by kernel_rfl
 rw [e] at h2;cases h2;obtain ⟨u,h4,h5⟩:=h3 0 _ rfl
 have h6:3=u:=by simpa using h4
 subst h6;unfold Cell.okWide Cell.ok at h5;rw [Try.underlying3] at h5;exact h5.2.1
end Go.Proofs.Ytiecdgcdcpmgaaa.Iv
