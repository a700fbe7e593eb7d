/- The plain facts that RefineBounces asks of the shares. -/
import Derived.Test.YtiecdgcdcpmgaaaSbCs
import Derived.Test.YtiecdgcdcpmgaaaSbBo
import Derived.Test.YtiecdgcdcpmgaaaSbCi
import Derived.Test.YtiecdgcdcpmgaaaSbCm
import Derived.Test.YtiecdgcdcpmgaaaSbFiM
import Derived.Test.YtiecdgcdcpmgaaaSbFr6
import Derived.Test.YtiecdgcdcpmgaaaSbHm
import Derived.Test.YtiecdgcdcpmgaaaSbSm
import Derived.Test.YtiecdgcdcpmgaaaSbTv1
import Derived.Test.YtiecdgcdcpmgaaaSbTv3
import Derived.Test.YtiecdgcdcpmgaaaSbTv5
import Derived.Test.YtiecdgcdcpmgaaaSbVm
import Derived.Test.YtiecdgcdcpmgaaaM06
namespace Go.Proofs.Ytiecdgcdcpmgaaa.Iv
open Go.RowKit
theorem trace_err {L:List D} {M:List (Int × Int)} {i0 i1 m n:Int} {c:CV} (hm:0≤m∧m≤20) (hn:0≤n∧n≤20):(traceR L M i0 i1 c m).e=(traceR L M i0 i1 c n).e:=by
 by_cases h1:vCell L M i0 i1 c=true
 ·by_cases h2:coverR L M i0 i1 c=(1,0)
  ·rw [(trace_ok h1 hm h2).1,(trace_ok h1 hn h2).1]
  ·rw [traceR,traceR,if_pos h1,if_pos h1,if_pos hm,if_pos hn]
   by_cases h3:(coverR L M i0 i1 c).2=0
   ·rw [if_pos h3,if_pos h3,if_neg (fun z=>h2 (Prod.ext z h3)),if_neg (fun z=>h2 (Prod.ext z h3))]
   ·rw [if_neg h3,if_neg h3]
 ·rw [traceR,traceR,if_neg h1,if_neg h1]
theorem check_err {L:List D} {M:List (Int × Int)} {i0 i1 d m n:Int} {c:CV} (hm:0≤m∧m≤20) (hn:0≤n∧n≤20):checkR L M i0 i1 c d m=checkR L M i0 i1 c d n:=by
 rw [checkR,checkR,trace_err hm hn]
theorem share_err {L:List D} {M:List (Int × Int)} {i0 i1 d m:Int} {c:CV} (h:¬checkR L M i0 i1 c d m=0):(shareR L M i0 i1 c d m).2=checkR L M i0 i1 c d m:=by
 rw [shareR,if_neg h]
theorem bounces_plain {L:List D} {M:List (Int × Int)} {i0 i1 d m:Int} {c:CV} (h0:0≤m) (hm:m<20):bouncesP L M i0 i1 c d m:=by
 have e:=check_err (L:=L) (M:=M) (i0:=i0) (i1:=i1) (d:=d) (m:=m) (n:=m+1) (c:=c) (by omega) (by omega)
 by_cases hc:checkR L M i0 i1 c d m=0
 ·obtain ⟨h1,h2⟩:=check_inv hc;have h3:=(trace_more h1 hm).1;rw [bouncesP,share_of h1 h2,share_of h3 h2];have p:=pow_12 (n:=d.toNat) (by omega);exact ⟨fun z=>absurd rfl z,fun _=>⟨rfl,vR_more hm d.toNat c h1 (by omega)⟩⟩
 ·have hc':¬checkR L M i0 i1 c d (m+1)=0:=by rw [←e];exact hc
  rw [bouncesP,share_err hc,share_err hc'];exact ⟨fun _=>e,fun z=>absurd z hc⟩
end Go.Proofs.Ytiecdgcdcpmgaaa.Iv
