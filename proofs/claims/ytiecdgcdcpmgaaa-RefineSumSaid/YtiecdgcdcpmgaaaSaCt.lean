/- The plain facts that RefineSum asks of the shares. -/
import Derived.Test.YtiecdgcdcpmgaaaSaCs
import Derived.Test.YtiecdgcdcpmgaaaSaSu
import Derived.Test.YtiecdgcdcpmgaaaSaCi
import Derived.Test.YtiecdgcdcpmgaaaSaCm
import Derived.Test.YtiecdgcdcpmgaaaSaFiM
import Derived.Test.YtiecdgcdcpmgaaaSaFr6
import Derived.Test.YtiecdgcdcpmgaaaSaHm
import Derived.Test.YtiecdgcdcpmgaaaSaSm
import Derived.Test.YtiecdgcdcpmgaaaSaTv1
import Derived.Test.YtiecdgcdcpmgaaaSaTv3
import Derived.Test.YtiecdgcdcpmgaaaSaTv5
import Derived.Test.YtiecdgcdcpmgaaaSaVm
import Derived.Test.YtiecdgcdcpmgaaaM06
namespace Go.Proofs.Ytiecdgcdcpmgaaa.Iv
open Go.RowKit
theorem sum_plain {L:List D} {M:List (Int × Int)} {i0 i1 d m:Int} {c:CV} (h1:1≤d) (h4:d≤4):sumP L M i0 i1 c d m:=by
 intro e he hk;obtain ⟨s1,s2⟩:=halves_sub he;have ea:=(trace_sub s1 e).1;have eb:=(trace_sub s2 e).1;obtain ⟨n,rfl⟩:∃n:Nat,d=(n:Int)+1:=⟨(d - 1).toNat,by omega⟩;rw [share_of e (by omega),share_of ea (by omega),share_of eb (by omega),show ((n:Int)+1).toNat=n+1 from by omega,show ((n:Int)+1 - 1).toNat=n from by omega];have p:=pow_12 (n:=n+1) (by omega);have q:=pow_12 (n:=n) (by omega);rw [vR_succ c (by omega),if_pos ⟨hk,he⟩];obtain ⟨a1,a2,a3,a4⟩:=vR_ok (L:=L) (M:=M) (i0:=i0) (i1:=i1) (most:=m) (n:=n) (halvesR c).a (by omega);obtain ⟨b1,b2,b3,b4⟩:=vR_ok (L:=L) (M:=M) (i0:=i0) (i1:=i1) (most:=m) (n:=n) (halvesR c).b (by omega);refine ⟨rfl,rfl,rfl,?_,?_,?_⟩<;>unfold plusC<;>dsimp only<;>exact (IntWalk.wrap64_in _ (by omega)).symm
end Go.Proofs.Ytiecdgcdcpmgaaa.Iv
