/- Plain facts: the results of the operations enclose the values at numbers of the arguments, and contain the results for contained arguments. -/
import Derived.Test.YtiecdgcdcpmgaaaM07
namespace Go.Proofs.Ytiecdgcdcpmgaaa.Iv
def inR (lo hi k:Int):Int:=lo+k % (hi - lo+1)
theorem in_ok {lo hi:Int} (k:Int) (h:lo≤hi):lo≤inR lo hi k∧inR lo hi k≤hi:=by
 have:=Int.emod_nonneg k (show hi - lo+1≠0 by omega);have:=Int.emod_lt_of_pos k (show 0<hi - lo+1 by omega);unfold inR;omega
end Go.Proofs.Ytiecdgcdcpmgaaa.Iv
