/- Plain facts: the results for contained arguments are contained in the results. -/
import Derived.Test.YtiecdgcdcpmgaaaM07
import Derived.Test.YtiecdgcdcpmgaaaSeIeM
import Derived.Test.YtiecdgcdcpmgaaaM19
import Derived.Test.YtiecdgcdcpmgaaaSeRf1
import Derived.Test.YtiecdgcdcpmgaaaSeRf2
namespace Go.Proofs.Ytiecdgcdcpmgaaa.Iv
def partLo (lo hi k l:Int):Int:=min (inR lo hi k) (inR lo hi l)
def partHi (lo hi k l:Int):Int:=max (inR lo hi k) (inR lo hi l)
theorem part_sub {lo hi:Int} (k l:Int) (h:vB lo hi=true):Sub (partLo lo hi k l) (partHi lo hi k l) lo hi:=by
 obtain ⟨h1,h2,h3⟩:=vB_iff.1 h;have x:=in_ok k h2;have y:=in_ok l h2;refine ⟨h,vB_iff.2 ?_,?_,?_,?_⟩<;>simp only [partLo,partHi]<;>omega
end Go.Proofs.Ytiecdgcdcpmgaaa.Iv
