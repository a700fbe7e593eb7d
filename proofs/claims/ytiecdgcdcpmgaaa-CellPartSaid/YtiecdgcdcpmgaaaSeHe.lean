/- CellHeights returns true, where the plain facts hold. -/
import Derived.Test.YtiecdgcdcpmgaaaSeAw2
import Derived.Test.YtiecdgcdcpmgaaaM22
import Derived.Test.YtiecdgcdcpmgaaaSeRv
import Derived.Test.YtiecdgcdcpmgaaaSeCr2
import Derived.Test.YtiecdgcdcpmgaaaSeDj
import Derived.Test.YtiecdgcdcpmgaaaSeDkM
import Derived.Test.YtiecdgcdcpmgaaaSeDrb
import Derived.Test.YtiecdgcdcpmgaaaSeDsM
import Derived.Test.YtiecdgcdcpmgaaaSeEx
import Derived.Test.YtiecdgcdcpmgaaaSeExb
import Derived.Test.YtiecdgcdcpmgaaaSeIeM
import Derived.Test.YtiecdgcdcpmgaaaSeInM
import Derived.Test.YtiecdgcdcpmgaaaSeRf1
import Derived.Test.YtiecdgcdcpmgaaaSeRf2
import Derived.Test.YtiecdgcdcpmgaaaSeVs1
import Derived.Test.YtiecdgcdcpmgaaaM06
namespace Go.Proofs.Ytiecdgcdcpmgaaa.Iv
open Go.RowKit
attribute [local go_sem] Oper.semAt_some
theorem flat6:∀(L:List D) (i j:Nat) (s:D),L[i]? = some s→j<6→(L.flatMap dcs)[i*6+j]? = (dcs s)[j]?
 | [],i,j,s,h,hj=>by simp at h
 |x::L,0,j,s,h,hj=>by
  obtain rfl:x=s:=by simpa using h
  rw [List.flatMap_cons,List.getElem?_append_left (by show 0*6+j<6;omega),Nat.zero_mul,Nat.zero_add]
 |x::L,i+1,j,s,h,hj=>by
  rw [List.flatMap_cons,List.getElem?_append_right (by show 6≤(i+1)*6+j;omega),show (i+1)*6+j - (dcs x).length=i*6+j from by show (i+1)*6+j - 6=i*6+j;omega];exact flat6 L i j s (by simpa using h) hj
theorem nat_own {W:World} {base:Nat} {ao:Option Addr} {cap:Nat} {L:List D} (h:W.ownsRow base 52 6 (.slice ao L.length cap) L.length (L.flatMap dcs)):NAt W ao L:=by
 intro hpos;obtain ⟨h1,h2⟩:=h;rcases h2 with ⟨_,z⟩|⟨g,cap',cur,e,hb,hh,hn,hc,hs,ht⟩
 ·omega
 ·injection e with ea;subst ea;refine ⟨g,0,rfl,(Array.getElem?_eq_some_iff.1 hh).1,fun i s hs' j hj=>?_⟩;have hi:i<L.length:=(List.getElem?_eq_some_iff.1 hs').1
  have e1:W.cell? ⟨g,0+i*6+j,none⟩=cur[0+i*6+j]?:=by simp [World.cell?,hh]
  have e2:=flat6 L i j s hs' hj;rw [←ht,List.getElem?_take_of_lt (by omega)] at e2;rw [e1,Nat.zero_add,←Array.getElem?_toList,e2]
end Go.Proofs.Ytiecdgcdcpmgaaa.Iv
