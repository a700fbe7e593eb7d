/- The laws of package fresnel's statements begin with an example: it holds. Contracts of Straight, Turn and of the example. -/
import Derived.Test.YtiecdgcdcpmgaaaM06
import Derived.Deep.DeepCutAuto
import Derived.Tactics2
namespace Go.Proofs.Ytiecdgcdcpmgaaa.Ivf
open Go.Proofs.Ytiecdgcdcpmgaaa.Iv
open Go.RowKit
theorem one_any (w:World):Calls Try.prog 57 #[] w fun e w'=>e = .returned (iv 16777216 16777216)∧boxed w 16777216 16777216=w':=by
 go_enter Try.func57,Try.ntmps57
 go_wp2
 exact bodyPost_ret (v:=iv 16777216 16777216) (by simp [results,Try.results57,go_sem]) rfl ⟨rfl,rfl⟩
end Go.Proofs.Ytiecdgcdcpmgaaa.Ivf
