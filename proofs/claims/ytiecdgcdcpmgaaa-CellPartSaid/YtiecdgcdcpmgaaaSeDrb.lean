/- What the example needs: Of, One, up, and Critical of 2. -/
import Derived.Test.YtiecdgcdcpmgaaaM12
import Derived.Test.YtiecdgcdcpmgaaaSeRf1
import Derived.Test.YtiecdgcdcpmgaaaSeRf2
namespace Go.Proofs.Ytiecdgcdcpmgaaa.Iv
open Go.RowKit
theorem one_any (w:World):Calls Try.prog 57 #[] w fun e w'=>e = .returned (iv 16777216 16777216)∧Below w.heap.size w w':=by
 go_enter Try.func57,Try.ntmps57
 go_wp2_with fail
 exact bodyPost_ret (v:=iv 16777216 16777216) (by simp [results,Try.results57,go_sem]) rfl ⟨rfl,(by repeat (first|exact Below.refl _ _|refine Below.drew ?_|refine below_drewN ?_ _|refine Below.setCell ?_ (by first|omega|(simp<;>omega)) _|refine Below.alloc ?_ (by first|omega|(simp<;>omega)) _))⟩
end Go.Proofs.Ytiecdgcdcpmgaaa.Iv
