/- Contracts of the reference's tests, bounds, roundings, sums and differences of intervals: package culetref27 returns what the plain functions say. -/
import Derived.Test.YtiecdgcdcpmgaaaM03
namespace Go.Proofs.Ytiecdgcdcpmgaaa.Iv
open Go.RowKit
theorem rvalid_any (lo hi:Int) (w:World) :
  Calls Try.prog 33 #[iv lo hi] w fun e w'=>e = .returned (.bool (vB lo hi))∧boxed w lo hi=w':=by
 go_enter Try.func33,Try.ntmps33
 go_wp2
 all_goals go_ret
 all_goals refine ⟨ret_bool ?_,rfl⟩
 all_goals (simp only [vB];first|(rw [decide_eq_decide];omega)|(symm;rw [decide_eq_false_iff_not];omega))
end Go.Proofs.Ytiecdgcdcpmgaaa.Iv
