/- Contracts of the reference's tests, bounds, roundings, sums and differences of intervals: package culetref27 returns what the plain functions say. -/
import Derived.Test.YtiecdgcdcpmgaaaM03
namespace Go.Proofs.Ytiecdgcdcpmgaaa.Iv
open Go.RowKit
theorem rvalid_any (lo hi:Int) (w:World) :
  Calls Try.prog 33 #[iv lo hi] w fun e w'=>e = .returned (.bool (vB lo hi))∧boxed w lo hi=w':=by
 go_enter Try.func33,Try.ntmps33
 go_wp2
 all_goals go_ret
 all_goals refine ⟨ret_bool ?_,rfl⟩
 all_goals (simp only [vB];first|(rw [decide_eq_decide];omega)|(symm;rw [decide_eq_false_iff_not];omega))
theorem both_any (a b c d:Int) (w:World) :
  Calls Try.prog 69 #[iv a b,iv c d] w fun e w'=>e = .returned (.bool (vB a b && vB c d))∧Below w.heap.size w w':=by
 cases h1:vB a b
 ·go_enter Try.func69,Try.ntmps69
  go_wp2_with (first|(go_at_call 33;refine (rvalid_any _ _ _).mono ?_;rintro e w1 ⟨rfl,rfl⟩))
  go_ret
  exact ⟨rfl,by repeat (first|exact Below.refl _ _|refine Below.drew ?_|refine Below.setCell ?_ (by first|omega|(simp<;>omega)) _|refine Below.alloc ?_ (by first|omega|(simp<;>omega)) _)⟩
 ·go_enter Try.func69,Try.ntmps69
  go_wp2_with (first|(go_at_call 33;refine (rvalid_any _ _ _).mono ?_;rintro e w1 ⟨rfl,rfl⟩))
  go_ret
  exact ⟨ret_bool (by simp),by repeat (first|exact Below.refl _ _|refine Below.drew ?_|refine Below.setCell ?_ (by first|omega|(simp<;>omega)) _|refine Below.alloc ?_ (by first|omega|(simp<;>omega)) _)⟩
end Go.Proofs.Ytiecdgcdcpmgaaa.Iv
