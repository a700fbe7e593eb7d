/- Contracts of culetref27.Inside and culetref28.Inside. -/
import Derived.Test.YtiecdgcdcpmgaaaM20
import Derived.Test.YtiecdgcdcpmgaaaSeDj
import Derived.Test.YtiecdgcdcpmgaaaSeDkM
import Derived.Test.YtiecdgcdcpmgaaaSeDsM
import Derived.Test.YtiecdgcdcpmgaaaSeIeM
import Derived.Test.YtiecdgcdcpmgaaaSeInM
import Derived.Test.YtiecdgcdcpmgaaaSeRf1
import Derived.Test.YtiecdgcdcpmgaaaSeRf2
import Derived.Test.YtiecdgcdcpmgaaaM06
namespace Go.Proofs.Ytiecdgcdcpmgaaa.Iv
open Go.RowKit
attribute [local go_sem] Oper.semAt_some
set_option maxRecDepth 100000 in
theorem rinsb_any (a b c d:Int) (w:World) :
  Calls Try.prog 42 #[iv a b,iv c d] w fun e w'=>e = .returned (.bool (insB a b c d))∧Below w.heap.size w w':=by
 have H0:=(((Ho.nil w).bx [.int .i64 a,.int .i64 b] 25 (w.heap.size) (by simp)).bx [.int .i64 c,.int .i64 d] 25 (w.heap.size+1) (by simp));cases hv:(vB a b && vB c d)
 ·have EI:=Lib.hid (show insB a b c d=false from decide_eq_false (fun h=>by rw [h.1,h.2.1] at hv;exact absurd hv (by decide)));have HV:=Lib.hid hv;clear hv;rw [EI.out];go_enter Try.func42,Try.ntmps42
  go_wp2_with fail
  refine (both_any a b c d _).mono ?_;rintro r w1 ⟨rfl,hb⟩;rw [HV.out];have H1:=H0.call hb;clear hb;have x0:=(H1.at 1 rfl).c;have x1:=(H1.at 0 rfl).c
  go_wp2_with fail
  go_ret
  exact ⟨rfl,H1.below⟩
 ·have hv':vB a b=true∧vB c d=true:=by simpa using hv
  by_cases h1:c≤a
  ·have EI:=Lib.hid (show insB a b c d=decide (b≤d) from by simp [insB,hv'.1,hv'.2,h1]);clear hv';have HV:=Lib.hid hv;clear hv;rw [EI.out];go_enter Try.func42,Try.ntmps42
   go_wp2_with fail
   refine (both_any a b c d _).mono ?_;rintro r w1 ⟨rfl,hb⟩;rw [HV.out];have H1:=H0.call hb;clear hb;have x0:=(H1.at 1 rfl).c;have x1:=(H1.at 0 rfl).c
   go_wp2_with fail
   go_ret
   exact ⟨rfl,H1.below⟩
  ·have EI:=Lib.hid (show insB a b c d=false from decide_eq_false (fun h=>h1 h.2.2.1));clear hv';have HV:=Lib.hid hv;clear hv;rw [EI.out];go_enter Try.func42,Try.ntmps42
   go_wp2_with fail
   refine (both_any a b c d _).mono ?_;rintro r w1 ⟨rfl,hb⟩;rw [HV.out];have H1:=H0.call hb;clear hb;have x0:=(H1.at 1 rfl).c;have x1:=(H1.at 0 rfl).c
   go_wp2_with fail
   go_ret
   exact ⟨rfl,H1.below⟩
set_option maxRecDepth 100000 in
theorem rdin_any (s t:D) (w:World) :
  Calls Try.prog 19 #[dv s,dv t] w fun e w'=>e = .returned (.bool (insD s t))∧Below w.heap.size w w':=by
 have H0:=((Ho.nil w).bx [.int .i64 s.a,.int .i64 s.b,.int .i64 s.c,.int .i64 s.d,.int .i64 s.e,.int .i64 s.f] 52 w.heap.size rfl).bx [.int .i64 t.a,.int .i64 t.b,.int .i64 t.c,.int .i64 t.d,.int .i64 t.e,.int .i64 t.f] 52 (w.heap.size+1) (by simp);cases h1:insB s.a s.b t.a t.b
 ·rw [show insD s t=false from by simp [insD,h1]];have E1:=Lib.hid h1;clear h1;go_enter Try.func19,Try.ntmps19
  go_wp2_with fail
  refine (rinsb_any s.a s.b t.a t.b _).mono ?_;rintro e w1 ⟨rfl,hb⟩;rw [E1.out];have H1:=H0.call hb;clear hb;have x1:=(H1.at 1 rfl).c;have y1:=(H1.at 0 rfl).c
  go_wp2_with fail
  go_ret
  exact ⟨rfl,H1.below⟩
 ·cases h2:insB s.c s.d t.c t.d
  ·rw [show insD s t=false from by simp [insD,h2]];have E1:=Lib.hid h1;have E2:=Lib.hid h2;clear h1 h2;go_enter Try.func19,Try.ntmps19
   go_wp2_with fail
   refine (rinsb_any s.a s.b t.a t.b _).mono ?_;rintro e w1 ⟨rfl,hb⟩;rw [E1.out];have H1:=H0.call hb;clear hb;have x1:=(H1.at 1 rfl).c;have y1:=(H1.at 0 rfl).c
   go_wp2_with fail
   refine (rinsb_any s.c s.d t.c t.d _).mono ?_;rintro e w2 ⟨rfl,hb⟩;rw [E2.out];have H2:=H1.call hb;clear hb;have x2:=(H2.at 1 rfl).c;have y2:=(H2.at 0 rfl).c
   go_wp2_with fail
   go_ret
   exact ⟨rfl,H2.below⟩
  ·rw [show insD s t=insB s.e s.f t.e t.f from by simp [insD,h1,h2]];have E1:=Lib.hid h1;have E2:=Lib.hid h2;clear h1 h2;go_enter Try.func19,Try.ntmps19
   go_wp2_with fail
   refine (rinsb_any s.a s.b t.a t.b _).mono ?_;rintro e w1 ⟨rfl,hb⟩;rw [E1.out];have H1:=H0.call hb;clear hb;have x1:=(H1.at 1 rfl).c;have y1:=(H1.at 0 rfl).c
   go_wp2_with fail
   refine (rinsb_any s.c s.d t.c t.d _).mono ?_;rintro e w2 ⟨rfl,hb⟩;rw [E2.out];have H2:=H1.call hb;clear hb;have x2:=(H2.at 1 rfl).c;have y2:=(H2.at 0 rfl).c
   go_wp2_with fail
   refine (rinsb_any s.e s.f t.e t.f _).mono ?_;rintro e w3 ⟨rfl,hb⟩;have H3:=H2.call hb;clear hb;have x3:=(H3.at 1 rfl).c;have y3:=(H3.at 0 rfl).c
   go_wp2_with fail
   go_ret
   exact ⟨rfl,H3.below⟩
end Go.Proofs.Ytiecdgcdcpmgaaa.Iv
