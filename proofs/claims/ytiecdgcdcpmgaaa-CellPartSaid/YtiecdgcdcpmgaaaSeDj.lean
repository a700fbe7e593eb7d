/- Contracts of the laws' helpers: parts of boxes, the reference's tests of boxes. -/
import Derived.Test.YtiecdgcdcpmgaaaM06
import Derived.Test.YtiecdgcdcpmgaaaM20
import Derived.Test.YtiecdgcdcpmgaaaSeDkM
import Derived.BigQuiet
import Derived.Test.YtiecdgcdcpmgaaaSeDsM
import Derived.Test.YtiecdgcdcpmgaaaSeIeM
import Derived.Test.YtiecdgcdcpmgaaaSeInM
import Derived.Test.YtiecdgcdcpmgaaaSeRf1
import Derived.Test.YtiecdgcdcpmgaaaSeRf2
namespace Go.Proofs.Ytiecdgcdcpmgaaa.Iv
open Go.RowKit
attribute [local go_sem] run_min2' run_max2'
theorem below_dN (w:World) (n:Nat):Below w.heap.size w (w.drewN n):=⟨rfl,rfl,rfl,Nat.le_refl _,fun _ _=>rfl⟩
theorem Bx.drewn {W:World} {b:Nat} {cs:List Value} (h:Bx W b cs) (n:Nat):Bx (W.drewN n) b cs:=h.kept (below_dN _ _)
theorem Ho.drewn {w0 W:World} {m:Nat} {l:List (Nat × List Value)} (h:Ho w0 W m l) (n:Nat):Ho w0 (W.drewN n) m l:=h.call (below_dN _ _)
set_option maxRecDepth 100000 in
set_option maxHeartbeats 4000000 in
theorem rdvalid_any (s:D) (w:World) :
  Calls Try.prog 44 #[dv s] w fun e w'=>e = .returned (.bool (vD s))∧Below w.heap.size w w':=by
 cases h1:vB s.a s.b
 ·rw [show vD s=false from by simp [vD,h1]];have E1:=Lib.hid h1;clear h1;have H0:=((Ho.nil w).bx [.int .i64 s.a,.int .i64 s.b,.int .i64 s.c,.int .i64 s.d,.int .i64 s.e,.int .i64 s.f] 52 (w.heap.size) (by simp));go_enter Try.func44,Try.ntmps44
  go_wp2_with fail
  refine (rvalid_below s.a s.b _).mono ?_;rintro r w1 ⟨rfl,hb⟩;rw [E1.out];have H1:Ho w w1 (w.heap.size+1) [(w.heap.size,[.int .i64 s.a,.int .i64 s.b,.int .i64 s.c,.int .i64 s.d,.int .i64 s.e,.int .i64 s.f])]:=Ho.call hoA hb;have hs1:=H1.size;have hz1:=hb.size
  (try simp at hz1)
  clear hb;have h0_1:=(H1.at 0 rfl).c;have zx1:=zq (w.heap.size) (w1.heap.size)
  go_wp2_with fail
  go_ret
  exact ⟨rfl,H1.below⟩
 ·cases h2:vB s.c s.d
  ·rw [show vD s=false from by simp [vD,h2]];have E1:=Lib.hid h1;have E2:=Lib.hid h2;clear h1 h2;have H0:=((Ho.nil w).bx [.int .i64 s.a,.int .i64 s.b,.int .i64 s.c,.int .i64 s.d,.int .i64 s.e,.int .i64 s.f] 52 (w.heap.size) (by simp));go_enter Try.func44,Try.ntmps44
   go_wp2_with fail
   refine (rvalid_below s.a s.b _).mono ?_;rintro r w1 ⟨rfl,hb⟩;rw [E1.out];have H1:Ho w w1 (w.heap.size+1) [(w.heap.size,[.int .i64 s.a,.int .i64 s.b,.int .i64 s.c,.int .i64 s.d,.int .i64 s.e,.int .i64 s.f])]:=Ho.call hoA hb;have hs1:=H1.size;have hz1:=hb.size
   (try simp at hz1)
   clear hb;have h0_1:=(H1.at 0 rfl).c;have zx1:=zq (w.heap.size) (w1.heap.size)
   go_wp2_with fail
   refine (rvalid_below s.c s.d _).mono ?_;rintro r w2 ⟨rfl,hb⟩;rw [E2.out];have H2:Ho w w2 (w.heap.size+1) [(w.heap.size,[.int .i64 s.a,.int .i64 s.b,.int .i64 s.c,.int .i64 s.d,.int .i64 s.e,.int .i64 s.f])]:=Ho.call hoA hb;clear h0_1 zx1;have hs2:=H2.size;have hz2:=hb.size
   (try simp at hz2)
   clear hb;have h0_2:=(H2.at 0 rfl).c;have zx2:=zq (w.heap.size) (w2.heap.size)
   go_wp2_with fail
   go_ret
   exact ⟨rfl,H2.below⟩
  ·rw [show vD s=vB s.e s.f from by simp [vD,h1,h2]];have E1:=Lib.hid h1;have E2:=Lib.hid h2;clear h1 h2;have H0:=((Ho.nil w).bx [.int .i64 s.a,.int .i64 s.b,.int .i64 s.c,.int .i64 s.d,.int .i64 s.e,.int .i64 s.f] 52 (w.heap.size) (by simp));go_enter Try.func44,Try.ntmps44
   go_wp2_with fail
   refine (rvalid_below s.a s.b _).mono ?_;rintro r w1 ⟨rfl,hb⟩;rw [E1.out];have H1:Ho w w1 (w.heap.size+1) [(w.heap.size,[.int .i64 s.a,.int .i64 s.b,.int .i64 s.c,.int .i64 s.d,.int .i64 s.e,.int .i64 s.f])]:=Ho.call hoA hb;have hs1:=H1.size;have hz1:=hb.size
   (try simp at hz1)
   clear hb;have h0_1:=(H1.at 0 rfl).c;have zx1:=zq (w.heap.size) (w1.heap.size)
   go_wp2_with fail
   refine (rvalid_below s.c s.d _).mono ?_;rintro r w2 ⟨rfl,hb⟩;rw [E2.out];have H2:Ho w w2 (w.heap.size+1) [(w.heap.size,[.int .i64 s.a,.int .i64 s.b,.int .i64 s.c,.int .i64 s.d,.int .i64 s.e,.int .i64 s.f])]:=Ho.call hoA hb;clear h0_1 zx1;have hs2:=H2.size;have hz2:=hb.size
   (try simp at hz2)
   clear hb;have h0_2:=(H2.at 0 rfl).c;have zx2:=zq (w.heap.size) (w2.heap.size)
   go_wp2_with fail
   refine (rvalid_below s.e s.f _).mono ?_;rintro r w3 ⟨rfl,hb⟩;have H3:Ho w w3 (w.heap.size+1) [(w.heap.size,[.int .i64 s.a,.int .i64 s.b,.int .i64 s.c,.int .i64 s.d,.int .i64 s.e,.int .i64 s.f])]:=Ho.call hoA hb;clear h0_2 zx2;have hs3:=H3.size;have hz3:=hb.size
   (try simp at hz3)
   clear hb;have h0_3:=(H3.at 0 rfl).c;have zx3:=zq (w.heap.size) (w3.heap.size)
   go_wp2_with fail
   go_ret
   exact ⟨rfl,H3.below⟩
end Go.Proofs.Ytiecdgcdcpmgaaa.Iv
