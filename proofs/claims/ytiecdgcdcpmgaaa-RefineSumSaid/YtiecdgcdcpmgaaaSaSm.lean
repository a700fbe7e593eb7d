/- Contract of the laws' small: a body has few faces, and a depth is small, or too great. -/
import Derived.Test.YtiecdgcdcpmgaaaM22
import Derived.Test.YtiecdgcdcpmgaaaM06
namespace Go.Proofs.Ytiecdgcdcpmgaaa.Iv
open Go.RowKit
attribute [local go_sem] Oper.semAt_some
def smallB (n m:Nat) (depth:Int):Bool:=fewB n m && (decide (depth≤4) || decide (12<depth))
set_option maxRecDepth 100000 in
set_option maxHeartbeats 4000000 in
theorem small33_any {na da:Option Addr} {nc dc:Nat} {i0 i1:Int} {L:List D} {M:List (Int × Int)} (depth:Int) (w:World) (hn:NAt w na L) (hl:L.length*48≤140737488351232) :
  Calls Try.prog 26 #[.agg #[.slice na L.length nc,.slice da M.length dc,.int .i64 i0,.int .i64 i1],.int .i64 depth] w fun e w'=>e = .returned (.bool (smallB L.length M.length depth))∧Below w.heap.size w w':=by
 have HN:=Lib.hid hn;clear hn;have H0:=(Ho.nil w).bx [.slice na L.length nc,.slice da M.length dc,.int .i64 i0,.int .i64 i1] 27 w.heap.size rfl;cases hf:fewB L.length M.length
 ·rw [show smallB L.length M.length depth=false from by unfold smallB;rw [hf];rfl];have EF:=Lib.hid hf;clear hf;go_enter Try.func26,Try.ntmps26
  go_wp2_with fail
  refine (theirs31_any _ (HN.out.kept H0.below) hl).mono ?_;rintro r w1 ⟨⟨u,rfl,hrow⟩,hb⟩;obtain ⟨ao,cap,rfl⟩:=row_form6 hrow;have H1:=H0.call hb;clear hb hrow
  go_wp2_with fail
  refine (few31_any _).mono ?_;rintro r w2 ⟨rfl,hb⟩;rw [EF.out];have H2:=H1.call hb;clear hb
  go_wp2_with fail
  go_ret
  exact ⟨rfl,H2.below⟩
 ·have EF:=Lib.hid hf
  by_cases h4:depth≤4
  ·rw [show smallB L.length M.length depth=true from by unfold smallB;rw [hf,decide_eq_true h4];rfl];clear hf;go_enter Try.func26,Try.ntmps26
   go_wp2_with fail
   refine (theirs31_any _ (HN.out.kept H0.below) hl).mono ?_;rintro r w1 ⟨⟨u,rfl,hrow⟩,hb⟩;obtain ⟨ao,cap,rfl⟩:=row_form6 hrow;have H1:=H0.call hb;clear hb hrow
   go_wp2_with fail
   refine (few31_any _).mono ?_;rintro r w2 ⟨rfl,hb⟩;rw [EF.out];have H2:=H1.call hb;clear hb
   go_wp2_with fail
   go_ret
   exact ⟨rfl,H2.below⟩
  ·rw [show smallB L.length M.length depth=(decide (depth≤4) || decide (12<depth)) from by unfold smallB;rw [hf];rfl];clear hf;go_enter Try.func26,Try.ntmps26
   go_wp2_with fail
   refine (theirs31_any _ (HN.out.kept H0.below) hl).mono ?_;rintro r w1 ⟨⟨u,rfl,hrow⟩,hb⟩;obtain ⟨ao,cap,rfl⟩:=row_form6 hrow;have H1:=H0.call hb;clear hb hrow
   go_wp2_with fail
   refine (few31_any _).mono ?_;rintro r w2 ⟨rfl,hb⟩;rw [EF.out];have H2:=H1.call hb;clear hb
   go_wp2_with fail
   go_ret
   exact ⟨rfl,H2.below⟩
end Go.Proofs.Ytiecdgcdcpmgaaa.Iv
