/- Contracts of culetref31.index and culetref31.Valid. -/
import Derived.Test.YtiecdgcdcpmgaaaM18
import Derived.Test.YtiecdgcdcpmgaaaM20
import Derived.Test.YtiecdgcdcpmgaaaSeDj
import Derived.Test.YtiecdgcdcpmgaaaM04
import Derived.Test.YtiecdgcdcpmgaaaSeRf2
import Derived.Test.YtiecdgcdcpmgaaaSeDkM
import Derived.Test.YtiecdgcdcpmgaaaSeDsM
import Derived.Test.YtiecdgcdcpmgaaaSeIeM
import Derived.Test.YtiecdgcdcpmgaaaSeInM
import Derived.Test.YtiecdgcdcpmgaaaSeRf1
import Derived.Test.YtiecdgcdcpmgaaaM06
namespace Go.Proofs.Ytiecdgcdcpmgaaa.Iv
open Go.RowKit
attribute [local go_sem] Oper.semAt_some
theorem ridx_any (a b:Int) (w:World) :
  Calls Try.prog 43 #[iv a b] w fun e w'=>e = .returned (.bool (vI a b))∧Below w.heap.size w w':=by
 have H0:=(Ho.nil w).bx [.int .i64 a,.int .i64 b] 25 w.heap.size rfl;cases h1:vB a b
 ·rw [show vI a b=false from by simp [vI,h1]];have E1:=Lib.hid h1;clear h1;go_enter Try.func43,Try.ntmps43
  go_wp2_with fail
  refine (rvalid_below a b _).mono ?_;rintro e w1 ⟨rfl,hb⟩;rw [E1.out];have H1:=H0.call hb;clear hb;have x1:=(H1.at 0 rfl).c
  go_wp2_with fail
  go_ret
  exact ⟨rfl,H1.below⟩
 ·have E1:=Lib.hid h1
  by_cases h2:16777216≤a
  ·rw [show vI a b=decide (b≤67108864) from by simp [vI,h1,h2]];clear h1;go_enter Try.func43,Try.ntmps43
   go_wp2_with fail
   refine (rvalid_below a b _).mono ?_;rintro e w1 ⟨rfl,hb⟩;rw [E1.out];have H1:=H0.call hb;clear hb;have x1:=(H1.at 0 rfl).c
   go_wp2_with fail
   go_ret
   exact ⟨rfl,H1.below⟩
  ·rw [show vI a b=false from by simp [vI,h2]];clear h1;go_enter Try.func43,Try.ntmps43
   go_wp2_with fail
   refine (rvalid_below a b _).mono ?_;rintro e w1 ⟨rfl,hb⟩;rw [E1.out];have H1:=H0.call hb;clear hb;have x1:=(H1.at 0 rfl).c
   go_wp2_with fail
   go_ret
   exact ⟨rfl,H1.below⟩
set_option maxRecDepth 100000 in
set_option maxHeartbeats 16000000 in
theorem rvbody_any {na da:Option Addr} {nc dc:Nat} {L:List D} {M:List (Int × Int)} {i0 i1:Int} (w:World) (hn:NAt w na L) (hp:PAt w da M) :
  Calls Try.prog 20 #[.agg #[.slice na L.length nc,.slice da M.length dc,.int .i64 i0,.int .i64 i1]] w fun e w'=>e = .returned (.bool (vBody L M i0 i1))∧Below w.heap.size w w':=by
 have H0:=(Ho.nil w).bx [.slice na L.length nc,.slice da M.length dc,.int .i64 i0,.int .i64 i1] 36 w.heap.size rfl;have HN:=Lib.hid hn;have HP:=Lib.hid hp;clear hn hp
 by_cases h1:(L.length:Int)<4
 ·rw [show vBody L M i0 i1=false from by simp [vBody];omega];go_enter Try.func20,Try.ntmps20
  go_wp2_with fail
  go_ret
  exact ⟨rfl,H0.below⟩
 by_cases h2:100<(L.length:Int)
 ·rw [show vBody L M i0 i1=false from by simp [vBody];omega];go_enter Try.func20,Try.ntmps20
  go_wp2_with fail
  go_ret
  exact ⟨rfl,H0.below⟩
 by_cases h3:(M.length:Int)=(L.length:Int)
 ·have h3':M.length=L.length:=by omega
  rw [h3'] at H0 ⊢;clear h3;cases h4:vI i0 i1
  ·rw [show vBody L M i0 i1=false from by simp [vBody,h4]];have E4:=Lib.hid h4;clear h4;go_enter Try.func20,Try.ntmps20
   go_wp2_with fail
   refine (ridx_any i0 i1 _).mono ?_;rintro e w1 ⟨rfl,hb⟩;rw [E4.out];have H1:=H0.call hb;clear hb;have x1:=(H1.at 0 rfl).c
   go_wp2_with fail
   go_ret
   exact ⟨rfl,H1.below⟩
  ·have E4:=Lib.hid h4;have EV:=Lib.hid (show vBody L M i0 i1=(L.all vD && M.all fun p=>vB p.1 p.2) from by simp only [vBody,h4,Bool.true_and];rw [decide_eq_true (by omega),Bool.true_and]);have HM:=Lib.hid h3';clear h4 h3';rw [EV.out];go_enter Try.func20,Try.ntmps20
   go_wp2_with fail
   refine (ridx_any i0 i1 _).mono ?_;rintro e w1 ⟨rfl,hb⟩;rw [E4.out];have H1:=H0.call hb;have HB1:=Lib.hid hb;clear hb;have x1:=(H1.at 0 rfl).c;have z1:=(H1.at 0 rfl).lt
   go_wp2_with fail
   go_loopw [3] (fun i wr=>∃k:Nat,k≤L.length∧i = .int .i64 k∧(∀j x,j<k→L[j]? = some x→vD x=true)∧(∀j x,j<k→M[j]? = some x→vB x.1 x.2=true)∧Below w1.heap.size w1 wr) (fun i _=>L.length - (intOf i).toNat)
   case atStart=>exact ⟨0,Nat.zero_le _,rfl,fun j x h=>absurd h (by omega),fun j x h=>absurd h (by omega),Below.refl _ _⟩
   case round=>
    obtain ⟨k,hk,rfl,hno,hno2,hbel⟩:=hrel;have Hr:=Lib.hid (H1.call hbel);have HNO:=Lib.hid hno;have HNO2:=Lib.hid hno2;have HBL:=Lib.hid hbel;clear hno hno2 hbel x1 z1;have x2:=(Hr.out.at 0 rfl).c;have z2:=(Hr.out.at 0 rfl).lt;have i15:IntKind.i64.wrap ((k:Int)+1)=(k:Int)+1:=IntWalk.i64_in _ (by omega);have hw0:Below w.heap.size w wr:=Hr.out.below;have HW0:=Lib.hid hw0;clear hw0;rcases Nat.lt_or_ge k L.length with hlt|hge
    ·obtain ⟨n,hx⟩:∃x,L[k]? = some x:=⟨_,List.getElem?_eq_getElem hlt⟩;obtain ⟨⟨p,q⟩,hy⟩:∃x,M[k]? = some x:=⟨_,List.getElem?_eq_getElem (by rw [HM.out];exact hlt)⟩;have hwn:NAt wr na L:=HN.out.kept HW0.out;have hwp:PAt wr da M:=HP.out.kept HW0.out;obtain ⟨nb,no,rfl,nlt,hnc⟩:=hwn (by omega);obtain ⟨pb,po,rfl,plt,hpc⟩:=hwp (by rw [HM.out];omega);have hn:=hnc k n hx;have hp:=hpc k (p,q) hy;have HX:=Lib.hid hx;have HY:=Lib.hid hy;have HP2:=Lib.hid (Rs.mk plt hp:Rs wr pb (po+k*2) [.int .i64 p,.int .i64 q]);have hn0:wr.cell? ⟨nb,no+k*6,none⟩=some (.int .i64 n.a):=hn 0 (by decide);have hn1:wr.cell? ⟨nb,no+k*6+1,none⟩=some (.int .i64 n.b):=hn 1 (by decide);have hn2:wr.cell? ⟨nb,no+k*6+2,none⟩=some (.int .i64 n.c):=hn 2 (by decide);have hn3:wr.cell? ⟨nb,no+k*6+3,none⟩=some (.int .i64 n.d):=hn 3 (by decide);have hn4:wr.cell? ⟨nb,no+k*6+4,none⟩=some (.int .i64 n.e):=hn 4 (by decide);have hn5:wr.cell? ⟨nb,no+k*6+5,none⟩=some (.int .i64 n.f):=hn 5 (by decide)
     have hlt':(k:Int)<(L.length:Int):=by omega
     have hge':(0:Int)≤(k:Int):=by omega
     clear hnc hpc hn hp hx hy;cases hv1:vD n
     ·have EX:=Lib.hid hv1;clear hv1
      go_wp2_with fail
      refine (rdvalid_any n _).mono ?_;rintro e w3 ⟨rfl,hb3⟩;rw [EX.out];have H3:=Hr.out.call hb3;clear hb3;have x3:=(H3.at 0 rfl).c;have z3:=(H3.at 0 rfl).lt;clear hn0 hn1 hn2 hn3 hn4 hn5 x2 z2
      go_wp2_with fail
      go_ret
      refine ⟨?_,H3.below⟩;rw [show L.all vD=false from by rw [List.all_eq_false];exact ⟨n,List.mem_of_getElem? HX.out,by rw [EX.out];simp⟩];rfl
     ·have EX:=Lib.hid hv1;clear hv1
      go_wp2_with fail
      refine (rdvalid_any n _).mono ?_;rintro e w3 ⟨rfl,hb3⟩;rw [EX.out];have H3:=Hr.out.call hb3;have P3:=HP2.out.kept hb3;have HB3:=Lib.hid (hb3:Below wr.heap.size wr w3);clear hb3;have x3:=(H3.at 0 rfl).c;have z3:=(H3.at 0 rfl).lt;have c0:w3.cell? ⟨pb,po+k*2,none⟩=some (.int .i64 p):=P3.c 0 (by simp);have c1:w3.cell? ⟨pb,po+k*2+1,none⟩=some (.int .i64 q):=P3.c 1 (by simp);clear hn0 hn1 hn2 hn3 hn4 hn5 x2 z2 P3;cases hv2:vB p q
      ·have EY:=Lib.hid hv2;clear hv2
       go_wp2_with fail
       refine (rvalid_below p q _).mono ?_;rintro e w4 ⟨rfl,hb4⟩;rw [EY.out];have H4:=H3.call hb4;clear hb4 c0 c1 x3 z3;have x4:=(H4.at 0 rfl).c;have z4:=(H4.at 0 rfl).lt
       go_wp2_with fail
       go_ret
       refine ⟨?_,H4.below⟩;rw [show (M.all fun p=>vB p.1 p.2)=false from by rw [List.all_eq_false];exact ⟨(p,q),List.mem_of_getElem? HY.out,by simp only [EY.out];simp⟩,Bool.and_false];rfl
      ·have EY:=Lib.hid hv2;clear hv2
       go_wp2_with fail
       refine (rvalid_below p q _).mono ?_;rintro e w4 ⟨rfl,hb4⟩;rw [EY.out];have H4:=H3.call hb4;have HB4:=Lib.hid hb4;clear hb4 c0 c1 x3 z3;have x4:=(H4.at 0 rfl).c;have z4:=(H4.at 0 rfl).lt
       go_wp2_with fail
       go_roundw
       case rel=>
        refine ⟨k+1,hlt,by simp,fun j y hj hy=>?_,fun j y hj hy=>?_,HBL.out.trans ((HB3.out.trans (HB4.out.mono HB3.out.size)).mono HBL.out.size)⟩
        ·rcases Nat.lt_or_ge j k with h'|h'
         ·exact HNO.out j y h' hy
         ·obtain rfl:j=k:=by omega
          rw [HX.out] at hy;cases hy;exact EX.out
        ·rcases Nat.lt_or_ge j k with h'|h'
         ·exact HNO2.out j y h' hy
         ·obtain rfl:j=k:=by omega
          rw [HY.out] at hy;cases hy;exact EY.out
       case measure=>simp only [intOf];omega
    ·obtain rfl:k=L.length:=by omega
     go_wp2_with fail
     go_ret
     refine ⟨?_,Hr.out.below⟩
     rw [show L.all vD=true from by
      rw [List.all_eq_true];intro x hx;obtain ⟨j,hj⟩:=List.getElem?_of_mem hx
      exact HNO.out j x (List.getElem?_eq_some_iff.1 hj).1 hj,show (M.all fun p=>vB p.1 p.2)=true from by
      rw [List.all_eq_true];intro x hx;obtain ⟨j,hj⟩:=List.getElem?_of_mem hx
      exact HNO2.out j x (by have:=(List.getElem?_eq_some_iff.1 hj).1;rwa [HM.out] at this) hj]
     rfl
 ·rw [show vBody L M i0 i1=false from by simp [vBody];omega];go_enter Try.func20,Try.ntmps20
  go_wp2_with fail
  go_ret
  exact ⟨rfl,H0.below⟩
end Go.Proofs.Ytiecdgcdcpmgaaa.Iv
