/- CellHeights returns true, where the plain facts hold. -/
import Derived.Test.YtiecdgcdcpmgaaaSdAw2
import Derived.Test.YtiecdgcdcpmgaaaM22
import Derived.Test.YtiecdgcdcpmgaaaSdRv
import Derived.Test.YtiecdgcdcpmgaaaSdDj
import Derived.Test.YtiecdgcdcpmgaaaSdDrb
import Derived.Test.YtiecdgcdcpmgaaaSdExb
import Derived.Test.YtiecdgcdcpmgaaaSdIeM
import Derived.Test.YtiecdgcdcpmgaaaSdRf1
import Derived.Test.YtiecdgcdcpmgaaaSdRf2
import Derived.Test.YtiecdgcdcpmgaaaM06
namespace Go.Proofs.Ytiecdgcdcpmgaaa.Iv
open Go.RowKit
attribute [local go_sem] Oper.semAt_some
theorem Bx.put9_0 {W:World} {b:Nat} {p0 p1 p2 p3 p4 p5 p6 p7 p8 u:Value} (h:Bx W b [p0,p1,p2,p3,p4,p5,p6,p7,p8]):Bx (W.setCell ⟨b,0,none⟩ u) b [u,p1,p2,p3,p4,p5,p6,p7,p8]:=h.put
def heightsP (L:List D) (M:List (Int × Int)) (i0 i1:Int) (c d:CV):Prop:=
 (coverR L M i0 i1 c).2=0→(coverR L M i0 i1 d).2=0→(pointV L M i0 i1 c).e=0→(pointV L M i0 i1 d).e=0→(coverR L M i0 i1 c).1=1→(coverR L M i0 i1 d).1=1 →
  (pointV L M i0 i1 c).d.e≤(pointV L M i0 i1 d).d.f∧(pointV L M i0 i1 d).d.e≤(pointV L M i0 i1 c).d.f
theorem flat6:∀(L:List D) (i j:Nat) (s:D),L[i]? = some s→j<6→(L.flatMap dcs)[i*6+j]? = (dcs s)[j]?
 | [],i,j,s,h,hj=>by simp at h
 |x::L,0,j,s,h,hj=>by
  obtain rfl:x=s:=by simpa using h
  rw [List.flatMap_cons,List.getElem?_append_left (by show 0*6+j<6;omega),Nat.zero_mul,Nat.zero_add]
 |x::L,i+1,j,s,h,hj=>by
  rw [List.flatMap_cons,List.getElem?_append_right (by show 6≤(i+1)*6+j;omega),show (i+1)*6+j - (dcs x).length=i*6+j from by show (i+1)*6+j - 6=i*6+j;omega];exact flat6 L i j s (by simpa using h) hj
theorem nat_own {W:World} {base:Nat} {ao:Option Addr} {cap:Nat} {L:List D} (h:W.ownsRow base 52 6 (.slice ao L.length cap) L.length (L.flatMap dcs)):NAt W ao L:=by
 intro hpos;obtain ⟨h1,h2⟩:=h;rcases h2 with ⟨_,z⟩|⟨g,cap',cur,e,hb,hh,hn,hc,hs,ht⟩
 ·omega
 ·injection e with ea;subst ea;refine ⟨g,0,rfl,(Array.getElem?_eq_some_iff.1 hh).1,fun i s hs' j hj=>?_⟩;have hi:i<L.length:=(List.getElem?_eq_some_iff.1 hs').1
  have e1:W.cell? ⟨g,0+i*6+j,none⟩=cur[0+i*6+j]?:=by simp [World.cell?,hh]
  have e2:=flat6 L i j s hs' hj;rw [←ht,List.getElem?_take_of_lt (by omega)] at e2;rw [e1,Nat.zero_add,←Array.getElem?_toList,e2]
set_option maxRecDepth 100000 in
set_option maxHeartbeats 16000000 in
theorem heights_law {na da:Option Addr} {nc dc:Nat} {L:List D} {M:List (Int × Int)} {i0 i1 f0 f1:Int} (c:CV) (w:World) (hn:NAt w na L) (hp:PAt w da M) (hl:L.length*48≤140737488351232)
  (hf0:0≤f0∧f0≤255) (hf1:0≤f1∧f1≤255)
  (hP:heightsP L M i0 i1 (⟨f0 % (L.length:Int),c.a,c.b,c.c,c.d,c.p,c.q,c.r,c.s⟩:CV) (⟨f1 % (L.length:Int),c.a,c.b,c.c,c.d,c.p,c.q,c.r,c.s⟩:CV)) :
  Calls Try.prog 4 #[.agg #[.slice na L.length nc,.slice da M.length dc,.int .i64 i0,.int .i64 i1],cellv c,.agg #[.int .u8 f0,.int .u8 f1]] w fun e w'=>e = .returned (.bool true)∧Below w.heap.size w w':=by
 unfold cellv;have HN:=Lib.hid hn;have HP:=Lib.hid hp;have HPP:=Lib.hid hP;clear hn hp hP;cases hf:fewB L.length M.length
 ·have EF:=Lib.hid hf;clear hf;have H0:=((Ho.nil w).bx [.slice na L.length nc,.slice da M.length dc,.int .i64 i0,.int .i64 i1] 27 (w.heap.size) (by simp));have o_0:Bx (((w.alloc (.cells (List.toArray [.slice na L.length nc,.slice da M.length dc,.int .i64 i0,.int .i64 i1]) 27)).alloc (.cells (List.toArray [.int .i64 c.f,.int .i64 c.a,.int .i64 c.b,.int .i64 c.c,.int .i64 c.d,.int .i64 c.p,.int .i64 c.q,.int .i64 c.r,.int .i64 c.s]) 29)).alloc (.cells (List.toArray [.int .u8 f0,.int .u8 f1]) 54)) (w.heap.size+1) [.int .i64 c.f,.int .i64 c.a,.int .i64 c.b,.int .i64 c.c,.int .i64 c.d,.int .i64 c.p,.int .i64 c.q,.int .i64 c.r,.int .i64 c.s]:=bxA;have g_0:Bx (((w.alloc (.cells (List.toArray [.slice na L.length nc,.slice da M.length dc,.int .i64 i0,.int .i64 i1]) 27)).alloc (.cells (List.toArray [.int .i64 c.f,.int .i64 c.a,.int .i64 c.b,.int .i64 c.c,.int .i64 c.d,.int .i64 c.p,.int .i64 c.q,.int .i64 c.r,.int .i64 c.s]) 29)).alloc (.cells (List.toArray [.int .u8 f0,.int .u8 f1]) 54)) (w.heap.size+1+1) [.int .u8 f0,.int .u8 f1]:=bxA;go_enter Try.func4,Try.ntmps4;have o_0c:=o_0.c;have o_0f:=o_0.f;have g_0c:=g_0.c;have g_0f:=g_0.f;have zx0:=zp (w.heap.size+1) (w.heap.size+1+1)
  go_wp2_with fail
  refine (awake32_any _).mono ?_;rintro r w1 ⟨rfl,hb⟩;have H1:Ho w w1 (w.heap.size+1) [(w.heap.size,[.slice na L.length nc,.slice da M.length dc,.int .i64 i0,.int .i64 i1])]:=Ho.call hoA hb;have o_1:=bxK o_0 hb;have g_1:=bxK g_0 hb;have hz1:=hb.size
  (try simp at hz1)
  clear hb;clear o_0c o_0f g_0c g_0f zx0;have hs1:=H1.size;have o_1l:=o_1.lt;have g_1l:=g_1.lt;have h0_1:=(H1.at 0 rfl).c;have hl0_1:=(H1.at 0 rfl).lt
  go_wp2_with fail
  refine (theirs31_any _ (HN.out.kept H1.below) hl).mono ?_;rintro r w2 ⟨⟨u2,rfl,hrow2⟩,hb⟩;obtain ⟨ao2,cap2,rfl⟩:=row_form6 hrow2;have H2:Ho w w2 (w.heap.size+1) [(w.heap.size,[.slice na L.length nc,.slice da M.length dc,.int .i64 i0,.int .i64 i1])]:=Ho.call hoA hb;have o_2:=bxK o_1 hb;have g_2:=bxK g_1 hb;have hz2:=hb.size
  (try simp at hz2)
  clear hb hrow2;clear h0_1 hl0_1;have hs2:=H2.size;have o_2l:=o_2.lt;have g_2l:=g_2.lt;have h0_2:=(H2.at 0 rfl).c;have hl0_2:=(H2.at 0 rfl).lt
  go_wp2_with fail
  refine (few31_any _).mono ?_;rintro r w3 ⟨rfl,hb⟩;rw [EF.out];have H3:Ho w w3 (w.heap.size+1) [(w.heap.size,[.slice na L.length nc,.slice da M.length dc,.int .i64 i0,.int .i64 i1])]:=Ho.call hoA hb;have o_3:=bxK o_2 hb;have g_3:=bxK g_2 hb;have hz3:=hb.size
  (try simp at hz3)
  clear hb;clear h0_2 hl0_2;have hs3:=H3.size;have o_3l:=o_3.lt;have g_3l:=g_3.lt;have h0_3:=(H3.at 0 rfl).c;have hl0_3:=(H3.at 0 rfl).lt
  go_wp2_with fail
  go_ret
  exact ⟨rfl,H3.below⟩
 ·have EF:=Lib.hid hf;clear hf;cases hv:vBody L M i0 i1
  ·have EV:=Lib.hid hv;clear hv;have H0:=((Ho.nil w).bx [.slice na L.length nc,.slice da M.length dc,.int .i64 i0,.int .i64 i1] 27 (w.heap.size) (by simp));have o_0:Bx (((w.alloc (.cells (List.toArray [.slice na L.length nc,.slice da M.length dc,.int .i64 i0,.int .i64 i1]) 27)).alloc (.cells (List.toArray [.int .i64 c.f,.int .i64 c.a,.int .i64 c.b,.int .i64 c.c,.int .i64 c.d,.int .i64 c.p,.int .i64 c.q,.int .i64 c.r,.int .i64 c.s]) 29)).alloc (.cells (List.toArray [.int .u8 f0,.int .u8 f1]) 54)) (w.heap.size+1) [.int .i64 c.f,.int .i64 c.a,.int .i64 c.b,.int .i64 c.c,.int .i64 c.d,.int .i64 c.p,.int .i64 c.q,.int .i64 c.r,.int .i64 c.s]:=bxA;have g_0:Bx (((w.alloc (.cells (List.toArray [.slice na L.length nc,.slice da M.length dc,.int .i64 i0,.int .i64 i1]) 27)).alloc (.cells (List.toArray [.int .i64 c.f,.int .i64 c.a,.int .i64 c.b,.int .i64 c.c,.int .i64 c.d,.int .i64 c.p,.int .i64 c.q,.int .i64 c.r,.int .i64 c.s]) 29)).alloc (.cells (List.toArray [.int .u8 f0,.int .u8 f1]) 54)) (w.heap.size+1+1) [.int .u8 f0,.int .u8 f1]:=bxA;go_enter Try.func4,Try.ntmps4;have o_0c:=o_0.c;have o_0f:=o_0.f;have g_0c:=g_0.c;have g_0f:=g_0.f;have zx0:=zp (w.heap.size+1) (w.heap.size+1+1)
   go_wp2_with fail
   refine (awake32_any _).mono ?_;rintro r w1 ⟨rfl,hb⟩;have H1:Ho w w1 (w.heap.size+1) [(w.heap.size,[.slice na L.length nc,.slice da M.length dc,.int .i64 i0,.int .i64 i1])]:=Ho.call hoA hb;have o_1:=bxK o_0 hb;have g_1:=bxK g_0 hb;have hz1:=hb.size
   (try simp at hz1)
   clear hb;clear o_0c o_0f g_0c g_0f zx0;have hs1:=H1.size;have o_1l:=o_1.lt;have g_1l:=g_1.lt;have h0_1:=(H1.at 0 rfl).c;have hl0_1:=(H1.at 0 rfl).lt
   go_wp2_with fail
   refine (theirs31_any _ (HN.out.kept H1.below) hl).mono ?_;rintro r w2 ⟨⟨u2,rfl,hrow2⟩,hb⟩;obtain ⟨ao2,cap2,rfl⟩:=row_form6 hrow2;have H2:Ho w w2 (w.heap.size+1) [(w.heap.size,[.slice na L.length nc,.slice da M.length dc,.int .i64 i0,.int .i64 i1])]:=Ho.call hoA hb;have o_2:=bxK o_1 hb;have g_2:=bxK g_1 hb;have hz2:=hb.size
   (try simp at hz2)
   clear hb hrow2;clear h0_1 hl0_1;have hs2:=H2.size;have o_2l:=o_2.lt;have g_2l:=g_2.lt;have h0_2:=(H2.at 0 rfl).c;have hl0_2:=(H2.at 0 rfl).lt
   go_wp2_with fail
   refine (few31_any _).mono ?_;rintro r w3 ⟨rfl,hb⟩;rw [EF.out];have H3:Ho w w3 (w.heap.size+1) [(w.heap.size,[.slice na L.length nc,.slice da M.length dc,.int .i64 i0,.int .i64 i1])]:=Ho.call hoA hb;have o_3:=bxK o_2 hb;have g_3:=bxK g_2 hb;have hz3:=hb.size
   (try simp at hz3)
   clear hb;clear h0_2 hl0_2;have hs3:=H3.size;have o_3l:=o_3.lt;have g_3l:=g_3.lt;have h0_3:=(H3.at 0 rfl).c;have hl0_3:=(H3.at 0 rfl).lt
   go_wp2_with fail
   refine (theirs31_any _ (HN.out.kept H3.below) hl).mono ?_;rintro r w4 ⟨⟨u4,rfl,hrow4⟩,hb⟩;obtain ⟨ao4,cap4,rfl⟩:=row_form6 hrow4;have H4:Ho w w4 (w.heap.size+1) [(w.heap.size,[.slice na L.length nc,.slice da M.length dc,.int .i64 i0,.int .i64 i1])]:=Ho.call hoA hb;have o_4:=bxK o_3 hb;have g_4:=bxK g_3 hb;have NO4:=Lib.hid (nat_own hrow4);have hz4:=hb.size
   (try simp at hz4)
   clear hb hrow4;clear h0_3 hl0_3;have hs4:=H4.size;have o_4l:=o_4.lt;have g_4l:=g_4.lt;have h0_4:=(H4.at 0 rfl).c;have hl0_4:=(H4.at 0 rfl).lt
   go_wp2_with fail
   refine (rvbody_any _ NO4.out (HP.out.kept H4.below)).mono ?_;rintro r w5 ⟨rfl,hb⟩;rw [EV.out];have H5:Ho w w5 (w.heap.size+1) [(w.heap.size,[.slice na L.length nc,.slice da M.length dc,.int .i64 i0,.int .i64 i1])]:=Ho.call hoA hb;have o_5:=bxK o_4 hb;have g_5:=bxK g_4 hb;have hz5:=hb.size
   (try simp at hz5)
   clear hb;clear h0_4 hl0_4;have hs5:=H5.size;have o_5l:=o_5.lt;have g_5l:=g_5.lt;have h0_5:=(H5.at 0 rfl).c;have hl0_5:=(H5.at 0 rfl).lt
   go_wp2_with fail
   go_ret
   exact ⟨rfl,H5.below⟩
  ·have hL:4≤L.length∧L.length≤100:=by
    have:=hv;simp only [vBody,Bool.and_eq_true,decide_eq_true_eq] at this;exact ⟨this.1.1,this.1.2.1⟩
   have EV:=Lib.hid hv;clear hv;have hp:=HPP.out
   have zz:((L.length:Int) == 0)=false:=by rw [beq_eq_false_iff_ne];omega
   have zn:¬(L.length=0):=by omega
   have zl:¬(L = []):=fun e=>zn (by rw [e];rfl);have t0:f0.tmod (L.length:Int)=f0 % (L.length:Int):=Int.tmod_eq_emod_of_nonneg hf0.1;have t1:f1.tmod (L.length:Int)=f1 % (L.length:Int):=Int.tmod_eq_emod_of_nonneg hf1.1;have b0:=Int.emod_nonneg f0 (show (L.length:Int)≠0 by omega);have b1:=Int.emod_lt_of_pos f0 (show 0<(L.length:Int) by omega);have b2:=Int.emod_nonneg f1 (show (L.length:Int)≠0 by omega);have b3:=Int.emod_lt_of_pos f1 (show 0<(L.length:Int) by omega);obtain ⟨r0,hr0⟩:∃r,f0 % (L.length:Int)=r:=⟨_,rfl⟩;obtain ⟨r1,hr1⟩:∃r,f1 % (L.length:Int)=r:=⟨_,rfl⟩;rw [hr0] at t0 b0 b1 hp;rw [hr1] at t1 b2 b3 hp;have y0:IntKind.i64.wrap f0=f0:=IntWalk.i64_in _ (by omega);have y1:IntKind.i64.wrap f1=f1:=IntWalk.i64_in _ (by omega);have y2:IntKind.i64.wrap r0=r0:=IntWalk.i64_in _ (by omega);have y3:IntKind.i64.wrap r1=r1:=IntWalk.i64_in _ (by omega);have y4:IntKind.i64.wrap (L.length:Int)=(L.length:Int):=IntWalk.i64_in _ (by omega);clear hr0 hr1;unfold heightsP at hp;obtain ⟨⟨k0,e0⟩,hk0⟩:∃r:Int × Int,coverR L M i0 i1 (⟨r0,c.a,c.b,c.c,c.d,c.p,c.q,c.r,c.s⟩:CV)=r:=⟨_,rfl⟩;obtain ⟨⟨k1,e1⟩,hk1⟩:∃r:Int × Int,coverR L M i0 i1 (⟨r1,c.a,c.b,c.c,c.d,c.p,c.q,c.r,c.s⟩:CV)=r:=⟨_,rfl⟩;obtain ⟨⟨⟨p1,p2,p3,p4,p5,p6⟩,pe⟩,hq0⟩:∃r:RD,pointV L M i0 i1 (⟨r0,c.a,c.b,c.c,c.d,c.p,c.q,c.r,c.s⟩:CV)=r:=⟨_,rfl⟩;obtain ⟨⟨⟨q1,q2,q3,q4,q5,q6⟩,qe⟩,hq1⟩:∃r:RD,pointV L M i0 i1 (⟨r1,c.a,c.b,c.c,c.d,c.p,c.q,c.r,c.s⟩:CV)=r:=⟨_,rfl⟩;rw [hk0,hk1,hq0,hq1] at hp;dsimp only at hp;have HH:=Lib.hid hp;have X0:=Lib.hid hk0;have X1:=Lib.hid hk1;have Y0:=Lib.hid hq0;have Y1:=Lib.hid hq1;clear hp hk0 hk1 hq0 hq1;have H0:=((Ho.nil w).bx [.slice na L.length nc,.slice da M.length dc,.int .i64 i0,.int .i64 i1] 27 (w.heap.size) (by simp));have o_0:Bx (((w.alloc (.cells (List.toArray [.slice na L.length nc,.slice da M.length dc,.int .i64 i0,.int .i64 i1]) 27)).alloc (.cells (List.toArray [.int .i64 c.f,.int .i64 c.a,.int .i64 c.b,.int .i64 c.c,.int .i64 c.d,.int .i64 c.p,.int .i64 c.q,.int .i64 c.r,.int .i64 c.s]) 29)).alloc (.cells (List.toArray [.int .u8 f0,.int .u8 f1]) 54)) (w.heap.size+1) [.int .i64 c.f,.int .i64 c.a,.int .i64 c.b,.int .i64 c.c,.int .i64 c.d,.int .i64 c.p,.int .i64 c.q,.int .i64 c.r,.int .i64 c.s]:=bxA;have g_0:Bx (((w.alloc (.cells (List.toArray [.slice na L.length nc,.slice da M.length dc,.int .i64 i0,.int .i64 i1]) 27)).alloc (.cells (List.toArray [.int .i64 c.f,.int .i64 c.a,.int .i64 c.b,.int .i64 c.c,.int .i64 c.d,.int .i64 c.p,.int .i64 c.q,.int .i64 c.r,.int .i64 c.s]) 29)).alloc (.cells (List.toArray [.int .u8 f0,.int .u8 f1]) 54)) (w.heap.size+1+1) [.int .u8 f0,.int .u8 f1]:=bxA;go_enter Try.func4,Try.ntmps4;have o_0c:=o_0.c;have o_0f:=o_0.f;have g_0c:=g_0.c;have g_0f:=g_0.f;have zx0:=zp (w.heap.size+1) (w.heap.size+1+1)
   go_wp2_with fail
   refine (awake32_any _).mono ?_;rintro r w1 ⟨rfl,hb⟩;have H1:Ho w w1 (w.heap.size+1) [(w.heap.size,[.slice na L.length nc,.slice da M.length dc,.int .i64 i0,.int .i64 i1])]:=Ho.call hoA hb;have o_1:=bxK o_0 hb;have g_1:=bxK g_0 hb;have hz1:=hb.size
   (try simp at hz1)
   clear hb;clear o_0c o_0f g_0c g_0f zx0;have hs1:=H1.size;have o_1l:=o_1.lt;have g_1l:=g_1.lt;have h0_1:=(H1.at 0 rfl).c;have hl0_1:=(H1.at 0 rfl).lt
   go_wp2_with fail
   refine (theirs31_any _ (HN.out.kept H1.below) hl).mono ?_;rintro r w2 ⟨⟨u2,rfl,hrow2⟩,hb⟩;obtain ⟨ao2,cap2,rfl⟩:=row_form6 hrow2;have H2:Ho w w2 (w.heap.size+1) [(w.heap.size,[.slice na L.length nc,.slice da M.length dc,.int .i64 i0,.int .i64 i1])]:=Ho.call hoA hb;have o_2:=bxK o_1 hb;have g_2:=bxK g_1 hb;have hz2:=hb.size
   (try simp at hz2)
   clear hb hrow2;clear h0_1 hl0_1;have hs2:=H2.size;have o_2l:=o_2.lt;have g_2l:=g_2.lt;have h0_2:=(H2.at 0 rfl).c;have hl0_2:=(H2.at 0 rfl).lt
   go_wp2_with fail
   refine (few31_any _).mono ?_;rintro r w3 ⟨rfl,hb⟩;rw [EF.out];have H3:Ho w w3 (w.heap.size+1) [(w.heap.size,[.slice na L.length nc,.slice da M.length dc,.int .i64 i0,.int .i64 i1])]:=Ho.call hoA hb;have o_3:=bxK o_2 hb;have g_3:=bxK g_2 hb;have hz3:=hb.size
   (try simp at hz3)
   clear hb;clear h0_2 hl0_2;have hs3:=H3.size;have o_3l:=o_3.lt;have g_3l:=g_3.lt;have h0_3:=(H3.at 0 rfl).c;have hl0_3:=(H3.at 0 rfl).lt
   go_wp2_with fail
   refine (theirs31_any _ (HN.out.kept H3.below) hl).mono ?_;rintro r w4 ⟨⟨u4,rfl,hrow4⟩,hb⟩;obtain ⟨ao4,cap4,rfl⟩:=row_form6 hrow4;have H4:Ho w w4 (w.heap.size+1) [(w.heap.size,[.slice na L.length nc,.slice da M.length dc,.int .i64 i0,.int .i64 i1])]:=Ho.call hoA hb;have o_4:=bxK o_3 hb;have g_4:=bxK g_3 hb;have NO4:=Lib.hid (nat_own hrow4);have hz4:=hb.size
   (try simp at hz4)
   clear hb hrow4;clear h0_3 hl0_3;have hs4:=H4.size;have o_4l:=o_4.lt;have g_4l:=g_4.lt;have h0_4:=(H4.at 0 rfl).c;have hl0_4:=(H4.at 0 rfl).lt
   go_wp2_with fail
   refine (rvbody_any _ NO4.out (HP.out.kept H4.below)).mono ?_;rintro r w5 ⟨rfl,hb⟩;rw [EV.out];have H5:Ho w w5 (w.heap.size+1) [(w.heap.size,[.slice na L.length nc,.slice da M.length dc,.int .i64 i0,.int .i64 i1])]:=Ho.call hoA hb;have o_5:=bxK o_4 hb;have g_5:=bxK g_4 hb;have hz5:=hb.size
   (try simp at hz5)
   clear hb;clear h0_4 hl0_4;have hs5:=H5.size;have o_5l:=o_5.lt;have g_5l:=g_5.lt;have h0_5:=(H5.at 0 rfl).c;have hl0_5:=(H5.at 0 rfl).lt;have o_5c:=o_5.c;have o_5f:=o_5.f;have g_5c:=g_5.c;have g_5f:=g_5.f
   have o_5m:w.heap.size+1<w5.heap.size+1:=by omega
   have g_5m:w.heap.size+1+1<w5.heap.size+1:=by omega
   have zx5:=ai (zp (w.heap.size+1) (w.heap.size))<|ai (by omega:¬(w5.heap.size=w.heap.size))<|ai (by omega:¬(w5.heap.size=w.heap.size+1))<|ai (by omega:¬(w.heap.size=w5.heap.size))<|ai (by omega:¬(w.heap.size+1=w5.heap.size))<|ai (zp (w5.heap.size) (w.heap.size+1+1))<|ai (zp (w.heap.size+1+1) (w.heap.size+1))<|zp (w.heap.size) (w.heap.size+1+1)
   go_wp2_with fail
   refine (covers_any (⟨r0,c.a,c.b,c.c,c.d,c.p,c.q,c.r,c.s⟩:CV) _ (HN.out.kept (by repeat (first|with_reducible exact H5.below|with_reducible refine Below.setCell ?_ (by first|omega|(dsimp only;omega)|(simp;done)) _|with_reducible refine Below.alloc ?_ (by first|omega|(simp;omega)) _))) (HP.out.kept (by repeat (first|with_reducible exact H5.below|with_reducible refine Below.setCell ?_ (by first|omega|(dsimp only;omega)|(simp;done)) _|with_reducible refine Below.alloc ?_ (by first|omega|(simp;omega)) _)))).mono ?_;rintro r w6 ⟨rfl,hb⟩;rw [X0.out];have H6:Ho w w6 (w.heap.size+1) [(w.heap.size,[.slice na L.length nc,.slice da M.length dc,.int .i64 i0,.int .i64 i1])]:=Ho.call hoA hb
   have o_6:Bx w6 (w.heap.size+1) [.int .i64 r0,.int .i64 c.a,.int .i64 c.b,.int .i64 c.c,.int .i64 c.d,.int .i64 c.p,.int .i64 c.q,.int .i64 c.r,.int .i64 c.s]:=Bx.kept (by
    (repeat (first|with_reducible exact o_5|(with_reducible refine Bx.new ?_;(· (simp;done)))|with_reducible apply Bx.put9_0|with_reducible apply Bx.put9|with_reducible refine Bx.set ?_ (by omega)|with_reducible refine Bx.alc ?_ _|with_reducible refine Bx.drew ?_))) hb
   have d_6:Bx w6 (w5.heap.size) [.int .i64 r1,.int .i64 c.a,.int .i64 c.b,.int .i64 c.c,.int .i64 c.d,.int .i64 c.p,.int .i64 c.q,.int .i64 c.r,.int .i64 c.s]:=Bx.kept (by
    (repeat (first|with_reducible exact o_5|(with_reducible refine Bx.new ?_;(· (simp;done)))|with_reducible apply Bx.put9_0|with_reducible apply Bx.put9|with_reducible refine Bx.set ?_ (by omega)|with_reducible refine Bx.alc ?_ _|with_reducible refine Bx.drew ?_))) hb
   clear h0_5 hl0_5 o_5c o_5f g_5c g_5f o_5m g_5m zx5;have hz6:=hb.size
   (try simp at hz6)
   clear hb;have hs6:=H6.size;have o_6l:=o_6.lt;have d_6l:=d_6.lt;have h0_6:=(H6.at 0 rfl).c;have hl0_6:=(H6.at 0 rfl).lt;have d_6c:=d_6.c;have d_6f:=d_6.f
   have d_6m:w5.heap.size<w6.heap.size+1:=by omega
   go_wp2_with fail
   refine (covers_any (⟨r1,c.a,c.b,c.c,c.d,c.p,c.q,c.r,c.s⟩:CV) _ (HN.out.kept H6.below) (HP.out.kept H6.below)).mono ?_;rintro r w7 ⟨rfl,hb⟩;rw [X1.out];have H7:Ho w w7 (w.heap.size+1) [(w.heap.size,[.slice na L.length nc,.slice da M.length dc,.int .i64 i0,.int .i64 i1])]:=Ho.call hoA hb;have o_7:=bxK o_6 hb;have d_7:=bxK d_6 hb;have hz7:=hb.size
   (try simp at hz7)
   clear hb;clear h0_6 hl0_6 d_6c d_6f d_6m;have hs7:=H7.size;have o_7l:=o_7.lt;have d_7l:=d_7.lt;have h0_7:=(H7.at 0 rfl).c;have hl0_7:=(H7.at 0 rfl).lt;have o_7c:=o_7.c;have o_7f:=o_7.f
   have o_7m:w.heap.size+1<w7.heap.size+1:=by omega
   go_wp2_with fail
   refine (cpoint_any (⟨r0,c.a,c.b,c.c,c.d,c.p,c.q,c.r,c.s⟩:CV) _ (HN.out.kept H7.below) (HP.out.kept H7.below)).mono ?_;rintro r w8 ⟨rfl,hb⟩;rw [Y0.out];unfold retD;have H8:Ho w w8 (w.heap.size+1) [(w.heap.size,[.slice na L.length nc,.slice da M.length dc,.int .i64 i0,.int .i64 i1])]:=Ho.call hoA hb;have o_8:=bxK o_7 hb;have d_8:=bxK d_7 hb;have hz8:=hb.size
   (try simp at hz8)
   clear hb;clear h0_7 hl0_7 o_7c o_7f o_7m;have hs8:=H8.size;have o_8l:=o_8.lt;have d_8l:=d_8.lt;have h0_8:=(H8.at 0 rfl).c;have hl0_8:=(H8.at 0 rfl).lt;have d_8c:=d_8.c;have d_8f:=d_8.f
   have d_8m:w5.heap.size<w8.heap.size+1:=by omega
   have zx8:=ai (zp (w5.heap.size) (w8.heap.size))<|zp (w.heap.size) (w8.heap.size)
   go_wp2_with fail
   refine (cpoint_any (⟨r1,c.a,c.b,c.c,c.d,c.p,c.q,c.r,c.s⟩:CV) _ (HN.out.kept (by repeat (first|with_reducible exact H8.below|with_reducible refine Below.setCell ?_ (by first|omega|(dsimp only;omega)|(simp;done)) _|with_reducible refine Below.alloc ?_ (by first|omega|(simp;omega)) _))) (HP.out.kept (by repeat (first|with_reducible exact H8.below|with_reducible refine Below.setCell ?_ (by first|omega|(dsimp only;omega)|(simp;done)) _|with_reducible refine Below.alloc ?_ (by first|omega|(simp;omega)) _)))).mono ?_;rintro r w9 ⟨rfl,hb⟩;rw [Y1.out];unfold retD;have H9:Ho w w9 (w.heap.size+1) [(w.heap.size,[.slice na L.length nc,.slice da M.length dc,.int .i64 i0,.int .i64 i1])]:=Ho.call hoA hb;have o_9:=bxK o_8 hb;have d_9:=bxK d_8 hb;have pp_9:Bx w9 (w8.heap.size) [.int .i64 p1,.int .i64 p2,.int .i64 p3,.int .i64 p4,.int .i64 p5,.int .i64 p6]:=Bx.kept bxA hb;have hz9:=hb.size
   (try simp at hz9)
   clear hb;clear h0_8 hl0_8 d_8c d_8f d_8m zx8;have hs9:=H9.size;have o_9l:=o_9.lt;have d_9l:=d_9.lt;have pp_9l:=pp_9.lt;have h0_9:=(H9.at 0 rfl).c;have hl0_9:=(H9.at 0 rfl).lt;have pp_9c:=pp_9.c;have pp_9f:=pp_9.f
   have pp_9m:w8.heap.size<w9.heap.size+1:=by omega
   have zx9:=zp (w8.heap.size) (w9.heap.size)
   by_cases he0:e0=0
   ·subst he0
    by_cases he1:e1=0
    ·subst he1
     by_cases hpe:pe=0
     ·subst hpe
      by_cases hqe:qe=0
      ·subst hqe
       by_cases hk0:k0=1
       ·subst hk0
        by_cases hk1:k1=1
        ·subst hk1;obtain ⟨l1,l2⟩:=HH.out rfl rfl rfl rfl rfl rfl
         go_wp2_with fail
         go_ret
         refine ⟨rfl,?_⟩
         (with_reducible repeat (first|exact H9.below|refine Below.setCell ?_ (by first|omega|(dsimp only;omega)|(simp;done)) _|refine Below.alloc ?_ (by first|omega|(simp;omega)) _))
        ·have nk1:(k1 != 1)=true:=by simpa using hk1
         go_wp2_with fail
         go_ret
         refine ⟨rfl,?_⟩
         (with_reducible repeat (first|exact H9.below|refine Below.setCell ?_ (by first|omega|(dsimp only;omega)|(simp;done)) _|refine Below.alloc ?_ (by first|omega|(simp;omega)) _))
       ·have nk0:(k0 != 1)=true:=by simpa using hk0
        go_wp2_with fail
        go_ret
        refine ⟨rfl,?_⟩
        (with_reducible repeat (first|exact H9.below|refine Below.setCell ?_ (by first|omega|(dsimp only;omega)|(simp;done)) _|refine Below.alloc ?_ (by first|omega|(simp;omega)) _))
      ·have nqe:(qe != 0)=true:=by simpa using hqe
       go_wp2_with fail
       go_ret
       refine ⟨rfl,?_⟩
       (with_reducible repeat (first|exact H9.below|refine Below.setCell ?_ (by first|omega|(dsimp only;omega)|(simp;done)) _|refine Below.alloc ?_ (by first|omega|(simp;omega)) _))
     ·have npe:(pe != 0)=true:=by simpa using hpe
      go_wp2_with fail
      go_ret
      refine ⟨rfl,?_⟩
      (with_reducible repeat (first|exact H9.below|refine Below.setCell ?_ (by first|omega|(dsimp only;omega)|(simp;done)) _|refine Below.alloc ?_ (by first|omega|(simp;omega)) _))
    ·have ne1:(e1 != 0)=true:=by simpa using he1
     go_wp2_with fail
     go_ret
     refine ⟨rfl,?_⟩
     (with_reducible repeat (first|exact H9.below|refine Below.setCell ?_ (by first|omega|(dsimp only;omega)|(simp;done)) _|refine Below.alloc ?_ (by first|omega|(simp;omega)) _))
   ·have ne0:(e0 != 0)=true:=by simpa using he0
    go_wp2_with fail
    go_ret
    refine ⟨rfl,?_⟩
    (with_reducible repeat (first|exact H9.below|refine Below.setCell ?_ (by first|omega|(dsimp only;omega)|(simp;done)) _|refine Below.alloc ?_ (by first|omega|(simp;omega)) _))
end Go.Proofs.Ytiecdgcdcpmgaaa.Iv
