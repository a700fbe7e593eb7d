/- RefineBounces returns true, where the plain facts hold. -/
import Derived.Test.YtiecdgcdcpmgaaaM29
import Derived.Test.YtiecdgcdcpmgaaaSbSm
import Derived.Test.YtiecdgcdcpmgaaaM06
namespace Go.Proofs.Ytiecdgcdcpmgaaa.Iv
open Go.RowKit
attribute [local go_sem] Oper.semAt_some
def bouncesP (L:List D) (M:List (Int × Int)) (i0 i1:Int) (c:CV) (d m:Int):Prop:=
 (¬((shareR L M i0 i1 c d m).2=0)→(shareR L M i0 i1 c d m).2=(shareR L M i0 i1 c d (m+1)).2) ∧
 ((shareR L M i0 i1 c d m).2=0→(shareR L M i0 i1 c d (m+1)).2=0∧(shareR L M i0 i1 c d m).1.x≤(shareR L M i0 i1 c d (m+1)).1.x∧(shareR L M i0 i1 c d m).1.y≤(shareR L M i0 i1 c d (m+1)).1.y∧(shareR L M i0 i1 c d (m+1)).1.z≤(shareR L M i0 i1 c d m).1.z)
set_option maxRecDepth 100000 in
set_option maxHeartbeats 16000000 in
theorem bounces_law {na da:Option Addr} {nc dc:Nat} {L:List D} {M:List (Int × Int)} {i0 i1 d m:Int} (c:CV) (w:World) (hn:NAt w na L) (hp:PAt w da M) (hl:L.length*48≤140737488351232)
  (hP:d≤3→0≤m→m<20→bouncesP L M i0 i1 c d m) :
  Calls Try.prog 8 #[.agg #[.slice na L.length nc,.slice da M.length dc,.int .i64 i0,.int .i64 i1],cellv c,.agg #[.int .i64 d,.int .i64 m]] w fun e w'=>e = .returned (.bool true)∧Below w.heap.size w w':=by
 unfold cellv;have HN:=Lib.hid hn;have HP:=Lib.hid hp;have HPP:=Lib.hid hP;clear hn hp hP;cases hs:smallB L.length M.length d
 ·have ES:=Lib.hid hs;clear hs;have H0:=((((Ho.nil w).bx [.slice na L.length nc,.slice da M.length dc,.int .i64 i0,.int .i64 i1] 27 (w.heap.size) (by simp)).bx [.int .i64 c.f,.int .i64 c.a,.int .i64 c.b,.int .i64 c.c,.int .i64 c.d,.int .i64 c.p,.int .i64 c.q,.int .i64 c.r,.int .i64 c.s] 29 (w.heap.size+1) (by simp)).bx [.int .i64 d,.int .i64 m] 62 (w.heap.size+1+1) (by simp));go_enter Try.func8,Try.ntmps8
  go_wp2_with fail
  refine (awake33_any _).mono ?_;rintro r w1 ⟨rfl,hb⟩;have H1:Ho w w1 (w.heap.size+1+1+1) [(w.heap.size+1+1,[.int .i64 d,.int .i64 m]),(w.heap.size+1,[.int .i64 c.f,.int .i64 c.a,.int .i64 c.b,.int .i64 c.c,.int .i64 c.d,.int .i64 c.p,.int .i64 c.q,.int .i64 c.r,.int .i64 c.s]),(w.heap.size,[.slice na L.length nc,.slice da M.length dc,.int .i64 i0,.int .i64 i1])]:=Ho.call hoA hb;have hs1:=H1.size;have hz1:=hb.size
  (try simp at hz1)
  clear hb;have h0_1:=(H1.at 2 rfl).c;have h1_1:=(H1.at 1 rfl).c;have h2_1:=(H1.at 0 rfl).c;have zx1:=ai (zq (w.heap.size) (w1.heap.size))<|ai (zq (w.heap.size+1) (w1.heap.size))<|zq (w.heap.size+1+1) (w1.heap.size)
  go_wp2_with fail
  refine (small33_any d _ (HN.out.kept H1.below) hl).mono ?_;rintro r w2 ⟨rfl,hb⟩;rw [ES.out];have H2:Ho w w2 (w.heap.size+1+1+1) [(w.heap.size+1+1,[.int .i64 d,.int .i64 m]),(w.heap.size+1,[.int .i64 c.f,.int .i64 c.a,.int .i64 c.b,.int .i64 c.c,.int .i64 c.d,.int .i64 c.p,.int .i64 c.q,.int .i64 c.r,.int .i64 c.s]),(w.heap.size,[.slice na L.length nc,.slice da M.length dc,.int .i64 i0,.int .i64 i1])]:=Ho.call hoA hb;clear h0_1 h1_1 h2_1 zx1;have hs2:=H2.size;have hz2:=hb.size
  (try simp at hz2)
  clear hb;have h0_2:=(H2.at 2 rfl).c;have h1_2:=(H2.at 1 rfl).c;have h2_2:=(H2.at 0 rfl).c;have zx2:=ai (zq (w.heap.size) (w2.heap.size))<|ai (zq (w.heap.size+1) (w2.heap.size))<|zq (w.heap.size+1+1) (w2.heap.size)
  go_wp2_with fail
  go_ret
  exact ⟨rfl,H2.below⟩
 ·have ES:=Lib.hid hs;clear hs
  by_cases h1:3<d
  ·have H0:=((((Ho.nil w).bx [.slice na L.length nc,.slice da M.length dc,.int .i64 i0,.int .i64 i1] 27 (w.heap.size) (by simp)).bx [.int .i64 c.f,.int .i64 c.a,.int .i64 c.b,.int .i64 c.c,.int .i64 c.d,.int .i64 c.p,.int .i64 c.q,.int .i64 c.r,.int .i64 c.s] 29 (w.heap.size+1) (by simp)).bx [.int .i64 d,.int .i64 m] 62 (w.heap.size+1+1) (by simp));go_enter Try.func8,Try.ntmps8
   go_wp2_with fail
   refine (awake33_any _).mono ?_;rintro r w1 ⟨rfl,hb⟩;have H1:Ho w w1 (w.heap.size+1+1+1) [(w.heap.size+1+1,[.int .i64 d,.int .i64 m]),(w.heap.size+1,[.int .i64 c.f,.int .i64 c.a,.int .i64 c.b,.int .i64 c.c,.int .i64 c.d,.int .i64 c.p,.int .i64 c.q,.int .i64 c.r,.int .i64 c.s]),(w.heap.size,[.slice na L.length nc,.slice da M.length dc,.int .i64 i0,.int .i64 i1])]:=Ho.call hoA hb;have hs1:=H1.size;have hz1:=hb.size
   (try simp at hz1)
   clear hb;have h0_1:=(H1.at 2 rfl).c;have h1_1:=(H1.at 1 rfl).c;have h2_1:=(H1.at 0 rfl).c;have zx1:=ai (zq (w.heap.size) (w1.heap.size))<|ai (zq (w.heap.size+1) (w1.heap.size))<|zq (w.heap.size+1+1) (w1.heap.size)
   go_wp2_with fail
   refine (small33_any d _ (HN.out.kept H1.below) hl).mono ?_;rintro r w2 ⟨rfl,hb⟩;rw [ES.out];have H2:Ho w w2 (w.heap.size+1+1+1) [(w.heap.size+1+1,[.int .i64 d,.int .i64 m]),(w.heap.size+1,[.int .i64 c.f,.int .i64 c.a,.int .i64 c.b,.int .i64 c.c,.int .i64 c.d,.int .i64 c.p,.int .i64 c.q,.int .i64 c.r,.int .i64 c.s]),(w.heap.size,[.slice na L.length nc,.slice da M.length dc,.int .i64 i0,.int .i64 i1])]:=Ho.call hoA hb;clear h0_1 h1_1 h2_1 zx1;have hs2:=H2.size;have hz2:=hb.size
   (try simp at hz2)
   clear hb;have h0_2:=(H2.at 2 rfl).c;have h1_2:=(H2.at 1 rfl).c;have h2_2:=(H2.at 0 rfl).c;have zx2:=ai (zq (w.heap.size) (w2.heap.size))<|ai (zq (w.heap.size+1) (w2.heap.size))<|zq (w.heap.size+1+1) (w2.heap.size)
   go_wp2_with fail
   go_ret
   exact ⟨rfl,H2.below⟩
  ·by_cases h2:m<0
   ·have H0:=((((Ho.nil w).bx [.slice na L.length nc,.slice da M.length dc,.int .i64 i0,.int .i64 i1] 27 (w.heap.size) (by simp)).bx [.int .i64 c.f,.int .i64 c.a,.int .i64 c.b,.int .i64 c.c,.int .i64 c.d,.int .i64 c.p,.int .i64 c.q,.int .i64 c.r,.int .i64 c.s] 29 (w.heap.size+1) (by simp)).bx [.int .i64 d,.int .i64 m] 62 (w.heap.size+1+1) (by simp));go_enter Try.func8,Try.ntmps8
    go_wp2_with fail
    refine (awake33_any _).mono ?_;rintro r w1 ⟨rfl,hb⟩;have H1:Ho w w1 (w.heap.size+1+1+1) [(w.heap.size+1+1,[.int .i64 d,.int .i64 m]),(w.heap.size+1,[.int .i64 c.f,.int .i64 c.a,.int .i64 c.b,.int .i64 c.c,.int .i64 c.d,.int .i64 c.p,.int .i64 c.q,.int .i64 c.r,.int .i64 c.s]),(w.heap.size,[.slice na L.length nc,.slice da M.length dc,.int .i64 i0,.int .i64 i1])]:=Ho.call hoA hb;have hs1:=H1.size;have hz1:=hb.size
    (try simp at hz1)
    clear hb;have h0_1:=(H1.at 2 rfl).c;have h1_1:=(H1.at 1 rfl).c;have h2_1:=(H1.at 0 rfl).c;have zx1:=ai (zq (w.heap.size) (w1.heap.size))<|ai (zq (w.heap.size+1) (w1.heap.size))<|zq (w.heap.size+1+1) (w1.heap.size)
    go_wp2_with fail
    refine (small33_any d _ (HN.out.kept H1.below) hl).mono ?_;rintro r w2 ⟨rfl,hb⟩;rw [ES.out];have H2:Ho w w2 (w.heap.size+1+1+1) [(w.heap.size+1+1,[.int .i64 d,.int .i64 m]),(w.heap.size+1,[.int .i64 c.f,.int .i64 c.a,.int .i64 c.b,.int .i64 c.c,.int .i64 c.d,.int .i64 c.p,.int .i64 c.q,.int .i64 c.r,.int .i64 c.s]),(w.heap.size,[.slice na L.length nc,.slice da M.length dc,.int .i64 i0,.int .i64 i1])]:=Ho.call hoA hb;clear h0_1 h1_1 h2_1 zx1;have hs2:=H2.size;have hz2:=hb.size
    (try simp at hz2)
    clear hb;have h0_2:=(H2.at 2 rfl).c;have h1_2:=(H2.at 1 rfl).c;have h2_2:=(H2.at 0 rfl).c;have zx2:=ai (zq (w.heap.size) (w2.heap.size))<|ai (zq (w.heap.size+1) (w2.heap.size))<|zq (w.heap.size+1+1) (w2.heap.size)
    go_wp2_with fail
    go_ret
    exact ⟨rfl,H2.below⟩
   ·by_cases h3:20≤m
    ·have H0:=((((Ho.nil w).bx [.slice na L.length nc,.slice da M.length dc,.int .i64 i0,.int .i64 i1] 27 (w.heap.size) (by simp)).bx [.int .i64 c.f,.int .i64 c.a,.int .i64 c.b,.int .i64 c.c,.int .i64 c.d,.int .i64 c.p,.int .i64 c.q,.int .i64 c.r,.int .i64 c.s] 29 (w.heap.size+1) (by simp)).bx [.int .i64 d,.int .i64 m] 62 (w.heap.size+1+1) (by simp));go_enter Try.func8,Try.ntmps8
     go_wp2_with fail
     refine (awake33_any _).mono ?_;rintro r w1 ⟨rfl,hb⟩;have H1:Ho w w1 (w.heap.size+1+1+1) [(w.heap.size+1+1,[.int .i64 d,.int .i64 m]),(w.heap.size+1,[.int .i64 c.f,.int .i64 c.a,.int .i64 c.b,.int .i64 c.c,.int .i64 c.d,.int .i64 c.p,.int .i64 c.q,.int .i64 c.r,.int .i64 c.s]),(w.heap.size,[.slice na L.length nc,.slice da M.length dc,.int .i64 i0,.int .i64 i1])]:=Ho.call hoA hb;have hs1:=H1.size;have hz1:=hb.size
     (try simp at hz1)
     clear hb;have h0_1:=(H1.at 2 rfl).c;have h1_1:=(H1.at 1 rfl).c;have h2_1:=(H1.at 0 rfl).c;have zx1:=ai (zq (w.heap.size) (w1.heap.size))<|ai (zq (w.heap.size+1) (w1.heap.size))<|zq (w.heap.size+1+1) (w1.heap.size)
     go_wp2_with fail
     refine (small33_any d _ (HN.out.kept H1.below) hl).mono ?_;rintro r w2 ⟨rfl,hb⟩;rw [ES.out];have H2:Ho w w2 (w.heap.size+1+1+1) [(w.heap.size+1+1,[.int .i64 d,.int .i64 m]),(w.heap.size+1,[.int .i64 c.f,.int .i64 c.a,.int .i64 c.b,.int .i64 c.c,.int .i64 c.d,.int .i64 c.p,.int .i64 c.q,.int .i64 c.r,.int .i64 c.s]),(w.heap.size,[.slice na L.length nc,.slice da M.length dc,.int .i64 i0,.int .i64 i1])]:=Ho.call hoA hb;clear h0_1 h1_1 h2_1 zx1;have hs2:=H2.size;have hz2:=hb.size
     (try simp at hz2)
     clear hb;have h0_2:=(H2.at 2 rfl).c;have h1_2:=(H2.at 1 rfl).c;have h2_2:=(H2.at 0 rfl).c;have zx2:=ai (zq (w.heap.size) (w2.heap.size))<|ai (zq (w.heap.size+1) (w2.heap.size))<|zq (w.heap.size+1+1) (w2.heap.size)
     go_wp2_with fail
     go_ret
     exact ⟨rfl,H2.below⟩
    ·have iw:IntKind.i64.wrap (m+1)=m+1:=IntWalk.i64_in _ (by omega);have hp:=HPP.out (by omega) (by omega) (by omega);unfold bouncesP at hp;obtain ⟨⟨⟨x,y,z⟩,e⟩,hx⟩:∃r:C3 × Int,shareR L M i0 i1 c d m=r:=⟨_,rfl⟩;obtain ⟨⟨⟨p,q,r⟩,f⟩,hf⟩:∃r:C3 × Int,shareR L M i0 i1 c d (m+1)=r:=⟨_,rfl⟩;rw [hx,hf] at hp;dsimp only at hp;obtain ⟨g1,g2⟩:=hp;have X1:=Lib.hid hx;have X2:=Lib.hid hf;have G1:=Lib.hid g1;have G2:=Lib.hid g2;clear hx hf g1 g2;have H0:=((((Ho.nil w).bx [.slice na L.length nc,.slice da M.length dc,.int .i64 i0,.int .i64 i1] 27 (w.heap.size) (by simp)).bx [.int .i64 c.f,.int .i64 c.a,.int .i64 c.b,.int .i64 c.c,.int .i64 c.d,.int .i64 c.p,.int .i64 c.q,.int .i64 c.r,.int .i64 c.s] 29 (w.heap.size+1) (by simp)).bx [.int .i64 d,.int .i64 m] 62 (w.heap.size+1+1) (by simp));go_enter Try.func8,Try.ntmps8
     go_wp2_with fail
     refine (awake33_any _).mono ?_;rintro r w1 ⟨rfl,hb⟩;have H1:Ho w w1 (w.heap.size+1+1+1) [(w.heap.size+1+1,[.int .i64 d,.int .i64 m]),(w.heap.size+1,[.int .i64 c.f,.int .i64 c.a,.int .i64 c.b,.int .i64 c.c,.int .i64 c.d,.int .i64 c.p,.int .i64 c.q,.int .i64 c.r,.int .i64 c.s]),(w.heap.size,[.slice na L.length nc,.slice da M.length dc,.int .i64 i0,.int .i64 i1])]:=Ho.call hoA hb;have hs1:=H1.size;have hz1:=hb.size
     (try simp at hz1)
     clear hb;have h0_1:=(H1.at 2 rfl).c;have h1_1:=(H1.at 1 rfl).c;have h2_1:=(H1.at 0 rfl).c;have zx1:=ai (zq (w.heap.size) (w1.heap.size))<|ai (zq (w.heap.size+1) (w1.heap.size))<|zq (w.heap.size+1+1) (w1.heap.size)
     go_wp2_with fail
     refine (small33_any d _ (HN.out.kept H1.below) hl).mono ?_;rintro r w2 ⟨rfl,hb⟩;rw [ES.out];have H2:Ho w w2 (w.heap.size+1+1+1) [(w.heap.size+1+1,[.int .i64 d,.int .i64 m]),(w.heap.size+1,[.int .i64 c.f,.int .i64 c.a,.int .i64 c.b,.int .i64 c.c,.int .i64 c.d,.int .i64 c.p,.int .i64 c.q,.int .i64 c.r,.int .i64 c.s]),(w.heap.size,[.slice na L.length nc,.slice da M.length dc,.int .i64 i0,.int .i64 i1])]:=Ho.call hoA hb;clear h0_1 h1_1 h2_1 zx1;have hs2:=H2.size;have hz2:=hb.size
     (try simp at hz2)
     clear hb;have h0_2:=(H2.at 2 rfl).c;have h1_2:=(H2.at 1 rfl).c;have h2_2:=(H2.at 0 rfl).c;have zx2:=ai (zq (w.heap.size) (w2.heap.size))<|ai (zq (w.heap.size+1) (w2.heap.size))<|zq (w.heap.size+1+1) (w2.heap.size)
     go_wp2_with fail
     refine (share_any c d m _ (HN.out.kept H2.below) (HP.out.kept H2.below)).mono ?_;rintro r w3 ⟨rfl,hb⟩;rw [X1.out];unfold c3;dsimp only;have H3:Ho w w3 (w.heap.size+1+1+1) [(w.heap.size+1+1,[.int .i64 d,.int .i64 m]),(w.heap.size+1,[.int .i64 c.f,.int .i64 c.a,.int .i64 c.b,.int .i64 c.c,.int .i64 c.d,.int .i64 c.p,.int .i64 c.q,.int .i64 c.r,.int .i64 c.s]),(w.heap.size,[.slice na L.length nc,.slice da M.length dc,.int .i64 i0,.int .i64 i1])]:=Ho.call hoA hb;clear h0_2 h1_2 h2_2 zx2;have hs3:=H3.size;have hz3:=hb.size
     (try simp at hz3)
     clear hb;have h0_3:=(H3.at 2 rfl).c;have h1_3:=(H3.at 1 rfl).c;have h2_3:=(H3.at 0 rfl).c;have zx3:=ai (zq (w.heap.size) (w3.heap.size))<|ai (zq (w.heap.size+1) (w3.heap.size))<|zq (w.heap.size+1+1) (w3.heap.size)
     go_wp2_with fail
     refine (share_any c d (m+1) _ (HN.out.kept (H3.alc (.cells (List.toArray [.int .i64 x,.int .i64 y,.int .i64 z]) 65)).below) (HP.out.kept (H3.alc (.cells (List.toArray [.int .i64 x,.int .i64 y,.int .i64 z]) 65)).below)).mono ?_;rintro r w4 ⟨rfl,hb⟩;rw [X2.out];unfold c3;dsimp only;have H4:Ho w w4 (w.heap.size+1+1+1) [(w.heap.size+1+1,[.int .i64 d,.int .i64 m]),(w.heap.size+1,[.int .i64 c.f,.int .i64 c.a,.int .i64 c.b,.int .i64 c.c,.int .i64 c.d,.int .i64 c.p,.int .i64 c.q,.int .i64 c.r,.int .i64 c.s]),(w.heap.size,[.slice na L.length nc,.slice da M.length dc,.int .i64 i0,.int .i64 i1])]:=Ho.call hoA hb;have n_4:Bx w4 (w3.heap.size) [.int .i64 x,.int .i64 y,.int .i64 z]:=Bx.kept bxA hb;clear h0_3 h1_3 h2_3 zx3;have hs4:=H4.size;have hz4:=hb.size
     (try simp at hz4)
     clear hb;have h0_4:=(H4.at 2 rfl).c;have h1_4:=(H4.at 1 rfl).c;have h2_4:=(H4.at 0 rfl).c;have n_4c:=n_4.c;have n_4f:=n_4.f;have n_4l:=n_4.lt;have zx4:=ai (zq (w3.heap.size) (w4.heap.size))<|ai (zq (w.heap.size) (w4.heap.size))<|ai (zq (w.heap.size+1) (w4.heap.size))<|ai (zq (w.heap.size+1+1) (w4.heap.size))<|ai (zp (w3.heap.size) (w.heap.size))<|ai (zp (w3.heap.size) (w.heap.size+1))<|zp (w3.heap.size) (w.heap.size+1+1)
     by_cases he:e=0
     ·obtain ⟨k1,k2,k3,k4⟩:=G2.out he;subst he;subst k1
      have k2':¬(p<x):=by omega
      have k3':¬(q<y):=by omega
      have k4':¬(z<r):=by omega
      go_wp2_with fail
      go_ret
      exact ⟨rfl,(H4.alc _).below⟩
     ·obtain rfl:=G1.out he
      have ne:(e != 0)=true:=by simpa using he
      go_wp2_with fail
      go_ret
      exact ⟨rfl,(H4.alc _).below⟩
end Go.Proofs.Ytiecdgcdcpmgaaa.Iv
