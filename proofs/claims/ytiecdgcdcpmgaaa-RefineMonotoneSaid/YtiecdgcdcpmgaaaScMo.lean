/- RefineMonotone returns true, where the plain facts hold. -/
import Derived.Test.YtiecdgcdcpmgaaaM29
import Derived.Test.YtiecdgcdcpmgaaaScSm
import Derived.Test.YtiecdgcdcpmgaaaM06
namespace Go.Proofs.Ytiecdgcdcpmgaaa.Iv
open Go.RowKit
attribute [local go_sem] Oper.semAt_some
structure MonoK (d x y z p q r:Int):Prop where
 d0:0≤d
 x0:0≤x
 y0:0≤y
 z0:0≤z
 p0:0≤p
 q0:0≤q
 r0:0≤r
 s:x+y+z=2 ^ d.toNat
 t:p+q+r=2*2 ^ d.toNat
 a:2*x≤p
 b:2*y≤q
 c:r≤2*z
def monoP (L:List D) (M:List (Int × Int)) (i0 i1:Int) (c:CV) (d m:Int):Prop:=
 (¬((shareR L M i0 i1 c d m).2=0∧(shareR L M i0 i1 c (d+1) m).2=0)→(shareR L M i0 i1 c d m).2=(shareR L M i0 i1 c (d+1) m).2∨d = -1) ∧
 ((shareR L M i0 i1 c d m).2=0→(shareR L M i0 i1 c (d+1) m).2=0→MonoK d (shareR L M i0 i1 c d m).1.x (shareR L M i0 i1 c d m).1.y (shareR L M i0 i1 c d m).1.z (shareR L M i0 i1 c (d+1) m).1.x (shareR L M i0 i1 c (d+1) m).1.y (shareR L M i0 i1 c (d+1) m).1.z)
set_option maxRecDepth 100000 in
set_option maxHeartbeats 16000000 in
theorem mono_law {na da:Option Addr} {nc dc:Nat} {L:List D} {M:List (Int × Int)} {i0 i1 d m:Int} (c:CV) (w:World) (hn:NAt w na L) (hp:PAt w da M) (hl:L.length*48≤140737488351232) (hd : -9223372036854775808≤d)
  (hP:d≤3→monoP L M i0 i1 c d m) :
  Calls Try.prog 6 #[.agg #[.slice na L.length nc,.slice da M.length dc,.int .i64 i0,.int .i64 i1],cellv c,.agg #[.int .i64 d,.int .i64 m]] w fun e w'=>e = .returned (.bool true)∧Below w.heap.size w w':=by
 unfold cellv;have HN:=Lib.hid hn;have HP:=Lib.hid hp;have HPP:=Lib.hid hP;clear hn hp hP;cases hs:smallB L.length M.length d
 ·have ES:=Lib.hid hs;clear hs;have H0:=((((Ho.nil w).bx [.slice na L.length nc,.slice da M.length dc,.int .i64 i0,.int .i64 i1] 27 (w.heap.size) (by simp)).bx [.int .i64 c.f,.int .i64 c.a,.int .i64 c.b,.int .i64 c.c,.int .i64 c.d,.int .i64 c.p,.int .i64 c.q,.int .i64 c.r,.int .i64 c.s] 29 (w.heap.size+1) (by simp)).bx [.int .i64 d,.int .i64 m] 62 (w.heap.size+1+1) (by simp));go_enter Try.func6,Try.ntmps6
  go_wp2_with fail
  refine (awake33_any _).mono ?_;rintro r w1 ⟨rfl,hb⟩;have H1:Ho w w1 (w.heap.size+1+1+1) [(w.heap.size+1+1,[.int .i64 d,.int .i64 m]),(w.heap.size+1,[.int .i64 c.f,.int .i64 c.a,.int .i64 c.b,.int .i64 c.c,.int .i64 c.d,.int .i64 c.p,.int .i64 c.q,.int .i64 c.r,.int .i64 c.s]),(w.heap.size,[.slice na L.length nc,.slice da M.length dc,.int .i64 i0,.int .i64 i1])]:=Ho.call hoA hb;have hs1:=H1.size;have hz1:=hb.size
  (try simp at hz1)
  clear hb;have h0_1:=(H1.at 2 rfl).c;have h1_1:=(H1.at 1 rfl).c;have h2_1:=(H1.at 0 rfl).c;have zx1:=ai (zq (w.heap.size) (w1.heap.size))<|ai (zq (w.heap.size+1) (w1.heap.size))<|zq (w.heap.size+1+1) (w1.heap.size)
  go_wp2_with fail
  refine (small33_any d _ (HN.out.kept H1.below) hl).mono ?_;rintro r w2 ⟨rfl,hb⟩;rw [ES.out];have H2:Ho w w2 (w.heap.size+1+1+1) [(w.heap.size+1+1,[.int .i64 d,.int .i64 m]),(w.heap.size+1,[.int .i64 c.f,.int .i64 c.a,.int .i64 c.b,.int .i64 c.c,.int .i64 c.d,.int .i64 c.p,.int .i64 c.q,.int .i64 c.r,.int .i64 c.s]),(w.heap.size,[.slice na L.length nc,.slice da M.length dc,.int .i64 i0,.int .i64 i1])]:=Ho.call hoA hb;clear h0_1 h1_1 h2_1 zx1;have hs2:=H2.size;have hz2:=hb.size
  (try simp at hz2)
  clear hb;have h0_2:=(H2.at 2 rfl).c;have h1_2:=(H2.at 1 rfl).c;have h2_2:=(H2.at 0 rfl).c;have zx2:=ai (zq (w.heap.size) (w2.heap.size))<|ai (zq (w.heap.size+1) (w2.heap.size))<|zq (w.heap.size+1+1) (w2.heap.size)
  go_wp2_with fail
  go_ret
  exact ⟨rfl,H2.below⟩
 ·have ES:=Lib.hid hs;clear hs
  by_cases h1:3<d
  ·have H0:=((((Ho.nil w).bx [.slice na L.length nc,.slice da M.length dc,.int .i64 i0,.int .i64 i1] 27 (w.heap.size) (by simp)).bx [.int .i64 c.f,.int .i64 c.a,.int .i64 c.b,.int .i64 c.c,.int .i64 c.d,.int .i64 c.p,.int .i64 c.q,.int .i64 c.r,.int .i64 c.s] 29 (w.heap.size+1) (by simp)).bx [.int .i64 d,.int .i64 m] 62 (w.heap.size+1+1) (by simp));go_enter Try.func6,Try.ntmps6
   go_wp2_with fail
   refine (awake33_any _).mono ?_;rintro r w1 ⟨rfl,hb⟩;have H1:Ho w w1 (w.heap.size+1+1+1) [(w.heap.size+1+1,[.int .i64 d,.int .i64 m]),(w.heap.size+1,[.int .i64 c.f,.int .i64 c.a,.int .i64 c.b,.int .i64 c.c,.int .i64 c.d,.int .i64 c.p,.int .i64 c.q,.int .i64 c.r,.int .i64 c.s]),(w.heap.size,[.slice na L.length nc,.slice da M.length dc,.int .i64 i0,.int .i64 i1])]:=Ho.call hoA hb;have hs1:=H1.size;have hz1:=hb.size
   (try simp at hz1)
   clear hb;have h0_1:=(H1.at 2 rfl).c;have h1_1:=(H1.at 1 rfl).c;have h2_1:=(H1.at 0 rfl).c;have zx1:=ai (zq (w.heap.size) (w1.heap.size))<|ai (zq (w.heap.size+1) (w1.heap.size))<|zq (w.heap.size+1+1) (w1.heap.size)
   go_wp2_with fail
   refine (small33_any d _ (HN.out.kept H1.below) hl).mono ?_;rintro r w2 ⟨rfl,hb⟩;rw [ES.out];have H2:Ho w w2 (w.heap.size+1+1+1) [(w.heap.size+1+1,[.int .i64 d,.int .i64 m]),(w.heap.size+1,[.int .i64 c.f,.int .i64 c.a,.int .i64 c.b,.int .i64 c.c,.int .i64 c.d,.int .i64 c.p,.int .i64 c.q,.int .i64 c.r,.int .i64 c.s]),(w.heap.size,[.slice na L.length nc,.slice da M.length dc,.int .i64 i0,.int .i64 i1])]:=Ho.call hoA hb;clear h0_1 h1_1 h2_1 zx1;have hs2:=H2.size;have hz2:=hb.size
   (try simp at hz2)
   clear hb;have h0_2:=(H2.at 2 rfl).c;have h1_2:=(H2.at 1 rfl).c;have h2_2:=(H2.at 0 rfl).c;have zx2:=ai (zq (w.heap.size) (w2.heap.size))<|ai (zq (w.heap.size+1) (w2.heap.size))<|zq (w.heap.size+1+1) (w2.heap.size)
   go_wp2_with fail
   go_ret
   exact ⟨rfl,H2.below⟩
  ·have iw:IntKind.i64.wrap (d+1)=d+1:=IntWalk.i64_in _ (by omega);have hp:=HPP.out (by omega);unfold monoP at hp;obtain ⟨⟨⟨x,y,z⟩,e⟩,hx⟩:∃r:C3 × Int,shareR L M i0 i1 c d m=r:=⟨_,rfl⟩;obtain ⟨⟨⟨p,q,r⟩,f⟩,hf⟩:∃r:C3 × Int,shareR L M i0 i1 c (d+1) m=r:=⟨_,rfl⟩;rw [hx,hf] at hp;dsimp only at hp;obtain ⟨g1,g2⟩:=hp;have X1:=Lib.hid hx;have X2:=Lib.hid hf;have G1:=Lib.hid g1;have G2:=Lib.hid g2;clear hx hf g1 g2;have H0:=((((Ho.nil w).bx [.slice na L.length nc,.slice da M.length dc,.int .i64 i0,.int .i64 i1] 27 (w.heap.size) (by simp)).bx [.int .i64 c.f,.int .i64 c.a,.int .i64 c.b,.int .i64 c.c,.int .i64 c.d,.int .i64 c.p,.int .i64 c.q,.int .i64 c.r,.int .i64 c.s] 29 (w.heap.size+1) (by simp)).bx [.int .i64 d,.int .i64 m] 62 (w.heap.size+1+1) (by simp));go_enter Try.func6,Try.ntmps6
   go_wp2_with fail
   refine (awake33_any _).mono ?_;rintro r w1 ⟨rfl,hb⟩;have H1:Ho w w1 (w.heap.size+1+1+1) [(w.heap.size+1+1,[.int .i64 d,.int .i64 m]),(w.heap.size+1,[.int .i64 c.f,.int .i64 c.a,.int .i64 c.b,.int .i64 c.c,.int .i64 c.d,.int .i64 c.p,.int .i64 c.q,.int .i64 c.r,.int .i64 c.s]),(w.heap.size,[.slice na L.length nc,.slice da M.length dc,.int .i64 i0,.int .i64 i1])]:=Ho.call hoA hb;have hs1:=H1.size;have hz1:=hb.size
   (try simp at hz1)
   clear hb;have h0_1:=(H1.at 2 rfl).c;have h1_1:=(H1.at 1 rfl).c;have h2_1:=(H1.at 0 rfl).c;have zx1:=ai (zq (w.heap.size) (w1.heap.size))<|ai (zq (w.heap.size+1) (w1.heap.size))<|zq (w.heap.size+1+1) (w1.heap.size)
   go_wp2_with fail
   refine (small33_any d _ (HN.out.kept H1.below) hl).mono ?_;rintro r w2 ⟨rfl,hb⟩;rw [ES.out];have H2:Ho w w2 (w.heap.size+1+1+1) [(w.heap.size+1+1,[.int .i64 d,.int .i64 m]),(w.heap.size+1,[.int .i64 c.f,.int .i64 c.a,.int .i64 c.b,.int .i64 c.c,.int .i64 c.d,.int .i64 c.p,.int .i64 c.q,.int .i64 c.r,.int .i64 c.s]),(w.heap.size,[.slice na L.length nc,.slice da M.length dc,.int .i64 i0,.int .i64 i1])]:=Ho.call hoA hb;clear h0_1 h1_1 h2_1 zx1;have hs2:=H2.size;have hz2:=hb.size
   (try simp at hz2)
   clear hb;have h0_2:=(H2.at 2 rfl).c;have h1_2:=(H2.at 1 rfl).c;have h2_2:=(H2.at 0 rfl).c;have zx2:=ai (zq (w.heap.size) (w2.heap.size))<|ai (zq (w.heap.size+1) (w2.heap.size))<|zq (w.heap.size+1+1) (w2.heap.size)
   go_wp2_with fail
   refine (share_any c d m _ (HN.out.kept H2.below) (HP.out.kept H2.below)).mono ?_;rintro r w3 ⟨rfl,hb⟩;rw [X1.out];unfold c3;dsimp only;have H3:Ho w w3 (w.heap.size+1+1+1) [(w.heap.size+1+1,[.int .i64 d,.int .i64 m]),(w.heap.size+1,[.int .i64 c.f,.int .i64 c.a,.int .i64 c.b,.int .i64 c.c,.int .i64 c.d,.int .i64 c.p,.int .i64 c.q,.int .i64 c.r,.int .i64 c.s]),(w.heap.size,[.slice na L.length nc,.slice da M.length dc,.int .i64 i0,.int .i64 i1])]:=Ho.call hoA hb;clear h0_2 h1_2 h2_2 zx2;have hs3:=H3.size;have hz3:=hb.size
   (try simp at hz3)
   clear hb;have h0_3:=(H3.at 2 rfl).c;have h1_3:=(H3.at 1 rfl).c;have h2_3:=(H3.at 0 rfl).c;have zx3:=ai (zq (w.heap.size) (w3.heap.size))<|ai (zq (w.heap.size+1) (w3.heap.size))<|zq (w.heap.size+1+1) (w3.heap.size)
   go_wp2_with fail
   refine (share_any c (d+1) m _ (HN.out.kept (H3.alc (.cells (List.toArray [.int .i64 x,.int .i64 y,.int .i64 z]) 65)).below) (HP.out.kept (H3.alc (.cells (List.toArray [.int .i64 x,.int .i64 y,.int .i64 z]) 65)).below)).mono ?_;rintro r w4 ⟨rfl,hb⟩;rw [X2.out];unfold c3;dsimp only;have H4:Ho w w4 (w.heap.size+1+1+1) [(w.heap.size+1+1,[.int .i64 d,.int .i64 m]),(w.heap.size+1,[.int .i64 c.f,.int .i64 c.a,.int .i64 c.b,.int .i64 c.c,.int .i64 c.d,.int .i64 c.p,.int .i64 c.q,.int .i64 c.r,.int .i64 c.s]),(w.heap.size,[.slice na L.length nc,.slice da M.length dc,.int .i64 i0,.int .i64 i1])]:=Ho.call hoA hb;have n_4:Bx w4 (w3.heap.size) [.int .i64 x,.int .i64 y,.int .i64 z]:=Bx.kept bxA hb;clear h0_3 h1_3 h2_3 zx3;have hs4:=H4.size;have hz4:=hb.size
   (try simp at hz4)
   clear hb;have h0_4:=(H4.at 2 rfl).c;have h1_4:=(H4.at 1 rfl).c;have h2_4:=(H4.at 0 rfl).c;have n_4c:=n_4.c;have n_4f:=n_4.f;have n_4l:=n_4.lt;have zx4:=ai (zq (w3.heap.size) (w4.heap.size))<|ai (zq (w.heap.size) (w4.heap.size))<|ai (zq (w.heap.size+1) (w4.heap.size))<|ai (zq (w.heap.size+1+1) (w4.heap.size))<|ai (zp (w3.heap.size) (w.heap.size))<|ai (zp (w3.heap.size) (w.heap.size+1))<|zp (w3.heap.size) (w.heap.size+1+1)
   by_cases hz:e=0∧f=0
   ·obtain ⟨rfl,rfl⟩:=hz;obtain ⟨d0,x0,y0,z0,p0,q0,r0,s,t,a,b,c⟩:=G2.out rfl rfl
    have h4:d=0∨d=1∨d=2∨d=3:=by omega
    clear hd h1;rcases h4 with rfl|rfl|rfl|rfl
    ·have s':x+y+z=1:=s;have t':p+q+r=2:=t;clear s t;have w1:IntKind.i64.wrap (x+y)=x+y:=IntWalk.i64_in _ (by omega)
     have w2:IntKind.i64.wrap (x+y+z)=1:=by rw [s'];rfl
     have w3:IntKind.i64.wrap (p+q)=p+q:=IntWalk.i64_in _ (by omega)
     have w4:IntKind.i64.wrap (p+q+r)=2:=by rw [t'];rfl
     have w5:IntKind.i64.wrap (2*x)=2*x:=IntWalk.i64_in _ (by omega);have w6:IntKind.i64.wrap (2*y)=2*y:=IntWalk.i64_in _ (by omega);have w7:IntKind.i64.wrap (2*z)=2*z:=IntWalk.i64_in _ (by omega)
     have a':¬(p<2*x):=by omega
     have b':¬(q<2*y):=by omega
     have c':¬(2*z<r):=by omega
     go_wp2_with fail
     go_quiet (fail)
     all_goals go_wp2_with fail
     all_goals go_ret
     all_goals exact ⟨rfl,bdrewN' (H4.alc _).below _⟩
    ·have s':x+y+z=2:=s;have t':p+q+r=4:=t;clear s t;have w1:IntKind.i64.wrap (x+y)=x+y:=IntWalk.i64_in _ (by omega)
     have w2:IntKind.i64.wrap (x+y+z)=2:=by rw [s'];rfl
     have w3:IntKind.i64.wrap (p+q)=p+q:=IntWalk.i64_in _ (by omega)
     have w4:IntKind.i64.wrap (p+q+r)=4:=by rw [t'];rfl
     have w5:IntKind.i64.wrap (2*x)=2*x:=IntWalk.i64_in _ (by omega);have w6:IntKind.i64.wrap (2*y)=2*y:=IntWalk.i64_in _ (by omega);have w7:IntKind.i64.wrap (2*z)=2*z:=IntWalk.i64_in _ (by omega)
     have a':¬(p<2*x):=by omega
     have b':¬(q<2*y):=by omega
     have c':¬(2*z<r):=by omega
     go_wp2_with fail
     go_quiet (fail)
     all_goals go_wp2_with fail
     all_goals go_ret
     all_goals exact ⟨rfl,bdrewN' (H4.alc _).below _⟩
    ·have s':x+y+z=4:=s;have t':p+q+r=8:=t;clear s t;have w1:IntKind.i64.wrap (x+y)=x+y:=IntWalk.i64_in _ (by omega)
     have w2:IntKind.i64.wrap (x+y+z)=4:=by rw [s'];rfl
     have w3:IntKind.i64.wrap (p+q)=p+q:=IntWalk.i64_in _ (by omega)
     have w4:IntKind.i64.wrap (p+q+r)=8:=by rw [t'];rfl
     have w5:IntKind.i64.wrap (2*x)=2*x:=IntWalk.i64_in _ (by omega);have w6:IntKind.i64.wrap (2*y)=2*y:=IntWalk.i64_in _ (by omega);have w7:IntKind.i64.wrap (2*z)=2*z:=IntWalk.i64_in _ (by omega)
     have a':¬(p<2*x):=by omega
     have b':¬(q<2*y):=by omega
     have c':¬(2*z<r):=by omega
     go_wp2_with fail
     go_quiet (fail)
     all_goals go_wp2_with fail
     all_goals go_ret
     all_goals exact ⟨rfl,bdrewN' (H4.alc _).below _⟩
    ·have s':x+y+z=8:=s;have t':p+q+r=16:=t;clear s t;have w1:IntKind.i64.wrap (x+y)=x+y:=IntWalk.i64_in _ (by omega)
     have w2:IntKind.i64.wrap (x+y+z)=8:=by rw [s'];rfl
     have w3:IntKind.i64.wrap (p+q)=p+q:=IntWalk.i64_in _ (by omega)
     have w4:IntKind.i64.wrap (p+q+r)=16:=by rw [t'];rfl
     have w5:IntKind.i64.wrap (2*x)=2*x:=IntWalk.i64_in _ (by omega);have w6:IntKind.i64.wrap (2*y)=2*y:=IntWalk.i64_in _ (by omega);have w7:IntKind.i64.wrap (2*z)=2*z:=IntWalk.i64_in _ (by omega)
     have a':¬(p<2*x):=by omega
     have b':¬(q<2*y):=by omega
     have c':¬(2*z<r):=by omega
     go_wp2_with fail
     go_quiet (fail)
     all_goals go_wp2_with fail
     all_goals go_ret
     all_goals exact ⟨rfl,bdrewN' (H4.alc _).below _⟩
   ·have g:=G1.out hz
    by_cases he:e=0
    ·subst he;have ne:¬(f=0):=fun h=>hz ⟨rfl,h⟩;obtain rfl:d = -1:=g.resolve_left (fun h=>ne h.symm);have ne':¬(0=f):=fun h=>ne h.symm
     go_wp2_with fail
     go_ret
     exact ⟨rfl,(H4.alc _).below⟩
    ·by_cases hf:e=f
     ·subst hf
      go_wp2_with fail
      go_ret
      exact ⟨rfl,(H4.alc _).below⟩
     ·obtain rfl:d = -1:=g.resolve_left hf
      go_wp2_with fail
      go_ret
      exact ⟨rfl,(H4.alc _).below⟩
end Go.Proofs.Ytiecdgcdcpmgaaa.Iv
