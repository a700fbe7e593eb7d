/- Plain facts about the halves of a cell. -/
import Derived.Test.YtiecdgcdcpmgaaaSaCi
import Derived.Test.YtiecdgcdcpmgaaaM06
namespace Go.Proofs.Ytiecdgcdcpmgaaa.Iv
open Go.RowKit
theorem axis_facts {c:CV} {k:Int} (h:axisR c=(k,0)):(vB c.a c.b=true∧vB c.c c.d=true∧vB c.p c.q=true∧vB c.r c.s=true)∧(k=0∨k=1∨k=2∨k=3)∧2≤(getC c k).2 - (getC c k).1 ∧
  c.b - c.a≤(getC c k).2 - (getC c k).1∧c.d - c.c≤(getC c k).2 - (getC c k).1∧c.q - c.p≤(getC c k).2 - (getC c k).1∧c.s - c.r≤(getC c k).2 - (getC c k).1:=by
 have hk:=axis_in (c:=c) (by rw [h]);rw [h] at hk;simp only [axisR,quad,axisL] at h
 by_cases h1:vB c.a c.b=true
 ·by_cases h2:vB c.c c.d=true
  ·by_cases h3:vB c.p c.q=true
   ·by_cases h4:vB c.r c.s=true
    ·refine ⟨⟨h1,h2,h3,h4⟩,hk,?_⟩;obtain ⟨_,u1,_⟩:=vB_iff.1 h1;obtain ⟨_,u2,_⟩:=vB_iff.1 h2;obtain ⟨_,u3,_⟩:=vB_iff.1 h3;obtain ⟨_,u4,_⟩:=vB_iff.1 h4;rw [if_pos h1,if_pos (by omega)] at h;rw [if_pos h2,if_pos h3,if_pos h4,if_pos h3,if_pos h4] at h
     repeat' split at h
     all_goals first
      |(cases h;done)
      |(have e:=congrArg Prod.fst h;dsimp only at e;subst e;simp only [getC];refine ⟨?_,?_,?_,?_,?_⟩<;>(first|omega|(simp;omega)|simp))
    ·exfalso;rw [if_pos h1,if_pos h2,if_pos h3,if_pos h3] at h;simp only [if_neg h4] at h
     repeat' split at h
     all_goals cases h
   ·exfalso;simp only [if_neg h3] at h
    repeat' split at h
    all_goals cases h
  ·exfalso;simp only [if_neg h2] at h
   repeat' split at h
   all_goals cases h
 ·exfalso;simp only [if_neg h1] at h;cases h
theorem ins_refl {a b:Int} (h:vB a b=true):insB a b a b=true:=by simp [insB,h]
theorem ins_put {c:CV} {k lo hi:Int} (hk:k=0∨k=1∨k=2∨k=3) (hv:vB c.a c.b=true∧vB c.c c.d=true∧vB c.p c.q=true∧vB c.r c.s=true) (h:insB lo hi (getC c k).1 (getC c k).2=true):insC (putC c k lo hi) c=true:=by
 obtain ⟨h1,h2,h3,h4⟩:=hv;rcases hk with rfl|rfl|rfl|rfl
 ·show (insB lo hi c.a c.b && (insB c.c c.d c.c c.d && (insB c.p c.q c.p c.q && (insB c.r c.s c.r c.s && decide (c.f=c.f)))))=true;rw [ins_refl h2,ins_refl h3,ins_refl h4,show insB lo hi c.a c.b=true from h];simp
 ·show (insB c.a c.b c.a c.b && (insB lo hi c.c c.d && (insB c.p c.q c.p c.q && (insB c.r c.s c.r c.s && decide (c.f=c.f)))))=true;rw [ins_refl h1,ins_refl h3,ins_refl h4,show insB lo hi c.c c.d=true from h];simp
 ·show (insB c.a c.b c.a c.b && (insB c.c c.d c.c c.d && (insB lo hi c.p c.q && (insB c.r c.s c.r c.s && decide (c.f=c.f)))))=true;rw [ins_refl h1,ins_refl h2,ins_refl h4,show insB lo hi c.p c.q=true from h];simp
 ·show (insB c.a c.b c.a c.b && (insB c.c c.d c.c c.d && (insB c.p c.q c.p c.q && (insB lo hi c.r c.s && decide (c.f=c.f)))))=true;rw [ins_refl h1,ins_refl h2,ins_refl h3,show insB lo hi c.r c.s=true from h];simp
theorem vget {c:CV} {k:Int} (hk:k=0∨k=1∨k=2∨k=3) (hv:vB c.a c.b=true∧vB c.c c.d=true∧vB c.p c.q=true∧vB c.r c.s=true):vB (getC c k).1 (getC c k).2=true:=by
 rcases hk with rfl|rfl|rfl|rfl
 ·exact hv.1
 ·exact hv.2.1
 ·exact hv.2.2.1
 ·exact hv.2.2.2
theorem halves_eq {c:CV} {k x0 x1:Int} (h:axisR c=(k,0)) (hx:getC c k=(x0,x1)):halvesR c=⟨putC c k x0 ((x0+x1) / 2),putC c k ((x0+x1) / 2) x1,0⟩:=by
 obtain ⟨hv,hk,hw,_⟩:=axis_facts h;have v:=vget hk hv;rw [hx] at v hw;dsimp only at v hw;rw [halvesR,h];dsimp only;rw [if_pos rfl,hx];dsimp only;rw [splitR,if_pos v,if_neg (by omega)]
theorem halves_in {c:CV} {k x0 x1:Int} (h:axisR c=(k,0)) (hx:getC c k=(x0,x1)):insC (putC c k x0 ((x0+x1) / 2)) c=true∧insC (putC c k ((x0+x1) / 2) x1) c=true:=by
 obtain ⟨hv,hk,hw,_⟩:=axis_facts h;have v:=vget hk hv;rw [hx] at v hw;dsimp only at v hw;obtain ⟨v1,v2,v3⟩:=vB_iff.1 v;refine ⟨ins_put hk hv ?_,ins_put hk hv ?_⟩
 ·rw [hx];dsimp only;rw [insB,v,show vB x0 ((x0+x1) / 2)=true from vB_iff.2 ⟨by omega,by omega,by omega⟩];simp;omega
 ·rw [hx];dsimp only;rw [insB,v,show vB ((x0+x1) / 2) x1=true from vB_iff.2 ⟨by omega,by omega,by omega⟩];simp;omega
end Go.Proofs.Ytiecdgcdcpmgaaa.Iv
