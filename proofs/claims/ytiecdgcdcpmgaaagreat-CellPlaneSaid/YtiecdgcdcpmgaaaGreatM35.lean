/- Texts PCw, PCy. -/
import Derived.Test.YtiecdgcdcpmgaaaGreatM06
import Derived.Test.YtiecdgcdcpmgaaaGreatM34
import Derived.Test.YtiecdgcdcpmgaaaGreatM29

/- The plain facts that CellHeights asks: a cell on its facet lies under the plane of every other face. -/
namespace Go.Proofs.YtiecdgcdcpmgaaaGreat.Iv
open Go.RowKit
theorem cover_at {f:Int} {t:D} : ∀(l:List (D × Int × Int)) (i kd:Int),coverL f t i l kd=(1,0)→∀(j:Nat) (x:D × Int × Int),l[j]? = some x→¬(i+j=f)→(gapR x.1 x.2.1 x.2.2 t).e=0∧0≤(gapR x.1 x.2.1 x.2.2 t).lo
 | [],i,kd,h,j,x,hx,_=>by simp at hx
 |y::l,i,kd,h,j,x,hx,hj=>by
  unfold coverL at h;split at h
  ·rename_i c
   cases j with
   |zero=>exact absurd (by omega) hj
   |succ j=>exact cover_at l _ _ h j x (by simpa using hx) (by omega)
  ·rename_i c;split at h
   ·rename_i c2
    cases j with
    |zero=>
     obtain rfl:y=x:=by simpa using hx
     obtain ⟨h1,_⟩:=coverL_sub (t':=t) (subD_refl (dot_v (by
      unfold gapR at c2;split at c2
      ·rename_i z;exact z
      ·rename_i z;exact absurd c2 z)).2.1) l _ _ h
     refine ⟨c2,?_⟩;unfold kindS at h1;rw [if_pos c2] at h1;split at h1
     ·exact absurd h1 (by decide)
     ·split at h1
      ·exact absurd h1 (by decide)
      ·rename_i z1 z2;subst h1;have:¬(gapR y.1 y.2.1 y.2.2 t).lo<0:=fun z=>z2 ⟨z,rfl⟩;omega
    |succ j=>exact cover_at l _ _ h j x (by simpa using hx) (by omega)
   ·exact absurd (congrArg Prod.fst h) (by show ¬(0:Int)=1;decide)
theorem bindD_v {r:R} {f:Int→Int→RD} (h:(bindD r f).e=0):r.e=0∧bindD r f=f r.lo r.hi:=by
 unfold bindD at h ⊢;split at h
 ·rename_i c;exact ⟨c,if_pos c⟩
 ·rename_i c;exact absurd h c
theorem point_top {n:D} {dl dh xl xh yl yh:Int} (h:(pointR n dl dh xl xh yl yh).e=0) (hn:0<n.e) :
  (pointR n dl dh xl xh yl yh).d.a=xl∧(pointR n dl dh xl xh yl yh).d.b=xh∧(pointR n dl dh xl xh yl yh).d.c=yl∧(pointR n dl dh xl xh yl yh).d.d=yh∧(pointR n dl dh xl xh yl yh).d.e≤(pointR n dl dh xl xh yl yh).d.f ∧
  dh*16777216 - n.a*xl - n.c*yl≤(pointR n dl dh xl xh yl yh).d.f*n.e:=by
 unfold pointR at h ⊢;obtain ⟨h1,e1⟩:=bindD_v h;rw [e1] at h ⊢;obtain ⟨h2,e2⟩:=bindD_v h;rw [e2] at h ⊢;obtain ⟨h3,e3⟩:=bindD_v h;rw [e3] at h ⊢;obtain ⟨h4,e4⟩:=bindD_v h;rw [e4] at h ⊢;obtain ⟨h5,e5⟩:=bindD_v h;rw [e5];dsimp only;obtain ⟨_,_,va,vx⟩:=mul_v h1;obtain ⟨_,_,vc,vy⟩:=mul_v h2;have m1:=mulQ h1 (A:=n.a) (Y:=xl) (C:=1) (Int.le_refl _) (vB_iff.1 va).2.1 (by decide) (by omega) (by have:=(vB_iff.1 vx).2.1;omega);have m2:=mulQ h2 (A:=n.c) (Y:=yl) (C:=1) (Int.le_refl _) (vB_iff.1 vc).2.1 (by decide) (by omega) (by have:=(vB_iff.1 vy).2.1;omega);have a3:=(add_v h3).1;have s4:=sub_v h4;obtain ⟨d1,d2⟩:=div_v h5;have q:=(incl_div (sub_refl d1) (sub_refl d2) h5).2.v;obtain ⟨⟨dp,dq,de⟩,hd⟩:∃r:R,divR (subR dl dh (addR (mulR n.a n.b xl xh).lo (mulR n.a n.b xl xh).hi (mulR n.c n.d yl yh).lo (mulR n.c n.d yl yh).hi).lo (addR (mulR n.a n.b xl xh).lo (mulR n.a n.b xl xh).hi (mulR n.c n.d yl yh).lo (mulR n.c n.d yl yh).hi).hi).lo (subR dl dh (addR (mulR n.a n.b xl xh).lo (mulR n.a n.b xl xh).hi (mulR n.c n.d yl yh).lo (mulR n.c n.d yl yh).hi).lo (addR (mulR n.a n.b xl xh).lo (mulR n.a n.b xl xh).hi (mulR n.c n.d yl yh).lo (mulR n.c n.d yl yh).hi).hi).hi n.e n.f=r:=⟨_,rfl⟩;rw [hd] at h5 q ⊢;dsimp only at h5 q ⊢;subst h5;have D:=(div_ok hd (B:=n.e) (vB_iff.1 d1).2.1 (Int.le_refl _) (Int.le_refl _) (vB_iff.1 d2).2.1).1;refine ⟨rfl,rfl,rfl,rfl,(vB_iff.1 q).2.1,?_⟩;rcases D with ⟨_,_,D⟩|⟨D,_⟩
 ·rw [s4.1,a3] at D;dsimp only at D;omega
 ·omega
theorem zip_nth {L:List D} {M:List (Int × Int)} {i0 i1 f:Int} (h:vBody L M i0 i1=true) (hf:0≤f∧f<(L.length:Int)):(L.zip M)[f.toNat]? = some (nthD L f,(nthP M f).1,(nthP M f).2):=by
 simp only [vBody,Bool.and_eq_true,decide_eq_true_eq] at h;obtain ⟨⟨_,_,h1⟩,_⟩:=h
 have hk:f.toNat<L.length:=by omega
 have hm:f.toNat<M.length:=by omega
 have z:(L.zip M)[f.toNat]? = some (L[f.toNat],M[f.toNat]):=List.getElem?_zip_eq_some.2 ⟨List.getElem?_eq_getElem hk,List.getElem?_eq_getElem hm⟩;rw [nthD,nthP,List.getElem?_eq_getElem hk,List.getElem?_eq_getElem hm,z];rfl
theorem cover_cell {L:List D} {M:List (Int × Int)} {i0 i1:Int} {c:CV} (h:(coverR L M i0 i1 c).2=0) (h1:(coverR L M i0 i1 c).1=1):vCell L M i0 i1 c=true∧coverL c.f (pointV L M i0 i1 c).d 0 (L.zip M) 1=(1,0)∧(pointV L M i0 i1 c).e=0:=by
 have hp:=cover_point (Prod.ext h1 h:coverR L M i0 i1 c=(1,0));refine ⟨?_,?_,hp⟩
 ·unfold pointV at hp;split at hp
  ·rename_i z;exact z
  ·exact absurd hp (by decide)
 ·have:coverR L M i0 i1 c=(1,0):=Prod.ext h1 h;rw [coverR,if_pos hp] at this;exact this
theorem pointV_top {L:List D} {M:List (Int × Int)} {i0 i1:Int} {c:CV} (h:vCell L M i0 i1 c=true) (hp:(pointV L M i0 i1 c).e=0) :
  (pointV L M i0 i1 c).d.a=c.a∧(pointV L M i0 i1 c).d.b=c.b∧(pointV L M i0 i1 c).d.c=c.c∧(pointV L M i0 i1 c).d.d=c.d∧(pointV L M i0 i1 c).d.e≤(pointV L M i0 i1 c).d.f ∧
  (nthP M c.f).2*16777216 - (nthD L c.f).a*c.a - (nthD L c.f).c*c.c≤(pointV L M i0 i1 c).d.f*(nthD L c.f).e∧0<(nthD L c.f).e∧vBody L M i0 i1=true∧(0≤c.f∧c.f<(L.length:Int))∧c.a≤c.b∧c.c≤c.d:=by
 have hv:=h;simp only [vCell,vC,Bool.and_eq_true,decide_eq_true_eq] at hv;obtain ⟨v1,v2,v3,⟨v4,v5,_⟩,_⟩:=hv;rw [pointV,if_pos h] at hp ⊢;obtain ⟨t1,t2,t3,t4,t5,t6⟩:=point_top hp v3;exact ⟨t1,t2,t3,t4,t5,t6,v3,v1,v2,(vB_iff.1 v4).2.1,(vB_iff.1 v5).2.1⟩
theorem under {L:List D} {M:List (Int × Int)} {i0 i1:Int} {c d:CV} (ha:c.a=d.a) (hc:c.c=d.c) (ne:¬(c.f=d.f)) (h:(coverR L M i0 i1 c).2=0) (h1:(coverR L M i0 i1 c).1=1)
  (k:vCell L M i0 i1 d=true) (kp:(pointV L M i0 i1 d).e=0):(pointV L M i0 i1 c).d.f≤(pointV L M i0 i1 d).d.f:=by
 obtain ⟨c1,c2,c3⟩:=cover_cell h h1;obtain ⟨p1,p2,p3,p4,p5,_,_,_,_,pa,pc⟩:=pointV_top c1 c3;obtain ⟨_,_,_,_,_,q6,q7,q8,q9,_,_⟩:=pointV_top k kp;obtain ⟨g1,g2⟩:=cover_at _ _ _ c2 d.f.toNat _ (zip_nth q8 q9) (by omega);have w:=vbody_nth q8 q9;dsimp only at g1 g2;unfold gapR at g1 g2;split at g1
 case isFalse z=>exact absurd g1 z
 rename_i z;rw [if_pos z] at g2;have s:=(sub_v g1).1;rw [s] at g2;dsimp only at g2;have Q:=(dotQ z (x:=(nthD L d.f).a) (y:=(nthD L d.f).c) (z:=(nthD L d.f).e) (X:=c.a) (Y:=c.c) (Z:=(pointV L M i0 i1 c).d.f) (C:=1) (by decide) (In3.low w.1) ⟨by omega,by omega,by omega,by omega,by omega,by omega⟩).2;have le:=(vB_iff.1 w.2).2.1;rw [ha,hc] at Q;refine Int.le_of_mul_le_mul_right (a:=(nthD L d.f).e) ?_ q7;rw [Int.mul_comm (nthD L d.f).e] at Q;omega
theorem heights_plain {L:List D} {M:List (Int × Int)} {i0 i1:Int} {c d:CV} (e1:c.a=d.a) (e2:c.b=d.b) (e3:c.c=d.c) (e4:c.d=d.d) (e5:c.p=d.p) (e6:c.q=d.q) (e7:c.r=d.r) (e8:c.s=d.s):heightsP L M i0 i1 c d:=by
 intro h1 h2 h3 h4 h5 h6;obtain ⟨c1,_,_⟩:=cover_cell h1 h5;obtain ⟨d1,_,_⟩:=cover_cell h2 h6;obtain ⟨_,_,_,_,p5,_⟩:=pointV_top c1 h3;obtain ⟨_,_,_,_,q5,_⟩:=pointV_top d1 h4
 by_cases ne:c.f=d.f
 ·have:c=d:=by
   cases c;cases d;dsimp only at e1 e2 e3 e4 e5 e6 e7 e8 ne;subst e1;subst e2;subst e3;subst e4;subst e5;subst e6;subst e7;subst e8;subst ne;rfl
  subst this;exact ⟨p5,p5⟩
 ·have u:=under e1 e3 ne h1 h5 d1 h4;have v:=under e1.symm e3.symm (fun z=>ne z.symm) h2 h6 c1 h3;exact ⟨by omega,by omega⟩
end Go.Proofs.YtiecdgcdcpmgaaaGreat.Iv

/- The plain fact that CellPlane asks: a point of the box lies on the plane. -/
namespace Go.Proofs.YtiecdgcdcpmgaaaGreat.Iv
open Go.RowKit
theorem point_low {n:D} {dl dh xl xh yl yh:Int} (h:(pointR n dl dh xl xh yl yh).e=0) (hn:0<n.e) :
  (pointR n dl dh xl xh yl yh).d.e*n.e≤dl*16777216 - n.a*xl - n.c*yl∧dl≤dh:=by
 unfold pointR at h ⊢;obtain ⟨h1,e1⟩:=bindD_v h;rw [e1] at h ⊢;obtain ⟨h2,e2⟩:=bindD_v h;rw [e2] at h ⊢;obtain ⟨h3,e3⟩:=bindD_v h;rw [e3] at h ⊢;obtain ⟨h4,e4⟩:=bindD_v h;rw [e4] at h ⊢;obtain ⟨h5,e5⟩:=bindD_v h;rw [e5];dsimp only;obtain ⟨_,_,va,vx⟩:=mul_v h1;obtain ⟨_,_,vc,vy⟩:=mul_v h2;have m1:=mulQ h1 (A:=n.a) (Y:=xl) (C:=1) (Int.le_refl _) (vB_iff.1 va).2.1 (by decide) (by omega) (by have:=(vB_iff.1 vx).2.1;omega);have m2:=mulQ h2 (A:=n.c) (Y:=yl) (C:=1) (Int.le_refl _) (vB_iff.1 vc).2.1 (by decide) (by omega) (by have:=(vB_iff.1 vy).2.1;omega);have a3:=(add_v h3).1;have s4:=sub_v h4;obtain ⟨d1,d2⟩:=div_v h5;obtain ⟨⟨dp,dq,de⟩,hd⟩:∃r:R,divR (subR dl dh (addR (mulR n.a n.b xl xh).lo (mulR n.a n.b xl xh).hi (mulR n.c n.d yl yh).lo (mulR n.c n.d yl yh).hi).lo (addR (mulR n.a n.b xl xh).lo (mulR n.a n.b xl xh).hi (mulR n.c n.d yl yh).lo (mulR n.c n.d yl yh).hi).hi).lo (subR dl dh (addR (mulR n.a n.b xl xh).lo (mulR n.a n.b xl xh).hi (mulR n.c n.d yl yh).lo (mulR n.c n.d yl yh).hi).lo (addR (mulR n.a n.b xl xh).lo (mulR n.a n.b xl xh).hi (mulR n.c n.d yl yh).lo (mulR n.c n.d yl yh).hi).hi).hi n.e n.f=r:=⟨_,rfl⟩;rw [hd] at h5 ⊢;dsimp only at h5 ⊢;subst h5;have D:=(div_ok hd (B:=n.e) (Int.le_refl _) (vB_iff.1 d1).2.1 (Int.le_refl _) (vB_iff.1 d2).2.1).1;refine ⟨?_,(vB_iff.1 s4.2.1).2.1⟩;rcases D with ⟨_,D,_⟩|⟨D,_⟩
 ·rw [s4.1,a3] at D;dsimp only at D;omega
 ·omega
theorem plane_plain {L:List D} {M:List (Int × Int)} {i0 i1:Int} {c:CV} (h:vCell L M i0 i1 c=true) (hp:(pointV L M i0 i1 c).e=0) (hd:(dotR (nthD L c.f) (pointV L M i0 i1 c).d).e=0) :
  (dotR (nthD L c.f) (pointV L M i0 i1 c).d).lo≤(nthP M c.f).2∧(nthP M c.f).1≤(dotR (nthD L c.f) (pointV L M i0 i1 c).d).hi:=by
 obtain ⟨t1,t2,t3,t4,t5,t6,t7,t8,t9,ta,tc⟩:=pointV_top h hp;obtain ⟨vn,_⟩:=vbody_nth t8 t9
 have lw:(pointV L M i0 i1 c).d.e*(nthD L c.f).e≤(nthP M c.f).1*16777216 - (nthD L c.f).a*c.a - (nthD L c.f).c*c.c∧(nthP M c.f).1≤(nthP M c.f).2:=by
  rw [pointV,if_pos h] at hp ⊢;exact point_low hp t7
 obtain ⟨g1,g2⟩:=lw;have q1:=Int.mul_le_mul_of_nonneg_right ta (Int.le_of_lt t7);have q2:=Int.mul_le_mul_of_nonneg_right tc (Int.le_of_lt t7)
 have Q:=dotQ hd (x:=(nthD L c.f).a) (y:=(nthD L c.f).c) (z:=(nthD L c.f).e) (X:=c.a*(nthD L c.f).e) (Y:=c.c*(nthD L c.f).e) (Z:=(nthP M c.f).1*16777216 - (nthD L c.f).a*c.a - (nthD L c.f).c*c.c) (C:=(nthD L c.f).e)
  (Int.le_of_lt t7) (In3.low vn) ⟨by rw [t1];exact Int.le_refl _,by rw [t2];exact q1,by rw [t3];exact Int.le_refl _,by rw [t4];exact q2,g1,by omega⟩
 obtain ⟨dlo,hdlo⟩:∃x,(dotR (nthD L c.f) (pointV L M i0 i1 c).d).lo=x:=⟨_,rfl⟩;obtain ⟨dhi,hdhi⟩:∃x,(dotR (nthD L c.f) (pointV L M i0 i1 c).d).hi=x:=⟨_,rfl⟩;obtain ⟨na,hna⟩:∃x,(nthD L c.f).a=x:=⟨_,rfl⟩;obtain ⟨nc,hnc⟩:∃x,(nthD L c.f).c=x:=⟨_,rfl⟩;obtain ⟨ne,hne⟩:∃x,(nthD L c.f).e=x:=⟨_,rfl⟩;obtain ⟨dl,hdl⟩:∃x,(nthP M c.f).1=x:=⟨_,rfl⟩;rw [hdlo,hdhi,hna,hnc,hne,hdl] at Q;rw [hdlo,hdhi,hdl];rw [hne] at t7;rw [hdl] at g2
 have e:na*(c.a*ne)+nc*(c.c*ne)+ne*(dl*16777216 - na*c.a - nc*c.c)=dl*16777216*ne:=by
  rw [Int.mul_sub,Int.mul_sub,←Int.mul_assoc,←Int.mul_assoc,Int.mul_comm ne (na*c.a),Int.mul_comm ne (nc*c.c),Int.mul_comm ne (dl*16777216)];omega
 rw [e] at Q;have a1:=Int.le_of_mul_le_mul_right Q.1 t7;have a2:=Int.le_of_mul_le_mul_right Q.2 t7;exact ⟨by omega,by omega⟩
end Go.Proofs.YtiecdgcdcpmgaaaGreat.Iv
