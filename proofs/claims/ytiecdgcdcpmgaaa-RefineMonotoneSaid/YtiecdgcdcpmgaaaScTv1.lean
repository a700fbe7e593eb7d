/- Plain facts: numbers of the boxes of a ray and of a body, and where the ray meets a face. -/
import Derived.Test.YtiecdgcdcpmgaaaM21
import Derived.Test.YtiecdgcdcpmgaaaM07
import Derived.Test.YtiecdgcdcpmgaaaM06
namespace Go.Proofs.Ytiecdgcdcpmgaaa.Iv
theorem min4_le (x y z t:Int):min4 x y z t≤x∧min4 x y z t≤y∧min4 x y z t≤z∧min4 x y z t≤t:=by unfold min4;omega
theorem le_max4 (x y z t:Int):x≤max4 x y z t∧y≤max4 x y z t∧z≤max4 x y z t∧t≤max4 x y z t:=by unfold max4;omega
theorem min4_sc {x y z t C:Int} (h:0≤C):min4 x y z t*C≤min4 (x*C) (y*C) (z*C) (t*C):=by
 obtain ⟨h1,h2,h3,h4⟩:=min4_le x y z t;have k1:=Int.mul_le_mul_of_nonneg_right h1 h;have k2:=Int.mul_le_mul_of_nonneg_right h2 h;have k3:=Int.mul_le_mul_of_nonneg_right h3 h;have k4:=Int.mul_le_mul_of_nonneg_right h4 h;generalize min4 x y z t*C=m at *;unfold min4;omega
theorem max4_sc {x y z t C:Int} (h:0≤C):max4 (x*C) (y*C) (z*C) (t*C)≤max4 x y z t*C:=by
 obtain ⟨h1,h2,h3,h4⟩:=le_max4 x y z t;have k1:=Int.mul_le_mul_of_nonneg_right h1 h;have k2:=Int.mul_le_mul_of_nonneg_right h2 h;have k3:=Int.mul_le_mul_of_nonneg_right h3 h;have k4:=Int.mul_le_mul_of_nonneg_right h4 h;generalize max4 x y z t*C=m at *;unfold max4;omega
theorem mul_v {a b c d:Int} (h:(mulR a b c d).e=0):(mulR a b c d).lo=fl (min4 (a*c) (a*d) (b*c) (b*d))∧(mulR a b c d).hi=ce (max4 (a*c) (a*d) (b*c) (b*d))∧vB a b=true∧vB c d=true:=by
 unfold mulR at h ⊢;split at h
 ·rename_i hv;rw [if_pos hv];unfold withinR at h ⊢;split at h
  ·cases h
  ·rename_i hw;rw [if_neg hw];exact ⟨rfl,rfl,hv.1,hv.2⟩
 ·cases h
theorem mulQ {a b c d A Y C:Int} (h:(mulR a b c d).e=0) (h1:a≤A) (h2:A≤b) (hC:0≤C) (h3:c*C≤Y) (h4:Y≤d*C) :
  (mulR a b c d).lo*16777216*C≤A*Y∧A*Y≤(mulR a b c d).hi*16777216*C:=by
 obtain ⟨e1,e2,_,_⟩:=mul_v h;have k:=mul_in h1 h2 h3 h4;rw [←Int.mul_assoc,←Int.mul_assoc,←Int.mul_assoc,←Int.mul_assoc] at k;have m1:=min4_sc (x:=a*c) (y:=a*d) (z:=b*c) (t:=b*d) hC;have m2:=max4_sc (x:=a*c) (y:=a*d) (z:=b*c) (t:=b*d) hC;have f1:=Int.mul_le_mul_of_nonneg_right (fl_le (min4 (a*c) (a*d) (b*c) (b*d))) hC;have f2:=Int.mul_le_mul_of_nonneg_right (ce_ge (max4 (a*c) (a*d) (b*c) (b*d))) hC;rw [e1,e2];exact ⟨Int.le_trans f1 (Int.le_trans m1 k.1),Int.le_trans k.2 (Int.le_trans m2 f2)⟩
theorem comb_in {r s t:R} (h:(comb r s t).e=0):r.e=0∧s.e=0∧t.e=0∧(comb r s t).d=⟨r.lo,r.hi,s.lo,s.hi,t.lo,t.hi⟩:=by
 unfold comb at h ⊢;split at h
 ·rename_i h1;split at h
  ·rename_i h2;split at h
   ·rename_i h3;rw [if_pos h1,if_pos h2,if_pos h3];exact ⟨h1,h2,h3,rfl⟩
   ·rename_i h3;exact absurd h h3
  ·rename_i h2;exact absurd h h2
 ·rename_i h1;exact absurd h h1
structure In3 (s:D) (X Y Z C:Int):Prop where
 x0:s.a*C≤X
 x1:X≤s.b*C
 y0:s.c*C≤Y
 y1:Y≤s.d*C
 z0:s.e*C≤Z
 z1:Z≤s.f*C
theorem In3.low {s:D} (h:vD s=true):In3 s s.a s.c s.e 1:=by
 have hv:vB s.a s.b=true∧vB s.c s.d=true∧vB s.e s.f=true:=by simpa [vD] using h
 have v1:=vB_iff.1 hv.1;have v2:=vB_iff.1 hv.2.1;have v3:=vB_iff.1 hv.2.2;constructor<;>omega
theorem dot_v {s t:D} (h:(dotR s t).e=0):vD s=true∧vD t=true∧(mulR s.a s.b t.a t.b).e=0∧(mulR s.c s.d t.c t.d).e=0∧(mulR s.e s.f t.e t.f).e=0 ∧
  (dotR s t).lo=(mulR s.a s.b t.a t.b).lo+(mulR s.c s.d t.c t.d).lo+(mulR s.e s.f t.e t.f).lo∧(dotR s t).hi=(mulR s.a s.b t.a t.b).hi+(mulR s.c s.d t.c t.d).hi+(mulR s.e s.f t.e t.f).hi:=by
 unfold dotR at h ⊢;split at h
 ·rename_i hv;rw [if_pos hv];unfold onlyR at h ⊢;split at h
  ·rename_i h0;rw [if_pos h0];dsimp only;unfold sumG at h0 ⊢;obtain ⟨g1,g2,g3⟩:=goOn_in h0;obtain ⟨g4,g5,g6⟩:=goOn_in g1;unfold prodD at g4;obtain ⟨c1,c2,c3,c4⟩:=comb_in g4;rw [g3,g6];rw [g6] at g2;unfold prodD at g2 g5 ⊢;rw [c4] at g2 g5 ⊢;dsimp only at g2 g5 ⊢;obtain ⟨a1,_⟩:=add_v g5;rw [a1] at g2 ⊢;dsimp only at g2 ⊢;obtain ⟨a2,_⟩:=add_v g2;rw [a2];exact ⟨hv.1,hv.2,c1,c2,c3,rfl,rfl⟩
  ·rename_i h0;exact absurd h h0
 ·cases h
theorem dotQ {s t:D} {x y z X Y Z C:Int} (h:(dotR s t).e=0) (hC:0≤C) (hs:In3 s x y z 1) (ht:In3 t X Y Z C) :
  (dotR s t).lo*16777216*C≤x*X+y*Y+z*Z∧x*X+y*Y+z*Z≤(dotR s t).hi*16777216*C:=by
 obtain ⟨_,_,h1,h2,h3,e1,e2⟩:=dot_v h;obtain ⟨s1,s2,s3,s4,s5,s6⟩:=hs;have m1:=mulQ h1 (A:=x) (by omega) (by omega) hC ht.x0 ht.x1;have m2:=mulQ h2 (A:=y) (by omega) (by omega) hC ht.y0 ht.y1;have m3:=mulQ h3 (A:=z) (by omega) (by omega) hC ht.z0 ht.z1;rw [e1,e2];simp only [Int.add_mul];omega
theorem way_pt {i:Int} {n:D} {p:Int × Int} {a v:D} {x:W4} (h:(faceR i n p a v).w=some x) (hb:x.b=true) :
  0<n.a*v.a+n.c*v.c+n.e*v.e∧0≤x.l∧0≤x.g ∧
  x.l*(n.a*v.a+n.c*v.c+n.e*v.e)≤max 0 (p.1*16777216 - (n.a*a.a+n.c*a.c+n.e*a.e))*16777216 ∧
  max 0 (p.1*16777216 - (n.a*a.a+n.c*a.c+n.e*a.e))*16777216≤x.g*(n.a*v.a+n.c*v.c+n.e*v.e) ∧
  (0<x.l→0≤p.1*16777216 - (n.a*a.a+n.c*a.c+n.e*a.e))∧p.1≤p.2:=by
 unfold faceR at h;split at h
 ·rename_i h1;split at h
  ·rename_i h2;split at h
   ·rename_i h3;dsimp only at h;have D1:=dot_v h1;have D2:=dot_v h2;have c:=dotQ h1 (by decide:(0:Int)≤1) (In3.low D1.1) (In3.low D1.2.1);have q:=dotQ h2 (by decide:(0:Int)≤1) (In3.low D2.1) (In3.low D2.2.1);obtain ⟨g1,g2,_,_,_⟩:=sub_v h3;have hp:=(vB_iff.1 g2).2.1;rw [g1] at h;generalize n.a*v.a+n.c*v.c+n.e*v.e=C at c ⊢;generalize n.a*a.a+n.c*a.c+n.e*a.e=P at q ⊢;unfold wayF at h;split at h
    ·cases h
    ·rename_i hc;cases h;dsimp only at hb ⊢;have hlo:0<(dotR n v).lo:=of_decide_eq_true hb;rw [if_pos hlo];generalize (dotR n v).lo=cl at c hc hlo ⊢;generalize (dotR n v).hi=ch at c hc ⊢;generalize (dotR n a).lo=ql at q ⊢;generalize (dotR n a).hi=qh at q ⊢;rw [Int.mul_one,Int.mul_one] at c q
     have hC:0<C:=by omega
     generalize hT:p.1*16777216 - P=T
     have t1:max 0 (p.1 - qh)*16777216≤max 0 T:=by omega
     have t2:max 0 T≤max 0 (p.2 - ql)*16777216:=by omega
     rw [Int.tdiv_eq_ediv_of_nonneg (by omega),Int.tdiv_eq_ediv_of_nonneg (by omega)];have l0:0≤max 0 (p.1 - qh)*16777216 / ch:=Int.ediv_nonneg (by omega) (by omega);have l1:max 0 (p.1 - qh)*16777216 / ch*ch≤max 0 (p.1 - qh)*16777216:=Int.ediv_mul_le _ (by omega);have r0:0≤(max 0 (p.2 - ql)*16777216+cl - 1) / cl:=Int.ediv_nonneg (by omega) (by omega)
     have r1:max 0 (p.2 - ql)*16777216≤(max 0 (p.2 - ql)*16777216+cl - 1) / cl*cl:=by
      have:=Int.lt_ediv_add_one_mul_self (max 0 (p.2 - ql)*16777216+cl - 1) hlo;rw [Int.add_mul] at this;omega
     have l2:0<max 0 (p.1 - qh)*16777216 / ch→0<p.1 - qh:=by
      intro hh;rcases Int.lt_or_le 0 (p.1 - qh) with k|k
      ·exact k
      ·rw [show max 0 (p.1 - qh)=0 from by omega,Int.zero_mul,Int.zero_ediv] at hh;exact absurd hh (by decide)
     generalize max 0 (p.1 - qh)*16777216 / ch=l at *;generalize (max 0 (p.2 - ql)*16777216+cl - 1) / cl=r at *;refine ⟨hC,l0,r0,?_,?_,fun hh=>by have:=l2 hh;omega,hp⟩
     ·have k1:=Int.mul_le_mul_of_nonneg_left c.2 l0;rw [←Int.mul_assoc] at k1;omega
     ·have k1:=Int.mul_le_mul_of_nonneg_left c.1 r0;rw [←Int.mul_assoc] at k1;omega
   ·cases h
  ·cases h
 ·cases h
theorem ways_at (a v:D):∀(l:List (D × Int × Int)) (i:Nat) (x:W4),x∈(waysR a v i l).l→∃j y,l[j]? = some y∧(faceR ((i+j:Nat):Int) y.1 y.2 a v).w=some x
 | [],i,x,h=>by simp [waysR] at h
 |y::t,i,x,h=>by
  rw [waysR] at h;split at h
  ·dsimp only at h;rw [List.mem_append] at h;rcases h with h|h
   ·rw [Option.mem_toList] at h;exact ⟨0,y,rfl,by rw [Nat.add_zero];exact h⟩
   ·obtain ⟨j,z,h1,h2⟩:=ways_at a v t (i+1) x h;exact ⟨j+1,z,by rw [List.getElem?_cons_succ];exact h1,by rw [show i+(j+1)=i+1+j from by omega];exact h2⟩
  ·cases h
theorem ways_in (a v:D):∀(l:List (D × Int × Int)) (i:Nat),(waysR a v i l).e=0→∀j y,l[j]? = some y→(faceR ((i+j:Nat):Int) y.1 y.2 a v).e=0∧∀x,(faceR ((i+j:Nat):Int) y.1 y.2 a v).w=some x→x∈(waysR a v i l).l
 | [],i,_,j,y,h=>by simp at h
 |z::t,i,he,j,y,h=>by
  rw [waysR] at he;split at he
  ·rename_i h0;dsimp only at he;rw [waysR,if_pos h0];dsimp only
   cases j with
   |zero=>
    simp only [List.getElem?_cons_zero,Option.some.injEq] at h;subst h;exact ⟨h0,fun x hx=>List.mem_append_left _ (Option.mem_toList.2 hx)⟩
   |succ j=>
    rw [List.getElem?_cons_succ] at h;have:=ways_in a v t (i+1) he j y h;rw [show i+1+j=i+(j+1) from by omega] at this;exact ⟨this.1,fun x hx=>List.mem_append_right _ (this.2 x hx)⟩
  ·rename_i h0;exact absurd he h0
theorem hit_way {l:List (D × Int × Int)} {a v:D} (h:(hitR l a v).e=0):∃(k:Nat) (y:D × Int × Int) (x:W4),(hitR l a v).f=(k:Int)∧l[k]? = some y∧(faceR (k:Int) y.1 y.2 a v).w=some x∧x.b=true∧(hitR l a v).l=x.l∧(hitR l a v).g=x.g∧x.g≤1073741824 ∧
  (waysR a v 0 l).e=0∧bestR (waysR a v 0 l).l=x∧∀(j:Nat) (z:D × Int × Int) (u:W4),l[j]? = some z→(faceR (j:Int) z.1 z.2 a v).w=some u→j≠k→x.g<u.l:=by
 unfold hitR at h ⊢;split at h
 ·rename_i h0;split at h
  ·cases h
  ·rename_i h1;split at h
   ·cases h
   ·rename_i h2;split at h
    ·cases h
    ·rename_i h3;split at h
     ·cases h
     ·rename_i h4;rw [if_pos h0,if_neg h1,if_neg h2,if_neg h3,if_neg h4];dsimp only
      have hb:(bestR (waysR a v 0 l).l).b=true:=by simpa using h2
      rcases best_mem (waysR a v 0 l).l ⟨0,0,0,false⟩ with h5|h5
      ·rw [bestR,h5] at hb;cases hb
      ·obtain ⟨k,y,g1,g2⟩:=ways_at a v l 0 _ h5;rw [Nat.zero_add] at g2;have gf:=(faceR_w g2).1;rw [←bestR] at gf g2;refine ⟨k,y,_,gf,g1,g2,hb,rfl,rfl,by omega,h0,rfl,fun j z u hz hu hj=>?_⟩;have hin:=(ways_in a v l 0 h0 j z hz).2 u (by rw [Nat.zero_add];exact hu);have huf:=(faceR_w hu).1
       have h6:amb (bestR (waysR a v 0 l).l) (waysR a v 0 l).l=false:=by simpa using h3
       rw [amb,List.any_eq_false] at h6;have h7:=h6 u hin;rw [gf,huf] at h7
       have:((j:Int)≠(k:Int)):=by omega
       simp [this] at h7;exact h7
 ·rename_i h0;exact absurd h h0
end Go.Proofs.Ytiecdgcdcpmgaaa.Iv
