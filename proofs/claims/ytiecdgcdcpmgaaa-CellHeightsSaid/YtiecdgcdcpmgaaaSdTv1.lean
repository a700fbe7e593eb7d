/- Plain facts: numbers of the boxes of a ray and of a body, and where the ray meets a face. -/
import Derived.Test.YtiecdgcdcpmgaaaM21
import Derived.Test.YtiecdgcdcpmgaaaM07
import Derived.Test.YtiecdgcdcpmgaaaSdIeM
import Derived.Test.YtiecdgcdcpmgaaaSdDj
import Derived.Test.YtiecdgcdcpmgaaaSdDrb
import Derived.Test.YtiecdgcdcpmgaaaSdRf1
import Derived.Test.YtiecdgcdcpmgaaaSdRf2
import Derived.Test.YtiecdgcdcpmgaaaM06
namespace Go.Proofs.Ytiecdgcdcpmgaaa.Iv
theorem min4_le (x y z t:Int):min4 x y z t≤x∧min4 x y z t≤y∧min4 x y z t≤z∧min4 x y z t≤t:=by unfold min4;omega
theorem le_max4 (x y z t:Int):x≤max4 x y z t∧y≤max4 x y z t∧z≤max4 x y z t∧t≤max4 x y z t:=by unfold max4;omega
theorem min4_sc {x y z t C:Int} (h:0≤C):min4 x y z t*C≤min4 (x*C) (y*C) (z*C) (t*C):=by
 obtain ⟨h1,h2,h3,h4⟩:=min4_le x y z t;have k1:=Int.mul_le_mul_of_nonneg_right h1 h;have k2:=Int.mul_le_mul_of_nonneg_right h2 h;have k3:=Int.mul_le_mul_of_nonneg_right h3 h;have k4:=Int.mul_le_mul_of_nonneg_right h4 h;generalize min4 x y z t*C=m at *;unfold min4;omega
theorem max4_sc {x y z t C:Int} (h:0≤C):max4 (x*C) (y*C) (z*C) (t*C)≤max4 x y z t*C:=by
 obtain ⟨h1,h2,h3,h4⟩:=le_max4 x y z t;have k1:=Int.mul_le_mul_of_nonneg_right h1 h;have k2:=Int.mul_le_mul_of_nonneg_right h2 h;have k3:=Int.mul_le_mul_of_nonneg_right h3 h;have k4:=Int.mul_le_mul_of_nonneg_right h4 h;generalize max4 x y z t*C=m at *;unfold max4;omega
theorem mul_v {a b c d:Int} (h:(mulR a b c d).e=0):(mulR a b c d).lo=fl (min4 (a*c) (a*d) (b*c) (b*d))∧(mulR a b c d).hi=ce (max4 (a*c) (a*d) (b*c) (b*d))∧vB a b=true∧vB c d=true:=by
 unfold mulR at h ⊢;split at h
 ·rename_i hv;rw [if_pos hv];unfold withinR at h ⊢;split at h
  ·cases h
  ·rename_i hw;rw [if_neg hw];exact ⟨rfl,rfl,hv.1,hv.2⟩
 ·cases h
theorem mulQ {a b c d A Y C:Int} (h:(mulR a b c d).e=0) (h1:a≤A) (h2:A≤b) (hC:0≤C) (h3:c*C≤Y) (h4:Y≤d*C) :
  (mulR a b c d).lo*16777216*C≤A*Y∧A*Y≤(mulR a b c d).hi*16777216*C:=by
 obtain ⟨e1,e2,_,_⟩:=mul_v h;have k:=mul_in h1 h2 h3 h4;rw [←Int.mul_assoc,←Int.mul_assoc,←Int.mul_assoc,←Int.mul_assoc] at k;have m1:=min4_sc (x:=a*c) (y:=a*d) (z:=b*c) (t:=b*d) hC;have m2:=max4_sc (x:=a*c) (y:=a*d) (z:=b*c) (t:=b*d) hC;have f1:=Int.mul_le_mul_of_nonneg_right (fl_le (min4 (a*c) (a*d) (b*c) (b*d))) hC;have f2:=Int.mul_le_mul_of_nonneg_right (ce_ge (max4 (a*c) (a*d) (b*c) (b*d))) hC;rw [e1,e2];exact ⟨Int.le_trans f1 (Int.le_trans m1 k.1),Int.le_trans k.2 (Int.le_trans m2 f2)⟩
theorem comb_in {r s t:R} (h:(comb r s t).e=0):r.e=0∧s.e=0∧t.e=0∧(comb r s t).d=⟨r.lo,r.hi,s.lo,s.hi,t.lo,t.hi⟩:=by
 unfold comb at h ⊢;split at h
 ·rename_i h1;split at h
  ·rename_i h2;split at h
   ·rename_i h3;rw [if_pos h1,if_pos h2,if_pos h3];exact ⟨h1,h2,h3,rfl⟩
   ·rename_i h3;exact absurd h h3
  ·rename_i h2;exact absurd h h2
 ·rename_i h1;exact absurd h h1
structure In3 (s:D) (X Y Z C:Int):Prop where
 x0:s.a*C≤X
 x1:X≤s.b*C
 y0:s.c*C≤Y
 y1:Y≤s.d*C
 z0:s.e*C≤Z
 z1:Z≤s.f*C
theorem In3.low {s:D} (h:vD s=true):In3 s s.a s.c s.e 1:=by
 have hv:vB s.a s.b=true∧vB s.c s.d=true∧vB s.e s.f=true:=by simpa [vD] using h
 have v1:=vB_iff.1 hv.1;have v2:=vB_iff.1 hv.2.1;have v3:=vB_iff.1 hv.2.2;constructor<;>omega
theorem dot_v {s t:D} (h:(dotR s t).e=0):vD s=true∧vD t=true∧(mulR s.a s.b t.a t.b).e=0∧(mulR s.c s.d t.c t.d).e=0∧(mulR s.e s.f t.e t.f).e=0 ∧
  (dotR s t).lo=(mulR s.a s.b t.a t.b).lo+(mulR s.c s.d t.c t.d).lo+(mulR s.e s.f t.e t.f).lo∧(dotR s t).hi=(mulR s.a s.b t.a t.b).hi+(mulR s.c s.d t.c t.d).hi+(mulR s.e s.f t.e t.f).hi:=by
 unfold dotR at h ⊢;split at h
 ·rename_i hv;rw [if_pos hv];unfold onlyR at h ⊢;split at h
  ·rename_i h0;rw [if_pos h0];dsimp only;unfold sumG at h0 ⊢;obtain ⟨g1,g2,g3⟩:=goOn_in h0;obtain ⟨g4,g5,g6⟩:=goOn_in g1;unfold prodD at g4;obtain ⟨c1,c2,c3,c4⟩:=comb_in g4;rw [g3,g6];rw [g6] at g2;unfold prodD at g2 g5 ⊢;rw [c4] at g2 g5 ⊢;dsimp only at g2 g5 ⊢;obtain ⟨a1,_⟩:=add_v g5;rw [a1] at g2 ⊢;dsimp only at g2 ⊢;obtain ⟨a2,_⟩:=add_v g2;rw [a2];exact ⟨hv.1,hv.2,c1,c2,c3,rfl,rfl⟩
  ·rename_i h0;exact absurd h h0
 ·cases h
theorem dotQ {s t:D} {x y z X Y Z C:Int} (h:(dotR s t).e=0) (hC:0≤C) (hs:In3 s x y z 1) (ht:In3 t X Y Z C) :
  (dotR s t).lo*16777216*C≤x*X+y*Y+z*Z∧x*X+y*Y+z*Z≤(dotR s t).hi*16777216*C:=by
 obtain ⟨_,_,h1,h2,h3,e1,e2⟩:=dot_v h;obtain ⟨s1,s2,s3,s4,s5,s6⟩:=hs;have m1:=mulQ h1 (A:=x) (by omega) (by omega) hC ht.x0 ht.x1;have m2:=mulQ h2 (A:=y) (by omega) (by omega) hC ht.y0 ht.y1;have m3:=mulQ h3 (A:=z) (by omega) (by omega) hC ht.z0 ht.z1;rw [e1,e2];simp only [Int.add_mul];omega
end Go.Proofs.Ytiecdgcdcpmgaaa.Iv
