/- Plain facts: a ray that is contained in a box hits the face that the box hits, at lengths that are contained in those of the box. -/
import Derived.Test.YtiecdgcdcpmgaaaSbTv1
import Derived.Test.YtiecdgcdcpmgaaaM20
import Derived.Test.YtiecdgcdcpmgaaaM06
namespace Go.Proofs.Ytiecdgcdcpmgaaa.Iv
theorem subD_refl {s:D} (h:vD s=true):SubD s s:=by
 have hv:vB s.a s.b=true∧vB s.c s.d=true∧vB s.e s.f=true:=by simpa [vD] using h
 exact ⟨sub_refl hv.1,sub_refl hv.2.1,sub_refl hv.2.2⟩
theorem div_mono {a a' c c':Int} (h0:0≤a) (h:a≤a') (h1:0<c') (h2:c'≤c):a / c≤a' / c':=by
 have k0:0≤a / c:=Int.ediv_nonneg h0 (by omega);have k1:a / c*c≤a:=Int.ediv_mul_le _ (by omega);refine (Int.le_ediv_iff_mul_le h1).2 ?_;have k2:=Int.mul_le_mul_of_nonneg_left h2 k0;omega
theorem ceil_mono {a a' c c':Int} (h0:0≤a') (h:a'≤a) (h1:0<c) (h2:c≤c'):(a'+c' - 1) / c'≤(a+c - 1) / c:=by
 have r1:a≤(a+c - 1) / c*c:=by
  have:=Int.lt_ediv_add_one_mul_self (a+c - 1) h1;rw [Int.add_mul] at this;omega
 have r0:0≤(a+c - 1) / c:=Int.ediv_nonneg (by omega) (by omega);have k2:=Int.mul_le_mul_of_nonneg_left h2 r0
 have:(a'+c' - 1) / c'<(a+c - 1) / c+1:=by
  refine (Int.ediv_lt_iff_lt_mul (by omega)).2 ?_;rw [Int.add_mul];omega
 omega
structure SubW (x' x:W4):Prop where
 l:x.l≤x'.l
 b:x.b=true→x'.b=true∧x'.g≤x.g
theorem face_sub {i:Int} {n:D} {p:Int × Int} {a v a' v':D} (ha:SubD a' a) (hv:SubD v' v) (h:(faceR i n p a v).e=0) :
  (faceR i n p a' v').e=0∧(∀x',(faceR i n p a' v').w=some x'→∃x,(faceR i n p a v).w=some x∧SubW x' x)∧(∀x,(faceR i n p a v).w=some x→x.b=true→∃x',(faceR i n p a' v').w=some x'):=by
 unfold faceR at h;split at h
 case isFalse c=>exact absurd h c
 rename_i h1;split at h
 case isFalse c=>exact absurd h c
 rename_i h2;split at h
 case isFalse c=>exact absurd h c
 rename_i h3;have hn:=subD_refl (dot_v h1).1;obtain ⟨c1,c2⟩:=incl_dot hn hv h1;obtain ⟨q1,q2⟩:=incl_dot hn ha h2;have hp:=sub_refl (sub_v h3).2.1;obtain ⟨g1,g2⟩:=incl_sub hp q2 h3
 have e1:faceR i n p a v=⟨0,wayF i (dotR n v) (subR p.1 p.2 (dotR n a).lo (dotR n a).hi)⟩:=by rw [faceR,if_pos h1,if_pos h2,if_pos h3]
 have e2:faceR i n p a' v'=⟨0,wayF i (dotR n v') (subR p.1 p.2 (dotR n a').lo (dotR n a').hi)⟩:=by rw [faceR,if_pos c1,if_pos q1,if_pos g1]
 rw [e1,e2];obtain ⟨_,_,s1,s2,s3⟩:=c2;obtain ⟨_,_,t1,t2,t3⟩:=g2;refine ⟨rfl,fun x' hx=>?_,fun x hx hb=>?_⟩
 ·dsimp only at hx ⊢;unfold wayF at hx ⊢;split at hx
  ·cases hx
  ·rename_i hc;cases hx;rw [if_neg (by omega)];refine ⟨_,rfl,?_,?_⟩
   ·dsimp only;rw [Int.tdiv_eq_ediv_of_nonneg (by omega),Int.tdiv_eq_ediv_of_nonneg (by omega)];exact div_mono (by omega) (by omega) (by omega) (by omega)
   ·dsimp only;intro hb;have hlo:0<(dotR n v).lo:=of_decide_eq_true hb;rw [if_pos hlo,if_pos (by omega),Int.tdiv_eq_ediv_of_nonneg (by omega),Int.tdiv_eq_ediv_of_nonneg (by omega)];exact ⟨decide_eq_true (by omega),ceil_mono (by omega) (by omega) hlo (by omega)⟩
 ·dsimp only at hx ⊢;unfold wayF at hx ⊢;split at hx
  ·cases hx
  ·cases hx;have hlo:0<(dotR n v).lo:=of_decide_eq_true hb;rw [if_neg (by omega)];exact ⟨_,rfl⟩
theorem ways_e (a v:D):∀(l:List (D × Int × Int)) (i:Nat),(∀j y,l[j]? = some y→(faceR ((i+j:Nat):Int) y.1 y.2 a v).e=0)→(waysR a v i l).e=0
 | [],_,_=>rfl
 |z::t,i,h=>by
  have h0:=h 0 z rfl;rw [Nat.add_zero] at h0;rw [waysR,if_pos h0];exact ways_e a v t (i+1) (fun j y hy=>by have:=h (j+1) y hy;rwa [show i+(j+1)=i+1+j from by omega] at this)
theorem best_is (x:W4) (hx:x.b=true):∀(ws:List W4) (b:W4),(b=x∨((b.b=false∨x.g<b.g)∧x∈ws))→(∀u∈ws,u=x∨(u.b=true→x.g<u.g))→ws.foldl better b=x
 | [],b,h,_=>by
  rcases h with h|h
  ·exact h
  ·exact absurd h.2 (by simp)
 |u::t,b,h,hu=>by
  rw [List.foldl_cons];refine best_is x hx t _ ?_ (fun w hw=>hu w (List.mem_cons_of_mem _ hw));rcases h with rfl|⟨h,hm⟩
  ·left;rcases hu u (List.mem_cons_self ..) with rfl|h1
   ·unfold better;split<;>rfl
   ·unfold better;rw [if_neg];rintro ⟨h2,h3⟩;rcases h3 with h3|h3
    ·rw [hx] at h3;cases h3
    ·have:=h1 h2;omega
  ·by_cases hux:u=x
   ·left;subst hux;unfold better;rw [if_pos ⟨hx,h⟩]
   ·right
    have hmt:x∈t:=by
     rcases List.mem_cons.1 hm with h1|h1
     ·exact absurd h1.symm hux
     ·exact h1
    refine ⟨?_,hmt⟩;unfold better;split
    ·rename_i h2;rcases hu u (List.mem_cons_self ..) with h1|h1
     ·exact absurd h1 hux
     ·exact .inr (h1 h2.1)
    ·exact h
theorem hit_of {l:List (D × Int × Int)} {a v:D} {k:Nat} {y:D × Int × Int} {x:W4} (he:(waysR a v 0 l).e=0) (hy:l[k]? = some y) (hw:(faceR (k:Int) y.1 y.2 a v).w=some x) (hb:x.b=true) (hg:x.g≤1073741824)
  (ho:∀(j:Nat) (z:D × Int × Int) (u:W4),l[j]? = some z→(faceR (j:Int) z.1 z.2 a v).w=some u→j≠k→x.g<u.l):hitR l a v=⟨(k:Int),x.l,x.g,0⟩:=by
 have hmem:x∈(waysR a v 0 l).l:=(ways_in a v l 0 he k y hy).2 x (by rw [Nat.zero_add];exact hw)
 have hall:∀u∈(waysR a v 0 l).l,u=x∨(u.f≠x.f∧x.g<u.l∧(u.b=true→x.g<u.g)):=by
  intro u hu;obtain ⟨j,z,h1,h2⟩:=ways_at a v l 0 u hu;rw [Nat.zero_add] at h2
  by_cases hjk:j=k
  ·left;subst hjk;rw [hy] at h1;cases h1;exact Option.some.inj (h2.symm.trans hw)
  ·right;have h3:=ho j z u h1 h2 hjk;refine ⟨?_,h3,fun hub=>?_⟩
   ·rw [(faceR_w h2).1,(faceR_w hw).1];omega
   ·obtain ⟨w1,w2,w3,w4,w5,_⟩:=way_pt h2 hub;have:u.l≤u.g:=Int.le_of_mul_le_mul_right (Int.le_trans w4 w5) w1;omega
 have hbest:bestR (waysR a v 0 l).l=x:=best_is x hb _ _ (.inr ⟨.inl rfl,hmem⟩) (fun u hu=>by
  rcases hall u hu with h|h
  ·exact .inl h
  ·exact .inr h.2.2)
 have hamb:amb (bestR (waysR a v 0 l).l) (waysR a v 0 l).l=false:=by
  rw [hbest,amb,List.any_eq_false];intro u hu;rcases hall u hu with rfl|h
  ·simp
  ·have:=h.2.1;simp;omega
 have hne:¬((waysR a v 0 l).l = []):=fun h=>by rw [h] at hmem;cases hmem
 rw [hitR,if_pos he,if_neg hne,if_neg (by rw [hbest,hb];decide),if_neg (by rw [hamb];decide),hbest,if_neg (by omega),(faceR_w hw).1]
theorem hit_sub {l:List (D × Int × Int)} {a v a' v':D} (ha:SubD a' a) (hv:SubD v' v) (h:(hitR l a v).e=0) :
  (hitR l a' v').e=0∧(hitR l a' v').f=(hitR l a v).f∧Sub (hitR l a' v').l (hitR l a' v').g (hitR l a v).l (hitR l a v).g:=by
 obtain ⟨k,y,x,e1,e2,e3,e4,e5,e6,e7,e8,e9,e10⟩:=hit_way h;have hF:=fun (j:Nat) (z:D × Int × Int) (hz:l[j]? = some z)=>face_sub (i:=(j:Int)) ha hv (by have:=(ways_in a v l 0 e8 j z hz).1;rwa [Nat.zero_add] at this);have he':(waysR a' v' 0 l).e=0:=ways_e a' v' l 0 (fun j z hz=>by rw [Nat.zero_add];exact (hF j z hz).1);obtain ⟨_,f2,f3⟩:=hF k y e2;obtain ⟨x',hx'⟩:=f3 x e3 e4;obtain ⟨x2,hx2,sl,sb⟩:=f2 x' hx';obtain rfl:x=x2:=Option.some.inj (e3.symm.trans hx2);obtain ⟨b1,b2⟩:=sb e4
 have key:=hit_of he' e2 hx' b1 (by omega) (fun j z u hz hu hj=>by
  obtain ⟨u2,hu2,tl,_⟩:=(hF j z hz).2.1 u hu;have:=e10 j z u2 hz hu2 hj
  omega)
 obtain ⟨w1,w2,w3,w4,w5,_⟩:=way_pt hx' b1;have hlg:x'.l≤x'.g:=Int.le_of_mul_le_mul_right (Int.le_trans w4 w5) w1;obtain ⟨v1,v2,v3,v4,v5,_⟩:=way_pt e3 e4;rw [key,e1,e5,e6];have q1:Sub x'.l x'.g x.l x.g:=⟨vB_iff.2 ⟨by omega,by omega,by omega⟩,vB_iff.2 ⟨by omega,by omega,by omega⟩,sl,hlg,b2⟩;exact ⟨rfl,rfl,q1⟩
end Go.Proofs.Ytiecdgcdcpmgaaa.Iv
