/- Plain facts on a cell that lies within another one: its points, how it covers, its directions, the rays that enter, their paths. -/
import Derived.Test.YtiecdgcdcpmgaaaSbHm
import Derived.Test.YtiecdgcdcpmgaaaSbTv5
import Derived.Test.YtiecdgcdcpmgaaaSbVm
import Derived.Test.YtiecdgcdcpmgaaaSbCi
import Derived.Test.YtiecdgcdcpmgaaaSbFiM
import Derived.Test.YtiecdgcdcpmgaaaSbFr6
import Derived.Test.YtiecdgcdcpmgaaaSbTv1
import Derived.Test.YtiecdgcdcpmgaaaSbTv3
import Derived.Test.YtiecdgcdcpmgaaaM06
namespace Go.Proofs.Ytiecdgcdcpmgaaa.Iv
theorem incl_bindD {r r':R} {f f':Int→Int→RD} (h:Incl r r') (k:∀{a b a' b':Int},Sub a' b' a b→InclD (f a b) (f' a' b')):InclD (bindD r f) (bindD r' f'):=by
 intro e;unfold bindD at e ⊢;split at e
 ·rename_i c;obtain ⟨h1,h2⟩:=h c;rw [if_pos c,if_pos h1];exact k h2 e
 ·rename_i c;exact absurd e c
theorem incl_point {n:D} {dl dh xl xh yl yh xl' xh' yl' yh':Int} (hn:vD n=true) (hd:vB dl dh=true) (hx:Sub xl' xh' xl xh) (hy:Sub yl' yh' yl yh) :
  InclD (pointR n dl dh xl xh yl yh) (pointR n dl dh xl' xh' yl' yh'):=by
 have s:=subD_refl hn;unfold pointR;refine incl_bindD (incl_mul s.x hx) fun h1=>incl_bindD (incl_mul s.y hy) fun h2=>incl_bindD (incl_add h1 h2) fun h3=>incl_bindD (incl_sub (sub_refl hd) h3) fun h4=>incl_bindD (incl_div h4 s.z) fun h5=>?_;exact fun _=>⟨rfl,hx,hy,h5⟩
theorem incl_bindG {e e':Int} {r r':R} {f f':Int→Int→Int→RD} (h:e=0→e'=0) (k:e=0→Incl r r')
  (g:∀a b x a' b' x',(x=0→e=0)→(x=0→x'=0)→(x=0→Sub a' b' a b)→InclD (f a b x) (f' a' b' x')):InclD (bindG e r f) (bindG e' r' f'):=by
 have i:=incl_goOn h k;exact g _ _ _ _ _ _ goOn_e (fun z=>(i z).1) (fun z=>(i z).2)
theorem incl_dirR {e e':Int} {d d':D} (h:e=0→e'=0∧SubD d' d):InclD (dirR e d) (dirR e' d'):=by
 intro z;unfold dirR at z ⊢;split at z
 ·rename_i c;obtain ⟨h1,h2⟩:=h c;rw [if_pos c,if_pos h1];exact ⟨rfl,h2⟩
 ·rename_i c;exact absurd z c
theorem incl_ofG {ul uh vl vh ul' uh' vl' vh':Int} (hu:Sub ul' uh' ul uh) (hv:Sub vl' vh' vl vh):InclD (ofG ul uh vl vh) (ofG ul' uh' vl' vh'):=by
 have one:Sub 16777216 16777216 16777216 16777216:=⟨by decide,by decide,by decide,by decide,by decide⟩;unfold ofG;refine incl_bindG id (fun _=>incl_sq hu) fun p1 q1 e1 p1' q1' e1' _ z1 s1=>?_;refine incl_bindG z1 (fun _=>incl_sq hv) fun p2 q2 e2 p2' q2' e2' b2 z2 s2=>?_;refine incl_bindG z2 (fun h=>incl_add (s1 (b2 h)) (s2 h)) fun p3 q3 e3 p3' q3' e3' b3 z3 s3=>?_;refine incl_bindG z3 (fun h=>incl_add one (s3 h)) fun p4 q4 e4 p4' q4' e4' b4 z4 s4=>?_;refine incl_bindG z4 (fun _=>incl_add hu hu) fun p5 q5 e5 p5' q5' e5' b5 z5 s5=>?_;refine incl_bindG z5 (fun h=>incl_div (s5 h) (s4 (b5 h))) fun p6 q6 e6 p6' q6' e6' b6 z6 s6=>?_;refine incl_bindG z6 (fun _=>incl_add hv hv) fun p7 q7 e7 p7' q7' e7' b7 z7 s7=>?_;refine incl_bindG z7 (fun h=>incl_div (s7 h) (s4 (b5 (b6 (b7 h))))) fun p8 q8 e8 p8' q8' e8' b8 z8 s8=>?_;refine incl_bindG z8 (fun h=>incl_sub (s3 (b4 (b5 (b6 (b7 (b8 h)))))) one) fun p9 q9 e9 p9' q9' e9' b9 z9 s9=>?_;refine incl_bindG z9 (fun h=>incl_div (s9 h) (s4 (b5 (b6 (b7 (b8 (b9 h))))))) fun pa qa ea pa' qa' ea' ba za sa=>?_;exact incl_dirR fun h=>⟨za h,s6 (b7 (b8 (b9 (ba h)))),s8 (b9 (ba h)),sa h⟩
theorem incl_of2 {ul uh vl vh ul' uh' vl' vh':Int} (hu:Sub ul' uh' ul uh) (hv:Sub vl' vh' vl vh):InclD (ofR ul uh vl vh) (ofR ul' uh' vl' vh'):=by
 rw [ofR,ofR,if_pos hu.v,if_pos hv.v,if_pos hu.v',if_pos hv.v'];exact incl_ofG hu hv
theorem subR_v {a b c d:Int} (h:(subR a b c d).e=0):vB a b=true∧vB c d=true:=by
 unfold subR at h;split at h
 ·rename_i c;exact c
 ·exact absurd h (by decide)
theorem incl_gap {n t t':D} {dl dh:Int} (h:SubD t' t):Incl (gapR n dl dh t) (gapR n dl dh t'):=by
 intro e;unfold gapR at e ⊢;split at e
 ·rename_i c;obtain ⟨d1,d2⟩:=incl_dot (subD_refl (dot_v c).1) h c;rw [if_pos c,if_pos d1];exact incl_sub (sub_refl (subR_v e).1) d2 e
 ·rename_i c;exact absurd e c
theorem kind_one {kd:Int} {g:R} (h:kindS kd g=1):kd=1:=by
 unfold kindS at h;split at h
 ·split at h
  ·exact absurd h (by decide)
  ·split at h
   ·exact absurd h (by decide)
   ·exact h
 ·exact h
theorem kind_sub {g g':R} (h:g.e=0) (k:Incl g g') (h1:kindS 1 g=1):kindS 1 g'=1:=by
 obtain ⟨e,s⟩:=k h;have l:=s.l;have r:=(vB_iff.1 s.v').2.1;unfold kindS at h1 ⊢;rw [if_pos h] at h1;rw [if_pos e];split at h1
 ·exact absurd h1 (by decide)
 ·split at h1
  ·exact absurd h1 (by decide)
  ·rename_i c1 c2;have:¬g.lo<0:=fun z=>c2 ⟨z,rfl⟩;rw [if_neg (by omega),if_neg (by omega)]
theorem coverL_sub {f:Int} {t t':D} (ht:SubD t' t):∀(l:List (D × Int × Int)) (i kd:Int),coverL f t i l kd=(1,0)→kd=1∧coverL f t' i l 1=(1,0)
 | [],i,kd,h=>by
  unfold coverL at h ⊢;exact ⟨congrArg Prod.fst h,rfl⟩
 |x::l,i,kd,h=>by
  unfold coverL at h ⊢;split at h
  ·rename_i c;rw [if_pos c];exact coverL_sub ht l _ _ h
  ·rename_i c;rw [if_neg c];split at h
   ·rename_i c2;obtain ⟨h1,h2⟩:=coverL_sub ht l _ _ h;have k1:=kind_one h1;subst k1;rw [if_pos (incl_gap ht c2).1,kind_sub c2 (incl_gap ht) h1];exact ⟨rfl,h2⟩
   ·exact absurd (congrArg Prod.fst h) (by show ¬(0:Int)=1;decide)
structure SubC (y c:CV):Prop where
 xa:Sub y.a y.b c.a c.b
 xc:Sub y.c y.d c.c c.d
 xp:Sub y.p y.q c.p c.q
 xr:Sub y.r y.s c.r c.s
 xf:y.f=c.f
theorem subC_of {y c:CV} (h:insC y c=true):SubC y c:=by
 simp only [insC,Bool.and_eq_true,decide_eq_true_eq] at h;obtain ⟨h1,h2,h3,h4,h5⟩:=h;exact ⟨sub_of_ins h1,sub_of_ins h2,sub_of_ins h3,sub_of_ins h4,h5⟩
theorem vcell_sub {L:List D} {M:List (Int × Int)} {i0 i1:Int} {y c:CV} (s:SubC y c) (h:vCell L M i0 i1 c=true):vCell L M i0 i1 y=true:=by
 simp only [vCell,cone,vC,Bool.and_eq_true,decide_eq_true_eq] at h ⊢;obtain ⟨h1,h2,h3,h4,⟨h5,h6⟩,h7,h8⟩:=h;have l1:=s.xp.l;have r1:=s.xp.r;have l2:=s.xr.l;have r2:=s.xr.r;refine ⟨h1,by rw [s.xf];exact h2,by rw [s.xf];exact h3,⟨s.xa.v',s.xc.v',s.xp.v',s.xr.v'⟩,⟨?_,?_⟩,?_,?_⟩<;>omega
theorem vbody_nth {L:List D} {M:List (Int × Int)} {i0 i1 f:Int} (h:vBody L M i0 i1=true) (hf:0≤f∧f<(L.length:Int)):vD (nthD L f)=true∧vB (nthP M f).1 (nthP M f).2=true:=by
 simp only [vBody,Bool.and_eq_true,decide_eq_true_eq,List.all_eq_true] at h;obtain ⟨⟨_,_,h1⟩,_,h2,h3⟩:=h;obtain ⟨k,rfl⟩:∃k:Nat,f=(k:Int):=⟨f.toNat,by omega⟩
 have hk:k<L.length:=by omega
 have hm:k<M.length:=by omega
 constructor
 ·rw [nthD,Int.toNat_natCast,List.getElem?_eq_getElem hk];exact h2 _ (List.getElem_mem hk)
 ·rw [nthP,Int.toNat_natCast,List.getElem?_eq_getElem hm];exact h3 _ (List.getElem_mem hm)
theorem incl_pointV {L:List D} {M:List (Int × Int)} {i0 i1:Int} {y c:CV} (s:SubC y c) (h:vCell L M i0 i1 c=true):InclD (pointV L M i0 i1 c) (pointV L M i0 i1 y):=by
 rw [pointV,pointV,if_pos h,if_pos (vcell_sub s h),s.xf];have hc:=h;simp only [vCell,Bool.and_eq_true,decide_eq_true_eq] at hc;obtain ⟨v1,v2⟩:=vbody_nth hc.1 hc.2.1;exact incl_point v1 v2 s.xa s.xc
theorem cover_sub {L:List D} {M:List (Int × Int)} {i0 i1:Int} {y c:CV} (s:SubC y c) (h:vCell L M i0 i1 c=true) (h1:coverR L M i0 i1 c=(1,0)):coverR L M i0 i1 y=(1,0):=by
 unfold coverR at h1 ⊢;split at h1
 ·rename_i z;obtain ⟨p1,p2⟩:=incl_pointV s h z;rw [if_pos p1,s.xf];exact (coverL_sub p2 _ _ _ h1).2
 ·exact absurd (congrArg Prod.fst h1) (by show ¬(0:Int)=1;decide)
theorem refr_sgn {s t:D} {a b:Int} (h:(refrR s t a b).e=0):¬sgn (refrR s t a b).p (refrR s t a b).q=0:=by
 unfold refrR at h ⊢;split at h
 ·rename_i c0;rw [if_pos c0];split at h
  ·rename_i c1;rw [if_pos c1];split at h
   ·exact absurd h (by rw [fail_e];decide)
   ·rename_i c2;rw [if_neg c2];split at h
    ·rename_i c3;rw [if_pos c3];split at h
     ·exact absurd h (by rw [fail_e];decide)
     ·rename_i c4;rw [if_neg c4];unfold tailF at h ⊢;dsimp only at h ⊢;split at h
      ·rename_i c5;rw [if_pos c5];exact c2
      ·rename_i c5;exact absurd h c5
    ·rename_i c3;exact absurd h c3
  ·rename_i c1;exact absurd h c1
 ·exact absurd h (by decide)
theorem neg_sub {a b a' b':Int} (h:Sub a' b' a b):Sub (-b') (-a') (-b) (-a):=by
 have v:=vB_iff.1 h.v;have v':=vB_iff.1 h.v';have l:=h.l;have r:=h.r;exact ⟨vB_iff.2 ⟨by omega,by omega,by omega⟩,vB_iff.2 ⟨by omega,by omega,by omega⟩,by omega,by omega,by omega⟩
theorem passG_sub {a b c d a' b' c' d' i0 i1 j0 j1:Int} (h:Sub a' b' a b) (k:Sub c' d' c d) (hg:¬sgn a b=0) (hi:vB i0 i1=true) (hj:vB j0 j1=true) (h0:(passG a b c d i0 i1 j0 j1).e=0) :
  (passG a' b' c' d' i0 i1 j0 j1).e=0∧Sub (passG a' b' c' d' i0 i1 j0 j1).lo (passG a' b' c' d' i0 i1 j0 j1).hi (passG a b c d i0 i1 j0 j1).lo (passG a b c d i0 i1 j0 j1).hi:=by
 have e:sgn a' b'=sgn a b:=(sgn_sub h).resolve_left hg;unfold passG at h0 ⊢;rw [e];split at h0
 ·rename_i c;rw [if_pos c,if_pos c];exact pass_sub (neg_sub h) (neg_sub k) hi hj h0
 ·rename_i c;rw [if_neg c,if_neg c];exact pass_sub h k hi hj h0
theorem passG_in {a b c d i0 i1 j0 j1:Int} (h:(passG a b c d i0 i1 j0 j1).e=0):0≤(passG a b c d i0 i1 j0 j1).lo∧(passG a b c d i0 i1 j0 j1).lo≤(passG a b c d i0 i1 j0 j1).hi∧(passG a b c d i0 i1 j0 j1).hi≤16777216:=by
 unfold passG at h ⊢;split at h
 ·rename_i c;rw [if_pos c];exact trans_in h
 ·rename_i c;rw [if_neg c];exact trans_in h
theorem enter_ok {L:List D} {M:List (Int × Int)} {i0 i1 f:Int} {a v:D} (h:(enterR L M i0 i1 f a v).e=0) :
  vD a=true∧vD v=true∧0≤f∧f<(L.length:Int)∧(divR 16777216 16777216 i0 i1).e=0∧(refrR v (nthD L f) (divR 16777216 16777216 i0 i1).lo (divR 16777216 16777216 i0 i1).hi).e=0 ∧
  ¬0<sgn (refrR v (nthD L f) (divR 16777216 16777216 i0 i1).lo (divR 16777216 16777216 i0 i1).hi).p (refrR v (nthD L f) (divR 16777216 16777216 i0 i1).lo (divR 16777216 16777216 i0 i1).hi).q ∧
  (passG (refrR v (nthD L f) (divR 16777216 16777216 i0 i1).lo (divR 16777216 16777216 i0 i1).hi).p (refrR v (nthD L f) (divR 16777216 16777216 i0 i1).lo (divR 16777216 16777216 i0 i1).hi).q (refrR v (nthD L f) (divR 16777216 16777216 i0 i1).lo (divR 16777216 16777216 i0 i1).hi).u (refrR v (nthD L f) (divR 16777216 16777216 i0 i1).lo (divR 16777216 16777216 i0 i1).hi).v 16777216 16777216 i0 i1).e=0:=by
 unfold enterR at h;split at h
 case isFalse=>exact absurd h (by decide)
 split at h
 case isFalse=>exact absurd h (by decide)
 rename_i c2;split at h
 case isFalse=>exact absurd h (by decide)
 rename_i c3;unfold enterG at h;split at h
 case isFalse c=>exact absurd h c
 rename_i c4;unfold enterF at h;split at h
 case isFalse c=>exact absurd h c
 rename_i c5;split at h
 case isTrue=>exact absurd h (by decide)
 rename_i c6;split at h
 case isFalse c=>exact absurd h c
 rename_i c7;simp only [Bool.and_eq_true] at c2;exact ⟨c2.1,c2.2,c3.1,c3.2,c4,c5,c6,c7⟩
theorem enter_of {L:List D} {M:List (Int × Int)} {i0 i1 f:Int} {a v:D} (hb:vBody L M i0 i1=true) (ha:vD a=true) (hv:vD v=true) (hf:0≤f∧f<(L.length:Int)) (h1:(divR 16777216 16777216 i0 i1).e=0)
  (h2:(refrR v (nthD L f) (divR 16777216 16777216 i0 i1).lo (divR 16777216 16777216 i0 i1).hi).e=0)
  (h3:¬0<sgn (refrR v (nthD L f) (divR 16777216 16777216 i0 i1).lo (divR 16777216 16777216 i0 i1).hi).p (refrR v (nthD L f) (divR 16777216 16777216 i0 i1).lo (divR 16777216 16777216 i0 i1).hi).q)
  (h4:(passG (refrR v (nthD L f) (divR 16777216 16777216 i0 i1).lo (divR 16777216 16777216 i0 i1).hi).p (refrR v (nthD L f) (divR 16777216 16777216 i0 i1).lo (divR 16777216 16777216 i0 i1).hi).q (refrR v (nthD L f) (divR 16777216 16777216 i0 i1).lo (divR 16777216 16777216 i0 i1).hi).u (refrR v (nthD L f) (divR 16777216 16777216 i0 i1).lo (divR 16777216 16777216 i0 i1).hi).v 16777216 16777216 i0 i1).e=0) :
  enterR L M i0 i1 f a v=⟨a,(refrR v (nthD L f) (divR 16777216 16777216 i0 i1).lo (divR 16777216 16777216 i0 i1).hi).d,
   (passG (refrR v (nthD L f) (divR 16777216 16777216 i0 i1).lo (divR 16777216 16777216 i0 i1).hi).p (refrR v (nthD L f) (divR 16777216 16777216 i0 i1).lo (divR 16777216 16777216 i0 i1).hi).q (refrR v (nthD L f) (divR 16777216 16777216 i0 i1).lo (divR 16777216 16777216 i0 i1).hi).u (refrR v (nthD L f) (divR 16777216 16777216 i0 i1).lo (divR 16777216 16777216 i0 i1).hi).v 16777216 16777216 i0 i1).lo,
   (passG (refrR v (nthD L f) (divR 16777216 16777216 i0 i1).lo (divR 16777216 16777216 i0 i1).hi).p (refrR v (nthD L f) (divR 16777216 16777216 i0 i1).lo (divR 16777216 16777216 i0 i1).hi).q (refrR v (nthD L f) (divR 16777216 16777216 i0 i1).lo (divR 16777216 16777216 i0 i1).hi).u (refrR v (nthD L f) (divR 16777216 16777216 i0 i1).lo (divR 16777216 16777216 i0 i1).hi).v 16777216 16777216 i0 i1).hi,0⟩:=by
 rw [enterR,if_pos hb,if_pos (by rw [ha,hv];rfl),if_pos hf,enterG,if_pos h1,enterF,if_pos h2,if_neg h3,if_pos h4]
structure SubE (x' x:EN):Prop where
 e:x'.e=0
 a:SubD x'.a x.a
 v:SubD x'.v x.v
 g:Sub x'.lo x'.hi x.lo x.hi
theorem div_v {a b c d:Int} (h:(divR a b c d).e=0):vB a b=true∧vB c d=true:=by
 unfold divR at h;split at h
 ·rename_i c;exact c
 ·exact absurd h (by decide)
theorem enter_sub {L:List D} {M:List (Int × Int)} {i0 i1 f:Int} {a v a' v':D} (hb:vBody L M i0 i1=true) (ha:SubD a' a) (hv:SubD v' v) (h:(enterR L M i0 i1 f a v).e=0):SubE (enterR L M i0 i1 f a' v') (enterR L M i0 i1 f a v):=by
 obtain ⟨va,vv,f0,f1,h1,h2,h3,h4⟩:=enter_ok h;obtain ⟨n1,_⟩:=vbody_nth hb ⟨f0,f1⟩;obtain ⟨w1,w2,w3,w4,w5,w6⟩:=refr_w h2;obtain ⟨d1,d2,d3,d4⟩:=refr_sub hv (subD_refl n1) w4 h2;have hs:=refr_sgn h2;have hi:=(div_v h1).2;obtain ⟨p1,p2⟩:=passG_sub d3 d4 hs (by decide) hi h4;have h3':=h3;rw [←(sgn_sub d3).resolve_left hs] at h3';rw [enter_of hb va vv ⟨f0,f1⟩ h1 h2 h3 h4,enter_of hb ha.v' hv.v' ⟨f0,f1⟩ h1 d1 h3' p1];exact ⟨rfl,ha,d2,p2⟩
theorem trace_inv {L:List D} {M:List (Int × Int)} {i0 i1 most:Int} {c:CV} (h:(traceR L M i0 i1 c most).e=0):vCell L M i0 i1 c=true∧(0≤most∧most≤20)∧coverR L M i0 i1 c=(1,0):=by
 unfold traceR at h;split at h
 case isFalse=>exact absurd h (by decide)
 rename_i c1;split at h
 case isFalse=>exact absurd h (by decide)
 rename_i c2;split at h
 case isFalse c=>exact absurd h c
 rename_i c3;split at h
 case isFalse=>exact absurd h (by decide)
 rename_i c4;exact ⟨c1,c2,Prod.ext c4 c3⟩
theorem cover_point {L:List D} {M:List (Int × Int)} {i0 i1:Int} {c:CV} (h:coverR L M i0 i1 c=(1,0)):(pointV L M i0 i1 c).e=0:=by
 unfold coverR at h;split at h
 ·rename_i z;exact z
 ·exact absurd (congrArg Prod.fst h) (by show ¬(0:Int)=1;decide)
theorem fol_ok {L:List D} {M:List (Int × Int)} {i0 i1 f most:Int} {a v:D} (hb:vBody L M i0 i1=true) (h:(enterR L M i0 i1 f a v).e=0) (hm:0≤most∧most≤20) :
  followV L M i0 i1 (enterR L M i0 i1 f a v).a (enterR L M i0 i1 f a v).v (enterR L M i0 i1 f a v).lo (enterR L M i0 i1 f a v).hi most =
   ⟨(followL (L.zip M) i0 i1 (enterR L M i0 i1 f a v).lo (enterR L M i0 i1 f a v).hi most.toNat (enterR L M i0 i1 f a v).a (enterR L M i0 i1 f a v).v []).1,(followL (L.zip M) i0 i1 (enterR L M i0 i1 f a v).lo (enterR L M i0 i1 f a v).hi most.toNat (enterR L M i0 i1 f a v).a (enterR L M i0 i1 f a v).v []).2,0⟩ ∧
  0≤(enterR L M i0 i1 f a v).lo∧0≤(enterR L M i0 i1 f a v).hi:=by
 obtain ⟨va,vv,f0,f1,h1,h2,h3,h4⟩:=enter_ok h;obtain ⟨n1,_⟩:=vbody_nth hb ⟨f0,f1⟩;have s:=enter_sub hb (subD_refl va) (subD_refl vv) h;obtain ⟨l1,l2,l3⟩:=passG_in h4;have e:=enter_of hb va vv ⟨f0,f1⟩ h1 h2 h3 h4
 have lo:(enterR L M i0 i1 f a v).lo=(passG (refrR v (nthD L f) (divR 16777216 16777216 i0 i1).lo (divR 16777216 16777216 i0 i1).hi).p (refrR v (nthD L f) (divR 16777216 16777216 i0 i1).lo (divR 16777216 16777216 i0 i1).hi).q (refrR v (nthD L f) (divR 16777216 16777216 i0 i1).lo (divR 16777216 16777216 i0 i1).hi).u (refrR v (nthD L f) (divR 16777216 16777216 i0 i1).lo (divR 16777216 16777216 i0 i1).hi).v 16777216 16777216 i0 i1).lo:=by rw [e]
 have hi:(enterR L M i0 i1 f a v).hi=(passG (refrR v (nthD L f) (divR 16777216 16777216 i0 i1).lo (divR 16777216 16777216 i0 i1).hi).p (refrR v (nthD L f) (divR 16777216 16777216 i0 i1).lo (divR 16777216 16777216 i0 i1).hi).q (refrR v (nthD L f) (divR 16777216 16777216 i0 i1).lo (divR 16777216 16777216 i0 i1).hi).u (refrR v (nthD L f) (divR 16777216 16777216 i0 i1).lo (divR 16777216 16777216 i0 i1).hi).v 16777216 16777216 i0 i1).hi:=by rw [e]
 refine ⟨?_,by omega,by omega⟩;rw [followV,if_pos (by rw [hb,s.a.v,s.v.v,s.g.v,decide_eq_true (by omega:0≤(enterR L M i0 i1 f a v).lo),decide_eq_true (by omega:(enterR L M i0 i1 f a v).hi≤16777216)];rfl),if_pos hm]
theorem trace_eq {L:List D} {M:List (Int × Int)} {i0 i1 most:Int} {c:CV} (h1:vCell L M i0 i1 c=true) (hm:0≤most∧most≤20) (h2:coverR L M i0 i1 c=(1,0)) :
  traceR L M i0 i1 c most=(if (ofR c.p c.q c.r c.s).e=0 then if (enterR L M i0 i1 c.f (pointV L M i0 i1 c).d (ofR c.p c.q c.r c.s).d).e=0 then followV L M i0 i1 (enterR L M i0 i1 c.f (pointV L M i0 i1 c).d (ofR c.p c.q c.r c.s).d).a (enterR L M i0 i1 c.f (pointV L M i0 i1 c).d (ofR c.p c.q c.r c.s).d).v (enterR L M i0 i1 c.f (pointV L M i0 i1 c).d (ofR c.p c.q c.r c.s).d).lo (enterR L M i0 i1 c.f (pointV L M i0 i1 c).d (ofR c.p c.q c.r c.s).d).hi most else ⟨unk,[],0⟩ else ⟨unk,[],0⟩):=by
 rw [traceR,if_pos h1,if_pos hm,h2,if_pos rfl,if_pos rfl]
theorem trace_ok {L:List D} {M:List (Int × Int)} {i0 i1 most:Int} {c:CV} (h1:vCell L M i0 i1 c=true) (hm:0≤most∧most≤20) (h2:coverR L M i0 i1 c=(1,0)) :
  (traceR L M i0 i1 c most).e=0∧1≤(traceR L M i0 i1 c most).lv.k∧(traceR L M i0 i1 c most).lv.k≤3:=by
 have hb:vBody L M i0 i1=true:=by
  have:=h1;simp only [vCell,Bool.and_eq_true] at this;exact this.1
 rw [trace_eq h1 hm h2];split
 ·split
  ·rename_i c2;obtain ⟨f1,f2,f3⟩:=fol_ok hb c2 hm;rw [f1];have g:=(follow_good (l:=L.zip M) (i0:=i0) (i1:=i1) f2 f3 most.toNat (enterR L M i0 i1 c.f (pointV L M i0 i1 c).d (ofR c.p c.q c.r c.s).d).a (enterR L M i0 i1 c.f (pointV L M i0 i1 c).d (ofR c.p c.q c.r c.s).d).v []).1;exact ⟨rfl,g.k1,g.k3⟩
  ·exact ⟨rfl,by decide,by decide⟩
 ·exact ⟨rfl,by decide,by decide⟩
theorem zip_v {L:List D} {M:List (Int × Int)} {i0 i1:Int} (h:vBody L M i0 i1=true):∀y∈L.zip M,vD y.1=true:=by
 intro y hy;simp only [vBody,Bool.and_eq_true,decide_eq_true_eq,List.all_eq_true] at h;exact h.2.2.1 _ (List.of_mem_zip hy).1
theorem trace_sub {L:List D} {M:List (Int × Int)} {i0 i1 most:Int} {y c:CV} (s:SubC y c) (h:(traceR L M i0 i1 c most).e=0) :
  (traceR L M i0 i1 y most).e=0∧(¬(traceR L M i0 i1 c most).lv.k=3→(traceR L M i0 i1 y most).lv.k=(traceR L M i0 i1 c most).lv.k):=by
 obtain ⟨h1,hm,h2⟩:=trace_inv h;have h1':=vcell_sub s h1;have h2':=cover_sub s h1 h2;refine ⟨(trace_ok h1' hm h2').1,fun hk=>?_⟩
 have hb:vBody L M i0 i1=true:=by
  have:=h1;simp only [vCell,Bool.and_eq_true] at this;exact this.1
 have hi:vB i0 i1=true:=by
  have:=hb;simp only [vBody,vI,Bool.and_eq_true] at this;exact this.2.1.1
 rw [trace_eq h1 hm h2] at hk ⊢;rw [trace_eq h1' hm h2',s.xf];split at hk
 case isFalse=>exact absurd rfl hk
 rename_i c1;split at hk
 case isFalse=>exact absurd rfl hk
 rename_i c2;obtain ⟨o1,o2⟩:=incl_of2 s.xp s.xr c1;obtain ⟨p1,p2⟩:=incl_pointV s h1 (cover_point h2);have E:=enter_sub hb p2 o2 c2;rw [if_pos c1,if_pos c2,if_pos o1,if_pos E.e];obtain ⟨f1,f2,f3⟩:=fol_ok hb c2 hm;obtain ⟨g1,g2,g3⟩:=fol_ok hb E.e hm;rw [f1] at hk ⊢;rw [g1];have F:=follow_sub (l:=L.zip M) (i0:=i0) (i1:=i1) hi E.g (zip_v hb) most.toNat _ _ _ _ [] E.a E.v;rw [InL,if_neg hk] at F;exact F.2.k
end Go.Proofs.Ytiecdgcdcpmgaaa.Iv
