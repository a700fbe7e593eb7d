/- Plain facts on the path of a ray: what light is left, more reflections, and the path of a part of the rays. -/
import Derived.Test.YtiecdgcdcpmgaaaSbTv3
import Derived.Test.YtiecdgcdcpmgaaaSbFiM
import Derived.Test.YtiecdgcdcpmgaaaSbFr6
import Derived.Test.YtiecdgcdcpmgaaaSbTv1
import Derived.Test.YtiecdgcdcpmgaaaM06
namespace Go.Proofs.Ytiecdgcdcpmgaaa.Iv
theorem cut_sub {a b a' b':Int} (h:Sub a' b' a b):Ivf.Sub (cutR a') (cutR b') (cutR a) (cutR b):=by
 obtain ⟨h1,h2,h3,h4,h5⟩:=h;unfold cutR;exact ⟨vB_iff.2 ⟨by omega,by omega,by omega⟩,vB_iff.2 ⟨by omega,by omega,by omega⟩,by omega,by omega,by omega⟩
theorem trans_sf {s:Ivf.Sf} (h:(Ivf.transR s).e=0):Ivf.sfB s=true:=by
 cases hs:Ivf.sfB s
 ·have:Ivf.perpR s=⟨0,0,1⟩:=Ivf.polR_no hs;rw [Ivf.transR,Ivf.reflR,this] at h;exact absurd h (by simp [Ivf.bind])
 ·rfl
theorem trans_in {s:Ivf.Sf} (h:(Ivf.transR s).e=0):0≤(Ivf.transR s).lo∧(Ivf.transR s).lo≤(Ivf.transR s).hi∧(Ivf.transR s).hi≤16777216:=by
 rcases Ivf.refl_of s with e|⟨r1,r2,r3,r4⟩
 ·exact absurd ((Ivf.trans_err e).symm.trans h) e
 ·obtain ⟨t1,t2,_⟩:=Ivf.trans_of r1 r2 r3 r4;omega
theorem pass_sub {a b c d a' b' c' d' i0 i1 j0 j1:Int} (h:Sub a' b' a b) (k:Sub c' d' c d) (hi:vB i0 i1=true) (hj:vB j0 j1=true) (h0:(passR a b c d i0 i1 j0 j1).e=0) :
  (passR a' b' c' d' i0 i1 j0 j1).e=0∧Sub (passR a' b' c' d' i0 i1 j0 j1).lo (passR a' b' c' d' i0 i1 j0 j1).hi (passR a b c d i0 i1 j0 j1).lo (passR a b c d i0 i1 j0 j1).hi:=by
 have r (x y:Int) (hv:vB x y=true):Ivf.Sub x y x y:=⟨hv,hv,Int.le_refl _,(vB_iff.1 hv).2.1,Int.le_refl _⟩;obtain ⟨g1,g2,g3,g4,g5,g6⟩:=Ivf.incl_trans (p:=⟨cutR a',cutR b',cutR c',cutR d',i0,i1,j0,j1⟩) (s:=⟨cutR a,cutR b,cutR c,cutR d,i0,i1,j0,j1⟩) ⟨cut_sub h,cut_sub k,r _ _ hi,r _ _ hj⟩ (trans_sf h0) h0;exact ⟨g1,g2,g3,g4,g5,g6⟩
theorem refr_w {s t:D} {a b:Int} (h:(refrR s t a b).e=0):vD (refrR s t a b).d=true∧vD s=true∧vD t=true∧vB a b=true∧vB (refrR s t a b).p (refrR s t a b).q=true∧vB (refrR s t a b).u (refrR s t a b).v=true:=by
 by_cases c:(vD s && vD t)=true∧vB a b=true
 ·have c1:vD s=true∧vD t=true:=by simpa using c.1
  have k:=refr_sub (subD_refl c1.1) (subD_refl c1.2) c.2 h;exact ⟨k.d.v,c1.1,c1.2,c.2,k.b.v,k.a.v⟩
 ·rw [refrR,if_neg c] at h;exact absurd h (by decide)
theorem mul_in0 {a b c d:Int} (h:(mulR a b c d).e=0) (h0:0≤a) (h1:0≤c) (h2:d≤16777216):0≤(mulR a b c d).lo∧(mulR a b c d).hi≤b∧vB (mulR a b c d).lo (mulR a b c d).hi=true:=by
 obtain ⟨e1,e2,v1,v2⟩:=mul_v h;have w1:=vB_iff.1 v1;have w2:=vB_iff.1 v2;have hs:=(incl_mul (sub_refl v1) (sub_refl v2) h).2.v;refine ⟨?_,?_,hs⟩
 ·rw [e1];have p1:=Int.mul_nonneg h0 h1;have p2:=Int.mul_nonneg h0 (show 0≤d by omega);have p3:=Int.mul_nonneg (show 0≤b by omega) h1;have p4:=Int.mul_nonneg (show 0≤b by omega) (show 0≤d by omega)
  have:0≤min4 (a*c) (a*d) (b*c) (b*d):=by unfold min4;omega
  exact Int.ediv_nonneg this (by decide)
 ·rw [e2]
  have q (x y:Int) (hx:0≤x) (hxb:x≤b) (hy:y≤16777216):x*y≤b*16777216:=by
   have k1:=Int.mul_le_mul_of_nonneg_left hy hx;have k2:=Int.mul_le_mul_of_nonneg_right hxb (by decide:(0:Int)≤16777216);omega
  have p1:=q a c h0 (by omega) (by omega);have p2:=q a d h0 (by omega) h2;have p3:=q b c (by omega) (Int.le_refl _) (by omega);have p4:=q b d (by omega) (Int.le_refl _) h2
  have:max4 (a*c) (a*d) (b*c) (b*d)≤b*16777216:=by unfold max4;omega
  have k:=ce_mono this
  have:ce (b*16777216)=b:=by unfold ce;omega
  omega
structure GoodL (gh:Int) (y:LV):Prop where
 lo:0≤y.lo
 hi:y.hi≤gh
 k1:1≤y.k
 k3:y.k≤3
 o:y.k≠3→vD y.o=true∧vB y.lo y.hi=true
theorem good_unk {gh:Int} (h:0≤gh):GoodL gh unk:=⟨Int.le_refl _,h,by decide,by decide,fun h=>absurd rfl h⟩
theorem good_leave {n v:D} {i0 i1 gl gh:Int} (h0:0≤gl) (h1:0≤gh):GoodL gh (leaveR n v i0 i1 gl gh unk):=by
 unfold leaveR;split
 ·rename_i c1;split
  ·rename_i c2;split
   ·rename_i c3;obtain ⟨t1,t2,t3⟩:=trans_in c2;obtain ⟨m1,m2,m3⟩:=mul_in0 c3 h0 t1 t3;split
    ·exact ⟨m1,m2,(by decide:(1:Int)≤1),(by decide:(1:Int)≤3),fun _=>⟨(refr_w c1).1,m3⟩⟩
    ·split
     ·exact ⟨m1,m2,(by decide:(1:Int)≤2),(by decide:(2:Int)≤3),fun _=>⟨(refr_w c1).1,m3⟩⟩
     ·exact good_unk h1
   ·exact good_unk h1
  ·exact good_unk h1
 ·exact good_unk h1
structure SubL (y' y:LV):Prop where
 k:y'.k=y.k
 o:SubD y'.o y.o
 g:Sub y'.lo y'.hi y.lo y.hi
theorem leave_sub {n v v':D} {i0 i1 gl gh gl' gh':Int} (hv:SubD v' v) (hg:Sub gl' gh' gl gh) (hk:(leaveR n v i0 i1 gl gh unk).k≠3):SubL (leaveR n v' i0 i1 gl' gh' unk) (leaveR n v i0 i1 gl gh unk):=by
 by_cases c1:(refrR v n i0 i1).e=0
 case neg=>rw [leaveR,if_neg c1] at hk;exact absurd rfl hk
 obtain ⟨_,r2,r3,r4,r5,r6⟩:=refr_w c1;obtain ⟨d1,d2,d3,d4⟩:=refr_sub hv (subD_refl r3) r4 c1
 by_cases c2:(passR (refrR v n i0 i1).p (refrR v n i0 i1).q (refrR v n i0 i1).u (refrR v n i0 i1).v i0 i1 16777216 16777216).e=0
 case neg=>rw [leaveR,if_pos c1,if_neg c2] at hk;exact absurd rfl hk
 obtain ⟨p1,p2⟩:=pass_sub d3 d4 r4 (by decide:vB 16777216 16777216=true) c2
 by_cases c3:(mulR gl gh (passR (refrR v n i0 i1).p (refrR v n i0 i1).q (refrR v n i0 i1).u (refrR v n i0 i1).v i0 i1 16777216 16777216).lo (passR (refrR v n i0 i1).p (refrR v n i0 i1).q (refrR v n i0 i1).u (refrR v n i0 i1).v i0 i1 16777216 16777216).hi).e=0
 case neg=>rw [leaveR,if_pos c1,if_pos c2,if_neg c3] at hk;exact absurd rfl hk
 obtain ⟨m1,m2⟩:=incl_mul hg p2 c3;have hs:=sgn_sub d2.z
 by_cases c4:sgn (refrR v n i0 i1).d.e (refrR v n i0 i1).d.f=1
 ·have c4':sgn (refrR v' n i0 i1).d.e (refrR v' n i0 i1).d.f=1:=by rw [hs.resolve_left (by rw [c4];decide),c4]
  rw [show leaveR n v i0 i1 gl gh unk=_ from by rw [leaveR,if_pos c1,if_pos c2,if_pos c3,if_pos c4],show leaveR n v' i0 i1 gl' gh' unk=_ from by rw [leaveR,if_pos d1,if_pos p1,if_pos m1,if_pos c4']];exact ⟨rfl,d2,m2⟩
 ·by_cases c5:sgn (refrR v n i0 i1).d.e (refrR v n i0 i1).d.f = -1
  ·have c5':sgn (refrR v' n i0 i1).d.e (refrR v' n i0 i1).d.f = -1:=by rw [hs.resolve_left (by rw [c5];decide),c5]
   rw [show leaveR n v i0 i1 gl gh unk=_ from by rw [leaveR,if_pos c1,if_pos c2,if_pos c3,if_neg c4,if_pos c5],show leaveR n v' i0 i1 gl' gh' unk=_ from by rw [leaveR,if_pos d1,if_pos p1,if_pos m1,if_neg (by rw [c5'];decide),if_pos c5']];exact ⟨rfl,d2,m2⟩
  ·rw [leaveR,if_pos c1,if_pos c2,if_pos c3,if_neg c4,if_neg c5] at hk;exact absurd rfl hk
theorem one_pre {l:List (D × Int × Int)} {i0 i1 gl gh:Int} {a v:D} {fs:List Int} {last:Bool} {next:D→D→List Int→LV × List Int} (hn:∀a v gs,gs <+: (next a v gs).2) :
  fs <+: (oneF l i0 i1 gl gh a v fs last next).2∧((hitR l a v).e=0→fs ++ [(hitR l a v).f] <+: (oneF l i0 i1 gl gh a v fs last next).2):=by
 have key:(hitR l a v).e=0→fs ++ [(hitR l a v).f] <+: (oneF l i0 i1 gl gh a v fs last next).2:=by
  intro h;rw [oneF,if_pos h]
  repeat' split
  all_goals first|exact hn _ _ _|exact List.prefix_refl _
 refine ⟨?_,key⟩
 by_cases h:(hitR l a v).e=0
 ·exact (List.prefix_append _ _).trans (key h)
 ·rw [oneF,if_neg h];exact List.prefix_refl _
theorem follow_pre {l:List (D × Int × Int)} {i0 i1 gl gh:Int} : ∀(m:Nat) (a v:D) (fs:List Int),fs <+: (followL l i0 i1 gl gh m a v fs).2∧((hitR l a v).e=0→fs ++ [(hitR l a v).f] <+: (followL l i0 i1 gl gh m a v fs).2)
 |0,_,_,_=>one_pre (fun _ _ _=>List.prefix_refl _)
 |m+1,_,_,_=>one_pre (fun a v gs=>(follow_pre m a v gs).1)
theorem follow_good {l:List (D × Int × Int)} {i0 i1 gl gh:Int} (h0:0≤gl) (h1:0≤gh):∀(m:Nat) (a v:D) (fs:List Int),GoodL gh (followL l i0 i1 gl gh m a v fs).1∧((followL l i0 i1 gl gh m a v fs).1.k≠3→(followL l i0 i1 gl gh m a v fs).2.length≤fs.length+m+1)
 |0,a,v,fs=>by
  rw [followL,oneF]
  repeat' split
  all_goals first|exact ⟨good_unk h1,fun h=>absurd rfl h⟩|exact ⟨good_leave h0 h1,fun _=>by simp only [List.length_append,List.length_singleton];omega⟩
 |m+1,a,v,fs=>by
  rw [followL,oneF]
  repeat' split
  all_goals first
   |exact ⟨good_unk h1,fun h=>absurd rfl h⟩
   |exact ⟨good_leave h0 h1,fun _=>by simp only [List.length_append,List.length_singleton];omega⟩
   |(obtain ⟨g1,g2⟩:=follow_good h0 h1 m _ _ _
     refine ⟨g1,fun h=>?_⟩;have:=g2 h;rw [List.length_append,List.length_singleton] at this
     omega)
theorem follow_more {l:List (D × Int × Int)} {i0 i1 gl gh:Int} : ∀(m:Nat) (a v:D) (fs:List Int),
  ((followL l i0 i1 gl gh m a v fs).1.k=3∧(followL l i0 i1 gl gh m a v fs).2 <+: (followL l i0 i1 gl gh (m+1) a v fs).2)∨followL l i0 i1 gl gh m a v fs=followL l i0 i1 gl gh (m+1) a v fs
 |0,a,v,fs=>by
  rw [followL,followL];unfold oneF
  by_cases c1:(hitR l a v).e=0
  case neg=>rw [if_neg c1,if_neg c1];exact .inr rfl
  rw [if_pos c1,if_pos c1]
  by_cases c2:(scaleD v (hitR l a v).l (hitR l a v).g).e=0
  case neg=>rw [if_neg c2,if_neg c2];exact .inr rfl
  rw [if_pos c2,if_pos c2]
  by_cases c3:(addD a (scaleD v (hitR l a v).l (hitR l a v).g).d).e=0
  case neg=>rw [if_neg c3,if_neg c3];exact .inr rfl
  rw [if_pos c3,if_pos c3]
  by_cases c4:(hitsR v (nrm l (hitR l a v).f) i0 i1).e=0
  case neg=>rw [if_neg c4,if_neg c4];exact .inr rfl
  rw [if_pos c4,if_pos c4]
  by_cases c5:(hitsR v (nrm l (hitR l a v).f) i0 i1).k=2
  ·rw [if_pos c5,if_pos c5];exact .inr rfl
  rw [if_neg c5,if_neg c5,if_neg (fun h=>by cases h.2)];left;refine ⟨rfl,?_⟩
  repeat' split
  all_goals first|exact (follow_pre 0 _ _ _).1|exact List.prefix_refl _
 |m+1,a,v,fs=>by
  rw [followL,followL];unfold oneF
  by_cases c1:(hitR l a v).e=0
  case neg=>rw [if_neg c1,if_neg c1];exact .inr rfl
  rw [if_pos c1,if_pos c1]
  by_cases c2:(scaleD v (hitR l a v).l (hitR l a v).g).e=0
  case neg=>rw [if_neg c2,if_neg c2];exact .inr rfl
  rw [if_pos c2,if_pos c2]
  by_cases c3:(addD a (scaleD v (hitR l a v).l (hitR l a v).g).d).e=0
  case neg=>rw [if_neg c3,if_neg c3];exact .inr rfl
  rw [if_pos c3,if_pos c3]
  by_cases c4:(hitsR v (nrm l (hitR l a v).f) i0 i1).e=0
  case neg=>rw [if_neg c4,if_neg c4];exact .inr rfl
  rw [if_pos c4,if_pos c4]
  by_cases c5:(hitsR v (nrm l (hitR l a v).f) i0 i1).k=2
  ·rw [if_pos c5,if_pos c5];exact .inr rfl
  rw [if_neg c5,if_neg c5]
  by_cases c6:(hitsR v (nrm l (hitR l a v).f) i0 i1).k=1∧false=false
  case neg=>rw [if_neg c6,if_neg c6];exact .inr rfl
  rw [if_pos c6,if_pos c6]
  by_cases c7:(reflR v (nrm l (hitR l a v).f)).e=0
  case neg=>rw [if_neg c7,if_neg c7];exact .inr rfl
  rw [if_pos c7,if_pos c7];exact follow_more m _ _ _
def InL (p q:LV × List Int):Prop:=if q.1.k=3 then q.2 <+: p.2 else p.2=q.2∧SubL p.1 q.1
theorem inl_unk {p q:LV × List Int} (h:q.1.k=3) (k:q.2 <+: p.2):InL p q:=by rw [InL,if_pos h];exact k
theorem follow_sub {l:List (D × Int × Int)} {i0 i1 gl gh gl' gh':Int} (hi:vB i0 i1=true) (hg:Sub gl' gh' gl gh) (hl:∀y∈l,vD y.1=true):∀(m:Nat) (a v a' v':D) (fs:List Int),SubD a' a→SubD v' v →
  InL (followL l i0 i1 gl' gh' m a' v' fs) (followL l i0 i1 gl gh m a v fs)
 |m,a,v,a',v',fs,ha,hv=>by
  have P:=follow_pre (l:=l) (i0:=i0) (i1:=i1) (gl:=gl') (gh:=gh') m a' v' fs
  have big:∃last next next',followL l i0 i1 gl gh m a v fs=oneF l i0 i1 gl gh a v fs last next∧followL l i0 i1 gl' gh' m a' v' fs=oneF l i0 i1 gl' gh' a' v' fs last next'∧(last=false→∀b w b' w' gs,SubD b' b→SubD w' w→InL (next' b' w' gs) (next b w gs)):=by
   cases m with
   |zero=>exact ⟨true,_,_,rfl,rfl,fun h=>by cases h⟩
   |succ m=>exact ⟨false,_,_,rfl,rfl,fun _ b w b' w' gs hb hw=>follow_sub hi hg hl m b w b' w' gs hb hw⟩
  obtain ⟨last,next,next',e1,e2,hn⟩:=big;rw [e2] at P;rw [e1,e2]
  by_cases c1:(hitR l a v).e=0
  case neg=>
   rw [show oneF l i0 i1 gl gh a v fs last next=(unk,fs) from by rw [oneF,if_neg c1]];exact inl_unk rfl P.1
  obtain ⟨d1,d2,d3⟩:=hit_sub ha hv c1;have P2:=P.2 d1;rw [d2] at P2
  by_cases c2:(scaleD v (hitR l a v).l (hitR l a v).g).e=0
  case neg=>
   rw [show oneF l i0 i1 gl gh a v fs last next=(unk,fs ++ [(hitR l a v).f]) from by rw [oneF,if_pos c1,if_neg c2]];exact inl_unk rfl P2
  obtain ⟨s1,s2⟩:=incl_scaleD hv d3 c2
  by_cases c3:(addD a (scaleD v (hitR l a v).l (hitR l a v).g).d).e=0
  case neg=>
   rw [show oneF l i0 i1 gl gh a v fs last next=(unk,fs ++ [(hitR l a v).f]) from by rw [oneF,if_pos c1,if_pos c2,if_neg c3]];exact inl_unk rfl P2
  obtain ⟨t1,t2⟩:=incl_addD ha s2 c3
  by_cases c4:(hitsR v (nrm l (hitR l a v).f) i0 i1).e=0
  case neg=>
   rw [show oneF l i0 i1 gl gh a v fs last next=(unk,fs ++ [(hitR l a v).f]) from by rw [oneF,if_pos c1,if_pos c2,if_pos c3,if_neg c4]];exact inl_unk rfl P2
  have hnv:vD (nrm l (hitR l a v).f)=true:=by
   obtain ⟨k,y,h1,h2,_⟩:=hit_face c1;rw [h1,nrm_eq h2];exact hl y (List.mem_of_getElem? h2)
  obtain ⟨u1,u2⟩:=hits_sub hv (subD_refl hnv) hi c4
  by_cases c5:(hitsR v (nrm l (hitR l a v).f) i0 i1).k=2
  ·rw [show oneF l i0 i1 gl gh a v fs last next=_ from by rw [oneF,if_pos c1,if_pos c2,if_pos c3,if_pos c4,if_pos c5]]
   by_cases c6:(leaveR (nrm l (hitR l a v).f) v i0 i1 gl gh unk).k=3
   ·exact inl_unk c6 P2
   ·have c5':(hitsR v' (nrm l (hitR l a v).f) i0 i1).k=2:=by rw [u2.resolve_left (by rw [c5];decide),c5]
    rw [show oneF l i0 i1 gl' gh' a' v' fs last next'=(leaveR (nrm l (hitR l a v).f) v' i0 i1 gl' gh' unk,fs ++ [(hitR l a v).f]) from by rw [oneF,if_pos d1,if_pos s1,if_pos t1,d2,if_pos u1,if_pos c5']];rw [InL,if_neg c6];exact ⟨rfl,leave_sub hv hg c6⟩
  ·by_cases c6:(hitsR v (nrm l (hitR l a v).f) i0 i1).k=1∧last=false
   case neg=>
    rw [show oneF l i0 i1 gl gh a v fs last next=(unk,fs ++ [(hitR l a v).f]) from by rw [oneF,if_pos c1,if_pos c2,if_pos c3,if_pos c4,if_neg c5,if_neg c6]];exact inl_unk rfl P2
   have c6':(hitsR v' (nrm l (hitR l a v).f) i0 i1).k=1:=by rw [u2.resolve_left (by rw [c6.1];decide),c6.1]
   by_cases c7:(reflR v (nrm l (hitR l a v).f)).e=0
   case neg=>
    rw [show oneF l i0 i1 gl gh a v fs last next=(unk,fs ++ [(hitR l a v).f]) from by rw [oneF,if_pos c1,if_pos c2,if_pos c3,if_pos c4,if_neg c5,if_pos c6,if_neg c7]];exact inl_unk rfl P2
   obtain ⟨w1,w2⟩:=incl_refl hv (subD_refl hnv) c7;rw [show oneF l i0 i1 gl gh a v fs last next=_ from by rw [oneF,if_pos c1,if_pos c2,if_pos c3,if_pos c4,if_neg c5,if_pos c6,if_pos c7]];rw [show oneF l i0 i1 gl' gh' a' v' fs last next'=_ from by rw [oneF,if_pos d1,if_pos s1,if_pos t1,d2,if_pos u1,if_neg (by rw [c6'];decide),if_pos ⟨c6',c6.2⟩,if_pos w1]];exact hn c6.2 _ _ _ _ _ t2 w2
 termination_by m=>m
end Go.Proofs.Ytiecdgcdcpmgaaa.Iv
