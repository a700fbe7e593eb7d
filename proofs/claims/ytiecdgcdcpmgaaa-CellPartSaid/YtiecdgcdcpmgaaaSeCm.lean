/- Plain facts on a cell that lies within another one: its points, how it covers, its directions, the rays that enter, their paths. -/
import Derived.Test.YtiecdgcdcpmgaaaSeCi
import Derived.Test.YtiecdgcdcpmgaaaSeTv3
import Derived.Test.YtiecdgcdcpmgaaaSeFiM
import Derived.Test.YtiecdgcdcpmgaaaSeVs1
import Derived.Test.YtiecdgcdcpmgaaaSeCr2
import Derived.Test.YtiecdgcdcpmgaaaSeDj
import Derived.Test.YtiecdgcdcpmgaaaSeDkM
import Derived.Test.YtiecdgcdcpmgaaaSeDrb
import Derived.Test.YtiecdgcdcpmgaaaSeDsM
import Derived.Test.YtiecdgcdcpmgaaaSeFr5
import Derived.Test.YtiecdgcdcpmgaaaSeIeM
import Derived.Test.YtiecdgcdcpmgaaaSeInM
import Derived.Test.YtiecdgcdcpmgaaaSeRf1
import Derived.Test.YtiecdgcdcpmgaaaSeRf2
import Derived.Test.YtiecdgcdcpmgaaaSeTv1
import Derived.Test.YtiecdgcdcpmgaaaM06
namespace Go.Proofs.Ytiecdgcdcpmgaaa.Iv
theorem incl_bindD {r r':R} {f f':Int→Int→RD} (h:Incl r r') (k:∀{a b a' b':Int},Sub a' b' a b→InclD (f a b) (f' a' b')):InclD (bindD r f) (bindD r' f'):=by
 intro e;unfold bindD at e ⊢;split at e
 ·rename_i c;obtain ⟨h1,h2⟩:=h c;rw [if_pos c,if_pos h1];exact k h2 e
 ·rename_i c;exact absurd e c
theorem incl_point {n:D} {dl dh xl xh yl yh xl' xh' yl' yh':Int} (hn:vD n=true) (hd:vB dl dh=true) (hx:Sub xl' xh' xl xh) (hy:Sub yl' yh' yl yh) :
  InclD (pointR n dl dh xl xh yl yh) (pointR n dl dh xl' xh' yl' yh'):=by
 have s:=subD_refl hn;unfold pointR;refine incl_bindD (incl_mul s.x hx) fun h1=>incl_bindD (incl_mul s.y hy) fun h2=>incl_bindD (incl_add h1 h2) fun h3=>incl_bindD (incl_sub (sub_refl hd) h3) fun h4=>incl_bindD (incl_div h4 s.z) fun h5=>?_;exact fun _=>⟨rfl,hx,hy,h5⟩
theorem subR_v {a b c d:Int} (h:(subR a b c d).e=0):vB a b=true∧vB c d=true:=by
 unfold subR at h;split at h
 ·rename_i c;exact c
 ·exact absurd h (by decide)
theorem incl_gap {n t t':D} {dl dh:Int} (h:SubD t' t):Incl (gapR n dl dh t) (gapR n dl dh t'):=by
 intro e;unfold gapR at e ⊢;split at e
 ·rename_i c;obtain ⟨d1,d2⟩:=incl_dot (subD_refl (dot_v c).1) h c;rw [if_pos c,if_pos d1];exact incl_sub (sub_refl (subR_v e).1) d2 e
 ·rename_i c;exact absurd e c
structure SubC (y c:CV):Prop where
 xa:Sub y.a y.b c.a c.b
 xc:Sub y.c y.d c.c c.d
 xp:Sub y.p y.q c.p c.q
 xr:Sub y.r y.s c.r c.s
 xf:y.f=c.f
theorem vcell_sub {L:List D} {M:List (Int × Int)} {i0 i1:Int} {y c:CV} (s:SubC y c) (h:vCell L M i0 i1 c=true):vCell L M i0 i1 y=true:=by
 simp only [vCell,cone,vC,Bool.and_eq_true,decide_eq_true_eq] at h ⊢;obtain ⟨h1,h2,h3,h4,⟨h5,h6⟩,h7,h8⟩:=h;have l1:=s.xp.l;have r1:=s.xp.r;have l2:=s.xr.l;have r2:=s.xr.r;refine ⟨h1,by rw [s.xf];exact h2,by rw [s.xf];exact h3,⟨s.xa.v',s.xc.v',s.xp.v',s.xr.v'⟩,⟨?_,?_⟩,?_,?_⟩<;>omega
theorem vbody_nth {L:List D} {M:List (Int × Int)} {i0 i1 f:Int} (h:vBody L M i0 i1=true) (hf:0≤f∧f<(L.length:Int)):vD (nthD L f)=true∧vB (nthP M f).1 (nthP M f).2=true:=by
 simp only [vBody,Bool.and_eq_true,decide_eq_true_eq,List.all_eq_true] at h;obtain ⟨⟨_,_,h1⟩,_,h2,h3⟩:=h;obtain ⟨k,rfl⟩:∃k:Nat,f=(k:Int):=⟨f.toNat,by omega⟩
 have hk:k<L.length:=by omega
 have hm:k<M.length:=by omega
 constructor
 ·rw [nthD,Int.toNat_natCast,List.getElem?_eq_getElem hk];exact h2 _ (List.getElem_mem hk)
 ·rw [nthP,Int.toNat_natCast,List.getElem?_eq_getElem hm];exact h3 _ (List.getElem_mem hm)
theorem incl_pointV {L:List D} {M:List (Int × Int)} {i0 i1:Int} {y c:CV} (s:SubC y c) (h:vCell L M i0 i1 c=true):InclD (pointV L M i0 i1 c) (pointV L M i0 i1 y):=by
 rw [pointV,pointV,if_pos h,if_pos (vcell_sub s h),s.xf];have hc:=h;simp only [vCell,Bool.and_eq_true,decide_eq_true_eq] at hc;obtain ⟨v1,v2⟩:=vbody_nth hc.1 hc.2.1;exact incl_point v1 v2 s.xa s.xc
end Go.Proofs.Ytiecdgcdcpmgaaa.Iv
