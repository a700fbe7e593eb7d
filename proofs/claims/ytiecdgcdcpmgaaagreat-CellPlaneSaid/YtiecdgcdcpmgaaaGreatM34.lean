/- Texts PTv5, PCm. -/
import Derived.Test.YtiecdgcdcpmgaaaGreatM06
import Derived.Test.YtiecdgcdcpmgaaaGreatM21
import Derived.Test.YtiecdgcdcpmgaaaGreatM33
import Derived.Test.YtiecdgcdcpmgaaaGreatM30
import Derived.Test.YtiecdgcdcpmgaaaGreatM28

/- Plain facts on the path of a ray: what light is left, more reflections, and the path of a part of the rays. -/
namespace Go.Proofs.YtiecdgcdcpmgaaaGreat.Iv
end Go.Proofs.YtiecdgcdcpmgaaaGreat.Iv

/- Plain facts on a cell that lies within another one: its points, how it covers, its directions, the rays that enter, their paths. -/
namespace Go.Proofs.YtiecdgcdcpmgaaaGreat.Iv
theorem subR_v {a b c d:Int} (h:(subR a b c d).e=0):vB a b=true∧vB c d=true:=by
 unfold subR at h;split at h
 ·rename_i c;exact c
 ·exact absurd h (by decide)
theorem incl_gap {n t t':D} {dl dh:Int} (h:SubD t' t):Incl (gapR n dl dh t) (gapR n dl dh t'):=by
 intro e;unfold gapR at e ⊢;split at e
 ·rename_i c;obtain ⟨d1,d2⟩:=incl_dot (subD_refl (dot_v c).1) h c;rw [if_pos c,if_pos d1];exact incl_sub (sub_refl (subR_v e).1) d2 e
 ·rename_i c;exact absurd e c
theorem kind_one {kd:Int} {g:R} (h:kindS kd g=1):kd=1:=by
 unfold kindS at h;split at h
 ·split at h
  ·exact absurd h (by decide)
  ·split at h
   ·exact absurd h (by decide)
   ·exact h
 ·exact h
theorem kind_sub {g g':R} (h:g.e=0) (k:Incl g g') (h1:kindS 1 g=1):kindS 1 g'=1:=by
 obtain ⟨e,s⟩:=k h;have l:=s.l;have r:=(vB_iff.1 s.v').2.1;unfold kindS at h1 ⊢;rw [if_pos h] at h1;rw [if_pos e];split at h1
 ·exact absurd h1 (by decide)
 ·split at h1
  ·exact absurd h1 (by decide)
  ·rename_i c1 c2;have:¬g.lo<0:=fun z=>c2 ⟨z,rfl⟩;rw [if_neg (by omega),if_neg (by omega)]
theorem coverL_sub {f:Int} {t t':D} (ht:SubD t' t):∀(l:List (D × Int × Int)) (i kd:Int),coverL f t i l kd=(1,0)→kd=1∧coverL f t' i l 1=(1,0)
 | [],i,kd,h=>by
  unfold coverL at h ⊢;exact ⟨congrArg Prod.fst h,rfl⟩
 |x::l,i,kd,h=>by
  unfold coverL at h ⊢;split at h
  ·rename_i c;rw [if_pos c];exact coverL_sub ht l _ _ h
  ·rename_i c;rw [if_neg c];split at h
   ·rename_i c2;obtain ⟨h1,h2⟩:=coverL_sub ht l _ _ h;have k1:=kind_one h1;subst k1;rw [if_pos (incl_gap ht c2).1,kind_sub c2 (incl_gap ht) h1];exact ⟨rfl,h2⟩
   ·exact absurd (congrArg Prod.fst h) (by show ¬(0:Int)=1;decide)
theorem vbody_nth {L:List D} {M:List (Int × Int)} {i0 i1 f:Int} (h:vBody L M i0 i1=true) (hf:0≤f∧f<(L.length:Int)):vD (nthD L f)=true∧vB (nthP M f).1 (nthP M f).2=true:=by
 simp only [vBody,Bool.and_eq_true,decide_eq_true_eq,List.all_eq_true] at h;obtain ⟨⟨_,_,h1⟩,_,h2,h3⟩:=h;obtain ⟨k,rfl⟩:∃k:Nat,f=(k:Int):=⟨f.toNat,by omega⟩
 have hk:k<L.length:=by omega
 have hm:k<M.length:=by omega
 constructor
 ·rw [nthD,Int.toNat_natCast,List.getElem?_eq_getElem hk];exact h2 _ (List.getElem_mem hk)
 ·rw [nthP,Int.toNat_natCast,List.getElem?_eq_getElem hm];exact h3 _ (List.getElem_mem hm)
theorem div_v {a b c d:Int} (h:(divR a b c d).e=0):vB a b=true∧vB c d=true:=by
 unfold divR at h;split at h
 ·rename_i c;exact c
 ·exact absurd h (by decide)
theorem cover_point {L:List D} {M:List (Int × Int)} {i0 i1:Int} {c:CV} (h:coverR L M i0 i1 c=(1,0)):(pointV L M i0 i1 c).e=0:=by
 unfold coverR at h;split at h
 ·rename_i z;exact z
 ·exact absurd (congrArg Prod.fst h) (by show ¬(0:Int)=1;decide)
end Go.Proofs.YtiecdgcdcpmgaaaGreat.Iv
