/- FresnelConserves returns true for every surface, and leaves memory that was there as it was: the plain facts and the walk. -/
import Derived.Test.YtiecdgcdcpmgaaaM06
import Derived.Deep.DeepCutAuto
import Derived.Tactics2
namespace Go.Proofs.Ytiecdgcdcpmgaaa.Ivf
open Go.Proofs.Ytiecdgcdcpmgaaa.Iv
open Go.RowKit
theorem cutI_mono {a b:Int} (h:a≤b):cutI a≤cutI b:=by unfold cutI;omega
theorem cutI_lo (a:Int):0≤cutI a:=by unfold cutI;omega
theorem cutI_hi (a:Int):cutI a≤16777216:=by unfold cutI;omega
theorem mulR_ord (a b c d:Int):(mulR a b c d).lo≤(mulR a b c d).hi:=by
 unfold mulR;split
 ·unfold withinR;split
  ·exact Int.le_refl _
  ·exact fl_le_ce (min4_le_max4 _ _ _ _)
 ·exact Int.le_refl _
theorem bind_inv {r:R} {f:Int→Int→R} (h:(bind r f).e=0):r.e=0∧bind r f=f r.lo r.hi:=by
 by_cases h0:r.e=0
 ·exact ⟨h0,bind_ok h0⟩
 ·rw [bind_err h0] at h;exact absurd h h0
theorem refl_inv {s:Sf} (h:(reflR s).e=0):∃P Q T U,(perpR s)=P∧(parR s)=Q∧addR P.lo P.hi Q.lo Q.hi=T∧mulR T.lo T.hi 8388608 8388608=U∧P.e=0∧Q.e=0∧T.e=0∧U.e=0∧reflR s=⟨cutI U.lo,cutI U.hi,0⟩:=by
 obtain ⟨h1,e1⟩:=bind_inv (show (bind (perpR s) _).e=0 from h);have h:=h;rw [reflR,e1] at h;obtain ⟨h2,e2⟩:=bind_inv h;rw [e2] at h;obtain ⟨h3,e3⟩:=bind_inv h;rw [e3] at h;obtain ⟨h4,e4⟩:=bind_inv h;exact ⟨_,_,_,_,rfl,rfl,rfl,rfl,h1,h2,h3,h4,by rw [reflR,e1,e2,e3,e4]⟩
theorem refl_of (s:Sf):(reflR s).e≠0∨(0≤(reflR s).lo∧(reflR s).lo≤(reflR s).hi∧(reflR s).hi≤16777216∧(reflR s).e=0):=by
 by_cases h:(reflR s).e=0
 ·right;obtain ⟨P,Q,T,U,_,_,_,hU,_,_,_,_,e⟩:=refl_inv h;rw [e];refine ⟨cutI_lo _,cutI_mono ?_,cutI_hi _,rfl⟩;rw [←hU];exact mulR_ord _ _ _ _
 ·exact .inl h
theorem trans_of {s:Sf} (h0:0≤(reflR s).lo) (h1:(reflR s).lo≤(reflR s).hi) (h2:(reflR s).hi≤16777216) (h3:(reflR s).e=0) :
  (transR s).lo=16777216 - (reflR s).hi∧(transR s).hi=16777216 - (reflR s).lo∧(transR s).e=0:=by
 rw [transR,bind_ok h3,subR,if_pos ⟨by decide,vB_iff.2 ⟨by omega,h1,by omega⟩⟩,within_yes (by omega) (by omega)];exact ⟨rfl,rfl,rfl⟩
theorem trans_err {s:Sf} (h:(reflR s).e≠0):(transR s).e=(reflR s).e:=by rw [transR,bind_err h]
end Go.Proofs.Ytiecdgcdcpmgaaa.Ivf
