/- Texts PDr6, PDr7, PDr8, PDrb, PCe1. -/
import Derived.Test.YtiecdgcdcpmgaaaGreatM11
import Derived.Test.YtiecdgcdcpmgaaaGreatM06
import Derived.LoopN

/- Contracts of package refraction's small functions: unit, validRay, Decide, scale, vector, Radicand. -/
namespace Go.Proofs.YtiecdgcdcpmgaaaGreat.Iv
open Go.RowKit
theorem validb_any (a b:Int) (w:World):Calls Tryz.prog 64 #[iv a b] w fun e w'=>e = .returned (.bool (vB a b))∧Below w.heap.size w w':=
 (valid_any a b w).mono fun e w' h=>⟨h.1,by rw [←h.2];exact (Below.refl _ _).alloc (Nat.le_refl _) _⟩
theorem unit_any (w:World):Calls Tryz.prog 122 #[] w fun e w'=>e = .returned (iv 16777216 16777216)∧Below w.heap.size w w':=by
 go_enter Tryz.func122,Tryz.ntmps122
 go_wp2_with fail
 exact bodyPost_ret (v:=iv 16777216 16777216) (by simp [results,Tryz.results122,go_sem]) rfl ⟨rfl,(by repeat (first|exact Below.refl _ _|refine Below.drew ?_|refine below_drewN ?_ _|refine Below.setCell ?_ (by first|omega|(simp<;>omega)) _|refine Below.alloc ?_ (by first|omega|(simp<;>omega)) _))⟩
structure V2 (w0 W:World) (n:Nat) (s t:D):Prop where
 r0_0:W.cell? ⟨n,0,none⟩=some (.int .i64 s.a)
 r0_1:W.cell? ⟨n,1,none⟩=some (.int .i64 s.b)
 r0_2:W.cell? ⟨n,2,none⟩=some (.int .i64 s.c)
 r0_3:W.cell? ⟨n,3,none⟩=some (.int .i64 s.d)
 r0_4:W.cell? ⟨n,4,none⟩=some (.int .i64 s.e)
 r0_5:W.cell? ⟨n,5,none⟩=some (.int .i64 s.f)
 r1_0:W.cell? ⟨n+1,0,none⟩=some (.int .i64 t.a)
 r1_1:W.cell? ⟨n+1,1,none⟩=some (.int .i64 t.b)
 r1_2:W.cell? ⟨n+1,2,none⟩=some (.int .i64 t.c)
 r1_3:W.cell? ⟨n+1,3,none⟩=some (.int .i64 t.d)
 r1_4:W.cell? ⟨n+1,4,none⟩=some (.int .i64 t.e)
 r1_5:W.cell? ⟨n+1,5,none⟩=some (.int .i64 t.f)
 size:n+1<W.heap.size
 below:Below n w0 W
theorem V2.al0 {w0 W:World} {n:Nat} {s t:D} (h:V2 w0 W n s t):(W.cell? ⟨n,0,none⟩=some (.int .i64 s.a))∧(W.cell? ⟨n,1,none⟩=some (.int .i64 s.b))∧(W.cell? ⟨n,2,none⟩=some (.int .i64 s.c))∧(W.cell? ⟨n,3,none⟩=some (.int .i64 s.d))∧(W.cell? ⟨n,4,none⟩=some (.int .i64 s.e))∧(W.cell? ⟨n,5,none⟩=some (.int .i64 s.f))∧(W.cell? ⟨n+1,0,none⟩=some (.int .i64 t.a))∧(W.cell? ⟨n+1,1,none⟩=some (.int .i64 t.b))∧(W.cell? ⟨n+1,2,none⟩=some (.int .i64 t.c))∧(W.cell? ⟨n+1,3,none⟩=some (.int .i64 t.d))∧(W.cell? ⟨n+1,4,none⟩=some (.int .i64 t.e))∧(W.cell? ⟨n+1,5,none⟩=some (.int .i64 t.f))∧(n+1<W.heap.size):=⟨h.r0_0,h.r0_1,h.r0_2,h.r0_3,h.r0_4,h.r0_5,h.r1_0,h.r1_1,h.r1_2,h.r1_3,h.r1_4,h.r1_5,h.size⟩
theorem V2.drew {w0 W:World} {n:Nat} {s t:D} (h:V2 w0 W n s t):V2 w0 W.drew n s t:=
 ⟨h.r0_0,h.r0_1,h.r0_2,h.r0_3,h.r0_4,h.r0_5,h.r1_0,h.r1_1,h.r1_2,h.r1_3,h.r1_4,h.r1_5,h.size,h.below.drew⟩
theorem V2.call {w0 W:World} {n:Nat} {s t:D} {W':World} (h:V2 w0 W n s t) (hb:Below W.heap.size W W'):V2 w0 W' n s t:=by
 have z:=h.size;have z':=hb.size;have hc:∀b o,b<W.heap.size→W'.cell? ⟨b,o,none⟩=W.cell? ⟨b,o,none⟩:=fun b o h=>hb.cell (p:=⟨b,o,none⟩) h;have hf:∀b o,b<W.heap.size→W'.frozen? ⟨b,o,none⟩=W.frozen? ⟨b,o,none⟩:=fun b o h=>hb.frozen (p:=⟨b,o,none⟩) h
 have l0:n<W.heap.size:=by omega
 have l1:n+1<W.heap.size:=by omega
 exact ⟨(hc _ _ l0).trans h.r0_0,(hc _ _ l0).trans h.r0_1,(hc _ _ l0).trans h.r0_2,(hc _ _ l0).trans h.r0_3,(hc _ _ l0).trans h.r0_4,(hc _ _ l0).trans h.r0_5,(hc _ _ l1).trans h.r1_0,(hc _ _ l1).trans h.r1_1,(hc _ _ l1).trans h.r1_2,(hc _ _ l1).trans h.r1_3,(hc _ _ l1).trans h.r1_4,(hc _ _ l1).trans h.r1_5,by omega,h.below.trans (hb.mono (by omega))⟩
theorem V2.all {w0 W:World} {n:Nat} {s t:D} (h:V2 w0 W n s t):W.cell? ⟨n,0,none⟩=some (.int .i64 s.a)∧W.cell? ⟨n,1,none⟩=some (.int .i64 s.b)∧W.cell? ⟨n,2,none⟩=some (.int .i64 s.c)∧W.cell? ⟨n,3,none⟩=some (.int .i64 s.d)∧W.cell? ⟨n,4,none⟩=some (.int .i64 s.e)∧W.cell? ⟨n,5,none⟩=some (.int .i64 s.f)∧W.cell? ⟨n+1,0,none⟩=some (.int .i64 t.a)∧W.cell? ⟨n+1,1,none⟩=some (.int .i64 t.b)∧W.cell? ⟨n+1,2,none⟩=some (.int .i64 t.c)∧W.cell? ⟨n+1,3,none⟩=some (.int .i64 t.d)∧W.cell? ⟨n+1,4,none⟩=some (.int .i64 t.e)∧W.cell? ⟨n+1,5,none⟩=some (.int .i64 t.f):=
 ⟨h.r0_0,h.r0_1,h.r0_2,h.r0_3,h.r0_4,h.r0_5,h.r1_0,h.r1_1,h.r1_2,h.r1_3,h.r1_4,h.r1_5⟩
structure K1 (w0 W:World) (n:Nat) (a b:Int):Prop where
 r0_0:W.cell? ⟨n,0,none⟩=some (.int .i64 a)
 r0_1:W.cell? ⟨n,1,none⟩=some (.int .i64 b)
 size:n<W.heap.size
 below:Below n w0 W
theorem K1.drew {w0 W:World} {n:Nat} {a b:Int} (h:K1 w0 W n a b):K1 w0 W.drew n a b:=
 ⟨h.r0_0,h.r0_1,h.size,h.below.drew⟩
theorem K1.call {w0 W:World} {n:Nat} {a b:Int} {W':World} (h:K1 w0 W n a b) (hb:Below W.heap.size W W'):K1 w0 W' n a b:=by
 have z:=h.size;have z':=hb.size;have hc:∀b o,b<W.heap.size→W'.cell? ⟨b,o,none⟩=W.cell? ⟨b,o,none⟩:=fun b o h=>hb.cell (p:=⟨b,o,none⟩) h;have hf:∀b o,b<W.heap.size→W'.frozen? ⟨b,o,none⟩=W.frozen? ⟨b,o,none⟩:=fun b o h=>hb.frozen (p:=⟨b,o,none⟩) h
 have l0:n<W.heap.size:=by omega
 exact ⟨(hc _ _ l0).trans h.r0_0,(hc _ _ l0).trans h.r0_1,by omega,h.below.trans (hb.mono (by omega))⟩
theorem K1.all {w0 W:World} {n:Nat} {a b:Int} (h:K1 w0 W n a b):W.cell? ⟨n,0,none⟩=some (.int .i64 a)∧W.cell? ⟨n,1,none⟩=some (.int .i64 b):=
 ⟨h.r0_0,h.r0_1⟩
structure R1 (w0 W:World) (n:Nat) (a b x y:Int):Prop where
 r0_0:W.cell? ⟨n,0,none⟩=some (.int .i64 a)
 r0_1:W.cell? ⟨n,1,none⟩=some (.int .i64 b)
 r1_0:W.cell? ⟨n+1,0,none⟩=some (.int .i64 x)
 r1_1:W.cell? ⟨n+1,1,none⟩=some (.int .i64 y)
 z2_0:W.cell? ⟨n+1+1,0,none⟩=some (.int .i64 0)
 f2_0:W.frozen? ⟨n+1+1,0,none⟩=false
 z2_1:W.cell? ⟨n+1+1,1,none⟩=some (.int .i64 0)
 f2_1:W.frozen? ⟨n+1+1,1,none⟩=false
 size:n+1+1<W.heap.size
 below:Below n w0 W
theorem R1.drew {w0 W:World} {n:Nat} {a b x y:Int} (h:R1 w0 W n a b x y):R1 w0 W.drew n a b x y:=
 ⟨h.r0_0,h.r0_1,h.r1_0,h.r1_1,h.z2_0,h.f2_0,h.z2_1,h.f2_1,h.size,h.below.drew⟩
theorem R1.call {w0 W:World} {n:Nat} {a b x y:Int} {W':World} (h:R1 w0 W n a b x y) (hb:Below W.heap.size W W'):R1 w0 W' n a b x y:=by
 have z:=h.size;have z':=hb.size;have hc:∀b o,b<W.heap.size→W'.cell? ⟨b,o,none⟩=W.cell? ⟨b,o,none⟩:=fun b o h=>hb.cell (p:=⟨b,o,none⟩) h;have hf:∀b o,b<W.heap.size→W'.frozen? ⟨b,o,none⟩=W.frozen? ⟨b,o,none⟩:=fun b o h=>hb.frozen (p:=⟨b,o,none⟩) h
 have l0:n<W.heap.size:=by omega
 have l1:n+1<W.heap.size:=by omega
 have l2:n+1+1<W.heap.size:=by omega
 exact ⟨(hc _ _ l0).trans h.r0_0,(hc _ _ l0).trans h.r0_1,(hc _ _ l1).trans h.r1_0,(hc _ _ l1).trans h.r1_1,(hc _ _ l2).trans h.z2_0,(hf _ _ l2).trans h.f2_0,(hc _ _ l2).trans h.z2_1,(hf _ _ l2).trans h.f2_1,by omega,h.below.trans (hb.mono (by omega))⟩
theorem R1.all {w0 W:World} {n:Nat} {a b x y:Int} (h:R1 w0 W n a b x y):W.cell? ⟨n,0,none⟩=some (.int .i64 a)∧W.cell? ⟨n,1,none⟩=some (.int .i64 b)∧W.cell? ⟨n+1,0,none⟩=some (.int .i64 x)∧W.cell? ⟨n+1,1,none⟩=some (.int .i64 y):=
 ⟨h.r0_0,h.r0_1,h.r1_0,h.r1_1⟩
theorem R1.fin2_2 {w0 W:World} {n:Nat} {a b x y:Int} (h:R1 w0 W n a b x y) (u0 u1:Int):((W.setCell ⟨n+1+1,0,none⟩ (.int .i64 u0)).setCell ⟨n+1+1,1,none⟩ (.int .i64 u1)).cell? ⟨n+1+1,0,none⟩=some (.int .i64 u0)∧((W.setCell ⟨n+1+1,0,none⟩ (.int .i64 u0)).setCell ⟨n+1+1,1,none⟩ (.int .i64 u1)).cell? ⟨n+1+1,1,none⟩=some (.int .i64 u1)∧Below n w0 ((W.setCell ⟨n+1+1,0,none⟩ (.int .i64 u0)).setCell ⟨n+1+1,1,none⟩ (.int .i64 u1)):=by
 have b:=h.below;have z0:=h.z2_0;have z1:=h.z2_1;clear h;refine ⟨?_,?_,((b.setCell (by dsimp only;omega) _).setCell (by dsimp only;omega) _)⟩<;>simp [go_sem, *]
structure Rm (w0 W:World) (n:Nat) (a b x y:Int) (m:Nat) (E:Int):Prop where
 r0_0:W.cell? ⟨n,0,none⟩=some (.int .i64 a)
 r0_1:W.cell? ⟨n,1,none⟩=some (.int .i64 b)
 r1_0:W.cell? ⟨n+1,0,none⟩=some (.int .i64 x)
 r1_1:W.cell? ⟨n+1,1,none⟩=some (.int .i64 y)
 z2_0:W.cell? ⟨n+1+1,0,none⟩=some (.int .i64 0)
 f2_0:W.frozen? ⟨n+1+1,0,none⟩=false
 z2_1:W.cell? ⟨n+1+1,1,none⟩=some (.int .i64 0)
 f2_1:W.frozen? ⟨n+1+1,1,none⟩=false
 cE:W.cell? ⟨m,0,none⟩=some (.int .i64 E)
 fE:W.frozen? ⟨m,0,none⟩=false
 mlt:n+1+1<m
 size:m<W.heap.size
 below:Below n w0 W
theorem Rm.drew {w0 W:World} {n:Nat} {a b x y:Int} {m:Nat} {E:Int} (h:Rm w0 W n a b x y m E):Rm w0 W.drew n a b x y m E:=
 ⟨h.r0_0,h.r0_1,h.r1_0,h.r1_1,h.z2_0,h.f2_0,h.z2_1,h.f2_1,h.cE,h.fE,h.mlt,h.size,h.below.drew⟩
theorem Rm.call {w0 W:World} {n:Nat} {a b x y:Int} {m:Nat} {E:Int} {W':World} (h:Rm w0 W n a b x y m E) (hb:Below W.heap.size W W'):Rm w0 W' n a b x y m E:=by
 have z:=h.size;have z':=hb.size;have hc:∀b o,b<W.heap.size→W'.cell? ⟨b,o,none⟩=W.cell? ⟨b,o,none⟩:=fun b o h=>hb.cell (p:=⟨b,o,none⟩) h;have hf:∀b o,b<W.heap.size→W'.frozen? ⟨b,o,none⟩=W.frozen? ⟨b,o,none⟩:=fun b o h=>hb.frozen (p:=⟨b,o,none⟩) h;have mlt:=h.mlt
 have l0:n<W.heap.size:=by omega
 have l1:n+1<W.heap.size:=by omega
 have l2:n+1+1<W.heap.size:=by omega
 have lm:m<W.heap.size:=h.size;exact ⟨(hc _ _ l0).trans h.r0_0,(hc _ _ l0).trans h.r0_1,(hc _ _ l1).trans h.r1_0,(hc _ _ l1).trans h.r1_1,(hc _ _ l2).trans h.z2_0,(hf _ _ l2).trans h.f2_0,(hc _ _ l2).trans h.z2_1,(hf _ _ l2).trans h.f2_1,(hc _ _ lm).trans h.cE,(hf _ _ lm).trans h.fE,mlt,by omega,h.below.trans (hb.mono (by omega))⟩
theorem Rm.step {w0 W:World} {n:Nat} {a b x y:Int} {m:Nat} {E:Int} {W':World} {E':Int} (h:Rm w0 W n a b x y m E) (st:Step n W m E' W'):Rm w0 W' n a b x y m E':=by
 have z:=h.size;have z':=st.size;have mlt:=h.mlt
 have l0:n<W.heap.size:=by omega
 have l1:n+1<W.heap.size:=by omega
 have l2:n+1+1<W.heap.size:=by omega
 have lm:m<W.heap.size:=h.size
 have n0:¬(n=m):=by omega
 have n1:¬(n+1=m):=by omega
 have n2:¬(n+1+1=m):=by omega
 exact ⟨(st.other _ _ l0 n0).trans h.r0_0,(st.other _ _ l0 n0).trans h.r0_1,(st.other _ _ l1 n1).trans h.r1_0,(st.other _ _ l1 n1).trans h.r1_1,(st.other _ _ l2 n2).trans h.z2_0,(st.frozen _ _ l2).trans h.f2_0,(st.other _ _ l2 n2).trans h.z2_1,(st.frozen _ _ l2).trans h.f2_1,st.cell,(st.frozen _ _ lm).trans h.fE,mlt,by omega,h.below.trans (st.below (by omega) (by omega))⟩
theorem Rm.all {w0 W:World} {n:Nat} {a b x y:Int} {m:Nat} {E:Int} (h:Rm w0 W n a b x y m E):W.cell? ⟨n,0,none⟩=some (.int .i64 a)∧W.cell? ⟨n,1,none⟩=some (.int .i64 b)∧W.cell? ⟨n+1,0,none⟩=some (.int .i64 x)∧W.cell? ⟨n+1,1,none⟩=some (.int .i64 y):=
 ⟨h.r0_0,h.r0_1,h.r1_0,h.r1_1⟩
theorem Rm.fin2_2 {w0 W:World} {n:Nat} {a b x y:Int} {m:Nat} {E:Int} (h:Rm w0 W n a b x y m E) (u0 u1:Int):((W.setCell ⟨n+1+1,0,none⟩ (.int .i64 u0)).setCell ⟨n+1+1,1,none⟩ (.int .i64 u1)).cell? ⟨n+1+1,0,none⟩=some (.int .i64 u0)∧((W.setCell ⟨n+1+1,0,none⟩ (.int .i64 u0)).setCell ⟨n+1+1,1,none⟩ (.int .i64 u1)).cell? ⟨n+1+1,1,none⟩=some (.int .i64 u1)∧Below n w0 ((W.setCell ⟨n+1+1,0,none⟩ (.int .i64 u0)).setCell ⟨n+1+1,1,none⟩ (.int .i64 u1)):=by
 have b:=h.below;have z0:=h.z2_0;have z1:=h.z2_1;clear h;refine ⟨?_,?_,((b.setCell (by dsimp only;omega) _).setCell (by dsimp only;omega) _)⟩<;>simp [go_sem, *]
theorem Rm.of {w0 W:World} {n:Nat} {a b x y:Int} {t:TypeId} (h:R1 w0 W n a b x y):Rm w0 (W.alloc (.cells #[.int .i64 0] t)) n a b x y W.heap.size 0:=by
 have z:=h.size;have k:=h.call ((Below.refl _ _).alloc (Nat.le_refl _) (.cells #[.int .i64 0] t));exact ⟨k.r0_0,k.r0_1,k.r1_0,k.r1_1,k.z2_0,k.f2_0,k.z2_1,k.f2_1,by simp [go_sem],by simp [go_sem],z,by simp,k.below⟩
theorem vray_any (s t:D) (w:World) :
  Calls Tryz.prog 107 #[dv s,dv t] w fun e w'=>e = .returned (.bool (vD s && vD t))∧Below w.heap.size w w':=by
 have I0:V2 w ((w.alloc (.cells #[.int .i64 s.a,.int .i64 s.b,.int .i64 s.c,.int .i64 s.d,.int .i64 s.e,.int .i64 s.f] 45)).alloc (.cells #[.int .i64 t.a,.int .i64 t.b,.int .i64 t.c,.int .i64 t.d,.int .i64 t.e,.int .i64 t.f] 45)) w.heap.size s t:=by
  refine ⟨by simp [go_sem],by simp [go_sem],by simp [go_sem],by simp [go_sem],by simp [go_sem],by simp [go_sem],by simp [go_sem],by simp [go_sem],by simp [go_sem],by simp [go_sem],by simp [go_sem],by simp [go_sem],by simp,?_⟩
  ·repeat (first|exact Below.refl _ _|refine Below.alloc ?_ (by first|omega|(simp<;>omega)) _)
 cases hs:vD s
 ·have HS:=Lib.hid hs;clear hs;go_enter Tryz.func107,Tryz.ntmps107
  go_wp2_with fail
  refine (dvalid_any s _).mono ?_;rintro e w1 ⟨rfl,hb⟩;rw [HS.out];have I1:=I0.call hb;clear hb;have I1al0:=I1.al0
  go_wp2_with fail
  go_ret
  exact ⟨rfl,I1.below⟩
 ·have HS:=Lib.hid hs;clear hs;go_enter Tryz.func107,Tryz.ntmps107
  go_wp2_with fail
  refine (dvalid_any s _).mono ?_;rintro e w1 ⟨rfl,hb⟩;rw [HS.out];have I1:=I0.call hb;clear hb;have I1al0:=I1.al0
  go_wp2_with fail
  refine (dvalid_any t _).mono ?_;rintro e w2 ⟨rfl,hb⟩;have I2:=I1.call hb;clear hb;clear I1al0;have I2al0:=I2.al0
  go_wp2_with fail
  go_ret
  exact ⟨rfl,I2.below⟩
def decI (a b:Int):Int:=if vB a b=true then (if sgn a b = -1 then 1 else if sgn a b=1 then 2 else 3) else 0
theorem decide_any (a b:Int) (w:World) :
  Calls Tryz.prog 109 #[iv a b] w fun e w'=>e = .returned (.int .i64 (decI a b))∧Below w.heap.size w w':=by
 have I0:K1 w (w.alloc (.cells #[.int .i64 a,.int .i64 b] 25)) w.heap.size a b:=by
  refine ⟨by simp [go_sem],by simp [go_sem],by simp,?_⟩
  ·repeat (first|exact Below.refl _ _|refine Below.alloc ?_ (by first|omega|(simp<;>omega)) _)
 cases h1:vB a b
 ·rw [show decI a b=0 from if_neg (by rw [h1];decide)];have H1:=Lib.hid h1;clear h1;go_enter Tryz.func109,Tryz.ntmps109
  go_wp2_with fail
  refine (validb_any a b _).mono ?_;rintro e w1 ⟨rfl,hb⟩;rw [H1.out];have I1:=I0.call hb;clear hb;have r0_0_1:=I1.r0_0;have r0_1_1:=I1.r0_1;have sz_1:=I1.size
  go_wp2_with fail
  go_ret
  exact ⟨rfl,I1.below⟩
 ·have hs:sgn a b=1∨sgn a b = -1∨sgn a b=0:=by
   rw [show sgn a b=(if 0<a then 1 else if b<0 then -1 else 0) from if_pos h1]
   (repeat' split)<;>simp
  rcases hs with hs|hs|hs
  ·rw [show decI a b=2 from by rw [show decI a b=(if sgn a b = -1 then 1 else if sgn a b=1 then 2 else 3) from if_pos h1,hs];decide];have HS:=Lib.hid hs;clear hs;have H1:=Lib.hid h1;clear h1;go_enter Tryz.func109,Tryz.ntmps109
   go_wp2_with fail
   refine (validb_any a b _).mono ?_;rintro e w1 ⟨rfl,hb⟩;rw [H1.out];have I1:=I0.call hb;clear hb;have r0_0_1:=I1.r0_0;have r0_1_1:=I1.r0_1;have sz_1:=I1.size
   go_wp2_with fail
   refine (sign_any a b _).mono ?_;rintro e w2 ⟨rfl,hb⟩;rw [HS.out];have I2:=I1.call hb;clear hb;clear r0_0_1 r0_1_1 sz_1;have r0_0_2:=I2.r0_0;have r0_1_2:=I2.r0_1;have sz_2:=I2.size
   go_wp2_with fail
   go_ret
   exact ⟨rfl,I2.below⟩
  ·rw [show decI a b=1 from by rw [show decI a b=(if sgn a b = -1 then 1 else if sgn a b=1 then 2 else 3) from if_pos h1,hs];decide];have HS:=Lib.hid hs;clear hs;have H1:=Lib.hid h1;clear h1;go_enter Tryz.func109,Tryz.ntmps109
   go_wp2_with fail
   refine (validb_any a b _).mono ?_;rintro e w1 ⟨rfl,hb⟩;rw [H1.out];have I1:=I0.call hb;clear hb;have r0_0_1:=I1.r0_0;have r0_1_1:=I1.r0_1;have sz_1:=I1.size
   go_wp2_with fail
   refine (sign_any a b _).mono ?_;rintro e w2 ⟨rfl,hb⟩;rw [HS.out];have I2:=I1.call hb;clear hb;clear r0_0_1 r0_1_1 sz_1;have r0_0_2:=I2.r0_0;have r0_1_2:=I2.r0_1;have sz_2:=I2.size
   go_wp2_with fail
   go_ret
   exact ⟨rfl,I2.below⟩
  ·rw [show decI a b=3 from by rw [show decI a b=(if sgn a b = -1 then 1 else if sgn a b=1 then 2 else 3) from if_pos h1,hs];decide];have HS:=Lib.hid hs;clear hs;have H1:=Lib.hid h1;clear h1;go_enter Tryz.func109,Tryz.ntmps109
   go_wp2_with fail
   refine (validb_any a b _).mono ?_;rintro e w1 ⟨rfl,hb⟩;rw [H1.out];have I1:=I0.call hb;clear hb;have r0_0_1:=I1.r0_0;have r0_1_1:=I1.r0_1;have sz_1:=I1.size
   go_wp2_with fail
   refine (sign_any a b _).mono ?_;rintro e w2 ⟨rfl,hb⟩;rw [HS.out];have I2:=I1.call hb;clear hb;clear r0_0_1 r0_1_1 sz_1;have r0_0_2:=I2.r0_0;have r0_1_2:=I2.r0_1;have sz_2:=I2.size
   go_wp2_with fail
   go_ret
   exact ⟨rfl,I2.below⟩
theorem al {w:World} {a:Addr} {o:Obj} {v:Value} (h:w.cell? a=some v):(w.alloc o).cell? a=some v:=(World.cell?_alloc_some w a o (by rw [h];rfl)).trans h
structure X3 (w0 W:World) (s:D) (a b:Int) (B c:Nat) (E:Int):Prop where
 r0_0:W.cell? ⟨w0.heap.size,0,none⟩=some (.int .i64 s.a)
 r0_1:W.cell? ⟨w0.heap.size,1,none⟩=some (.int .i64 s.b)
 r0_2:W.cell? ⟨w0.heap.size,2,none⟩=some (.int .i64 s.c)
 r0_3:W.cell? ⟨w0.heap.size,3,none⟩=some (.int .i64 s.d)
 r0_4:W.cell? ⟨w0.heap.size,4,none⟩=some (.int .i64 s.e)
 r0_5:W.cell? ⟨w0.heap.size,5,none⟩=some (.int .i64 s.f)
 r1_0:W.cell? ⟨w0.heap.size+1,0,none⟩=some (.int .i64 a)
 r1_1:W.cell? ⟨w0.heap.size+1,1,none⟩=some (.int .i64 b)
 z2_0:W.cell? ⟨w0.heap.size+1+1,0,none⟩=some (.int .i64 0)
 f2_0:W.frozen? ⟨w0.heap.size+1+1,0,none⟩=false
 z2_1:W.cell? ⟨w0.heap.size+1+1,1,none⟩=some (.int .i64 0)
 f2_1:W.frozen? ⟨w0.heap.size+1+1,1,none⟩=false
 z2_2:W.cell? ⟨w0.heap.size+1+1,2,none⟩=some (.int .i64 0)
 f2_2:W.frozen? ⟨w0.heap.size+1+1,2,none⟩=false
 z2_3:W.cell? ⟨w0.heap.size+1+1,3,none⟩=some (.int .i64 0)
 f2_3:W.frozen? ⟨w0.heap.size+1+1,3,none⟩=false
 z2_4:W.cell? ⟨w0.heap.size+1+1,4,none⟩=some (.int .i64 0)
 f2_4:W.frozen? ⟨w0.heap.size+1+1,4,none⟩=false
 z2_5:W.cell? ⟨w0.heap.size+1+1,5,none⟩=some (.int .i64 0)
 f2_5:W.frozen? ⟨w0.heap.size+1+1,5,none⟩=false
 fE:W.frozen? ⟨c,0,none⟩=false
 lt:c<w0.heap.size
 size:w0.heap.size+1+1<W.heap.size
 st:Step B w0 c E W
theorem X3.al0 {w0 W:World} {s:D} {a b:Int} {B c:Nat} {E:Int} (h:X3 w0 W s a b B c E):(W.cell? ⟨w0.heap.size,0,none⟩=some (.int .i64 s.a))∧(W.cell? ⟨w0.heap.size,1,none⟩=some (.int .i64 s.b))∧(W.cell? ⟨w0.heap.size,2,none⟩=some (.int .i64 s.c))∧(W.cell? ⟨w0.heap.size,3,none⟩=some (.int .i64 s.d))∧(W.cell? ⟨w0.heap.size,4,none⟩=some (.int .i64 s.e))∧(W.cell? ⟨w0.heap.size,5,none⟩=some (.int .i64 s.f))∧(W.cell? ⟨w0.heap.size+1,0,none⟩=some (.int .i64 a))∧(W.cell? ⟨w0.heap.size+1,1,none⟩=some (.int .i64 b))∧(W.cell? ⟨w0.heap.size+1+1,0,none⟩=some (.int .i64 0))∧(W.frozen? ⟨w0.heap.size+1+1,0,none⟩=false)∧(W.cell? ⟨w0.heap.size+1+1,1,none⟩=some (.int .i64 0))∧(W.frozen? ⟨w0.heap.size+1+1,1,none⟩=false)∧(W.cell? ⟨w0.heap.size+1+1,2,none⟩=some (.int .i64 0))∧(W.frozen? ⟨w0.heap.size+1+1,2,none⟩=false)∧(W.cell? ⟨w0.heap.size+1+1,3,none⟩=some (.int .i64 0))∧(W.frozen? ⟨w0.heap.size+1+1,3,none⟩=false)∧(W.cell? ⟨w0.heap.size+1+1,4,none⟩=some (.int .i64 0))∧(W.frozen? ⟨w0.heap.size+1+1,4,none⟩=false)∧(W.cell? ⟨w0.heap.size+1+1,5,none⟩=some (.int .i64 0))∧(W.frozen? ⟨w0.heap.size+1+1,5,none⟩=false):=⟨h.r0_0,h.r0_1,h.r0_2,h.r0_3,h.r0_4,h.r0_5,h.r1_0,h.r1_1,h.z2_0,h.f2_0,h.z2_1,h.f2_1,h.z2_2,h.f2_2,h.z2_3,h.f2_3,h.z2_4,h.f2_4,h.z2_5,h.f2_5⟩
theorem X3.call {w0 W:World} {s:D} {a b:Int} {B c:Nat} {E:Int} {W':World} (h:X3 w0 W s a b B c E) (hb:Below W.heap.size W W'):X3 w0 W' s a b B c E:=by
 have z:=h.size;have z':=hb.size;have lt:=h.lt;have hc:∀b o,b<W.heap.size→W'.cell? ⟨b,o,none⟩=W.cell? ⟨b,o,none⟩:=fun b o h=>hb.cell (p:=⟨b,o,none⟩) h;have hf:∀b o,b<W.heap.size→W'.frozen? ⟨b,o,none⟩=W.frozen? ⟨b,o,none⟩:=fun b o h=>hb.frozen (p:=⟨b,o,none⟩) h
 have l0:w0.heap.size<W.heap.size:=by omega
 have l1:w0.heap.size+1<W.heap.size:=by omega
 have l2:w0.heap.size+1+1<W.heap.size:=by omega
 exact ⟨(hc _ _ l0).trans h.r0_0,(hc _ _ l0).trans h.r0_1,(hc _ _ l0).trans h.r0_2,(hc _ _ l0).trans h.r0_3,(hc _ _ l0).trans h.r0_4,(hc _ _ l0).trans h.r0_5,(hc _ _ l1).trans h.r1_0,(hc _ _ l1).trans h.r1_1,(hc _ _ l2).trans h.z2_0,(hf _ _ l2).trans h.f2_0,(hc _ _ l2).trans h.z2_1,(hf _ _ l2).trans h.f2_1,(hc _ _ l2).trans h.z2_2,(hf _ _ l2).trans h.f2_2,(hc _ _ l2).trans h.z2_3,(hf _ _ l2).trans h.f2_3,(hc _ _ l2).trans h.z2_4,(hf _ _ l2).trans h.f2_4,(hc _ _ l2).trans h.z2_5,(hf _ _ l2).trans h.f2_5,(hf _ _ (by omega)).trans h.fE,lt,by omega,h.st.more lt (hb.mono (by omega))⟩
theorem X3.put {w0 W:World} {s:D} {a b:Int} {B c:Nat} {E:Int} (h:X3 w0 W s a b B c E) (E':Int):X3 w0 (W.setCell ⟨c,0,none⟩ (.int .i64 E')) s a b B c E':=by
 have z:=h.size;have lt:=h.lt;have cE:=h.st.cell
 have n0:¬(w0.heap.size=c):=by omega
 have n1:¬(w0.heap.size+1=c):=by omega
 have n2:¬(w0.heap.size+1+1=c):=by omega
 have st':Step B w0 c E' (W.setCell ⟨c,0,none⟩ (.int .i64 E')):=⟨World.cell?_setCell_same W _ _ cE,fun b o h1 h2=>(World.cell?_setCell_other W _ _ _ (fun e=>h2 (by injection e with e1 e2 e3;exact e1.symm))).trans (h.st.other b o h1 h2),fun b o h1=>(by simp [go_sem,h.st.frozen b o h1]),by have:=h.st.size;simpa using this,fun h1 h2=>(h.st.below h1 h2).setCell h1 _⟩;exact ⟨fset h.r0_0 n0,fset h.r0_1 n0,fset h.r0_2 n0,fset h.r0_3 n0,fset h.r0_4 n0,fset h.r0_5 n0,fset h.r1_0 n1,fset h.r1_1 n1,fset h.z2_0 n2,(by simp [go_sem,h.f2_0]),fset h.z2_1 n2,(by simp [go_sem,h.f2_1]),fset h.z2_2 n2,(by simp [go_sem,h.f2_2]),fset h.z2_3 n2,(by simp [go_sem,h.f2_3]),fset h.z2_4 n2,(by simp [go_sem,h.f2_4]),fset h.z2_5 n2,(by simp [go_sem,h.f2_5]),by simp [go_sem,h.fE],lt,by simpa using z,st'⟩
theorem X3.fin6_2 {w0 W:World} {s:D} {a b:Int} {B c:Nat} {E:Int} (h:X3 w0 W s a b B c E) (u0 u1 u2 u3 u4 u5:Int):((((((W.setCell ⟨w0.heap.size+1+1,0,none⟩ (.int .i64 u0)).setCell ⟨w0.heap.size+1+1,1,none⟩ (.int .i64 u1)).setCell ⟨w0.heap.size+1+1,2,none⟩ (.int .i64 u2)).setCell ⟨w0.heap.size+1+1,3,none⟩ (.int .i64 u3)).setCell ⟨w0.heap.size+1+1,4,none⟩ (.int .i64 u4)).setCell ⟨w0.heap.size+1+1,5,none⟩ (.int .i64 u5)).cell? ⟨w0.heap.size+1+1,0,none⟩=some (.int .i64 u0)∧((((((W.setCell ⟨w0.heap.size+1+1,0,none⟩ (.int .i64 u0)).setCell ⟨w0.heap.size+1+1,1,none⟩ (.int .i64 u1)).setCell ⟨w0.heap.size+1+1,2,none⟩ (.int .i64 u2)).setCell ⟨w0.heap.size+1+1,3,none⟩ (.int .i64 u3)).setCell ⟨w0.heap.size+1+1,4,none⟩ (.int .i64 u4)).setCell ⟨w0.heap.size+1+1,5,none⟩ (.int .i64 u5)).cell? ⟨w0.heap.size+1+1,1,none⟩=some (.int .i64 u1)∧((((((W.setCell ⟨w0.heap.size+1+1,0,none⟩ (.int .i64 u0)).setCell ⟨w0.heap.size+1+1,1,none⟩ (.int .i64 u1)).setCell ⟨w0.heap.size+1+1,2,none⟩ (.int .i64 u2)).setCell ⟨w0.heap.size+1+1,3,none⟩ (.int .i64 u3)).setCell ⟨w0.heap.size+1+1,4,none⟩ (.int .i64 u4)).setCell ⟨w0.heap.size+1+1,5,none⟩ (.int .i64 u5)).cell? ⟨w0.heap.size+1+1,2,none⟩=some (.int .i64 u2)∧((((((W.setCell ⟨w0.heap.size+1+1,0,none⟩ (.int .i64 u0)).setCell ⟨w0.heap.size+1+1,1,none⟩ (.int .i64 u1)).setCell ⟨w0.heap.size+1+1,2,none⟩ (.int .i64 u2)).setCell ⟨w0.heap.size+1+1,3,none⟩ (.int .i64 u3)).setCell ⟨w0.heap.size+1+1,4,none⟩ (.int .i64 u4)).setCell ⟨w0.heap.size+1+1,5,none⟩ (.int .i64 u5)).cell? ⟨w0.heap.size+1+1,3,none⟩=some (.int .i64 u3)∧((((((W.setCell ⟨w0.heap.size+1+1,0,none⟩ (.int .i64 u0)).setCell ⟨w0.heap.size+1+1,1,none⟩ (.int .i64 u1)).setCell ⟨w0.heap.size+1+1,2,none⟩ (.int .i64 u2)).setCell ⟨w0.heap.size+1+1,3,none⟩ (.int .i64 u3)).setCell ⟨w0.heap.size+1+1,4,none⟩ (.int .i64 u4)).setCell ⟨w0.heap.size+1+1,5,none⟩ (.int .i64 u5)).cell? ⟨w0.heap.size+1+1,4,none⟩=some (.int .i64 u4)∧((((((W.setCell ⟨w0.heap.size+1+1,0,none⟩ (.int .i64 u0)).setCell ⟨w0.heap.size+1+1,1,none⟩ (.int .i64 u1)).setCell ⟨w0.heap.size+1+1,2,none⟩ (.int .i64 u2)).setCell ⟨w0.heap.size+1+1,3,none⟩ (.int .i64 u3)).setCell ⟨w0.heap.size+1+1,4,none⟩ (.int .i64 u4)).setCell ⟨w0.heap.size+1+1,5,none⟩ (.int .i64 u5)).cell? ⟨w0.heap.size+1+1,5,none⟩=some (.int .i64 u5)∧Step B w0 c E ((((((W.setCell ⟨w0.heap.size+1+1,0,none⟩ (.int .i64 u0)).setCell ⟨w0.heap.size+1+1,1,none⟩ (.int .i64 u1)).setCell ⟨w0.heap.size+1+1,2,none⟩ (.int .i64 u2)).setCell ⟨w0.heap.size+1+1,3,none⟩ (.int .i64 u3)).setCell ⟨w0.heap.size+1+1,4,none⟩ (.int .i64 u4)).setCell ⟨w0.heap.size+1+1,5,none⟩ (.int .i64 u5)):=by
 have z0:=h.z2_0;have z1:=h.z2_1;have z2:=h.z2_2;have z3:=h.z2_3;have z4:=h.z2_4;have z5:=h.z2_5;have st:=h.st;have lt:=h.lt;clear h;refine ⟨?_,?_,?_,?_,?_,?_,st.more lt (((((((Below.refl _ _).setCell (by dsimp only;omega) _).setCell (by dsimp only;omega) _).setCell (by dsimp only;omega) _).setCell (by dsimp only;omega) _).setCell (by dsimp only;omega) _).setCell (by dsimp only;omega) _)⟩<;>simp [go_sem, *]
structure X4 (w0 W:World) (s t:D) (B c:Nat) (E:Int):Prop where
 r0_0:W.cell? ⟨w0.heap.size,0,none⟩=some (.int .i64 s.a)
 r0_1:W.cell? ⟨w0.heap.size,1,none⟩=some (.int .i64 s.b)
 r0_2:W.cell? ⟨w0.heap.size,2,none⟩=some (.int .i64 s.c)
 r0_3:W.cell? ⟨w0.heap.size,3,none⟩=some (.int .i64 s.d)
 r0_4:W.cell? ⟨w0.heap.size,4,none⟩=some (.int .i64 s.e)
 r0_5:W.cell? ⟨w0.heap.size,5,none⟩=some (.int .i64 s.f)
 r1_0:W.cell? ⟨w0.heap.size+1,0,none⟩=some (.int .i64 t.a)
 r1_1:W.cell? ⟨w0.heap.size+1,1,none⟩=some (.int .i64 t.b)
 r1_2:W.cell? ⟨w0.heap.size+1,2,none⟩=some (.int .i64 t.c)
 r1_3:W.cell? ⟨w0.heap.size+1,3,none⟩=some (.int .i64 t.d)
 r1_4:W.cell? ⟨w0.heap.size+1,4,none⟩=some (.int .i64 t.e)
 r1_5:W.cell? ⟨w0.heap.size+1,5,none⟩=some (.int .i64 t.f)
 z2_0:W.cell? ⟨w0.heap.size+1+1,0,none⟩=some (.int .i64 0)
 f2_0:W.frozen? ⟨w0.heap.size+1+1,0,none⟩=false
 z2_1:W.cell? ⟨w0.heap.size+1+1,1,none⟩=some (.int .i64 0)
 f2_1:W.frozen? ⟨w0.heap.size+1+1,1,none⟩=false
 z2_2:W.cell? ⟨w0.heap.size+1+1,2,none⟩=some (.int .i64 0)
 f2_2:W.frozen? ⟨w0.heap.size+1+1,2,none⟩=false
 z2_3:W.cell? ⟨w0.heap.size+1+1,3,none⟩=some (.int .i64 0)
 f2_3:W.frozen? ⟨w0.heap.size+1+1,3,none⟩=false
 z2_4:W.cell? ⟨w0.heap.size+1+1,4,none⟩=some (.int .i64 0)
 f2_4:W.frozen? ⟨w0.heap.size+1+1,4,none⟩=false
 z2_5:W.cell? ⟨w0.heap.size+1+1,5,none⟩=some (.int .i64 0)
 f2_5:W.frozen? ⟨w0.heap.size+1+1,5,none⟩=false
 fE:W.frozen? ⟨c,0,none⟩=false
 lt:c<w0.heap.size
 size:w0.heap.size+1+1<W.heap.size
 st:Step B w0 c E W
theorem X4.al0 {w0 W:World} {s t:D} {B c:Nat} {E:Int} (h:X4 w0 W s t B c E):(W.cell? ⟨w0.heap.size,0,none⟩=some (.int .i64 s.a))∧(W.cell? ⟨w0.heap.size,1,none⟩=some (.int .i64 s.b))∧(W.cell? ⟨w0.heap.size,2,none⟩=some (.int .i64 s.c))∧(W.cell? ⟨w0.heap.size,3,none⟩=some (.int .i64 s.d))∧(W.cell? ⟨w0.heap.size,4,none⟩=some (.int .i64 s.e))∧(W.cell? ⟨w0.heap.size,5,none⟩=some (.int .i64 s.f))∧(W.cell? ⟨w0.heap.size+1,0,none⟩=some (.int .i64 t.a))∧(W.cell? ⟨w0.heap.size+1,1,none⟩=some (.int .i64 t.b))∧(W.cell? ⟨w0.heap.size+1,2,none⟩=some (.int .i64 t.c))∧(W.cell? ⟨w0.heap.size+1,3,none⟩=some (.int .i64 t.d))∧(W.cell? ⟨w0.heap.size+1,4,none⟩=some (.int .i64 t.e))∧(W.cell? ⟨w0.heap.size+1,5,none⟩=some (.int .i64 t.f))∧(W.cell? ⟨w0.heap.size+1+1,0,none⟩=some (.int .i64 0))∧(W.frozen? ⟨w0.heap.size+1+1,0,none⟩=false)∧(W.cell? ⟨w0.heap.size+1+1,1,none⟩=some (.int .i64 0))∧(W.frozen? ⟨w0.heap.size+1+1,1,none⟩=false)∧(W.cell? ⟨w0.heap.size+1+1,2,none⟩=some (.int .i64 0))∧(W.frozen? ⟨w0.heap.size+1+1,2,none⟩=false)∧(W.cell? ⟨w0.heap.size+1+1,3,none⟩=some (.int .i64 0))∧(W.frozen? ⟨w0.heap.size+1+1,3,none⟩=false)∧(W.cell? ⟨w0.heap.size+1+1,4,none⟩=some (.int .i64 0))∧(W.frozen? ⟨w0.heap.size+1+1,4,none⟩=false)∧(W.cell? ⟨w0.heap.size+1+1,5,none⟩=some (.int .i64 0))∧(W.frozen? ⟨w0.heap.size+1+1,5,none⟩=false):=⟨h.r0_0,h.r0_1,h.r0_2,h.r0_3,h.r0_4,h.r0_5,h.r1_0,h.r1_1,h.r1_2,h.r1_3,h.r1_4,h.r1_5,h.z2_0,h.f2_0,h.z2_1,h.f2_1,h.z2_2,h.f2_2,h.z2_3,h.f2_3,h.z2_4,h.f2_4,h.z2_5,h.f2_5⟩
theorem X4.call {w0 W:World} {s t:D} {B c:Nat} {E:Int} {W':World} (h:X4 w0 W s t B c E) (hb:Below W.heap.size W W'):X4 w0 W' s t B c E:=by
 have z:=h.size;have z':=hb.size;have lt:=h.lt;have hc:∀b o,b<W.heap.size→W'.cell? ⟨b,o,none⟩=W.cell? ⟨b,o,none⟩:=fun b o h=>hb.cell (p:=⟨b,o,none⟩) h;have hf:∀b o,b<W.heap.size→W'.frozen? ⟨b,o,none⟩=W.frozen? ⟨b,o,none⟩:=fun b o h=>hb.frozen (p:=⟨b,o,none⟩) h
 have l0:w0.heap.size<W.heap.size:=by omega
 have l1:w0.heap.size+1<W.heap.size:=by omega
 have l2:w0.heap.size+1+1<W.heap.size:=by omega
 exact ⟨(hc _ _ l0).trans h.r0_0,(hc _ _ l0).trans h.r0_1,(hc _ _ l0).trans h.r0_2,(hc _ _ l0).trans h.r0_3,(hc _ _ l0).trans h.r0_4,(hc _ _ l0).trans h.r0_5,(hc _ _ l1).trans h.r1_0,(hc _ _ l1).trans h.r1_1,(hc _ _ l1).trans h.r1_2,(hc _ _ l1).trans h.r1_3,(hc _ _ l1).trans h.r1_4,(hc _ _ l1).trans h.r1_5,(hc _ _ l2).trans h.z2_0,(hf _ _ l2).trans h.f2_0,(hc _ _ l2).trans h.z2_1,(hf _ _ l2).trans h.f2_1,(hc _ _ l2).trans h.z2_2,(hf _ _ l2).trans h.f2_2,(hc _ _ l2).trans h.z2_3,(hf _ _ l2).trans h.f2_3,(hc _ _ l2).trans h.z2_4,(hf _ _ l2).trans h.f2_4,(hc _ _ l2).trans h.z2_5,(hf _ _ l2).trans h.f2_5,(hf _ _ (by omega)).trans h.fE,lt,by omega,h.st.more lt (hb.mono (by omega))⟩
theorem X4.put {w0 W:World} {s t:D} {B c:Nat} {E:Int} (h:X4 w0 W s t B c E) (E':Int):X4 w0 (W.setCell ⟨c,0,none⟩ (.int .i64 E')) s t B c E':=by
 have z:=h.size;have lt:=h.lt;have cE:=h.st.cell
 have n0:¬(w0.heap.size=c):=by omega
 have n1:¬(w0.heap.size+1=c):=by omega
 have n2:¬(w0.heap.size+1+1=c):=by omega
 have st':Step B w0 c E' (W.setCell ⟨c,0,none⟩ (.int .i64 E')):=⟨World.cell?_setCell_same W _ _ cE,fun b o h1 h2=>(World.cell?_setCell_other W _ _ _ (fun e=>h2 (by injection e with e1 e2 e3;exact e1.symm))).trans (h.st.other b o h1 h2),fun b o h1=>(by simp [go_sem,h.st.frozen b o h1]),by have:=h.st.size;simpa using this,fun h1 h2=>(h.st.below h1 h2).setCell h1 _⟩;exact ⟨fset h.r0_0 n0,fset h.r0_1 n0,fset h.r0_2 n0,fset h.r0_3 n0,fset h.r0_4 n0,fset h.r0_5 n0,fset h.r1_0 n1,fset h.r1_1 n1,fset h.r1_2 n1,fset h.r1_3 n1,fset h.r1_4 n1,fset h.r1_5 n1,fset h.z2_0 n2,(by simp [go_sem,h.f2_0]),fset h.z2_1 n2,(by simp [go_sem,h.f2_1]),fset h.z2_2 n2,(by simp [go_sem,h.f2_2]),fset h.z2_3 n2,(by simp [go_sem,h.f2_3]),fset h.z2_4 n2,(by simp [go_sem,h.f2_4]),fset h.z2_5 n2,(by simp [go_sem,h.f2_5]),by simp [go_sem,h.fE],lt,by simpa using z,st'⟩
theorem X4.fin6_2 {w0 W:World} {s t:D} {B c:Nat} {E:Int} (h:X4 w0 W s t B c E) (u0 u1 u2 u3 u4 u5:Int):((((((W.setCell ⟨w0.heap.size+1+1,0,none⟩ (.int .i64 u0)).setCell ⟨w0.heap.size+1+1,1,none⟩ (.int .i64 u1)).setCell ⟨w0.heap.size+1+1,2,none⟩ (.int .i64 u2)).setCell ⟨w0.heap.size+1+1,3,none⟩ (.int .i64 u3)).setCell ⟨w0.heap.size+1+1,4,none⟩ (.int .i64 u4)).setCell ⟨w0.heap.size+1+1,5,none⟩ (.int .i64 u5)).cell? ⟨w0.heap.size+1+1,0,none⟩=some (.int .i64 u0)∧((((((W.setCell ⟨w0.heap.size+1+1,0,none⟩ (.int .i64 u0)).setCell ⟨w0.heap.size+1+1,1,none⟩ (.int .i64 u1)).setCell ⟨w0.heap.size+1+1,2,none⟩ (.int .i64 u2)).setCell ⟨w0.heap.size+1+1,3,none⟩ (.int .i64 u3)).setCell ⟨w0.heap.size+1+1,4,none⟩ (.int .i64 u4)).setCell ⟨w0.heap.size+1+1,5,none⟩ (.int .i64 u5)).cell? ⟨w0.heap.size+1+1,1,none⟩=some (.int .i64 u1)∧((((((W.setCell ⟨w0.heap.size+1+1,0,none⟩ (.int .i64 u0)).setCell ⟨w0.heap.size+1+1,1,none⟩ (.int .i64 u1)).setCell ⟨w0.heap.size+1+1,2,none⟩ (.int .i64 u2)).setCell ⟨w0.heap.size+1+1,3,none⟩ (.int .i64 u3)).setCell ⟨w0.heap.size+1+1,4,none⟩ (.int .i64 u4)).setCell ⟨w0.heap.size+1+1,5,none⟩ (.int .i64 u5)).cell? ⟨w0.heap.size+1+1,2,none⟩=some (.int .i64 u2)∧((((((W.setCell ⟨w0.heap.size+1+1,0,none⟩ (.int .i64 u0)).setCell ⟨w0.heap.size+1+1,1,none⟩ (.int .i64 u1)).setCell ⟨w0.heap.size+1+1,2,none⟩ (.int .i64 u2)).setCell ⟨w0.heap.size+1+1,3,none⟩ (.int .i64 u3)).setCell ⟨w0.heap.size+1+1,4,none⟩ (.int .i64 u4)).setCell ⟨w0.heap.size+1+1,5,none⟩ (.int .i64 u5)).cell? ⟨w0.heap.size+1+1,3,none⟩=some (.int .i64 u3)∧((((((W.setCell ⟨w0.heap.size+1+1,0,none⟩ (.int .i64 u0)).setCell ⟨w0.heap.size+1+1,1,none⟩ (.int .i64 u1)).setCell ⟨w0.heap.size+1+1,2,none⟩ (.int .i64 u2)).setCell ⟨w0.heap.size+1+1,3,none⟩ (.int .i64 u3)).setCell ⟨w0.heap.size+1+1,4,none⟩ (.int .i64 u4)).setCell ⟨w0.heap.size+1+1,5,none⟩ (.int .i64 u5)).cell? ⟨w0.heap.size+1+1,4,none⟩=some (.int .i64 u4)∧((((((W.setCell ⟨w0.heap.size+1+1,0,none⟩ (.int .i64 u0)).setCell ⟨w0.heap.size+1+1,1,none⟩ (.int .i64 u1)).setCell ⟨w0.heap.size+1+1,2,none⟩ (.int .i64 u2)).setCell ⟨w0.heap.size+1+1,3,none⟩ (.int .i64 u3)).setCell ⟨w0.heap.size+1+1,4,none⟩ (.int .i64 u4)).setCell ⟨w0.heap.size+1+1,5,none⟩ (.int .i64 u5)).cell? ⟨w0.heap.size+1+1,5,none⟩=some (.int .i64 u5)∧Step B w0 c E ((((((W.setCell ⟨w0.heap.size+1+1,0,none⟩ (.int .i64 u0)).setCell ⟨w0.heap.size+1+1,1,none⟩ (.int .i64 u1)).setCell ⟨w0.heap.size+1+1,2,none⟩ (.int .i64 u2)).setCell ⟨w0.heap.size+1+1,3,none⟩ (.int .i64 u3)).setCell ⟨w0.heap.size+1+1,4,none⟩ (.int .i64 u4)).setCell ⟨w0.heap.size+1+1,5,none⟩ (.int .i64 u5)):=by
 have z0:=h.z2_0;have z1:=h.z2_1;have z2:=h.z2_2;have z3:=h.z2_3;have z4:=h.z2_4;have z5:=h.z2_5;have st:=h.st;have lt:=h.lt;clear h;refine ⟨?_,?_,?_,?_,?_,?_,st.more lt (((((((Below.refl _ _).setCell (by dsimp only;omega) _).setCell (by dsimp only;omega) _).setCell (by dsimp only;omega) _).setCell (by dsimp only;omega) _).setCell (by dsimp only;omega) _).setCell (by dsimp only;omega) _)⟩<;>simp [go_sem, *]
def goOnD (e:Int) (r:RD):RD:=if e=0 then r else ⟨zD,e⟩
set_option maxRecDepth 100000 in
set_option maxHeartbeats 1000000 in
theorem rscale_any (B c:Nat) (e:Int) (s:D) (a b:Int) (w:World) (hc:w.cell? ⟨c,0,none⟩=some (.int .i64 e)) (hf:w.frozen? ⟨c,0,none⟩=false) :
  Calls Tryz.prog 111 #[.pointer (some ⟨c,0,none⟩),dv s,iv a b] w fun r w'=>r = .returned (dv (goOnD e (scaleD s a b)).d)∧Step B w c (goOnD e (scaleD s a b)).e w':=by
 have hlt:c<w.heap.size:=World.block_lt_of_cell? w _ hc
 have q1:c<w.heap.size+1:=by omega
 have q2:c<w.heap.size+1+1:=by omega
 have q3:c<w.heap.size+1+1+1:=by omega
 have nn0:¬(c=w.heap.size):=by omega
 have nn1:¬(c=w.heap.size+1):=by omega
 have nn2:¬(c=w.heap.size+1+1):=by omega
 have hbel:Below w.heap.size w (((w.alloc (.cells #[.int .i64 s.a,.int .i64 s.b,.int .i64 s.c,.int .i64 s.d,.int .i64 s.e,.int .i64 s.f] 45)).alloc (.cells #[.int .i64 a,.int .i64 b] 25)).alloc (.cells #[.int .i64 0,.int .i64 0,.int .i64 0,.int .i64 0,.int .i64 0,.int .i64 0] 45)):=by
  repeat (first|exact Below.refl _ _|refine Below.alloc ?_ (by first|omega|(simp<;>omega)) _)
 have I0:X3 w (((w.alloc (.cells #[.int .i64 s.a,.int .i64 s.b,.int .i64 s.c,.int .i64 s.d,.int .i64 s.e,.int .i64 s.f] 45)).alloc (.cells #[.int .i64 a,.int .i64 b] 25)).alloc (.cells #[.int .i64 0,.int .i64 0,.int .i64 0,.int .i64 0,.int .i64 0,.int .i64 0] 45)) s a b B c e:=by
  refine ⟨by simp [go_sem],by simp [go_sem],by simp [go_sem],by simp [go_sem],by simp [go_sem],by simp [go_sem],by simp [go_sem],by simp [go_sem],by simp [go_sem],by simp [go_sem],by simp [go_sem],by simp [go_sem],by simp [go_sem],by simp [go_sem],by simp [go_sem],by simp [go_sem],by simp [go_sem],by simp [go_sem],by simp [go_sem],by simp [go_sem],by simp [go_sem, *],hlt,by simp,Step.start hbel hc⟩
 clear hbel
 by_cases he:e=0
 ·subst he;rw [show goOnD 0 (scaleD s a b)=scaleD s a b from if_pos rfl];obtain ⟨⟨⟨d0,d1,d2,d3,d4,d5⟩,ee⟩,hd⟩:∃r:RD,scaleD s a b=r:=⟨_,rfl⟩;have HD:=Lib.hid (show retD (scaleD s a b) = .returned (.tuple #[.agg #[.int .i64 d0,.int .i64 d1,.int .i64 d2,.int .i64 d3,.int .i64 d4,.int .i64 d5],.int .i64 ee]) from by rw [hd]);rw [hd];clear hd;go_enter Tryz.func111,Tryz.ntmps111
  go_wp2_with fail
  refine (dscale_any s a b _).mono ?_;rintro r w1 ⟨rfl,hb⟩;rw [HD.out];have I1:=I0.call hb;clear hb;have I1al0:=I1.al0;have cE_1:=I1.st.cell;have fE_1:=I1.fE;have sz_1:=I1.size
  have v1:c<w1.heap.size:=by omega
  have v2:¬(c=w1.heap.size):=by omega
  have v3:¬(w1.heap.size=c):=by omega
  have v4:w.heap.size+1+1<w1.heap.size:=by omega
  have v5:¬(w.heap.size+1+1=w1.heap.size):=by omega
  have v6:¬(w1.heap.size=w.heap.size+1+1):=by omega
  have v7:c<w1.heap.size+1:=by omega
  have v8:w.heap.size+1+1<w1.heap.size+1:=by omega
  have v9:¬(c=w.heap.size+1+1):=by omega
  have v10:¬(w.heap.size+1+1=c):=by omega
  go_wp2_with fail
  have I2:=I1.put ee;have K:=I2.fin6_2 (d0) (d1) (d2) (d3) (d4) (d5);have LT:=I2.lt;revert K;generalize (((((((w1.setCell ⟨c,0,none⟩ (.int .i64 ee)).setCell ⟨w.heap.size+1+1,0,none⟩ (.int .i64 d0)).setCell ⟨w.heap.size+1+1,1,none⟩ (.int .i64 d1)).setCell ⟨w.heap.size+1+1,2,none⟩ (.int .i64 d2)).setCell ⟨w.heap.size+1+1,3,none⟩ (.int .i64 d3)).setCell ⟨w.heap.size+1+1,4,none⟩ (.int .i64 d4)).setCell ⟨w.heap.size+1+1,5,none⟩ (.int .i64 d5))=X;intro K;obtain ⟨k0,k1,k2,k3,k4,k5,kb⟩:=K;have kb:=kb.more LT ((Below.refl _ _).alloc kb.size (.cells #[.int .i64 d0,.int .i64 d1,.int .i64 d2,.int .i64 d3,.int .i64 d4,.int .i64 d5] 45));have k0:=al k0 (o:=.cells #[.int .i64 d0,.int .i64 d1,.int .i64 d2,.int .i64 d3,.int .i64 d4,.int .i64 d5] 45);have k1:=al k1 (o:=.cells #[.int .i64 d0,.int .i64 d1,.int .i64 d2,.int .i64 d3,.int .i64 d4,.int .i64 d5] 45);have k2:=al k2 (o:=.cells #[.int .i64 d0,.int .i64 d1,.int .i64 d2,.int .i64 d3,.int .i64 d4,.int .i64 d5] 45);have k3:=al k3 (o:=.cells #[.int .i64 d0,.int .i64 d1,.int .i64 d2,.int .i64 d3,.int .i64 d4,.int .i64 d5] 45);have k4:=al k4 (o:=.cells #[.int .i64 d0,.int .i64 d1,.int .i64 d2,.int .i64 d3,.int .i64 d4,.int .i64 d5] 45);have k5:=al k5 (o:=.cells #[.int .i64 d0,.int .i64 d1,.int .i64 d2,.int .i64 d3,.int .i64 d4,.int .i64 d5] 45);revert kb k0 k1 k2 k3 k4 k5;generalize X.alloc (.cells #[.int .i64 d0,.int .i64 d1,.int .i64 d2,.int .i64 d3,.int .i64 d4,.int .i64 d5] 45)=Y;intro kb k0 k1 k2 k3 k4 k5;exact bodyPost_ret (v:=dv ⟨d0,d1,d2,d3,d4,d5⟩) (by simp [results,Tryz.results111,go_sem,k0,k1,k2,k3,k4,k5]) rfl ⟨rfl,kb⟩
 ·rw [show goOnD e (scaleD s a b)=⟨zD,e⟩ from if_neg he]
  have he':(e == 0)=false:=by simpa using he
  go_enter Tryz.func111,Tryz.ntmps111
  go_wp2_with fail
  exact bodyPost_ret (v:=dv zD) (by simp [results,Tryz.results111,go_sem,zD]) rfl ⟨rfl,I0.st⟩
set_option maxRecDepth 100000 in
set_option maxHeartbeats 1000000 in
theorem rvec_add (B c:Nat) (e:Int) (s t:D) (w:World) (hc:w.cell? ⟨c,0,none⟩=some (.int .i64 e)) (hf:w.frozen? ⟨c,0,none⟩=false) :
  Calls Tryz.prog 112 #[.pointer (some ⟨c,0,none⟩),.func (.func 77) #[] #[],dv s,dv t] w fun r w'=>r = .returned (dv (goOnD e (addD s t)).d)∧Step B w c (goOnD e (addD s t)).e w':=by
 have hlt:c<w.heap.size:=World.block_lt_of_cell? w _ hc
 have q1:c<w.heap.size+1:=by omega
 have q2:c<w.heap.size+1+1:=by omega
 have q3:c<w.heap.size+1+1+1:=by omega
 have nn0:¬(c=w.heap.size):=by omega
 have nn1:¬(c=w.heap.size+1):=by omega
 have nn2:¬(c=w.heap.size+1+1):=by omega
 have hbel:Below w.heap.size w (((w.alloc (.cells #[.int .i64 s.a,.int .i64 s.b,.int .i64 s.c,.int .i64 s.d,.int .i64 s.e,.int .i64 s.f] 45)).alloc (.cells #[.int .i64 t.a,.int .i64 t.b,.int .i64 t.c,.int .i64 t.d,.int .i64 t.e,.int .i64 t.f] 45)).alloc (.cells #[.int .i64 0,.int .i64 0,.int .i64 0,.int .i64 0,.int .i64 0,.int .i64 0] 45)):=by
  repeat (first|exact Below.refl _ _|refine Below.alloc ?_ (by first|omega|(simp<;>omega)) _)
 have I0:X4 w (((w.alloc (.cells #[.int .i64 s.a,.int .i64 s.b,.int .i64 s.c,.int .i64 s.d,.int .i64 s.e,.int .i64 s.f] 45)).alloc (.cells #[.int .i64 t.a,.int .i64 t.b,.int .i64 t.c,.int .i64 t.d,.int .i64 t.e,.int .i64 t.f] 45)).alloc (.cells #[.int .i64 0,.int .i64 0,.int .i64 0,.int .i64 0,.int .i64 0,.int .i64 0] 45)) s t B c e:=by
  refine ⟨by simp [go_sem],by simp [go_sem],by simp [go_sem],by simp [go_sem],by simp [go_sem],by simp [go_sem],by simp [go_sem],by simp [go_sem],by simp [go_sem],by simp [go_sem],by simp [go_sem],by simp [go_sem],by simp [go_sem],by simp [go_sem],by simp [go_sem],by simp [go_sem],by simp [go_sem],by simp [go_sem],by simp [go_sem],by simp [go_sem],by simp [go_sem],by simp [go_sem],by simp [go_sem],by simp [go_sem],by simp [go_sem, *],hlt,by simp,Step.start hbel hc⟩
 clear hbel
 by_cases he:e=0
 ·subst he;rw [show goOnD 0 (addD s t)=addD s t from if_pos rfl];obtain ⟨⟨⟨d0,d1,d2,d3,d4,d5⟩,ee⟩,hd⟩:∃r:RD,addD s t=r:=⟨_,rfl⟩;have HD:=Lib.hid (show retD (addD s t) = .returned (.tuple #[.agg #[.int .i64 d0,.int .i64 d1,.int .i64 d2,.int .i64 d3,.int .i64 d4,.int .i64 d5],.int .i64 ee]) from by rw [hd]);rw [hd];clear hd;go_enter Tryz.func112,Tryz.ntmps112
  go_wp2_with fail
  refine (dadd_any s t _).mono ?_;rintro r w1 ⟨rfl,hb⟩;rw [HD.out];have I1:=I0.call hb;clear hb;have I1al0:=I1.al0;have cE_1:=I1.st.cell;have fE_1:=I1.fE;have sz_1:=I1.size
  have v1:c<w1.heap.size:=by omega
  have v2:¬(c=w1.heap.size):=by omega
  have v3:¬(w1.heap.size=c):=by omega
  have v4:w.heap.size+1+1<w1.heap.size:=by omega
  have v5:¬(w.heap.size+1+1=w1.heap.size):=by omega
  have v6:¬(w1.heap.size=w.heap.size+1+1):=by omega
  have v7:c<w1.heap.size+1:=by omega
  have v8:w.heap.size+1+1<w1.heap.size+1:=by omega
  have v9:¬(c=w.heap.size+1+1):=by omega
  have v10:¬(w.heap.size+1+1=c):=by omega
  go_wp2_with fail
  have I2:=I1.put ee;have K:=I2.fin6_2 (d0) (d1) (d2) (d3) (d4) (d5);have LT:=I2.lt;revert K;generalize (((((((w1.setCell ⟨c,0,none⟩ (.int .i64 ee)).setCell ⟨w.heap.size+1+1,0,none⟩ (.int .i64 d0)).setCell ⟨w.heap.size+1+1,1,none⟩ (.int .i64 d1)).setCell ⟨w.heap.size+1+1,2,none⟩ (.int .i64 d2)).setCell ⟨w.heap.size+1+1,3,none⟩ (.int .i64 d3)).setCell ⟨w.heap.size+1+1,4,none⟩ (.int .i64 d4)).setCell ⟨w.heap.size+1+1,5,none⟩ (.int .i64 d5))=X;intro K;obtain ⟨k0,k1,k2,k3,k4,k5,kb⟩:=K;have kb:=kb.more LT ((Below.refl _ _).alloc kb.size (.cells #[.int .i64 d0,.int .i64 d1,.int .i64 d2,.int .i64 d3,.int .i64 d4,.int .i64 d5] 45));have k0:=al k0 (o:=.cells #[.int .i64 d0,.int .i64 d1,.int .i64 d2,.int .i64 d3,.int .i64 d4,.int .i64 d5] 45);have k1:=al k1 (o:=.cells #[.int .i64 d0,.int .i64 d1,.int .i64 d2,.int .i64 d3,.int .i64 d4,.int .i64 d5] 45);have k2:=al k2 (o:=.cells #[.int .i64 d0,.int .i64 d1,.int .i64 d2,.int .i64 d3,.int .i64 d4,.int .i64 d5] 45);have k3:=al k3 (o:=.cells #[.int .i64 d0,.int .i64 d1,.int .i64 d2,.int .i64 d3,.int .i64 d4,.int .i64 d5] 45);have k4:=al k4 (o:=.cells #[.int .i64 d0,.int .i64 d1,.int .i64 d2,.int .i64 d3,.int .i64 d4,.int .i64 d5] 45);have k5:=al k5 (o:=.cells #[.int .i64 d0,.int .i64 d1,.int .i64 d2,.int .i64 d3,.int .i64 d4,.int .i64 d5] 45);revert kb k0 k1 k2 k3 k4 k5;generalize X.alloc (.cells #[.int .i64 d0,.int .i64 d1,.int .i64 d2,.int .i64 d3,.int .i64 d4,.int .i64 d5] 45)=Y;intro kb k0 k1 k2 k3 k4 k5;exact bodyPost_ret (v:=dv ⟨d0,d1,d2,d3,d4,d5⟩) (by simp [results,Tryz.results112,go_sem,k0,k1,k2,k3,k4,k5]) rfl ⟨rfl,kb⟩
 ·rw [show goOnD e (addD s t)=⟨zD,e⟩ from if_neg he]
  have he':(e == 0)=false:=by simpa using he
  go_enter Tryz.func112,Tryz.ntmps112
  go_wp2_with fail
  exact bodyPost_ret (v:=dv zD) (by simp [results,Tryz.results112,go_sem,zD]) rfl ⟨rfl,I0.st⟩
set_option maxRecDepth 100000 in
set_option maxHeartbeats 1000000 in
theorem rvec_sub (B c:Nat) (e:Int) (s t:D) (w:World) (hc:w.cell? ⟨c,0,none⟩=some (.int .i64 e)) (hf:w.frozen? ⟨c,0,none⟩=false) :
  Calls Tryz.prog 112 #[.pointer (some ⟨c,0,none⟩),.func (.func 114) #[] #[],dv s,dv t] w fun r w'=>r = .returned (dv (goOnD e (subD s t)).d)∧Step B w c (goOnD e (subD s t)).e w':=by
 have hlt:c<w.heap.size:=World.block_lt_of_cell? w _ hc
 have q1:c<w.heap.size+1:=by omega
 have q2:c<w.heap.size+1+1:=by omega
 have q3:c<w.heap.size+1+1+1:=by omega
 have nn0:¬(c=w.heap.size):=by omega
 have nn1:¬(c=w.heap.size+1):=by omega
 have nn2:¬(c=w.heap.size+1+1):=by omega
 have hbel:Below w.heap.size w (((w.alloc (.cells #[.int .i64 s.a,.int .i64 s.b,.int .i64 s.c,.int .i64 s.d,.int .i64 s.e,.int .i64 s.f] 45)).alloc (.cells #[.int .i64 t.a,.int .i64 t.b,.int .i64 t.c,.int .i64 t.d,.int .i64 t.e,.int .i64 t.f] 45)).alloc (.cells #[.int .i64 0,.int .i64 0,.int .i64 0,.int .i64 0,.int .i64 0,.int .i64 0] 45)):=by
  repeat (first|exact Below.refl _ _|refine Below.alloc ?_ (by first|omega|(simp<;>omega)) _)
 have I0:X4 w (((w.alloc (.cells #[.int .i64 s.a,.int .i64 s.b,.int .i64 s.c,.int .i64 s.d,.int .i64 s.e,.int .i64 s.f] 45)).alloc (.cells #[.int .i64 t.a,.int .i64 t.b,.int .i64 t.c,.int .i64 t.d,.int .i64 t.e,.int .i64 t.f] 45)).alloc (.cells #[.int .i64 0,.int .i64 0,.int .i64 0,.int .i64 0,.int .i64 0,.int .i64 0] 45)) s t B c e:=by
  refine ⟨by simp [go_sem],by simp [go_sem],by simp [go_sem],by simp [go_sem],by simp [go_sem],by simp [go_sem],by simp [go_sem],by simp [go_sem],by simp [go_sem],by simp [go_sem],by simp [go_sem],by simp [go_sem],by simp [go_sem],by simp [go_sem],by simp [go_sem],by simp [go_sem],by simp [go_sem],by simp [go_sem],by simp [go_sem],by simp [go_sem],by simp [go_sem],by simp [go_sem],by simp [go_sem],by simp [go_sem],by simp [go_sem, *],hlt,by simp,Step.start hbel hc⟩
 clear hbel
 by_cases he:e=0
 ·subst he;rw [show goOnD 0 (subD s t)=subD s t from if_pos rfl];obtain ⟨⟨⟨d0,d1,d2,d3,d4,d5⟩,ee⟩,hd⟩:∃r:RD,subD s t=r:=⟨_,rfl⟩;have HD:=Lib.hid (show retD (subD s t) = .returned (.tuple #[.agg #[.int .i64 d0,.int .i64 d1,.int .i64 d2,.int .i64 d3,.int .i64 d4,.int .i64 d5],.int .i64 ee]) from by rw [hd]);rw [hd];clear hd;go_enter Tryz.func112,Tryz.ntmps112
  go_wp2_with fail
  refine (dsub_any s t _).mono ?_;rintro r w1 ⟨rfl,hb⟩;rw [HD.out];have I1:=I0.call hb;clear hb;have I1al0:=I1.al0;have cE_1:=I1.st.cell;have fE_1:=I1.fE;have sz_1:=I1.size
  have v1:c<w1.heap.size:=by omega
  have v2:¬(c=w1.heap.size):=by omega
  have v3:¬(w1.heap.size=c):=by omega
  have v4:w.heap.size+1+1<w1.heap.size:=by omega
  have v5:¬(w.heap.size+1+1=w1.heap.size):=by omega
  have v6:¬(w1.heap.size=w.heap.size+1+1):=by omega
  have v7:c<w1.heap.size+1:=by omega
  have v8:w.heap.size+1+1<w1.heap.size+1:=by omega
  have v9:¬(c=w.heap.size+1+1):=by omega
  have v10:¬(w.heap.size+1+1=c):=by omega
  go_wp2_with fail
  have I2:=I1.put ee;have K:=I2.fin6_2 (d0) (d1) (d2) (d3) (d4) (d5);have LT:=I2.lt;revert K;generalize (((((((w1.setCell ⟨c,0,none⟩ (.int .i64 ee)).setCell ⟨w.heap.size+1+1,0,none⟩ (.int .i64 d0)).setCell ⟨w.heap.size+1+1,1,none⟩ (.int .i64 d1)).setCell ⟨w.heap.size+1+1,2,none⟩ (.int .i64 d2)).setCell ⟨w.heap.size+1+1,3,none⟩ (.int .i64 d3)).setCell ⟨w.heap.size+1+1,4,none⟩ (.int .i64 d4)).setCell ⟨w.heap.size+1+1,5,none⟩ (.int .i64 d5))=X;intro K;obtain ⟨k0,k1,k2,k3,k4,k5,kb⟩:=K;have kb:=kb.more LT ((Below.refl _ _).alloc kb.size (.cells #[.int .i64 d0,.int .i64 d1,.int .i64 d2,.int .i64 d3,.int .i64 d4,.int .i64 d5] 45));have k0:=al k0 (o:=.cells #[.int .i64 d0,.int .i64 d1,.int .i64 d2,.int .i64 d3,.int .i64 d4,.int .i64 d5] 45);have k1:=al k1 (o:=.cells #[.int .i64 d0,.int .i64 d1,.int .i64 d2,.int .i64 d3,.int .i64 d4,.int .i64 d5] 45);have k2:=al k2 (o:=.cells #[.int .i64 d0,.int .i64 d1,.int .i64 d2,.int .i64 d3,.int .i64 d4,.int .i64 d5] 45);have k3:=al k3 (o:=.cells #[.int .i64 d0,.int .i64 d1,.int .i64 d2,.int .i64 d3,.int .i64 d4,.int .i64 d5] 45);have k4:=al k4 (o:=.cells #[.int .i64 d0,.int .i64 d1,.int .i64 d2,.int .i64 d3,.int .i64 d4,.int .i64 d5] 45);have k5:=al k5 (o:=.cells #[.int .i64 d0,.int .i64 d1,.int .i64 d2,.int .i64 d3,.int .i64 d4,.int .i64 d5] 45);revert kb k0 k1 k2 k3 k4 k5;generalize X.alloc (.cells #[.int .i64 d0,.int .i64 d1,.int .i64 d2,.int .i64 d3,.int .i64 d4,.int .i64 d5] 45)=Y;intro kb k0 k1 k2 k3 k4 k5;exact bodyPost_ret (v:=dv ⟨d0,d1,d2,d3,d4,d5⟩) (by simp [results,Tryz.results112,go_sem,k0,k1,k2,k3,k4,k5]) rfl ⟨rfl,kb⟩
 ·rw [show goOnD e (subD s t)=⟨zD,e⟩ from if_neg he]
  have he':(e == 0)=false:=by simpa using he
  go_enter Tryz.func112,Tryz.ntmps112
  go_wp2_with fail
  exact bodyPost_ret (v:=dv zD) (by simp [results,Tryz.results112,go_sem,zD]) rfl ⟨rfl,I0.st⟩
end Go.Proofs.YtiecdgcdcpmgaaaGreat.Iv

/- Contract of package refraction's Radicand: the square of the cosine of a refracted ray. -/
namespace Go.Proofs.YtiecdgcdcpmgaaaGreat.Iv
open Go.RowKit
def At (W:World) (b:Nat) (cs:List Value):Prop:=b<W.heap.size∧∀j v,cs[j]? = some v→W.cell? ⟨b,j,none⟩=some v
theorem At.kept {W W':World} {b:Nat} {cs:List Value} (h:At W b cs) (hb:Below W.heap.size W W'):At W' b cs:=
 ⟨Nat.lt_of_lt_of_le h.1 hb.size,fun j v hv=>(hb.cell (p:=⟨b,j,none⟩) h.1).trans (h.2 j v hv)⟩
theorem At.alc {W:World} {b:Nat} {cs:List Value} (h:At W b cs) (o:Obj):At (W.alloc o) b cs:=h.kept ((Below.refl _ _).alloc (Nat.le_refl _) o)
theorem At.drew {W:World} {b:Nat} {cs:List Value} (h:At W b cs):At W.drew b cs:=h.kept (Below.refl _ _).drew
theorem At.step {n m:Nat} {E:Int} {W W':World} {b:Nat} {cs:List Value} (h:At W b cs) (st:Step n W m E W') (ne:¬(b=m)):At W' b cs:=
 ⟨Nat.lt_of_lt_of_le h.1 st.size,fun j v hv=>(st.other _ _ h.1 ne).trans (h.2 j v hv)⟩
theorem At.set {W:World} {b c i:Nat} {u:Value} {cs:List Value} (h:At W b cs) (ne:¬(b=c)):At (W.setCell ⟨c,i,none⟩ u) b cs:=
 ⟨by simpa using h.1,fun j v hv=>fset (h.2 j v hv) ne⟩
theorem At.new2 {W:World} {b:Nat} {p q:Value} {t:TypeId} (hb:b=W.heap.size):At (W.alloc (.cells #[p,q] t)) b [p,q]:=by
 subst hb;refine ⟨by simp,fun j v hv=>?_⟩;rw [World.cell?_alloc_new];simpa only [List.getElem?_toArray] using hv
theorem At.new6 {W:World} {b:Nat} {p q r s t u:Value} {ty:TypeId} (hb:b=W.heap.size):At (W.alloc (.cells #[p,q,r,s,t,u] ty)) b [p,q,r,s,t,u]:=by
 subst hb;refine ⟨by simp,fun j v hv=>?_⟩;rw [World.cell?_alloc_new];simpa only [List.getElem?_toArray] using hv
structure Zn (W:World) (b:Nat):Prop where
 z0:W.cell? ⟨b,0,none⟩=some (.int .i64 0)
 z1:W.cell? ⟨b,1,none⟩=some (.int .i64 0)
 f0:W.frozen? ⟨b,0,none⟩=false
 f1:W.frozen? ⟨b,1,none⟩=false
 lt:b<W.heap.size
theorem Zn.new {W:World} {b:Nat} {t:TypeId} (hb:b=W.heap.size):Zn (W.alloc (.cells #[.int .i64 0,.int .i64 0] t)) b:=by
 subst hb;constructor<;>simp [go_sem]
theorem Zn.kept {W W':World} {b:Nat} (h:Zn W b) (hb:Below W.heap.size W W'):Zn W' b:=
 ⟨(hb.cell (p:=⟨b,0,none⟩) h.lt).trans h.z0,(hb.cell (p:=⟨b,1,none⟩) h.lt).trans h.z1,(hb.frozen (p:=⟨b,0,none⟩) h.lt).trans h.f0,(hb.frozen (p:=⟨b,1,none⟩) h.lt).trans h.f1,Nat.lt_of_lt_of_le h.lt hb.size⟩
theorem Zn.step {n m:Nat} {E:Int} {W W':World} {b:Nat} (h:Zn W b) (st:Step n W m E W') (ne:¬(b=m)):Zn W' b:=
 ⟨(st.other _ _ h.lt ne).trans h.z0,(st.other _ _ h.lt ne).trans h.z1,(st.frozen _ _ h.lt).trans h.f0,(st.frozen _ _ h.lt).trans h.f1,Nat.lt_of_lt_of_le h.lt st.size⟩
theorem Zn.fin {W:World} {b:Nat} (h:Zn W b) (p q:Value):At ((W.setCell ⟨b,0,none⟩ p).setCell ⟨b,1,none⟩ q) b [p,q]:=by
 have z0:=h.z0;have z1:=h.z1;have lt:=h.lt;refine ⟨by simpa using lt,fun j v hv=>?_⟩;rcases j with _|_|j
 ·simp at hv;subst hv;simp [go_sem, *]
 ·simp at hv;subst hv;simp [go_sem, *]
 ·simp at hv
theorem At.c0 {W:World} {b:Nat} {p q:Value} (h:At W b [p,q]):W.cell? ⟨b,0,none⟩=some p:=h.2 0 _ rfl
theorem At.c1 {W:World} {b:Nat} {p q:Value} (h:At W b [p,q]):W.cell? ⟨b,1,none⟩=some q:=h.2 1 _ rfl
theorem Rm.alc {w0 W:World} {n:Nat} {a b x y:Int} {m:Nat} {E:Int} (h:Rm w0 W n a b x y m E) (o:Obj):Rm w0 (W.alloc o) n a b x y m E:=h.call ((Below.refl _ _).alloc (Nat.le_refl _) o)
theorem Rm.put {w0 W:World} {n:Nat} {a b x y:Int} {m:Nat} {E:Int} {d i:Nat} {u:Value} (h:Rm w0 W n a b x y m E) (lt:m<d):Rm w0 (W.setCell ⟨d,i,none⟩ u) n a b x y m E:=by
 have mlt:=h.mlt
 have n0:¬(n=d):=by omega
 have n1:¬(n+1=d):=by omega
 have n2:¬(n+1+1=d):=by omega
 have nm:¬(m=d):=by omega
 exact ⟨fset h.r0_0 n0,fset h.r0_1 n0,fset h.r1_0 n1,fset h.r1_1 n1,fset h.z2_0 n2,(by simp [go_sem,h.f2_0]),fset h.z2_1 n2,(by simp [go_sem,h.f2_1]),fset h.cE nm,(by simp [go_sem,h.fE]),mlt,by simpa using h.size,h.below.setCell (by dsimp only;omega) _⟩
theorem Rm.setz {w0 W:World} {n:Nat} {a b x y:Int} {m:Nat} {E:Int} {d:Nat} (h:Rm w0 W n a b x y m E) (lt:m<d) (u v:Value):((W.setCell ⟨d,0,none⟩ u).setCell ⟨d,1,none⟩ v).cell? ⟨n,0,none⟩=some (.int .i64 a)∧((W.setCell ⟨d,0,none⟩ u).setCell ⟨d,1,none⟩ v).cell? ⟨n,1,none⟩=some (.int .i64 b):=
 ⟨((h.put lt).put lt).r0_0,((h.put lt).put lt).r0_1⟩
def radG (a b x y:Int):R:=
 let g1:=goOn 0 (sqR x y)
 let g2:=goOn g1.e (sqR a b)
 let g3:=goOn g2.e (subR 16777216 16777216 g2.lo g2.hi)
 let g4:=goOn g3.e (mulR g1.lo g1.hi g3.lo g3.hi)
 goOn g4.e (subR 16777216 16777216 g4.lo g4.hi)
def radR (a b x y:Int):R:=if vB a b=true∧vB x y=true then radG a b x y else ⟨0,0,1⟩
set_option maxRecDepth 100000 in
set_option maxHeartbeats 8000000 in
theorem radicand_any (a b x y:Int) (w:World) :
  Calls Tryz.prog 108 #[iv a b,iv x y] w fun e w'=>e=retR (radR a b x y)∧Below w.heap.size w w':=by
 have I0:R1 w (((w.alloc (.cells #[.int .i64 a,.int .i64 b] 25)).alloc (.cells #[.int .i64 x,.int .i64 y] 25)).alloc (.cells #[.int .i64 0,.int .i64 0] 25)) w.heap.size a b x y:=by
  refine ⟨by simp [go_sem],by simp [go_sem],by simp [go_sem],by simp [go_sem],by simp [go_sem],by simp [go_sem],by simp [go_sem],by simp [go_sem],by simp,?_⟩
  ·repeat (first|exact Below.refl _ _|refine Below.alloc ?_ (by first|omega|(simp<;>omega)) _)
 cases hs:vB a b
 ·rw [show radR a b x y=⟨0,0,1⟩ from if_neg (by rw [hs];simp)];have HS:=Lib.hid hs;clear hs;go_enter Tryz.func108,Tryz.ntmps108
  go_wp2_with fail
  refine (validb_any a b _).mono ?_;rintro e w1 ⟨rfl,hb⟩;rw [HS.out];have I1:=I0.call hb;clear hb;have r0_0_1:=I1.r0_0;have r0_1_1:=I1.r0_1;have r1_0_1:=I1.r1_0;have r1_1_1:=I1.r1_1;have z2_0_1:=I1.z2_0;have f2_0_1:=I1.f2_0;have z2_1_1:=I1.z2_1;have f2_1_1:=I1.f2_1;have sz_1:=I1.size
  go_wp2_with fail
  have K:=I1.fin2_2 (0) (0);revert K;generalize ((w1.setCell ⟨w.heap.size+1+1,0,none⟩ (.int .i64 0)).setCell ⟨w.heap.size+1+1,1,none⟩ (.int .i64 0))=X;intro K;obtain ⟨k0,k1,kb⟩:=K;exact bodyPost_ret (v:=.tuple #[iv 0 0,.int .i64 1]) (by simp [results,Tryz.results108,go_sem,k0,k1]) rfl ⟨rfl,kb⟩
 ·cases ht:vB x y
  ·rw [show radR a b x y=⟨0,0,1⟩ from if_neg (by rw [ht];simp)];have HS:=Lib.hid hs;have HT:=Lib.hid ht;clear hs ht;go_enter Tryz.func108,Tryz.ntmps108
   go_wp2_with fail
   refine (validb_any a b _).mono ?_;rintro e w1 ⟨rfl,hb⟩;rw [HS.out];have I1:=I0.call hb;clear hb;have r0_0_1:=I1.r0_0;have r0_1_1:=I1.r0_1;have r1_0_1:=I1.r1_0;have r1_1_1:=I1.r1_1;have z2_0_1:=I1.z2_0;have f2_0_1:=I1.f2_0;have z2_1_1:=I1.z2_1;have f2_1_1:=I1.f2_1;have sz_1:=I1.size
   go_wp2_with fail
   refine (validb_any x y _).mono ?_;rintro e w2 ⟨rfl,hb⟩;rw [HT.out];have I2:=I1.call hb;clear hb;clear r0_0_1 r0_1_1 r1_0_1 r1_1_1 z2_0_1 f2_0_1 z2_1_1 f2_1_1 sz_1;have r0_0_2:=I2.r0_0;have r0_1_2:=I2.r0_1;have r1_0_2:=I2.r1_0;have r1_1_2:=I2.r1_1;have z2_0_2:=I2.z2_0;have f2_0_2:=I2.f2_0;have z2_1_2:=I2.z2_1;have f2_1_2:=I2.f2_1;have sz_2:=I2.size
   go_wp2_with fail
   have K:=I2.fin2_2 (0) (0);revert K;generalize ((w2.setCell ⟨w.heap.size+1+1,0,none⟩ (.int .i64 0)).setCell ⟨w.heap.size+1+1,1,none⟩ (.int .i64 0))=X;intro K;obtain ⟨k0,k1,kb⟩:=K;exact bodyPost_ret (v:=.tuple #[iv 0 0,.int .i64 1]) (by simp [results,Tryz.results108,go_sem,k0,k1]) rfl ⟨rfl,kb⟩
  ·rw [show radR a b x y=radG a b x y from if_pos ⟨hs,ht⟩];obtain ⟨⟨p1,q1,e1⟩,h1⟩:∃r:R,goOn 0 (sqR x y)=r:=⟨_,rfl⟩;have H1:=Lib.hid (show Ending.returned (iv (goOn 0 (sqR x y)).lo (goOn 0 (sqR x y)).hi) = .returned (iv p1 q1)∧(goOn 0 (sqR x y)).e=e1 from by rw [h1];exact ⟨rfl,rfl⟩);obtain ⟨⟨p2,q2,e2⟩,h2⟩:∃r:R,goOn e1 (sqR a b)=r:=⟨_,rfl⟩;have H2:=Lib.hid (show Ending.returned (iv (goOn e1 (sqR a b)).lo (goOn e1 (sqR a b)).hi) = .returned (iv p2 q2)∧(goOn e1 (sqR a b)).e=e2 from by rw [h2];exact ⟨rfl,rfl⟩);obtain ⟨⟨p3,q3,e3⟩,h3⟩:∃r:R,goOn e2 (subR 16777216 16777216 p2 q2)=r:=⟨_,rfl⟩;have H3:=Lib.hid (show Ending.returned (iv (goOn e2 (subR 16777216 16777216 p2 q2)).lo (goOn e2 (subR 16777216 16777216 p2 q2)).hi) = .returned (iv p3 q3)∧(goOn e2 (subR 16777216 16777216 p2 q2)).e=e3 from by rw [h3];exact ⟨rfl,rfl⟩);obtain ⟨⟨p4,q4,e4⟩,h4⟩:∃r:R,goOn e3 (mulR p1 q1 p3 q3)=r:=⟨_,rfl⟩;have H4:=Lib.hid (show Ending.returned (iv (goOn e3 (mulR p1 q1 p3 q3)).lo (goOn e3 (mulR p1 q1 p3 q3)).hi) = .returned (iv p4 q4)∧(goOn e3 (mulR p1 q1 p3 q3)).e=e4 from by rw [h4];exact ⟨rfl,rfl⟩);obtain ⟨⟨p5,q5,e5⟩,h5⟩:∃r:R,goOn e4 (subR 16777216 16777216 p4 q4)=r:=⟨_,rfl⟩;have H5:=Lib.hid (show Ending.returned (iv (goOn e4 (subR 16777216 16777216 p4 q4)).lo (goOn e4 (subR 16777216 16777216 p4 q4)).hi) = .returned (iv p5 q5)∧(goOn e4 (subR 16777216 16777216 p4 q4)).e=e5 from by rw [h5];exact ⟨rfl,rfl⟩);rw [show radG a b x y=⟨p5,q5,e5⟩ from by unfold radG;simp only [h1,h2,h3,h4,h5]];clear h1 h2 h3 h4 h5;have HS:=Lib.hid hs;have HT:=Lib.hid ht;clear hs ht;go_enter Tryz.func108,Tryz.ntmps108
   go_wp2_with fail
   refine (validb_any a b _).mono ?_;rintro e w1 ⟨rfl,hb⟩;rw [HS.out];have I1:=I0.call hb;clear hb;have r0_0_1:=I1.r0_0;have r0_1_1:=I1.r0_1;have r1_0_1:=I1.r1_0;have r1_1_1:=I1.r1_1;have z2_0_1:=I1.z2_0;have f2_0_1:=I1.f2_0;have z2_1_1:=I1.z2_1;have f2_1_1:=I1.f2_1;have sz_1:=I1.size
   go_wp2_with fail
   refine (validb_any x y _).mono ?_;rintro e w2 ⟨rfl,hb⟩;rw [HT.out];have I2:=I1.call hb;clear hb;clear r0_0_1 r0_1_1 r1_0_1 r1_1_1 z2_0_1 f2_0_1 z2_1_1 f2_1_1 sz_1;have r0_0_2:=I2.r0_0;have r0_1_2:=I2.r0_1;have r1_0_2:=I2.r1_0;have r1_1_2:=I2.r1_1;have z2_0_2:=I2.z2_0;have f2_0_2:=I2.f2_0;have z2_1_2:=I2.z2_1;have f2_1_2:=I2.f2_1;have sz_2:=I2.size
   have naq_0:w.heap.size<w2.heap.size:=by omega
   have nbq_0:¬(w.heap.size=w2.heap.size):=by omega
   have ncq_0:¬(w2.heap.size=w.heap.size):=by omega
   have ndq_0:w.heap.size<w2.heap.size+1:=by omega
   have naq_1:w.heap.size+1<w2.heap.size:=by omega
   have nbq_1:¬(w.heap.size+1=w2.heap.size):=by omega
   have ncq_1:¬(w2.heap.size=w.heap.size+1):=by omega
   have ndq_1:w.heap.size+1<w2.heap.size+1:=by omega
   have naq_2:w.heap.size+1+1<w2.heap.size:=by omega
   have nbq_2:¬(w.heap.size+1+1=w2.heap.size):=by omega
   have ncq_2:¬(w2.heap.size=w.heap.size+1+1):=by omega
   have ndq_2:w.heap.size+1+1<w2.heap.size+1:=by omega
   have I3:=Rm.of (t:=164) I2
   go_wp2_with fail
   refine (rsq_any w.heap.size w2.heap.size x y 0 _ I3.cE I3.fE).mono ?_;rintro r w4 ⟨rfl,st⟩;rw [H1.out.1];rw [H1.out.2] at st;have I4:=I3.step st;clear st;clear r0_0_2 r0_1_2 r1_0_2 r1_1_2 z2_0_2 f2_0_2 z2_1_2 f2_1_2 sz_2;have z4:=I4.size
   have neN4:¬(w4.heap.size=w2.heap.size):=by omega
   have neR:¬(w4.heap.size=w2.heap.size):=neN4;have I5:=I4.alc (.cells #[.int .i64 p1,.int .i64 q1] 25);have R5:At (w4.alloc (.cells #[.int .i64 p1,.int .i64 q1] 25)) w4.heap.size [.int .i64 p1,.int .i64 q1]:=At.new2 rfl;have ID:=I5.drew;have RD:=R5.drew;have HS0:Hid (w4.heap.size+1=(w4.alloc (.cells #[.int .i64 p1,.int .i64 q1] 25)).drew.heap.size):=Lib.hid (by simp);have IDz:=(I5.alc (.cells #[.int .i64 0,.int .i64 0] 25)).drew;have RDz:=(R5.alc (.cells #[.int .i64 0,.int .i64 0] 25)).drew;have ZDz:Zn (((w4.alloc (.cells #[.int .i64 p1,.int .i64 q1] 25)).alloc (.cells #[.int .i64 0,.int .i64 0] 25)).drew) (w4.heap.size+1):=(Zn.new (by simp)).kept (Below.refl _ _).drew
   have neND0:¬(w4.heap.size+1=w2.heap.size):=by omega
   have lz1:w2.heap.size<w4.heap.size+1:=by omega
   have nR1:¬(w4.heap.size=w4.heap.size+1):=by omega
   have neND:¬((w4.alloc (.cells #[.int .i64 p1,.int .i64 q1] 25)).drew.heap.size=w2.heap.size):=by rw [←HS0.out];exact neND0
   go_upto_region 6 with fail
   go_cut [10] from 27 to 32 (fun vz wx=>∃bz:Nat,vz = .pointer (some ⟨bz,0,none⟩)∧Rm w wx w.heap.size a b x y w2.heap.size e3∧At wx w4.heap.size [.int .i64 p1,.int .i64 q1]∧At wx bz [.int .i64 p3,.int .i64 q3]∧¬(bz=w2.heap.size))
   case first=>
    go_region_held3 (fun w'=>w'.cell? ⟨w.heap.size,0,none⟩=some (.int .i64 a)∧w'.cell? ⟨w.heap.size,1,none⟩=some (.int .i64 b)) (with_reducible first|exact ⟨IDz.r0_0,IDz.r0_1⟩|exact ⟨ID.r0_0,ID.r0_1⟩|exact ⟨(ID.alc _).r0_0,(ID.alc _).r0_1⟩|exact ⟨IA.r0_0,IA.r0_1⟩|exact ⟨(IA.alc _).r0_0,(IA.alc _).r0_1⟩|exact ⟨IB.r0_0,IB.r0_1⟩|exact ⟨(IB.alc _).r0_0,(IB.alc _).r0_1⟩|exact ⟨IC.r0_0,IC.r0_1⟩|exact ⟨(IC.alc _).r0_0,(IC.alc _).r0_1⟩|exact IC.setz lz1 _ _|exact IC.setz IA.size _ _|exact IC.setz IB.size _ _)
     (first|(have hm:=hmarkB;go_at_call 110;refine (num_sub w.heap.size w2.heap.size 16777216 16777216 p2 q2 e2 _ ?_ ?_).mono ?_;(· (with_reducible first|exact IB.cE|exact (IB.alc _).cE));(· (with_reducible first|exact IB.fE|exact (IB.alc _).fE));rintro r wC ⟨rfl,st⟩;rw [H3.out.1];rw [H3.out.2] at st;have IC:Rm w wC w.heap.size a b x y w2.heap.size e3:=(by with_reducible first|exact IB.step st|exact (IB.alc _).step st);have RC:At wC (w4.heap.size) [.int .i64 p1,.int .i64 q1]:=(by with_reducible first|exact RB.step st neR|exact (RB.alc _).step st neR);have nRC:¬((w4.heap.size)=wC.heap.size):=Nat.ne_of_lt RC.1;have szC:=IC.size;have neNC:¬(wC.heap.size=w2.heap.size):=(by omega);(first|((have hz:=ZB.lt;have ZC:=ZB.step st (by omega)))|(have ZC:Zn wC (wB.heap.size):=(by with_reducible exact (Zn.new rfl).step st neNB))|skip);(try (have zz0:=ZC.z0;have zz1:=ZC.z1;have ff0:=ZC.f0;have ff1:=ZC.f1));have hmarkC:wC=wC:=rfl)|(have hm:=hmarkA;go_at_call 121;refine (rsq_any w.heap.size w2.heap.size a b e1 _ ?_ ?_).mono ?_;(· (with_reducible first|exact IA.cE|exact (IA.alc _).cE));(· (with_reducible first|exact IA.fE|exact (IA.alc _).fE));rintro r wB ⟨rfl,st⟩;rw [H2.out.1];rw [H2.out.2] at st;have IB:Rm w wB w.heap.size a b x y w2.heap.size e2:=(by with_reducible first|exact IA.step st|exact (IA.alc _).step st);have RB:At wB (w4.heap.size) [.int .i64 p1,.int .i64 q1]:=(by with_reducible first|exact RA.step st neR|exact (RA.alc _).step st neR);have nRB:¬((w4.heap.size)=wB.heap.size):=Nat.ne_of_lt RB.1;have szB:=IB.size;have neNB:¬(wB.heap.size=w2.heap.size):=(by omega);(first|((have hz:=ZA.lt;have ZB:=ZA.step st (by omega)))|(have ZB:Zn wB (wA.heap.size):=(by with_reducible exact (Zn.new rfl).step st neNA))|skip);have hmarkB:wB=wB:=rfl)|(go_at_call 122;refine (unit_any _).mono ?_;rintro r wA ⟨rfl,hb⟩;have IA:Rm w wA w.heap.size a b x y w2.heap.size e1:=(by with_reducible first|exact ID.call hb|exact IDz.call hb);have RA:At wA (w4.heap.size) [.int .i64 p1,.int .i64 q1]:=(by with_reducible first|exact RD.kept hb|exact RDz.kept hb);have nRA:¬((w4.heap.size)=wA.heap.size):=Nat.ne_of_lt RA.1;have szA:=IA.size;have neNA:¬(wA.heap.size=w2.heap.size):=(by omega);(first|(have ZA:Zn wA (w4.heap.size+1):=(by with_reducible exact ZDz.kept hb))|skip);have hmarkA:wA=wA:=rfl))
    all_goals (go_wp2_with fail;go_meet)
    all_goals refine ⟨_,rfl,?_,?_,?_,?_⟩
    all_goals with_reducible first
     |exact (IC.put lz1).put lz1
     |exact (IC.put IA.size).put IA.size
     |exact (IC.put IB.size).put IB.size
     |exact IC.alc _
     |exact (RC.set nR1).set nR1
     |exact (RC.set nRA).set nRA
     |exact (RC.set nRB).set nRB
     |exact RC.alc _
     |exact ZC.fin _ _
     |exact At.new2 rfl
     |exact neND0
     |exact neNA
     |exact neNB
     |exact neNC
   case rest=>
    obtain ⟨bz,rfl,I6,R6,Q6,neQ⟩:=hcut;clear ID RD IDz RDz ZDz HS0 neND0 neND lz1 nR1 I5 R5;have ID:=I6.drew;have RD:=R6.drew;have QD:=Q6.drew;have IDz:=(I6.alc (.cells #[.int .i64 0,.int .i64 0] 25)).drew;have RDz:=(R6.alc (.cells #[.int .i64 0,.int .i64 0] 25)).drew;have QDz:=(Q6.alc (.cells #[.int .i64 0,.int .i64 0] 25)).drew;have ZDz:Zn ((wc.alloc (.cells #[.int .i64 0,.int .i64 0] 25)).drew) wc.heap.size:=(Zn.new rfl).kept (Below.refl _ _).drew;have lz1:w2.heap.size<wc.heap.size:=I6.size
    have neND0:¬(wc.heap.size=w2.heap.size):=by omega
    have nR1:¬(w4.heap.size=wc.heap.size):=Nat.ne_of_lt R6.1;have nQ1:¬(bz=wc.heap.size):=Nat.ne_of_lt Q6.1
    go_upto_region 7 with fail
    go_cut [11] from 33 to 39 (fun vz wx=>∃bo:Nat,vz = .pointer (some ⟨bo,0,none⟩)∧Rm w wx w.heap.size a b x y w2.heap.size e5∧At wx bz [.int .i64 p3,.int .i64 q3]∧At wx w4.heap.size [.int .i64 p1,.int .i64 q1]∧At wx bo [.int .i64 p5,.int .i64 q5])
    case first=>
     go_region_held3 (fun w'=>w'.cell? ⟨w4.heap.size,0,none⟩=some (.int .i64 p1)∧w'.cell? ⟨w4.heap.size,1,none⟩=some (.int .i64 q1)∧w'.cell? ⟨bz,0,none⟩=some (.int .i64 p3)∧w'.cell? ⟨bz,1,none⟩=some (.int .i64 q3)) (with_reducible first|exact ⟨RDz.c0,RDz.c1,QDz.c0,QDz.c1⟩|exact ⟨RD.c0,RD.c1,QD.c0,QD.c1⟩|exact ⟨(RD.alc _).c0,(RD.alc _).c1,(QD.alc _).c0,(QD.alc _).c1⟩|exact ⟨RA.c0,RA.c1,QA.c0,QA.c1⟩|exact ⟨(RA.alc _).c0,(RA.alc _).c1,(QA.alc _).c0,(QA.alc _).c1⟩|exact ⟨RB.c0,RB.c1,QB.c0,QB.c1⟩|exact ⟨(RB.alc _).c0,(RB.alc _).c1,(QB.alc _).c0,(QB.alc _).c1⟩|exact ⟨RC.c0,RC.c1,QC.c0,QC.c1⟩|exact ⟨(RC.alc _).c0,(RC.alc _).c1,(QC.alc _).c0,(QC.alc _).c1⟩|exact ⟨((RC.set nR1).set nR1).c0,((RC.set nR1).set nR1).c1,((QC.set nQ1).set nQ1).c0,((QC.set nQ1).set nQ1).c1⟩|exact ⟨((RC.set nRA).set nRA).c0,((RC.set nRA).set nRA).c1,((QC.set nQA).set nQA).c0,((QC.set nQA).set nQA).c1⟩|exact ⟨((RC.set nRB).set nRB).c0,((RC.set nRB).set nRB).c1,((QC.set nQB).set nQB).c0,((QC.set nQB).set nQB).c1⟩)
      (first|(have hm:=hmarkB;go_at_call 110;refine (num_sub w.heap.size w2.heap.size 16777216 16777216 p4 q4 e4 _ ?_ ?_).mono ?_;(· (with_reducible first|exact IB.cE|exact (IB.alc _).cE));(· (with_reducible first|exact IB.fE|exact (IB.alc _).fE));rintro r wC ⟨rfl,st⟩;rw [H5.out.1];rw [H5.out.2] at st;have IC:Rm w wC w.heap.size a b x y w2.heap.size e5:=(by with_reducible first|exact IB.step st|exact (IB.alc _).step st);have RC:At wC (w4.heap.size) [.int .i64 p1,.int .i64 q1]:=(by with_reducible first|exact RB.step st neR|exact (RB.alc _).step st neR);have QC:At wC (bz) [.int .i64 p3,.int .i64 q3]:=(by with_reducible first|exact QB.step st neQ|exact (QB.alc _).step st neQ);have nRC:¬((w4.heap.size)=wC.heap.size):=Nat.ne_of_lt RC.1;have nQC:¬((bz)=wC.heap.size):=Nat.ne_of_lt QC.1;have szC:=IC.size;have neNC:¬(wC.heap.size=w2.heap.size):=(by omega);(first|((have hz:=ZB.lt;have ZC:=ZB.step st (by omega)))|(have ZC:Zn wC (wB.heap.size):=(by with_reducible exact (Zn.new rfl).step st neNB))|skip);(try (have zz0:=ZC.z0;have zz1:=ZC.z1;have ff0:=ZC.f0;have ff1:=ZC.f1));have hmarkC:wC=wC:=rfl)|(have hm:=hmarkA;go_at_call 110;refine (num_mul w.heap.size w2.heap.size p1 q1 p3 q3 e3 _ ?_ ?_).mono ?_;(· (with_reducible first|exact IA.cE|exact (IA.alc _).cE));(· (with_reducible first|exact IA.fE|exact (IA.alc _).fE));rintro r wB ⟨rfl,st⟩;rw [H4.out.1];rw [H4.out.2] at st;have IB:Rm w wB w.heap.size a b x y w2.heap.size e4:=(by with_reducible first|exact IA.step st|exact (IA.alc _).step st);have RB:At wB (w4.heap.size) [.int .i64 p1,.int .i64 q1]:=(by with_reducible first|exact RA.step st neR|exact (RA.alc _).step st neR);have QB:At wB (bz) [.int .i64 p3,.int .i64 q3]:=(by with_reducible first|exact QA.step st neQ|exact (QA.alc _).step st neQ);have nRB:¬((w4.heap.size)=wB.heap.size):=Nat.ne_of_lt RB.1;have nQB:¬((bz)=wB.heap.size):=Nat.ne_of_lt QB.1;have szB:=IB.size;have neNB:¬(wB.heap.size=w2.heap.size):=(by omega);(first|((have hz:=ZA.lt;have ZB:=ZA.step st (by omega)))|(have ZB:Zn wB (wA.heap.size):=(by with_reducible exact (Zn.new rfl).step st neNA))|skip);have hmarkB:wB=wB:=rfl)|(go_at_call 122;refine (unit_any _).mono ?_;rintro r wA ⟨rfl,hb⟩;have IA:Rm w wA w.heap.size a b x y w2.heap.size e3:=(by with_reducible first|exact ID.call hb|exact IDz.call hb);have RA:At wA (w4.heap.size) [.int .i64 p1,.int .i64 q1]:=(by with_reducible first|exact RD.kept hb|exact RDz.kept hb);have QA:At wA (bz) [.int .i64 p3,.int .i64 q3]:=(by with_reducible first|exact QD.kept hb|exact QDz.kept hb);have nRA:¬((w4.heap.size)=wA.heap.size):=Nat.ne_of_lt RA.1;have nQA:¬((bz)=wA.heap.size):=Nat.ne_of_lt QA.1;have szA:=IA.size;have neNA:¬(wA.heap.size=w2.heap.size):=(by omega);(first|(have ZA:Zn wA (wc.heap.size):=(by with_reducible exact ZDz.kept hb))|skip);have hmarkA:wA=wA:=rfl))
     all_goals (go_wp2_with fail;go_meet)
     all_goals refine ⟨_,rfl,?_,?_,?_,?_⟩
     all_goals with_reducible first
      |exact (IC.put lz1).put lz1
      |exact (IC.put IA.size).put IA.size
      |exact (IC.put IB.size).put IB.size
      |exact IC.alc _
      |exact (RC.set nR1).set nR1
      |exact (RC.set nRA).set nRA
      |exact (RC.set nRB).set nRB
      |exact RC.alc _
      |exact (QC.set nQ1).set nQ1
      |exact (QC.set nQA).set nQA
      |exact (QC.set nQB).set nQB
      |exact QC.alc _
      |exact ZC.fin _ _
      |exact At.new2 rfl
    case rest=>
     obtain ⟨bo,rfl,I7,Q7,R7,O7⟩:=hcut;have o0:=O7.c0;have o1:=O7.c1;have ce:=I7.cE;have zz0:=I7.z2_0;have zz1:=I7.z2_1;have ff0:=I7.f2_0;have ff1:=I7.f2_1;clear ID RD QD IDz RDz QDz ZDz R6 Q6 I6;have IB7:=I7.below;clear I7 Q7 R7 O7
     go_wp2_with fail
     go_region
     all_goals go_wp2_with fail
     all_goals exact bodyPost_ret (v:=.tuple #[iv p5 q5,.int .i64 e5]) (by simp [results,Tryz.results108,go_sem, *]) rfl ⟨rfl,by repeat (first|exact IB7|refine Below.drew ?_|refine Below.setCell ?_ (by first|omega|(simp<;>omega)) _)⟩
end Go.Proofs.YtiecdgcdcpmgaaaGreat.Iv

/- Contract of package refraction's Hits. -/
namespace Go.Proofs.YtiecdgcdcpmgaaaGreat.Iv
open Go.RowKit
structure H3 (w0 W:World) (n:Nat) (s t:D) (a b:Int):Prop where
 r0_0:W.cell? ⟨n,0,none⟩=some (.int .i64 s.a)
 r0_1:W.cell? ⟨n,1,none⟩=some (.int .i64 s.b)
 r0_2:W.cell? ⟨n,2,none⟩=some (.int .i64 s.c)
 r0_3:W.cell? ⟨n,3,none⟩=some (.int .i64 s.d)
 r0_4:W.cell? ⟨n,4,none⟩=some (.int .i64 s.e)
 r0_5:W.cell? ⟨n,5,none⟩=some (.int .i64 s.f)
 r1_0:W.cell? ⟨n+1,0,none⟩=some (.int .i64 t.a)
 r1_1:W.cell? ⟨n+1,1,none⟩=some (.int .i64 t.b)
 r1_2:W.cell? ⟨n+1,2,none⟩=some (.int .i64 t.c)
 r1_3:W.cell? ⟨n+1,3,none⟩=some (.int .i64 t.d)
 r1_4:W.cell? ⟨n+1,4,none⟩=some (.int .i64 t.e)
 r1_5:W.cell? ⟨n+1,5,none⟩=some (.int .i64 t.f)
 r2_0:W.cell? ⟨n+1+1,0,none⟩=some (.int .i64 a)
 r2_1:W.cell? ⟨n+1+1,1,none⟩=some (.int .i64 b)
 size:n+1+1<W.heap.size
 below:Below n w0 W
theorem H3.al0 {w0 W:World} {n:Nat} {s t:D} {a b:Int} (h:H3 w0 W n s t a b):(W.cell? ⟨n,0,none⟩=some (.int .i64 s.a))∧(W.cell? ⟨n,1,none⟩=some (.int .i64 s.b))∧(W.cell? ⟨n,2,none⟩=some (.int .i64 s.c))∧(W.cell? ⟨n,3,none⟩=some (.int .i64 s.d))∧(W.cell? ⟨n,4,none⟩=some (.int .i64 s.e))∧(W.cell? ⟨n,5,none⟩=some (.int .i64 s.f))∧(W.cell? ⟨n+1,0,none⟩=some (.int .i64 t.a))∧(W.cell? ⟨n+1,1,none⟩=some (.int .i64 t.b))∧(W.cell? ⟨n+1,2,none⟩=some (.int .i64 t.c))∧(W.cell? ⟨n+1,3,none⟩=some (.int .i64 t.d))∧(W.cell? ⟨n+1,4,none⟩=some (.int .i64 t.e))∧(W.cell? ⟨n+1,5,none⟩=some (.int .i64 t.f))∧(W.cell? ⟨n+1+1,0,none⟩=some (.int .i64 a))∧(W.cell? ⟨n+1+1,1,none⟩=some (.int .i64 b))∧(n+1+1<W.heap.size):=⟨h.r0_0,h.r0_1,h.r0_2,h.r0_3,h.r0_4,h.r0_5,h.r1_0,h.r1_1,h.r1_2,h.r1_3,h.r1_4,h.r1_5,h.r2_0,h.r2_1,h.size⟩
theorem H3.drew {w0 W:World} {n:Nat} {s t:D} {a b:Int} (h:H3 w0 W n s t a b):H3 w0 W.drew n s t a b:=
 ⟨h.r0_0,h.r0_1,h.r0_2,h.r0_3,h.r0_4,h.r0_5,h.r1_0,h.r1_1,h.r1_2,h.r1_3,h.r1_4,h.r1_5,h.r2_0,h.r2_1,h.size,h.below.drew⟩
theorem H3.call {w0 W:World} {n:Nat} {s t:D} {a b:Int} {W':World} (h:H3 w0 W n s t a b) (hb:Below W.heap.size W W'):H3 w0 W' n s t a b:=by
 have z:=h.size;have z':=hb.size;have hc:∀b o,b<W.heap.size→W'.cell? ⟨b,o,none⟩=W.cell? ⟨b,o,none⟩:=fun b o h=>hb.cell (p:=⟨b,o,none⟩) h;have hf:∀b o,b<W.heap.size→W'.frozen? ⟨b,o,none⟩=W.frozen? ⟨b,o,none⟩:=fun b o h=>hb.frozen (p:=⟨b,o,none⟩) h
 have l0:n<W.heap.size:=by omega
 have l1:n+1<W.heap.size:=by omega
 have l2:n+1+1<W.heap.size:=by omega
 exact ⟨(hc _ _ l0).trans h.r0_0,(hc _ _ l0).trans h.r0_1,(hc _ _ l0).trans h.r0_2,(hc _ _ l0).trans h.r0_3,(hc _ _ l0).trans h.r0_4,(hc _ _ l0).trans h.r0_5,(hc _ _ l1).trans h.r1_0,(hc _ _ l1).trans h.r1_1,(hc _ _ l1).trans h.r1_2,(hc _ _ l1).trans h.r1_3,(hc _ _ l1).trans h.r1_4,(hc _ _ l1).trans h.r1_5,(hc _ _ l2).trans h.r2_0,(hc _ _ l2).trans h.r2_1,by omega,h.below.trans (hb.mono (by omega))⟩
theorem H3.all {w0 W:World} {n:Nat} {s t:D} {a b:Int} (h:H3 w0 W n s t a b):W.cell? ⟨n,0,none⟩=some (.int .i64 s.a)∧W.cell? ⟨n,1,none⟩=some (.int .i64 s.b)∧W.cell? ⟨n,2,none⟩=some (.int .i64 s.c)∧W.cell? ⟨n,3,none⟩=some (.int .i64 s.d)∧W.cell? ⟨n,4,none⟩=some (.int .i64 s.e)∧W.cell? ⟨n,5,none⟩=some (.int .i64 s.f)∧W.cell? ⟨n+1,0,none⟩=some (.int .i64 t.a)∧W.cell? ⟨n+1,1,none⟩=some (.int .i64 t.b)∧W.cell? ⟨n+1,2,none⟩=some (.int .i64 t.c)∧W.cell? ⟨n+1,3,none⟩=some (.int .i64 t.d)∧W.cell? ⟨n+1,4,none⟩=some (.int .i64 t.e)∧W.cell? ⟨n+1,5,none⟩=some (.int .i64 t.f)∧W.cell? ⟨n+1+1,0,none⟩=some (.int .i64 a)∧W.cell? ⟨n+1+1,1,none⟩=some (.int .i64 b):=
 ⟨h.r0_0,h.r0_1,h.r0_2,h.r0_3,h.r0_4,h.r0_5,h.r1_0,h.r1_1,h.r1_2,h.r1_3,h.r1_4,h.r1_5,h.r2_0,h.r2_1⟩
structure RI where
 k:Int
 e:Int
def hitsR (s t:D) (a b:Int):RI:=if (vD s && vD t)=true∧vB a b=true then
  (if (dotR s t).e=0 then (if (radR (dotR s t).lo (dotR s t).hi a b).e=0 then ⟨decI (radR (dotR s t).lo (dotR s t).hi a b).lo (radR (dotR s t).lo (dotR s t).hi a b).hi,0⟩ else ⟨0,(radR (dotR s t).lo (dotR s t).hi a b).e⟩) else ⟨0,(dotR s t).e⟩)
 else ⟨0,1⟩
set_option maxRecDepth 100000 in
set_option maxHeartbeats 4000000 in
theorem hits_any (s t:D) (a b:Int) (w:World) :
  Calls Tryz.prog 78 #[dv s,dv t,iv a b] w fun e w'=>e = .returned (.tuple #[.int .i64 (hitsR s t a b).k,.int .i64 (hitsR s t a b).e])∧Below w.heap.size w w':=by
 have I0:H3 w (((w.alloc (.cells #[.int .i64 s.a,.int .i64 s.b,.int .i64 s.c,.int .i64 s.d,.int .i64 s.e,.int .i64 s.f] 45)).alloc (.cells #[.int .i64 t.a,.int .i64 t.b,.int .i64 t.c,.int .i64 t.d,.int .i64 t.e,.int .i64 t.f] 45)).alloc (.cells #[.int .i64 a,.int .i64 b] 25)) w.heap.size s t a b:=by
  refine ⟨by simp [go_sem],by simp [go_sem],by simp [go_sem],by simp [go_sem],by simp [go_sem],by simp [go_sem],by simp [go_sem],by simp [go_sem],by simp [go_sem],by simp [go_sem],by simp [go_sem],by simp [go_sem],by simp [go_sem],by simp [go_sem],by simp,?_⟩
  ·repeat (first|exact Below.refl _ _|refine Below.alloc ?_ (by first|omega|(simp<;>omega)) _)
 cases hs:(vD s && vD t)
 ·rw [show hitsR s t a b=⟨0,1⟩ from if_neg (by rw [hs];simp)];have HS:=Lib.hid hs;clear hs;go_enter Tryz.func78,Tryz.ntmps78
  go_wp2_with fail
  refine (vray_any s t _).mono ?_;rintro e w1 ⟨rfl,hb⟩;rw [HS.out];have I1:=I0.call hb;clear hb;have I1al0:=I1.al0
  go_wp2_with fail
  exact bodyPost_ret (v:=.tuple #[.int .i64 0,.int .i64 1]) (by simp [results,Tryz.results78,go_sem]) rfl ⟨rfl,by repeat (first|exact I1.below|refine Below.drew ?_|refine Below.alloc ?_ (by first|omega|(simp<;>omega)) _)⟩
 ·cases ht:vB a b
  ·rw [show hitsR s t a b=⟨0,1⟩ from if_neg (by rw [ht];simp)];have HS:=Lib.hid hs;have HT:=Lib.hid ht;clear hs ht;go_enter Tryz.func78,Tryz.ntmps78
   go_wp2_with fail
   refine (vray_any s t _).mono ?_;rintro e w1 ⟨rfl,hb⟩;rw [HS.out];have I1:=I0.call hb;clear hb;have I1al0:=I1.al0
   go_wp2_with fail
   refine (validb_any a b _).mono ?_;rintro e w2 ⟨rfl,hb⟩;rw [HT.out];have I2:=I1.call hb;clear hb;clear I1al0;have I2al0:=I2.al0
   go_wp2_with fail
   exact bodyPost_ret (v:=.tuple #[.int .i64 0,.int .i64 1]) (by simp [results,Tryz.results78,go_sem]) rfl ⟨rfl,by repeat (first|exact I2.below|refine Below.drew ?_|refine Below.alloc ?_ (by first|omega|(simp<;>omega)) _)⟩
  ·obtain ⟨⟨c1,k1,e1⟩,h1⟩:∃r:R,dotR s t=r:=⟨_,rfl⟩;have H1:=Lib.hid (show retR (dotR s t) = .returned (.tuple #[iv c1 k1,.int .i64 e1]) from by rw [h1]);obtain ⟨⟨c2,k2,e2⟩,h2⟩:∃r:R,radR c1 k1 a b=r:=⟨_,rfl⟩;have H2:=Lib.hid (show retR (radR c1 k1 a b) = .returned (.tuple #[iv c2 k2,.int .i64 e2]) from by rw [h2])
   have HH:hitsR s t a b=(if e1=0 then (if e2=0 then ⟨decI c2 k2,0⟩ else ⟨0,e2⟩) else ⟨0,e1⟩):=by rw [show hitsR s t a b=_ from if_pos ⟨hs,ht⟩,h1];dsimp only;rw [h2]
   rw [HH];clear h1 h2 HH
   by_cases hE:e1=0
   ·subst hE;rw [if_pos rfl]
    by_cases hF:e2=0
    ·subst hF;rw [if_pos rfl];have HS:=Lib.hid hs;have HT:=Lib.hid ht;clear hs ht;go_enter Tryz.func78,Tryz.ntmps78
     go_wp2_with fail
     refine (vray_any s t _).mono ?_;rintro e w1 ⟨rfl,hb⟩;rw [HS.out];have I1:=I0.call hb;clear hb;have I1al0:=I1.al0
     go_wp2_with fail
     refine (validb_any a b _).mono ?_;rintro e w2 ⟨rfl,hb⟩;rw [HT.out];have I2:=I1.call hb;clear hb;clear I1al0;have I2al0:=I2.al0
     go_wp2_with fail
     refine (ddot_any s t _).mono ?_;rintro e w3 ⟨rfl,hb⟩;rw [H1.out];have I3:=I2.call hb;clear hb;clear I2al0;have I3al0:=I3.al0
     have naq_0:w.heap.size<w3.heap.size:=by omega
     have nbq_0:¬(w.heap.size=w3.heap.size):=by omega
     have ncq_0:¬(w3.heap.size=w.heap.size):=by omega
     have ndq_0:w.heap.size<w3.heap.size+1:=by omega
     have naq_1:w.heap.size+1<w3.heap.size:=by omega
     have nbq_1:¬(w.heap.size+1=w3.heap.size):=by omega
     have ncq_1:¬(w3.heap.size=w.heap.size+1):=by omega
     have ndq_1:w.heap.size+1<w3.heap.size+1:=by omega
     have naq_2:w.heap.size+1+1<w3.heap.size:=by omega
     have nbq_2:¬(w.heap.size+1+1=w3.heap.size):=by omega
     have ncq_2:¬(w3.heap.size=w.heap.size+1+1):=by omega
     have ndq_2:w.heap.size+1+1<w3.heap.size+1:=by omega
     go_wp2_with fail
     refine (radicand_any c1 k1 a b _).mono ?_;rintro e w4 ⟨rfl,hb⟩;rw [H2.out];have I4:=(I3.call ((Below.refl _ _).alloc (Nat.le_refl _) (.cells #[.int .i64 c1,.int .i64 k1] 25))).call hb;clear hb;have sz4:=I4.size;clear I3al0
     go_wp2_with fail
     refine (decide_any c2 k2 _).mono ?_;rintro e w5 ⟨rfl,hb⟩;have I5:=(I4.call ((Below.refl _ _).alloc (Nat.le_refl _) (.cells #[.int .i64 c2,.int .i64 k2] 25))).call hb
     go_wp2_with fail
     exact bodyPost_ret (v:=.tuple #[.int .i64 (decI c2 k2),.int .i64 0]) (by simp [results,Tryz.results78,go_sem]) rfl ⟨rfl,by repeat (first|exact I5.below|refine Below.drew ?_|refine Below.alloc ?_ (by first|omega|(simp<;>omega)) _)⟩
    ·rw [if_neg hF]
     have hF':(e2 == 0)=false:=by simpa using hF
     have HS:=Lib.hid hs;have HT:=Lib.hid ht;clear hs ht;go_enter Tryz.func78,Tryz.ntmps78
     go_wp2_with fail
     refine (vray_any s t _).mono ?_;rintro e w1 ⟨rfl,hb⟩;rw [HS.out];have I1:=I0.call hb;clear hb;have I1al0:=I1.al0
     go_wp2_with fail
     refine (validb_any a b _).mono ?_;rintro e w2 ⟨rfl,hb⟩;rw [HT.out];have I2:=I1.call hb;clear hb;clear I1al0;have I2al0:=I2.al0
     go_wp2_with fail
     refine (ddot_any s t _).mono ?_;rintro e w3 ⟨rfl,hb⟩;rw [H1.out];have I3:=I2.call hb;clear hb;clear I2al0;have I3al0:=I3.al0
     have naq_0:w.heap.size<w3.heap.size:=by omega
     have nbq_0:¬(w.heap.size=w3.heap.size):=by omega
     have ncq_0:¬(w3.heap.size=w.heap.size):=by omega
     have ndq_0:w.heap.size<w3.heap.size+1:=by omega
     have naq_1:w.heap.size+1<w3.heap.size:=by omega
     have nbq_1:¬(w.heap.size+1=w3.heap.size):=by omega
     have ncq_1:¬(w3.heap.size=w.heap.size+1):=by omega
     have ndq_1:w.heap.size+1<w3.heap.size+1:=by omega
     have naq_2:w.heap.size+1+1<w3.heap.size:=by omega
     have nbq_2:¬(w.heap.size+1+1=w3.heap.size):=by omega
     have ncq_2:¬(w3.heap.size=w.heap.size+1+1):=by omega
     have ndq_2:w.heap.size+1+1<w3.heap.size+1:=by omega
     go_wp2_with fail
     refine (radicand_any c1 k1 a b _).mono ?_;rintro e w4 ⟨rfl,hb⟩;rw [H2.out];have I4:=(I3.call ((Below.refl _ _).alloc (Nat.le_refl _) (.cells #[.int .i64 c1,.int .i64 k1] 25))).call hb;clear hb;have sz4:=I4.size;clear I3al0
     go_wp2_with fail
     exact bodyPost_ret (v:=.tuple #[.int .i64 0,.int .i64 e2]) (by simp [results,Tryz.results78,go_sem]) rfl ⟨rfl,by repeat (first|exact I4.below|refine Below.drew ?_|refine Below.alloc ?_ (by first|omega|(simp<;>omega)) _)⟩
   ·rw [if_neg hE]
    have hE':(e1 == 0)=false:=by simpa using hE
    have HS:=Lib.hid hs;have HT:=Lib.hid ht;clear hs ht;go_enter Tryz.func78,Tryz.ntmps78
    go_wp2_with fail
    refine (vray_any s t _).mono ?_;rintro e w1 ⟨rfl,hb⟩;rw [HS.out];have I1:=I0.call hb;clear hb;have I1al0:=I1.al0
    go_wp2_with fail
    refine (validb_any a b _).mono ?_;rintro e w2 ⟨rfl,hb⟩;rw [HT.out];have I2:=I1.call hb;clear hb;clear I1al0;have I2al0:=I2.al0
    go_wp2_with fail
    refine (ddot_any s t _).mono ?_;rintro e w3 ⟨rfl,hb⟩;rw [H1.out];have I3:=I2.call hb;clear hb;clear I2al0;have I3al0:=I3.al0
    have naq_0:w.heap.size<w3.heap.size:=by omega
    have nbq_0:¬(w.heap.size=w3.heap.size):=by omega
    have ncq_0:¬(w3.heap.size=w.heap.size):=by omega
    have ndq_0:w.heap.size<w3.heap.size+1:=by omega
    have naq_1:w.heap.size+1<w3.heap.size:=by omega
    have nbq_1:¬(w.heap.size+1=w3.heap.size):=by omega
    have ncq_1:¬(w3.heap.size=w.heap.size+1):=by omega
    have ndq_1:w.heap.size+1<w3.heap.size+1:=by omega
    have naq_2:w.heap.size+1+1<w3.heap.size:=by omega
    have nbq_2:¬(w.heap.size+1+1=w3.heap.size):=by omega
    have ncq_2:¬(w3.heap.size=w.heap.size+1+1):=by omega
    have ndq_2:w.heap.size+1+1<w3.heap.size+1:=by omega
    go_wp2_with fail
    exact bodyPost_ret (v:=.tuple #[.int .i64 0,.int .i64 e1]) (by simp [results,Tryz.results78,go_sem]) rfl ⟨rfl,by repeat (first|exact I3.below|refine Below.drew ?_|refine Below.alloc ?_ (by first|omega|(simp<;>omega)) _)⟩
end Go.Proofs.YtiecdgcdcpmgaaaGreat.Iv

/- What the example needs: Of, One, up, and Critical of 2. -/
namespace Go.Proofs.YtiecdgcdcpmgaaaGreat.Iv
open Go.RowKit
theorem one_any (w:World):Calls Tryz.prog 52 #[] w fun e w'=>e = .returned (iv 16777216 16777216)∧Below w.heap.size w w':=by
 go_enter Tryz.func52,Tryz.ntmps52
 go_wp2_with fail
 exact bodyPost_ret (v:=iv 16777216 16777216) (by simp [results,Tryz.results52,go_sem]) rfl ⟨rfl,(by repeat (first|exact Below.refl _ _|refine Below.drew ?_|refine below_drewN ?_ _|refine Below.setCell ?_ (by first|omega|(simp<;>omega)) _|refine Below.alloc ?_ (by first|omega|(simp<;>omega)) _))⟩
structure C1 (w0 W:World) (n:Nat) (a b:Int):Prop where
 r0_0:W.cell? ⟨n,0,none⟩=some (.int .i64 a)
 r0_1:W.cell? ⟨n,1,none⟩=some (.int .i64 b)
 z1_0:W.cell? ⟨n+1,0,none⟩=some (.int .i64 0)
 f1_0:W.frozen? ⟨n+1,0,none⟩=false
 z1_1:W.cell? ⟨n+1,1,none⟩=some (.int .i64 0)
 f1_1:W.frozen? ⟨n+1,1,none⟩=false
 size:n+1<W.heap.size
 below:Below n w0 W
theorem C1.drew {w0 W:World} {n:Nat} {a b:Int} (h:C1 w0 W n a b):C1 w0 W.drew n a b:=
 ⟨h.r0_0,h.r0_1,h.z1_0,h.f1_0,h.z1_1,h.f1_1,h.size,h.below.drew⟩
theorem C1.call {w0 W:World} {n:Nat} {a b:Int} {W':World} (h:C1 w0 W n a b) (hb:Below W.heap.size W W'):C1 w0 W' n a b:=by
 have z:=h.size;have z':=hb.size;have hc:∀b o,b<W.heap.size→W'.cell? ⟨b,o,none⟩=W.cell? ⟨b,o,none⟩:=fun b o h=>hb.cell (p:=⟨b,o,none⟩) h;have hf:∀b o,b<W.heap.size→W'.frozen? ⟨b,o,none⟩=W.frozen? ⟨b,o,none⟩:=fun b o h=>hb.frozen (p:=⟨b,o,none⟩) h
 have l0:n<W.heap.size:=by omega
 have l1:n+1<W.heap.size:=by omega
 exact ⟨(hc _ _ l0).trans h.r0_0,(hc _ _ l0).trans h.r0_1,(hc _ _ l1).trans h.z1_0,(hf _ _ l1).trans h.f1_0,(hc _ _ l1).trans h.z1_1,(hf _ _ l1).trans h.f1_1,by omega,h.below.trans (hb.mono (by omega))⟩
theorem C1.all {w0 W:World} {n:Nat} {a b:Int} (h:C1 w0 W n a b):W.cell? ⟨n,0,none⟩=some (.int .i64 a)∧W.cell? ⟨n,1,none⟩=some (.int .i64 b):=
 ⟨h.r0_0,h.r0_1⟩
theorem C1.alc {w0 W:World} {n:Nat} {a b:Int} (h:C1 w0 W n a b) (o:Obj):C1 w0 (W.alloc o) n a b:=h.call ((Below.refl _ _).alloc (Nat.le_refl _) o)
theorem C1.put {w0 W:World} {n:Nat} {a b:Int} {d i:Nat} {u:Value} (h:C1 w0 W n a b) (lt:n+1<d):C1 w0 (W.setCell ⟨d,i,none⟩ u) n a b:=by
 have n0:¬(n=d):=by omega
 have n1:¬(n+1=d):=by omega
 exact ⟨fset h.r0_0 n0,fset h.r0_1 n0,fset h.z1_0 n1,(by simp [go_sem,h.f1_0]),fset h.z1_1 n1,(by simp [go_sem,h.f1_1]),by simpa using h.size,h.below.setCell (by dsimp only;omega) _⟩
end Go.Proofs.YtiecdgcdcpmgaaaGreat.Iv

/- Contracts of package cell's small functions: intervals, validIntervals, inCone. -/
namespace Go.Proofs.YtiecdgcdcpmgaaaGreat.Iv
open Go.RowKit
attribute [local go_sem] Oper.semAt_some
structure CV where
 f:Int
 a:Int
 b:Int
 c:Int
 d:Int
 p:Int
 q:Int
 r:Int
 s:Int
def cellv (c:CV):Value:=.agg #[.int .i64 c.f,.int .i64 c.a,.int .i64 c.b,.int .i64 c.c,.int .i64 c.d,.int .i64 c.p,.int .i64 c.q,.int .i64 c.r,.int .i64 c.s]
def int4 (c:CV):Value:=.agg #[.int .i64 c.a,.int .i64 c.b,.int .i64 c.c,.int .i64 c.d,.int .i64 c.p,.int .i64 c.q,.int .i64 c.r,.int .i64 c.s]
def cone (a b:Int):Bool:=decide (-8388608≤a) && decide (b≤8388608)
def vC (c:CV):Bool:=vB c.a c.b && (vB c.c c.d && (vB c.p c.q && vB c.r c.s))
theorem idx4_0 (a0 a1 a2 a3 a4 a5 a6 a7:Value) (w:World):(Instr.index 89 (.agg #[a0,a1,a2,a3,a4,a5,a6,a7]) (.int .i64 0)).run Tryz.prog w = .ok (.agg #[a0,a1]) w:=by kernel_rfl
theorem idx4_1 (a0 a1 a2 a3 a4 a5 a6 a7:Value) (w:World):(Instr.index 89 (.agg #[a0,a1,a2,a3,a4,a5,a6,a7]) (.int .i64 1)).run Tryz.prog w = .ok (.agg #[a2,a3]) w:=by kernel_rfl
theorem idx4_2 (a0 a1 a2 a3 a4 a5 a6 a7:Value) (w:World):(Instr.index 89 (.agg #[a0,a1,a2,a3,a4,a5,a6,a7]) (.int .i64 2)).run Tryz.prog w = .ok (.agg #[a4,a5]) w:=by kernel_rfl
theorem idx4_3 (a0 a1 a2 a3 a4 a5 a6 a7:Value) (w:World):(Instr.index 89 (.agg #[a0,a1,a2,a3,a4,a5,a6,a7]) (.int .i64 3)).run Tryz.prog w = .ok (.agg #[a6,a7]) w:=by kernel_rfl
attribute [local go_sem] idx4_0 idx4_1 idx4_2 idx4_3
theorem Bx.put8 {W:World} {b:Nat} {p0 p1 p2 p3 p4 p5 p6 p7 u0 u1 u2 u3 u4 u5 u6 u7:Value} (h:Bx W b [p0,p1,p2,p3,p4,p5,p6,p7]):Bx ((((((((W.setCell ⟨b,0,none⟩ u0).setCell ⟨b,1,none⟩ u1).setCell ⟨b,2,none⟩ u2).setCell ⟨b,3,none⟩ u3).setCell ⟨b,4,none⟩ u4).setCell ⟨b,5,none⟩ u5).setCell ⟨b,6,none⟩ u6).setCell ⟨b,7,none⟩ u7) b [u0,u1,u2,u3,u4,u5,u6,u7]:=h.put.put.put.put.put.put.put.put
set_option maxRecDepth 100000 in
set_option maxHeartbeats 4000000 in
theorem cints_any (c:CV) (w:World):Calls Tryz.prog 34 #[cellv c] w fun e w'=>e = .returned (int4 c)∧Below w.heap.size w w':=by
 unfold cellv int4;have H0:=((Ho.nil w).bx [.int .i64 c.f,.int .i64 c.a,.int .i64 c.b,.int .i64 c.c,.int .i64 c.d,.int .i64 c.p,.int .i64 c.q,.int .i64 c.r,.int .i64 c.s] 29 (w.heap.size) (by simp))
 have o_0:Bx ((w.alloc (.cells (List.toArray [.int .i64 c.f,.int .i64 c.a,.int .i64 c.b,.int .i64 c.c,.int .i64 c.d,.int .i64 c.p,.int .i64 c.q,.int .i64 c.r,.int .i64 c.s]) 29)).alloc (.cells (List.toArray [.int .i64 0,.int .i64 0,.int .i64 0,.int .i64 0,.int .i64 0,.int .i64 0,.int .i64 0,.int .i64 0]) 89)) (w.heap.size+1) [.int .i64 0,.int .i64 0,.int .i64 0,.int .i64 0,.int .i64 0,.int .i64 0,.int .i64 0,.int .i64 0]:=by
  (repeat (first|(with_reducible refine Bx.new ?_;(· (simp;done)))|with_reducible apply Bx.put8|with_reducible apply Bx.put6|with_reducible apply Bx.put2|with_reducible apply Bx.put1|with_reducible refine Bx.set ?_ (by omega)|with_reducible refine Bx.alc ?_ _|with_reducible refine Bx.drew ?_))
 go_enter Tryz.func34,Tryz.ntmps34;have o_0c:=o_0.c;have o_0f:=o_0.f
 go_wp2_with fail
 refine bodyPost_box (b:=w.heap.size+1) (cs:=[.int .i64 c.a,.int .i64 c.b,.int .i64 c.c,.int .i64 c.d,.int .i64 c.p,.int .i64 c.q,.int .i64 c.r,.int .i64 c.s]) (v:=.agg #[.int .i64 c.a,.int .i64 c.b,.int .i64 c.c,.int .i64 c.d,.int .i64 c.p,.int .i64 c.q,.int .i64 c.r,.int .i64 c.s]) (by
  (repeat (first|with_reducible exact o_0|(with_reducible refine Bx.new ?_;(· (simp;done)))|with_reducible apply Bx.put8|with_reducible apply Bx.put6|with_reducible apply Bx.put2|with_reducible apply Bx.put1|with_reducible refine Bx.set ?_ (by omega)|with_reducible refine Bx.alc ?_ _|with_reducible refine Bx.drew ?_))) (fun X hX=>by simp [results,Tryz.results34,go_sem,hX]) rfl ⟨rfl,by
  refine Ho.below (n:=w.heap.size+1) (l:=[(w.heap.size,[.int .i64 c.f,.int .i64 c.a,.int .i64 c.b,.int .i64 c.c,.int .i64 c.d,.int .i64 c.p,.int .i64 c.q,.int .i64 c.r,.int .i64 c.s])]) ?_
  exact hoA⟩
theorem cone_any (a b:Int) (w:World) :
  Calls Tryz.prog 59 #[iv a b] w fun e w'=>e = .returned (.bool (cone a b))∧Below w.heap.size w w':=by
 have H0:=(Ho.nil w).bx [.int .i64 a,.int .i64 b] 25 w.heap.size rfl
 by_cases h2 : -8388608≤a
 ·rw [show cone a b=decide (b≤8388608) from by simp [cone,h2]];go_enter Tryz.func59,Tryz.ntmps59
  go_wp2_with fail
  go_ret
  exact ⟨rfl,H0.below⟩
 ·rw [show cone a b=false from by simp [cone,h2]];go_enter Tryz.func59,Tryz.ntmps59
  go_wp2_with fail
  go_ret
  exact ⟨rfl,H0.below⟩
set_option maxRecDepth 100000 in
set_option maxHeartbeats 4000000 in
theorem vints_any (c:CV) (w:World):Calls Tryz.prog 33 #[cellv c] w fun e w'=>e = .returned (.bool (vC c))∧Below w.heap.size w w':=by
 unfold cellv;have H0:=(Ho.nil w).bx [.int .i64 c.f,.int .i64 c.a,.int .i64 c.b,.int .i64 c.c,.int .i64 c.d,.int .i64 c.p,.int .i64 c.q,.int .i64 c.r,.int .i64 c.s] 29 w.heap.size rfl;cases h0:vB c.a c.b
 ·rw [show vC c=false from by simp [vC,h0]];have E0:=Lib.hid h0;clear h0;go_enter Tryz.func33,Tryz.ntmps33
  go_wp2_with fail
  refine (cints_any c _).mono ?_;rintro r w1 ⟨rfl,hb⟩;have H1:=H0.call hb;clear hb;unfold int4
  go_wp2_with fail
  refine wp_loop_rounds 5 ?_;rw [rounds_succ]
  go_wp2_with fail
  refine (validb_any c.a c.b _).mono ?_;rintro r w2 ⟨rfl,hb⟩;rw [E0.out];have H2:=(H1.alc _).call hb;clear hb
  go_wp2_with fail
  go_ret
  exact ⟨rfl,H2.below⟩
 ·cases h1:vB c.c c.d
  ·rw [show vC c=false from by simp [vC,h0,h1]];have E0:=Lib.hid h0;have E1:=Lib.hid h1;clear h0 h1;go_enter Tryz.func33,Tryz.ntmps33
   go_wp2_with fail
   refine (cints_any c _).mono ?_;rintro r w1 ⟨rfl,hb⟩;have H1:=H0.call hb;clear hb;unfold int4
   go_wp2_with fail
   refine wp_loop_rounds 5 ?_;rw [rounds_succ]
   go_wp2_with fail
   refine (validb_any c.a c.b _).mono ?_;rintro r w2 ⟨rfl,hb⟩;rw [E0.out];have H2:=(H1.alc _).call hb;clear hb
   go_wp2_with fail
   rw [rounds_succ]
   go_wp2_with fail
   refine (validb_any c.c c.d _).mono ?_;rintro r w3 ⟨rfl,hb⟩;rw [E1.out];have H3:=(H2.alc _).call hb;clear hb
   go_wp2_with fail
   go_ret
   exact ⟨rfl,H3.below⟩
  ·cases h2:vB c.p c.q
   ·rw [show vC c=false from by simp [vC,h0,h1,h2]];have E0:=Lib.hid h0;have E1:=Lib.hid h1;have E2:=Lib.hid h2;clear h0 h1 h2;go_enter Tryz.func33,Tryz.ntmps33
    go_wp2_with fail
    refine (cints_any c _).mono ?_;rintro r w1 ⟨rfl,hb⟩;have H1:=H0.call hb;clear hb;unfold int4
    go_wp2_with fail
    refine wp_loop_rounds 5 ?_;rw [rounds_succ]
    go_wp2_with fail
    refine (validb_any c.a c.b _).mono ?_;rintro r w2 ⟨rfl,hb⟩;rw [E0.out];have H2:=(H1.alc _).call hb;clear hb
    go_wp2_with fail
    rw [rounds_succ]
    go_wp2_with fail
    refine (validb_any c.c c.d _).mono ?_;rintro r w3 ⟨rfl,hb⟩;rw [E1.out];have H3:=(H2.alc _).call hb;clear hb
    go_wp2_with fail
    rw [rounds_succ]
    go_wp2_with fail
    refine (validb_any c.p c.q _).mono ?_;rintro r w4 ⟨rfl,hb⟩;rw [E2.out];have H4:=(H3.alc _).call hb;clear hb
    go_wp2_with fail
    go_ret
    exact ⟨rfl,H4.below⟩
   ·cases h3:vB c.r c.s
    ·rw [show vC c=false from by simp [vC,h0,h1,h2,h3]];have E0:=Lib.hid h0;have E1:=Lib.hid h1;have E2:=Lib.hid h2;have E3:=Lib.hid h3;clear h0 h1 h2 h3;go_enter Tryz.func33,Tryz.ntmps33
     go_wp2_with fail
     refine (cints_any c _).mono ?_;rintro r w1 ⟨rfl,hb⟩;have H1:=H0.call hb;clear hb;unfold int4
     go_wp2_with fail
     refine wp_loop_rounds 5 ?_;rw [rounds_succ]
     go_wp2_with fail
     refine (validb_any c.a c.b _).mono ?_;rintro r w2 ⟨rfl,hb⟩;rw [E0.out];have H2:=(H1.alc _).call hb;clear hb
     go_wp2_with fail
     rw [rounds_succ]
     go_wp2_with fail
     refine (validb_any c.c c.d _).mono ?_;rintro r w3 ⟨rfl,hb⟩;rw [E1.out];have H3:=(H2.alc _).call hb;clear hb
     go_wp2_with fail
     rw [rounds_succ]
     go_wp2_with fail
     refine (validb_any c.p c.q _).mono ?_;rintro r w4 ⟨rfl,hb⟩;rw [E2.out];have H4:=(H3.alc _).call hb;clear hb
     go_wp2_with fail
     rw [rounds_succ]
     go_wp2_with fail
     refine (validb_any c.r c.s _).mono ?_;rintro r w5 ⟨rfl,hb⟩;rw [E3.out];have H5:=(H4.alc _).call hb;clear hb
     go_wp2_with fail
     go_ret
     exact ⟨rfl,H5.below⟩
    ·rw [show vC c=true from by simp [vC,h0,h1,h2,h3]];have E0:=Lib.hid h0;have E1:=Lib.hid h1;have E2:=Lib.hid h2;have E3:=Lib.hid h3;clear h0 h1 h2 h3;go_enter Tryz.func33,Tryz.ntmps33
     go_wp2_with fail
     refine (cints_any c _).mono ?_;rintro r w1 ⟨rfl,hb⟩;have H1:=H0.call hb;clear hb;unfold int4
     go_wp2_with fail
     refine wp_loop_rounds 5 ?_;rw [rounds_succ]
     go_wp2_with fail
     refine (validb_any c.a c.b _).mono ?_;rintro r w2 ⟨rfl,hb⟩;rw [E0.out];have H2:=(H1.alc _).call hb;clear hb
     go_wp2_with fail
     rw [rounds_succ]
     go_wp2_with fail
     refine (validb_any c.c c.d _).mono ?_;rintro r w3 ⟨rfl,hb⟩;rw [E1.out];have H3:=(H2.alc _).call hb;clear hb
     go_wp2_with fail
     rw [rounds_succ]
     go_wp2_with fail
     refine (validb_any c.p c.q _).mono ?_;rintro r w4 ⟨rfl,hb⟩;rw [E2.out];have H4:=(H3.alc _).call hb;clear hb
     go_wp2_with fail
     rw [rounds_succ]
     go_wp2_with fail
     refine (validb_any c.r c.s _).mono ?_;rintro r w5 ⟨rfl,hb⟩;rw [E3.out];have H5:=(H4.alc _).call hb;clear hb
     go_wp2_with fail
     rw [rounds_succ]
     go_wp2_with fail
     go_ret
     exact ⟨rfl,H5.below⟩
end Go.Proofs.YtiecdgcdcpmgaaaGreat.Iv
