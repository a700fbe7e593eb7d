/- Texts PDr3, PDr4, PDr5, PTh0. -/
import Derived.Test.YtiecdgcdcpmgaaaGreatM10
import Derived.Deep.RegionHeld3
import Derived.Deep.CutRange
import Derived.Deep.DeepCutAuto
import Derived.Tactics2

/- Boxes of three intervals: validity, and the operations of two boxes, coordinate by coordinate (combine). -/
namespace Go.Proofs.YtiecdgcdcpmgaaaGreat.Iv
open Go.RowKit
structure D where
 a:Int
 b:Int
 c:Int
 d:Int
 e:Int
 f:Int
structure RD where
 d:D
 e:Int
abbrev dv (s:D):Value:=.agg #[.int .i64 s.a,.int .i64 s.b,.int .i64 s.c,.int .i64 s.d,.int .i64 s.e,.int .i64 s.f]
abbrev retD (r:RD):Ending:=.returned (.tuple #[dv r.d,.int .i64 r.e])
def vD (s:D):Bool:=vB s.a s.b && (vB s.c s.d && vB s.e s.f)
def zD:D:=⟨0,0,0,0,0,0⟩
def comb (r s t:R):RD:=if r.e=0 then if s.e=0 then if t.e=0 then ⟨⟨r.lo,r.hi,s.lo,s.hi,t.lo,t.hi⟩,0⟩ else ⟨zD,t.e⟩ else ⟨zD,s.e⟩ else ⟨zD,r.e⟩
def dirR (e:Int) (d:D):RD:=if e=0 then ⟨d,0⟩ else ⟨zD,e⟩
theorem comb_eq (r s t:R):dirR (goOn (goOn (goOn 0 r).e s).e t).e ⟨(goOn 0 r).lo,(goOn 0 r).hi,(goOn (goOn 0 r).e s).lo,(goOn (goOn 0 r).e s).hi,(goOn (goOn (goOn 0 r).e s).e t).lo,(goOn (goOn (goOn 0 r).e s).e t).hi⟩=comb r s t:=by
 rw [show goOn 0 r=r from if_pos rfl];unfold comb dirR
 by_cases h1:r.e=0
 ·rw [if_pos h1,show goOn r.e s=s from if_pos h1]
  by_cases h2:s.e=0
  ·rw [if_pos h2,show goOn s.e t=t from if_pos h2]
  ·rw [if_neg h2,show goOn s.e t=⟨0,0,s.e⟩ from if_neg h2,if_neg h2]
 ·rw [if_neg h1,show goOn r.e s=⟨0,0,r.e⟩ from if_neg h1];dsimp only;rw [show goOn r.e t=⟨0,0,r.e⟩ from if_neg h1];exact if_neg h1
set_option maxRecDepth 100000 in
theorem dir_any (c:Nat) (e:Int) (d:D) (w:World) (hc:w.cell? ⟨c,0,none⟩=some (.int .i64 e)) :
  Calls Tryz.prog 69 #[.pointer (some ⟨c,0,none⟩),dv d] w fun r w'=>r=retD (dirR e d)∧Below w.heap.size w w':=by
 have hlt:c<w.heap.size:=World.block_lt_of_cell? w _ hc
 have q1:c<w.heap.size+1:=by omega
 have q2:c<w.heap.size+1+1:=by omega
 have n1:¬(c=w.heap.size):=by omega
 have n2:¬(c=w.heap.size+1):=by omega
 by_cases he:e=0
 ·subst he;rw [show dirR 0 d=⟨d,0⟩ from if_pos rfl];go_enter Tryz.func69,Tryz.ntmps69
  go_wp2_with fail
  exact bodyPost_ret (v:=.tuple #[dv d,.int .i64 0]) (by simp [results,Tryz.results69,go_sem, *]) rfl ⟨rfl,by repeat (first|exact Below.refl _ _|refine Below.setCell ?_ (by first|omega|(simp<;>omega)) _|refine Below.alloc ?_ (by first|omega|(simp<;>omega)) _)⟩
 ·rw [show dirR e d=⟨zD,e⟩ from if_neg he]
  have he':(e == 0)=false:=by simpa using he
  go_enter Tryz.func69,Tryz.ntmps69
  go_wp2_with fail
  go_region
  all_goals go_wp2_with fail
  all_goals exact bodyPost_ret (v:=.tuple #[dv zD,.int .i64 e]) (by simp [results,Tryz.results69,go_sem,zD, *]) rfl ⟨rfl,by repeat (first|exact Below.refl _ _|refine Below.drew ?_|refine Below.setCell ?_ (by first|omega|(simp<;>omega)) _|refine Below.alloc ?_ (by first|omega|(simp<;>omega)) _)⟩
theorem fset {w:World} {b c o i:Nat} {u v:Value} (h:w.cell? ⟨c,o,none⟩=some v) (n:¬(c=b)):(w.setCell ⟨b,i,none⟩ u).cell? ⟨c,o,none⟩=some v:=by simp [go_sem,h]
structure Cm (w0 W:World) (n:Nat) (s t:D) (E:Int):Prop where
 r0_0:W.cell? ⟨n,0,none⟩=some (.int .i64 s.a)
 r0_1:W.cell? ⟨n,1,none⟩=some (.int .i64 s.b)
 r0_2:W.cell? ⟨n,2,none⟩=some (.int .i64 s.c)
 r0_3:W.cell? ⟨n,3,none⟩=some (.int .i64 s.d)
 r0_4:W.cell? ⟨n,4,none⟩=some (.int .i64 s.e)
 r0_5:W.cell? ⟨n,5,none⟩=some (.int .i64 s.f)
 r1_0:W.cell? ⟨n+1,0,none⟩=some (.int .i64 t.a)
 r1_1:W.cell? ⟨n+1,1,none⟩=some (.int .i64 t.b)
 r1_2:W.cell? ⟨n+1,2,none⟩=some (.int .i64 t.c)
 r1_3:W.cell? ⟨n+1,3,none⟩=some (.int .i64 t.d)
 r1_4:W.cell? ⟨n+1,4,none⟩=some (.int .i64 t.e)
 r1_5:W.cell? ⟨n+1,5,none⟩=some (.int .i64 t.f)
 z2_0:W.cell? ⟨n+1+1,0,none⟩=some (.int .i64 0)
 f2_0:W.frozen? ⟨n+1+1,0,none⟩=false
 z2_1:W.cell? ⟨n+1+1,1,none⟩=some (.int .i64 0)
 f2_1:W.frozen? ⟨n+1+1,1,none⟩=false
 z2_2:W.cell? ⟨n+1+1,2,none⟩=some (.int .i64 0)
 f2_2:W.frozen? ⟨n+1+1,2,none⟩=false
 z2_3:W.cell? ⟨n+1+1,3,none⟩=some (.int .i64 0)
 f2_3:W.frozen? ⟨n+1+1,3,none⟩=false
 z2_4:W.cell? ⟨n+1+1,4,none⟩=some (.int .i64 0)
 f2_4:W.frozen? ⟨n+1+1,4,none⟩=false
 z2_5:W.cell? ⟨n+1+1,5,none⟩=some (.int .i64 0)
 f2_5:W.frozen? ⟨n+1+1,5,none⟩=false
 cE:W.cell? ⟨n+1+1+1,0,none⟩=some (.int .i64 E)
 fE:W.frozen? ⟨n+1+1+1,0,none⟩=false
 size:n+1+1+1<W.heap.size
 below:Below n w0 W
theorem Cm.al0 {w0 W:World} {n:Nat} {s t:D} {E:Int} (h:Cm w0 W n s t E):(W.cell? ⟨n+1+1,0,none⟩=some (.int .i64 0))∧(W.cell? ⟨n+1+1,1,none⟩=some (.int .i64 0))∧(W.cell? ⟨n+1+1,2,none⟩=some (.int .i64 0))∧(W.cell? ⟨n+1+1,3,none⟩=some (.int .i64 0))∧(W.cell? ⟨n+1+1,4,none⟩=some (.int .i64 0))∧(W.cell? ⟨n+1+1,5,none⟩=some (.int .i64 0))∧(W.frozen? ⟨n+1+1,0,none⟩=false)∧(W.frozen? ⟨n+1+1,1,none⟩=false)∧(W.frozen? ⟨n+1+1,2,none⟩=false)∧(W.frozen? ⟨n+1+1,3,none⟩=false)∧(W.frozen? ⟨n+1+1,4,none⟩=false):=⟨h.z2_0,h.z2_1,h.z2_2,h.z2_3,h.z2_4,h.z2_5,h.f2_0,h.f2_1,h.f2_2,h.f2_3,h.f2_4⟩
theorem Cm.drew {w0 W:World} {n:Nat} {s t:D} {E:Int} (h:Cm w0 W n s t E):Cm w0 W.drew n s t E:=
 ⟨h.r0_0,h.r0_1,h.r0_2,h.r0_3,h.r0_4,h.r0_5,h.r1_0,h.r1_1,h.r1_2,h.r1_3,h.r1_4,h.r1_5,h.z2_0,h.f2_0,h.z2_1,h.f2_1,h.z2_2,h.f2_2,h.z2_3,h.f2_3,h.z2_4,h.f2_4,h.z2_5,h.f2_5,h.cE,h.fE,h.size,h.below.drew⟩
theorem Cm.call {w0 W:World} {n:Nat} {s t:D} {E:Int} {W':World} (h:Cm w0 W n s t E) (hb:Below W.heap.size W W'):Cm w0 W' n s t E:=by
 have z:=h.size;have z':=hb.size;have hc:∀b o,b<W.heap.size→W'.cell? ⟨b,o,none⟩=W.cell? ⟨b,o,none⟩:=fun b o h=>hb.cell (p:=⟨b,o,none⟩) h;have hf:∀b o,b<W.heap.size→W'.frozen? ⟨b,o,none⟩=W.frozen? ⟨b,o,none⟩:=fun b o h=>hb.frozen (p:=⟨b,o,none⟩) h
 have l0:n<W.heap.size:=by omega
 have l1:n+1<W.heap.size:=by omega
 have l2:n+1+1<W.heap.size:=by omega
 have l3:n+1+1+1<W.heap.size:=by omega
 exact ⟨(hc _ _ l0).trans h.r0_0,(hc _ _ l0).trans h.r0_1,(hc _ _ l0).trans h.r0_2,(hc _ _ l0).trans h.r0_3,(hc _ _ l0).trans h.r0_4,(hc _ _ l0).trans h.r0_5,(hc _ _ l1).trans h.r1_0,(hc _ _ l1).trans h.r1_1,(hc _ _ l1).trans h.r1_2,(hc _ _ l1).trans h.r1_3,(hc _ _ l1).trans h.r1_4,(hc _ _ l1).trans h.r1_5,(hc _ _ l2).trans h.z2_0,(hf _ _ l2).trans h.f2_0,(hc _ _ l2).trans h.z2_1,(hf _ _ l2).trans h.f2_1,(hc _ _ l2).trans h.z2_2,(hf _ _ l2).trans h.f2_2,(hc _ _ l2).trans h.z2_3,(hf _ _ l2).trans h.f2_3,(hc _ _ l2).trans h.z2_4,(hf _ _ l2).trans h.f2_4,(hc _ _ l2).trans h.z2_5,(hf _ _ l2).trans h.f2_5,(hc _ _ l3).trans h.cE,(hf _ _ l3).trans h.fE,by omega,h.below.trans (hb.mono (by omega))⟩
theorem Cm.step {w0 W:World} {n:Nat} {s t:D} {E:Int} {W':World} {E':Int} (h:Cm w0 W n s t E) (st:Step n W (n+1+1+1) E' W'):Cm w0 W' n s t E':=by
 have z:=h.size;have z':=st.size
 have l0:n<W.heap.size:=by omega
 have l1:n+1<W.heap.size:=by omega
 have l2:n+1+1<W.heap.size:=by omega
 have l3:n+1+1+1<W.heap.size:=by omega
 have n0:¬(n=n+1+1+1):=by omega
 have n1:¬(n+1=n+1+1+1):=by omega
 have n2:¬(n+1+1=n+1+1+1):=by omega
 exact ⟨(st.other _ _ l0 n0).trans h.r0_0,(st.other _ _ l0 n0).trans h.r0_1,(st.other _ _ l0 n0).trans h.r0_2,(st.other _ _ l0 n0).trans h.r0_3,(st.other _ _ l0 n0).trans h.r0_4,(st.other _ _ l0 n0).trans h.r0_5,(st.other _ _ l1 n1).trans h.r1_0,(st.other _ _ l1 n1).trans h.r1_1,(st.other _ _ l1 n1).trans h.r1_2,(st.other _ _ l1 n1).trans h.r1_3,(st.other _ _ l1 n1).trans h.r1_4,(st.other _ _ l1 n1).trans h.r1_5,(st.other _ _ l2 n2).trans h.z2_0,(st.frozen _ _ l2).trans h.f2_0,(st.other _ _ l2 n2).trans h.z2_1,(st.frozen _ _ l2).trans h.f2_1,(st.other _ _ l2 n2).trans h.z2_2,(st.frozen _ _ l2).trans h.f2_2,(st.other _ _ l2 n2).trans h.z2_3,(st.frozen _ _ l2).trans h.f2_3,(st.other _ _ l2 n2).trans h.z2_4,(st.frozen _ _ l2).trans h.f2_4,(st.other _ _ l2 n2).trans h.z2_5,(st.frozen _ _ l2).trans h.f2_5,st.cell,(st.frozen _ _ l3).trans h.fE,by omega,h.below.trans (st.below (by omega) (by omega))⟩
theorem Cm.all {w0 W:World} {n:Nat} {s t:D} {E:Int} (h:Cm w0 W n s t E):W.cell? ⟨n,0,none⟩=some (.int .i64 s.a)∧W.cell? ⟨n,1,none⟩=some (.int .i64 s.b)∧W.cell? ⟨n,2,none⟩=some (.int .i64 s.c)∧W.cell? ⟨n,3,none⟩=some (.int .i64 s.d)∧W.cell? ⟨n,4,none⟩=some (.int .i64 s.e)∧W.cell? ⟨n,5,none⟩=some (.int .i64 s.f)∧W.cell? ⟨n+1,0,none⟩=some (.int .i64 t.a)∧W.cell? ⟨n+1,1,none⟩=some (.int .i64 t.b)∧W.cell? ⟨n+1,2,none⟩=some (.int .i64 t.c)∧W.cell? ⟨n+1,3,none⟩=some (.int .i64 t.d)∧W.cell? ⟨n+1,4,none⟩=some (.int .i64 t.e)∧W.cell? ⟨n+1,5,none⟩=some (.int .i64 t.f):=
 ⟨h.r0_0,h.r0_1,h.r0_2,h.r0_3,h.r0_4,h.r0_5,h.r1_0,h.r1_1,h.r1_2,h.r1_3,h.r1_4,h.r1_5⟩
theorem Cm.set6_2 {w0 W:World} {n:Nat} {s t:D} {E:Int} (h:Cm w0 W n s t E) (u0 u1 u2 u3 u4 u5:Value):((((((W.setCell ⟨n+1+1,0,none⟩ u0).setCell ⟨n+1+1,1,none⟩ u1).setCell ⟨n+1+1,2,none⟩ u2).setCell ⟨n+1+1,3,none⟩ u3).setCell ⟨n+1+1,4,none⟩ u4).setCell ⟨n+1+1,5,none⟩ u5).cell? ⟨n,0,none⟩=some (.int .i64 s.a)∧((((((W.setCell ⟨n+1+1,0,none⟩ u0).setCell ⟨n+1+1,1,none⟩ u1).setCell ⟨n+1+1,2,none⟩ u2).setCell ⟨n+1+1,3,none⟩ u3).setCell ⟨n+1+1,4,none⟩ u4).setCell ⟨n+1+1,5,none⟩ u5).cell? ⟨n,1,none⟩=some (.int .i64 s.b)∧((((((W.setCell ⟨n+1+1,0,none⟩ u0).setCell ⟨n+1+1,1,none⟩ u1).setCell ⟨n+1+1,2,none⟩ u2).setCell ⟨n+1+1,3,none⟩ u3).setCell ⟨n+1+1,4,none⟩ u4).setCell ⟨n+1+1,5,none⟩ u5).cell? ⟨n,2,none⟩=some (.int .i64 s.c)∧((((((W.setCell ⟨n+1+1,0,none⟩ u0).setCell ⟨n+1+1,1,none⟩ u1).setCell ⟨n+1+1,2,none⟩ u2).setCell ⟨n+1+1,3,none⟩ u3).setCell ⟨n+1+1,4,none⟩ u4).setCell ⟨n+1+1,5,none⟩ u5).cell? ⟨n,3,none⟩=some (.int .i64 s.d)∧((((((W.setCell ⟨n+1+1,0,none⟩ u0).setCell ⟨n+1+1,1,none⟩ u1).setCell ⟨n+1+1,2,none⟩ u2).setCell ⟨n+1+1,3,none⟩ u3).setCell ⟨n+1+1,4,none⟩ u4).setCell ⟨n+1+1,5,none⟩ u5).cell? ⟨n,4,none⟩=some (.int .i64 s.e)∧((((((W.setCell ⟨n+1+1,0,none⟩ u0).setCell ⟨n+1+1,1,none⟩ u1).setCell ⟨n+1+1,2,none⟩ u2).setCell ⟨n+1+1,3,none⟩ u3).setCell ⟨n+1+1,4,none⟩ u4).setCell ⟨n+1+1,5,none⟩ u5).cell? ⟨n,5,none⟩=some (.int .i64 s.f)∧((((((W.setCell ⟨n+1+1,0,none⟩ u0).setCell ⟨n+1+1,1,none⟩ u1).setCell ⟨n+1+1,2,none⟩ u2).setCell ⟨n+1+1,3,none⟩ u3).setCell ⟨n+1+1,4,none⟩ u4).setCell ⟨n+1+1,5,none⟩ u5).cell? ⟨n+1,0,none⟩=some (.int .i64 t.a)∧((((((W.setCell ⟨n+1+1,0,none⟩ u0).setCell ⟨n+1+1,1,none⟩ u1).setCell ⟨n+1+1,2,none⟩ u2).setCell ⟨n+1+1,3,none⟩ u3).setCell ⟨n+1+1,4,none⟩ u4).setCell ⟨n+1+1,5,none⟩ u5).cell? ⟨n+1,1,none⟩=some (.int .i64 t.b)∧((((((W.setCell ⟨n+1+1,0,none⟩ u0).setCell ⟨n+1+1,1,none⟩ u1).setCell ⟨n+1+1,2,none⟩ u2).setCell ⟨n+1+1,3,none⟩ u3).setCell ⟨n+1+1,4,none⟩ u4).setCell ⟨n+1+1,5,none⟩ u5).cell? ⟨n+1,2,none⟩=some (.int .i64 t.c)∧((((((W.setCell ⟨n+1+1,0,none⟩ u0).setCell ⟨n+1+1,1,none⟩ u1).setCell ⟨n+1+1,2,none⟩ u2).setCell ⟨n+1+1,3,none⟩ u3).setCell ⟨n+1+1,4,none⟩ u4).setCell ⟨n+1+1,5,none⟩ u5).cell? ⟨n+1,3,none⟩=some (.int .i64 t.d)∧((((((W.setCell ⟨n+1+1,0,none⟩ u0).setCell ⟨n+1+1,1,none⟩ u1).setCell ⟨n+1+1,2,none⟩ u2).setCell ⟨n+1+1,3,none⟩ u3).setCell ⟨n+1+1,4,none⟩ u4).setCell ⟨n+1+1,5,none⟩ u5).cell? ⟨n+1,4,none⟩=some (.int .i64 t.e)∧((((((W.setCell ⟨n+1+1,0,none⟩ u0).setCell ⟨n+1+1,1,none⟩ u1).setCell ⟨n+1+1,2,none⟩ u2).setCell ⟨n+1+1,3,none⟩ u3).setCell ⟨n+1+1,4,none⟩ u4).setCell ⟨n+1+1,5,none⟩ u5).cell? ⟨n+1,5,none⟩=some (.int .i64 t.f):=by
 have n0:¬(n=n+1+1):=by omega
 have n1:¬(n+1=n+1+1):=by omega
 exact ⟨(fset (fset (fset (fset (fset (fset h.r0_0 n0) n0) n0) n0) n0) n0),(fset (fset (fset (fset (fset (fset h.r0_1 n0) n0) n0) n0) n0) n0),(fset (fset (fset (fset (fset (fset h.r0_2 n0) n0) n0) n0) n0) n0),(fset (fset (fset (fset (fset (fset h.r0_3 n0) n0) n0) n0) n0) n0),(fset (fset (fset (fset (fset (fset h.r0_4 n0) n0) n0) n0) n0) n0),(fset (fset (fset (fset (fset (fset h.r0_5 n0) n0) n0) n0) n0) n0),(fset (fset (fset (fset (fset (fset h.r1_0 n1) n1) n1) n1) n1) n1),(fset (fset (fset (fset (fset (fset h.r1_1 n1) n1) n1) n1) n1) n1),(fset (fset (fset (fset (fset (fset h.r1_2 n1) n1) n1) n1) n1) n1),(fset (fset (fset (fset (fset (fset h.r1_3 n1) n1) n1) n1) n1) n1),(fset (fset (fset (fset (fset (fset h.r1_4 n1) n1) n1) n1) n1) n1),(fset (fset (fset (fset (fset (fset h.r1_5 n1) n1) n1) n1) n1) n1)⟩
theorem Cm.fin6_2 {w0 W:World} {n:Nat} {s t:D} {E:Int} (h:Cm w0 W n s t E) (u0 u1 u2 u3 u4 u5:Int):((((((W.setCell ⟨n+1+1,0,none⟩ (.int .i64 u0)).setCell ⟨n+1+1,1,none⟩ (.int .i64 u1)).setCell ⟨n+1+1,2,none⟩ (.int .i64 u2)).setCell ⟨n+1+1,3,none⟩ (.int .i64 u3)).setCell ⟨n+1+1,4,none⟩ (.int .i64 u4)).setCell ⟨n+1+1,5,none⟩ (.int .i64 u5)).cell? ⟨n+1+1,0,none⟩=some (.int .i64 u0)∧((((((W.setCell ⟨n+1+1,0,none⟩ (.int .i64 u0)).setCell ⟨n+1+1,1,none⟩ (.int .i64 u1)).setCell ⟨n+1+1,2,none⟩ (.int .i64 u2)).setCell ⟨n+1+1,3,none⟩ (.int .i64 u3)).setCell ⟨n+1+1,4,none⟩ (.int .i64 u4)).setCell ⟨n+1+1,5,none⟩ (.int .i64 u5)).cell? ⟨n+1+1,1,none⟩=some (.int .i64 u1)∧((((((W.setCell ⟨n+1+1,0,none⟩ (.int .i64 u0)).setCell ⟨n+1+1,1,none⟩ (.int .i64 u1)).setCell ⟨n+1+1,2,none⟩ (.int .i64 u2)).setCell ⟨n+1+1,3,none⟩ (.int .i64 u3)).setCell ⟨n+1+1,4,none⟩ (.int .i64 u4)).setCell ⟨n+1+1,5,none⟩ (.int .i64 u5)).cell? ⟨n+1+1,2,none⟩=some (.int .i64 u2)∧((((((W.setCell ⟨n+1+1,0,none⟩ (.int .i64 u0)).setCell ⟨n+1+1,1,none⟩ (.int .i64 u1)).setCell ⟨n+1+1,2,none⟩ (.int .i64 u2)).setCell ⟨n+1+1,3,none⟩ (.int .i64 u3)).setCell ⟨n+1+1,4,none⟩ (.int .i64 u4)).setCell ⟨n+1+1,5,none⟩ (.int .i64 u5)).cell? ⟨n+1+1,3,none⟩=some (.int .i64 u3)∧((((((W.setCell ⟨n+1+1,0,none⟩ (.int .i64 u0)).setCell ⟨n+1+1,1,none⟩ (.int .i64 u1)).setCell ⟨n+1+1,2,none⟩ (.int .i64 u2)).setCell ⟨n+1+1,3,none⟩ (.int .i64 u3)).setCell ⟨n+1+1,4,none⟩ (.int .i64 u4)).setCell ⟨n+1+1,5,none⟩ (.int .i64 u5)).cell? ⟨n+1+1,4,none⟩=some (.int .i64 u4)∧((((((W.setCell ⟨n+1+1,0,none⟩ (.int .i64 u0)).setCell ⟨n+1+1,1,none⟩ (.int .i64 u1)).setCell ⟨n+1+1,2,none⟩ (.int .i64 u2)).setCell ⟨n+1+1,3,none⟩ (.int .i64 u3)).setCell ⟨n+1+1,4,none⟩ (.int .i64 u4)).setCell ⟨n+1+1,5,none⟩ (.int .i64 u5)).cell? ⟨n+1+1,5,none⟩=some (.int .i64 u5)∧Below n w0 ((((((W.setCell ⟨n+1+1,0,none⟩ (.int .i64 u0)).setCell ⟨n+1+1,1,none⟩ (.int .i64 u1)).setCell ⟨n+1+1,2,none⟩ (.int .i64 u2)).setCell ⟨n+1+1,3,none⟩ (.int .i64 u3)).setCell ⟨n+1+1,4,none⟩ (.int .i64 u4)).setCell ⟨n+1+1,5,none⟩ (.int .i64 u5)):=by
 have b:=h.below;have z0:=h.z2_0;have z1:=h.z2_1;have z2:=h.z2_2;have z3:=h.z2_3;have z4:=h.z2_4;have z5:=h.z2_5;clear h;refine ⟨?_,?_,?_,?_,?_,?_,((((((b.setCell (by dsimp only;omega) _).setCell (by dsimp only;omega) _).setCell (by dsimp only;omega) _).setCell (by dsimp only;omega) _).setCell (by dsimp only;omega) _).setCell (by dsimp only;omega) _)⟩<;>simp [go_sem, *]
set_option maxRecDepth 100000 in
set_option maxHeartbeats 8000000 in
theorem combine_add (s t:D) (w:World) :
  Calls Tryz.prog 93 #[.func (.func 62) #[] #[],dv s,dv t] w fun e w'=>e=retD (comb (addR s.a s.b t.a t.b) (addR s.c s.d t.c t.d) (addR s.e s.f t.e t.f))∧Below w.heap.size w w':=by
 rw [←comb_eq];obtain ⟨⟨p0,q0,e0⟩,h0⟩:∃r:R,goOn 0 (addR s.a s.b t.a t.b)=r:=⟨_,rfl⟩;have H0:=Lib.hid (show Ending.returned (iv (goOn 0 (addR s.a s.b t.a t.b)).lo (goOn 0 (addR s.a s.b t.a t.b)).hi) = .returned (iv p0 q0)∧(goOn 0 (addR s.a s.b t.a t.b)).e=e0 from by rw [h0];exact ⟨rfl,rfl⟩);rw [h0];obtain ⟨⟨p1,q1,e1⟩,h1⟩:∃r:R,goOn e0 (addR s.c s.d t.c t.d)=r:=⟨_,rfl⟩;have H1:=Lib.hid (show Ending.returned (iv (goOn e0 (addR s.c s.d t.c t.d)).lo (goOn e0 (addR s.c s.d t.c t.d)).hi) = .returned (iv p1 q1)∧(goOn e0 (addR s.c s.d t.c t.d)).e=e1 from by rw [h1];exact ⟨rfl,rfl⟩);rw [h1];obtain ⟨⟨p2,q2,e2⟩,h2⟩:∃r:R,goOn e1 (addR s.e s.f t.e t.f)=r:=⟨_,rfl⟩;have H2:=Lib.hid (show Ending.returned (iv (goOn e1 (addR s.e s.f t.e t.f)).lo (goOn e1 (addR s.e s.f t.e t.f)).hi) = .returned (iv p2 q2)∧(goOn e1 (addR s.e s.f t.e t.f)).e=e2 from by rw [h2];exact ⟨rfl,rfl⟩);rw [h2];dsimp only;clear h0 h1 h2;obtain ⟨⟨⟨d0,d1,d2,d3,d4,d5⟩,ee⟩,hd⟩:∃r:RD,dirR e2 ⟨p0,q0,p1,q1,p2,q2⟩=r:=⟨_,rfl⟩;have HD:=Lib.hid (show retD (dirR e2 ⟨p0,q0,p1,q1,p2,q2⟩) = .returned (.tuple #[.agg #[.int .i64 d0,.int .i64 d1,.int .i64 d2,.int .i64 d3,.int .i64 d4,.int .i64 d5],.int .i64 ee]) from by rw [hd]);rw [hd];clear hd
 have I0:Cm w ((((w.alloc (.cells #[.int .i64 s.a,.int .i64 s.b,.int .i64 s.c,.int .i64 s.d,.int .i64 s.e,.int .i64 s.f] 45)).alloc (.cells #[.int .i64 t.a,.int .i64 t.b,.int .i64 t.c,.int .i64 t.d,.int .i64 t.e,.int .i64 t.f] 45)).alloc (.cells #[.int .i64 0,.int .i64 0,.int .i64 0,.int .i64 0,.int .i64 0,.int .i64 0] 45)).alloc (.cells #[.int .i64 0] 119)) w.heap.size s t 0:=by
  refine ⟨by simp [go_sem],by simp [go_sem],by simp [go_sem],by simp [go_sem],by simp [go_sem],by simp [go_sem],by simp [go_sem],by simp [go_sem],by simp [go_sem],by simp [go_sem],by simp [go_sem],by simp [go_sem],by simp [go_sem],by simp [go_sem],by simp [go_sem],by simp [go_sem],by simp [go_sem],by simp [go_sem],by simp [go_sem],by simp [go_sem],by simp [go_sem],by simp [go_sem],by simp [go_sem],by simp [go_sem],by simp [go_sem],by simp [go_sem],by simp,?_⟩
  ·repeat (first|exact Below.refl _ _|refine Below.alloc ?_ (by first|omega|(simp<;>omega)) _)
 go_enter Tryz.func93,Tryz.ntmps93
 go_wp2_with fail
 go_region_held3 (fun w'=>w'.cell? ⟨w.heap.size,0,none⟩=some (.int .i64 s.a)∧w'.cell? ⟨w.heap.size,1,none⟩=some (.int .i64 s.b)∧w'.cell? ⟨w.heap.size,2,none⟩=some (.int .i64 s.c)∧w'.cell? ⟨w.heap.size,3,none⟩=some (.int .i64 s.d)∧w'.cell? ⟨w.heap.size,4,none⟩=some (.int .i64 s.e)∧w'.cell? ⟨w.heap.size,5,none⟩=some (.int .i64 s.f)∧w'.cell? ⟨w.heap.size+1,0,none⟩=some (.int .i64 t.a)∧w'.cell? ⟨w.heap.size+1,1,none⟩=some (.int .i64 t.b)∧w'.cell? ⟨w.heap.size+1,2,none⟩=some (.int .i64 t.c)∧w'.cell? ⟨w.heap.size+1,3,none⟩=some (.int .i64 t.d)∧w'.cell? ⟨w.heap.size+1,4,none⟩=some (.int .i64 t.e)∧w'.cell? ⟨w.heap.size+1,5,none⟩=some (.int .i64 t.f)) (with_reducible first|exact I0.drew.all|exact ID.set6_2 _ _ _ _ _ _|exact ID.all|exact IC.all|exact IB.all|exact IA.all)
  (first|(have hm:=hmarkC;go_at_call 69;refine (dir_any (w.heap.size+1+1+1) e2 ⟨p0,q0,p1,q1,p2,q2⟩ _ IC.cE).mono ?_;rintro r wD ⟨rfl,hb⟩;rw [HD.out];have ID:=IC.call hb;clear hb;have IDal0:=ID.al0;have ff5:=ID.f2_5)|(have hm:=hmarkB;go_at_call 65;refine (do_add w.heap.size (w.heap.size+1+1+1) s.e s.f t.e t.f e1 _ IB.cE IB.fE).mono ?_;rintro r wC ⟨rfl,st⟩;rw [H2.out.1];rw [H2.out.2] at st;have IC:=IB.step st;clear st;have hmarkC:wC=wC:=rfl)|(have hm:=hmarkA;go_at_call 65;refine (do_add w.heap.size (w.heap.size+1+1+1) s.c s.d t.c t.d e0 _ IA.cE IA.fE).mono ?_;rintro r wB ⟨rfl,st⟩;rw [H1.out.1];rw [H1.out.2] at st;have IB:=IA.step st;clear st;have hmarkB:wB=wB:=rfl)|(go_at_call 65;refine (do_add w.heap.size (w.heap.size+1+1+1) s.a s.b t.a t.b 0 _ I0.drew.cE I0.drew.fE).mono ?_;rintro r wA ⟨rfl,st⟩;rw [H0.out.1];rw [H0.out.2] at st;have IA:=I0.drew.step st;clear st;have hmarkA:wA=wA:=rfl))
 all_goals go_wp2_with fail
 have K:=ID.fin6_2 d0 d1 d2 d3 d4 d5;revert K;generalize ((((((wD.setCell ⟨w.heap.size+1+1,0,none⟩ (.int .i64 d0)).setCell ⟨w.heap.size+1+1,1,none⟩ (.int .i64 d1)).setCell ⟨w.heap.size+1+1,2,none⟩ (.int .i64 d2)).setCell ⟨w.heap.size+1+1,3,none⟩ (.int .i64 d3)).setCell ⟨w.heap.size+1+1,4,none⟩ (.int .i64 d4)).setCell ⟨w.heap.size+1+1,5,none⟩ (.int .i64 d5))=X;intro K;obtain ⟨k0,k1,k2,k3,k4,k5,kb⟩:=K;exact bodyPost_ret (v:=.tuple #[dv ⟨d0,d1,d2,d3,d4,d5⟩,.int .i64 ee]) (by simp [results,Tryz.results93,go_sem,k0,k1,k2,k3,k4,k5]) rfl ⟨rfl,kb⟩
set_option maxRecDepth 100000 in
set_option maxHeartbeats 8000000 in
theorem combine_sub (s t:D) (w:World) :
  Calls Tryz.prog 93 #[.func (.func 57) #[] #[],dv s,dv t] w fun e w'=>e=retD (comb (subR s.a s.b t.a t.b) (subR s.c s.d t.c t.d) (subR s.e s.f t.e t.f))∧Below w.heap.size w w':=by
 rw [←comb_eq];obtain ⟨⟨p0,q0,e0⟩,h0⟩:∃r:R,goOn 0 (subR s.a s.b t.a t.b)=r:=⟨_,rfl⟩;have H0:=Lib.hid (show Ending.returned (iv (goOn 0 (subR s.a s.b t.a t.b)).lo (goOn 0 (subR s.a s.b t.a t.b)).hi) = .returned (iv p0 q0)∧(goOn 0 (subR s.a s.b t.a t.b)).e=e0 from by rw [h0];exact ⟨rfl,rfl⟩);rw [h0];obtain ⟨⟨p1,q1,e1⟩,h1⟩:∃r:R,goOn e0 (subR s.c s.d t.c t.d)=r:=⟨_,rfl⟩;have H1:=Lib.hid (show Ending.returned (iv (goOn e0 (subR s.c s.d t.c t.d)).lo (goOn e0 (subR s.c s.d t.c t.d)).hi) = .returned (iv p1 q1)∧(goOn e0 (subR s.c s.d t.c t.d)).e=e1 from by rw [h1];exact ⟨rfl,rfl⟩);rw [h1];obtain ⟨⟨p2,q2,e2⟩,h2⟩:∃r:R,goOn e1 (subR s.e s.f t.e t.f)=r:=⟨_,rfl⟩;have H2:=Lib.hid (show Ending.returned (iv (goOn e1 (subR s.e s.f t.e t.f)).lo (goOn e1 (subR s.e s.f t.e t.f)).hi) = .returned (iv p2 q2)∧(goOn e1 (subR s.e s.f t.e t.f)).e=e2 from by rw [h2];exact ⟨rfl,rfl⟩);rw [h2];dsimp only;clear h0 h1 h2;obtain ⟨⟨⟨d0,d1,d2,d3,d4,d5⟩,ee⟩,hd⟩:∃r:RD,dirR e2 ⟨p0,q0,p1,q1,p2,q2⟩=r:=⟨_,rfl⟩;have HD:=Lib.hid (show retD (dirR e2 ⟨p0,q0,p1,q1,p2,q2⟩) = .returned (.tuple #[.agg #[.int .i64 d0,.int .i64 d1,.int .i64 d2,.int .i64 d3,.int .i64 d4,.int .i64 d5],.int .i64 ee]) from by rw [hd]);rw [hd];clear hd
 have I0:Cm w ((((w.alloc (.cells #[.int .i64 s.a,.int .i64 s.b,.int .i64 s.c,.int .i64 s.d,.int .i64 s.e,.int .i64 s.f] 45)).alloc (.cells #[.int .i64 t.a,.int .i64 t.b,.int .i64 t.c,.int .i64 t.d,.int .i64 t.e,.int .i64 t.f] 45)).alloc (.cells #[.int .i64 0,.int .i64 0,.int .i64 0,.int .i64 0,.int .i64 0,.int .i64 0] 45)).alloc (.cells #[.int .i64 0] 119)) w.heap.size s t 0:=by
  refine ⟨by simp [go_sem],by simp [go_sem],by simp [go_sem],by simp [go_sem],by simp [go_sem],by simp [go_sem],by simp [go_sem],by simp [go_sem],by simp [go_sem],by simp [go_sem],by simp [go_sem],by simp [go_sem],by simp [go_sem],by simp [go_sem],by simp [go_sem],by simp [go_sem],by simp [go_sem],by simp [go_sem],by simp [go_sem],by simp [go_sem],by simp [go_sem],by simp [go_sem],by simp [go_sem],by simp [go_sem],by simp [go_sem],by simp [go_sem],by simp,?_⟩
  ·repeat (first|exact Below.refl _ _|refine Below.alloc ?_ (by first|omega|(simp<;>omega)) _)
 go_enter Tryz.func93,Tryz.ntmps93
 go_wp2_with fail
 go_region_held3 (fun w'=>w'.cell? ⟨w.heap.size,0,none⟩=some (.int .i64 s.a)∧w'.cell? ⟨w.heap.size,1,none⟩=some (.int .i64 s.b)∧w'.cell? ⟨w.heap.size,2,none⟩=some (.int .i64 s.c)∧w'.cell? ⟨w.heap.size,3,none⟩=some (.int .i64 s.d)∧w'.cell? ⟨w.heap.size,4,none⟩=some (.int .i64 s.e)∧w'.cell? ⟨w.heap.size,5,none⟩=some (.int .i64 s.f)∧w'.cell? ⟨w.heap.size+1,0,none⟩=some (.int .i64 t.a)∧w'.cell? ⟨w.heap.size+1,1,none⟩=some (.int .i64 t.b)∧w'.cell? ⟨w.heap.size+1,2,none⟩=some (.int .i64 t.c)∧w'.cell? ⟨w.heap.size+1,3,none⟩=some (.int .i64 t.d)∧w'.cell? ⟨w.heap.size+1,4,none⟩=some (.int .i64 t.e)∧w'.cell? ⟨w.heap.size+1,5,none⟩=some (.int .i64 t.f)) (with_reducible first|exact I0.drew.all|exact ID.set6_2 _ _ _ _ _ _|exact ID.all|exact IC.all|exact IB.all|exact IA.all)
  (first|(have hm:=hmarkC;go_at_call 69;refine (dir_any (w.heap.size+1+1+1) e2 ⟨p0,q0,p1,q1,p2,q2⟩ _ IC.cE).mono ?_;rintro r wD ⟨rfl,hb⟩;rw [HD.out];have ID:=IC.call hb;clear hb;have IDal0:=ID.al0;have ff5:=ID.f2_5)|(have hm:=hmarkB;go_at_call 65;refine (do_sub w.heap.size (w.heap.size+1+1+1) s.e s.f t.e t.f e1 _ IB.cE IB.fE).mono ?_;rintro r wC ⟨rfl,st⟩;rw [H2.out.1];rw [H2.out.2] at st;have IC:=IB.step st;clear st;have hmarkC:wC=wC:=rfl)|(have hm:=hmarkA;go_at_call 65;refine (do_sub w.heap.size (w.heap.size+1+1+1) s.c s.d t.c t.d e0 _ IA.cE IA.fE).mono ?_;rintro r wB ⟨rfl,st⟩;rw [H1.out.1];rw [H1.out.2] at st;have IB:=IA.step st;clear st;have hmarkB:wB=wB:=rfl)|(go_at_call 65;refine (do_sub w.heap.size (w.heap.size+1+1+1) s.a s.b t.a t.b 0 _ I0.drew.cE I0.drew.fE).mono ?_;rintro r wA ⟨rfl,st⟩;rw [H0.out.1];rw [H0.out.2] at st;have IA:=I0.drew.step st;clear st;have hmarkA:wA=wA:=rfl))
 all_goals go_wp2_with fail
 have K:=ID.fin6_2 d0 d1 d2 d3 d4 d5;revert K;generalize ((((((wD.setCell ⟨w.heap.size+1+1,0,none⟩ (.int .i64 d0)).setCell ⟨w.heap.size+1+1,1,none⟩ (.int .i64 d1)).setCell ⟨w.heap.size+1+1,2,none⟩ (.int .i64 d2)).setCell ⟨w.heap.size+1+1,3,none⟩ (.int .i64 d3)).setCell ⟨w.heap.size+1+1,4,none⟩ (.int .i64 d4)).setCell ⟨w.heap.size+1+1,5,none⟩ (.int .i64 d5))=X;intro K;obtain ⟨k0,k1,k2,k3,k4,k5,kb⟩:=K;exact bodyPost_ret (v:=.tuple #[dv ⟨d0,d1,d2,d3,d4,d5⟩,.int .i64 ee]) (by simp [results,Tryz.results93,go_sem,k0,k1,k2,k3,k4,k5]) rfl ⟨rfl,kb⟩
set_option maxRecDepth 100000 in
set_option maxHeartbeats 8000000 in
theorem combine_mul (s t:D) (w:World) :
  Calls Tryz.prog 93 #[.func (.func 61) #[] #[],dv s,dv t] w fun e w'=>e=retD (comb (mulR s.a s.b t.a t.b) (mulR s.c s.d t.c t.d) (mulR s.e s.f t.e t.f))∧Below w.heap.size w w':=by
 rw [←comb_eq];obtain ⟨⟨p0,q0,e0⟩,h0⟩:∃r:R,goOn 0 (mulR s.a s.b t.a t.b)=r:=⟨_,rfl⟩;have H0:=Lib.hid (show Ending.returned (iv (goOn 0 (mulR s.a s.b t.a t.b)).lo (goOn 0 (mulR s.a s.b t.a t.b)).hi) = .returned (iv p0 q0)∧(goOn 0 (mulR s.a s.b t.a t.b)).e=e0 from by rw [h0];exact ⟨rfl,rfl⟩);rw [h0];obtain ⟨⟨p1,q1,e1⟩,h1⟩:∃r:R,goOn e0 (mulR s.c s.d t.c t.d)=r:=⟨_,rfl⟩;have H1:=Lib.hid (show Ending.returned (iv (goOn e0 (mulR s.c s.d t.c t.d)).lo (goOn e0 (mulR s.c s.d t.c t.d)).hi) = .returned (iv p1 q1)∧(goOn e0 (mulR s.c s.d t.c t.d)).e=e1 from by rw [h1];exact ⟨rfl,rfl⟩);rw [h1];obtain ⟨⟨p2,q2,e2⟩,h2⟩:∃r:R,goOn e1 (mulR s.e s.f t.e t.f)=r:=⟨_,rfl⟩;have H2:=Lib.hid (show Ending.returned (iv (goOn e1 (mulR s.e s.f t.e t.f)).lo (goOn e1 (mulR s.e s.f t.e t.f)).hi) = .returned (iv p2 q2)∧(goOn e1 (mulR s.e s.f t.e t.f)).e=e2 from by rw [h2];exact ⟨rfl,rfl⟩);rw [h2];dsimp only;clear h0 h1 h2;obtain ⟨⟨⟨d0,d1,d2,d3,d4,d5⟩,ee⟩,hd⟩:∃r:RD,dirR e2 ⟨p0,q0,p1,q1,p2,q2⟩=r:=⟨_,rfl⟩;have HD:=Lib.hid (show retD (dirR e2 ⟨p0,q0,p1,q1,p2,q2⟩) = .returned (.tuple #[.agg #[.int .i64 d0,.int .i64 d1,.int .i64 d2,.int .i64 d3,.int .i64 d4,.int .i64 d5],.int .i64 ee]) from by rw [hd]);rw [hd];clear hd
 have I0:Cm w ((((w.alloc (.cells #[.int .i64 s.a,.int .i64 s.b,.int .i64 s.c,.int .i64 s.d,.int .i64 s.e,.int .i64 s.f] 45)).alloc (.cells #[.int .i64 t.a,.int .i64 t.b,.int .i64 t.c,.int .i64 t.d,.int .i64 t.e,.int .i64 t.f] 45)).alloc (.cells #[.int .i64 0,.int .i64 0,.int .i64 0,.int .i64 0,.int .i64 0,.int .i64 0] 45)).alloc (.cells #[.int .i64 0] 119)) w.heap.size s t 0:=by
  refine ⟨by simp [go_sem],by simp [go_sem],by simp [go_sem],by simp [go_sem],by simp [go_sem],by simp [go_sem],by simp [go_sem],by simp [go_sem],by simp [go_sem],by simp [go_sem],by simp [go_sem],by simp [go_sem],by simp [go_sem],by simp [go_sem],by simp [go_sem],by simp [go_sem],by simp [go_sem],by simp [go_sem],by simp [go_sem],by simp [go_sem],by simp [go_sem],by simp [go_sem],by simp [go_sem],by simp [go_sem],by simp [go_sem],by simp [go_sem],by simp,?_⟩
  ·repeat (first|exact Below.refl _ _|refine Below.alloc ?_ (by first|omega|(simp<;>omega)) _)
 go_enter Tryz.func93,Tryz.ntmps93
 go_wp2_with fail
 go_region_held3 (fun w'=>w'.cell? ⟨w.heap.size,0,none⟩=some (.int .i64 s.a)∧w'.cell? ⟨w.heap.size,1,none⟩=some (.int .i64 s.b)∧w'.cell? ⟨w.heap.size,2,none⟩=some (.int .i64 s.c)∧w'.cell? ⟨w.heap.size,3,none⟩=some (.int .i64 s.d)∧w'.cell? ⟨w.heap.size,4,none⟩=some (.int .i64 s.e)∧w'.cell? ⟨w.heap.size,5,none⟩=some (.int .i64 s.f)∧w'.cell? ⟨w.heap.size+1,0,none⟩=some (.int .i64 t.a)∧w'.cell? ⟨w.heap.size+1,1,none⟩=some (.int .i64 t.b)∧w'.cell? ⟨w.heap.size+1,2,none⟩=some (.int .i64 t.c)∧w'.cell? ⟨w.heap.size+1,3,none⟩=some (.int .i64 t.d)∧w'.cell? ⟨w.heap.size+1,4,none⟩=some (.int .i64 t.e)∧w'.cell? ⟨w.heap.size+1,5,none⟩=some (.int .i64 t.f)) (with_reducible first|exact I0.drew.all|exact ID.set6_2 _ _ _ _ _ _|exact ID.all|exact IC.all|exact IB.all|exact IA.all)
  (first|(have hm:=hmarkC;go_at_call 69;refine (dir_any (w.heap.size+1+1+1) e2 ⟨p0,q0,p1,q1,p2,q2⟩ _ IC.cE).mono ?_;rintro r wD ⟨rfl,hb⟩;rw [HD.out];have ID:=IC.call hb;clear hb;have IDal0:=ID.al0;have ff5:=ID.f2_5)|(have hm:=hmarkB;go_at_call 65;refine (do_mul w.heap.size (w.heap.size+1+1+1) s.e s.f t.e t.f e1 _ IB.cE IB.fE).mono ?_;rintro r wC ⟨rfl,st⟩;rw [H2.out.1];rw [H2.out.2] at st;have IC:=IB.step st;clear st;have hmarkC:wC=wC:=rfl)|(have hm:=hmarkA;go_at_call 65;refine (do_mul w.heap.size (w.heap.size+1+1+1) s.c s.d t.c t.d e0 _ IA.cE IA.fE).mono ?_;rintro r wB ⟨rfl,st⟩;rw [H1.out.1];rw [H1.out.2] at st;have IB:=IA.step st;clear st;have hmarkB:wB=wB:=rfl)|(go_at_call 65;refine (do_mul w.heap.size (w.heap.size+1+1+1) s.a s.b t.a t.b 0 _ I0.drew.cE I0.drew.fE).mono ?_;rintro r wA ⟨rfl,st⟩;rw [H0.out.1];rw [H0.out.2] at st;have IA:=I0.drew.step st;clear st;have hmarkA:wA=wA:=rfl))
 all_goals go_wp2_with fail
 have K:=ID.fin6_2 d0 d1 d2 d3 d4 d5;revert K;generalize ((((((wD.setCell ⟨w.heap.size+1+1,0,none⟩ (.int .i64 d0)).setCell ⟨w.heap.size+1+1,1,none⟩ (.int .i64 d1)).setCell ⟨w.heap.size+1+1,2,none⟩ (.int .i64 d2)).setCell ⟨w.heap.size+1+1,3,none⟩ (.int .i64 d3)).setCell ⟨w.heap.size+1+1,4,none⟩ (.int .i64 d4)).setCell ⟨w.heap.size+1+1,5,none⟩ (.int .i64 d5))=X;intro K;obtain ⟨k0,k1,k2,k3,k4,k5,kb⟩:=K;exact bodyPost_ret (v:=.tuple #[dv ⟨d0,d1,d2,d3,d4,d5⟩,.int .i64 ee]) (by simp [results,Tryz.results93,go_sem,k0,k1,k2,k3,k4,k5]) rfl ⟨rfl,kb⟩
end Go.Proofs.YtiecdgcdcpmgaaaGreat.Iv

/- Contracts of package direction's functions of boxes: Valid, Add, Sub, Scale, Dot. -/
namespace Go.Proofs.YtiecdgcdcpmgaaaGreat.Iv
open Go.RowKit
set_option maxRecDepth 100000 in
theorem dvalid_any (s:D) (w:World) :
  Calls Tryz.prog 92 #[dv s] w fun e w'=>e = .returned (.bool (vD s))∧Below w.heap.size w w':=by
 have l1:w.heap.size<w.heap.size+1:=by omega
 cases h1:vB s.a s.b
 ·rw [show vD s=false from by simp [vD,h1]];go_enter Tryz.func92,Tryz.ntmps92
  go_wp2_with (go_at_call 64;refine (valid_any _ _ _).mono ?_;rintro e w1 ⟨rfl,rfl⟩)
  go_ret
  exact ⟨rfl,(by repeat (first|exact Below.refl _ _|refine Below.drew ?_|refine below_drewN ?_ _|refine Below.setCell ?_ (by first|omega|(simp<;>omega)) _|refine Below.alloc ?_ (by first|omega|(simp<;>omega)) _))⟩
 ·cases h2:vB s.c s.d
  ·rw [show vD s=false from by simp [vD,h2]];go_enter Tryz.func92,Tryz.ntmps92
   go_wp2_with (go_at_call 64;refine (valid_any _ _ _).mono ?_;rintro e w1 ⟨rfl,rfl⟩)
   go_ret
   exact ⟨rfl,(by repeat (first|exact Below.refl _ _|refine Below.drew ?_|refine below_drewN ?_ _|refine Below.setCell ?_ (by first|omega|(simp<;>omega)) _|refine Below.alloc ?_ (by first|omega|(simp<;>omega)) _))⟩
  ·rw [show vD s=vB s.e s.f from by simp [vD,h1,h2]];go_enter Tryz.func92,Tryz.ntmps92
   go_wp2_with (go_at_call 64;refine (valid_any _ _ _).mono ?_;rintro e w1 ⟨rfl,rfl⟩)
   go_ret
   exact ⟨rfl,(by repeat (first|exact Below.refl _ _|refine Below.drew ?_|refine below_drewN ?_ _|refine Below.setCell ?_ (by first|omega|(simp<;>omega)) _|refine Below.alloc ?_ (by first|omega|(simp<;>omega)) _))⟩
structure B2 (w0 W:World) (n:Nat) (s t:D):Prop where
 r0_0:W.cell? ⟨n,0,none⟩=some (.int .i64 s.a)
 r0_1:W.cell? ⟨n,1,none⟩=some (.int .i64 s.b)
 r0_2:W.cell? ⟨n,2,none⟩=some (.int .i64 s.c)
 r0_3:W.cell? ⟨n,3,none⟩=some (.int .i64 s.d)
 r0_4:W.cell? ⟨n,4,none⟩=some (.int .i64 s.e)
 r0_5:W.cell? ⟨n,5,none⟩=some (.int .i64 s.f)
 r1_0:W.cell? ⟨n+1,0,none⟩=some (.int .i64 t.a)
 r1_1:W.cell? ⟨n+1,1,none⟩=some (.int .i64 t.b)
 r1_2:W.cell? ⟨n+1,2,none⟩=some (.int .i64 t.c)
 r1_3:W.cell? ⟨n+1,3,none⟩=some (.int .i64 t.d)
 r1_4:W.cell? ⟨n+1,4,none⟩=some (.int .i64 t.e)
 r1_5:W.cell? ⟨n+1,5,none⟩=some (.int .i64 t.f)
 z2_0:W.cell? ⟨n+1+1,0,none⟩=some (.int .i64 0)
 f2_0:W.frozen? ⟨n+1+1,0,none⟩=false
 z2_1:W.cell? ⟨n+1+1,1,none⟩=some (.int .i64 0)
 f2_1:W.frozen? ⟨n+1+1,1,none⟩=false
 z2_2:W.cell? ⟨n+1+1,2,none⟩=some (.int .i64 0)
 f2_2:W.frozen? ⟨n+1+1,2,none⟩=false
 z2_3:W.cell? ⟨n+1+1,3,none⟩=some (.int .i64 0)
 f2_3:W.frozen? ⟨n+1+1,3,none⟩=false
 z2_4:W.cell? ⟨n+1+1,4,none⟩=some (.int .i64 0)
 f2_4:W.frozen? ⟨n+1+1,4,none⟩=false
 z2_5:W.cell? ⟨n+1+1,5,none⟩=some (.int .i64 0)
 f2_5:W.frozen? ⟨n+1+1,5,none⟩=false
 size:n+1+1<W.heap.size
 below:Below n w0 W
theorem B2.al0 {w0 W:World} {n:Nat} {s t:D} (h:B2 w0 W n s t):(W.cell? ⟨n,0,none⟩=some (.int .i64 s.a))∧(W.cell? ⟨n,1,none⟩=some (.int .i64 s.b))∧(W.cell? ⟨n,2,none⟩=some (.int .i64 s.c))∧(W.cell? ⟨n,3,none⟩=some (.int .i64 s.d))∧(W.cell? ⟨n,4,none⟩=some (.int .i64 s.e))∧(W.cell? ⟨n,5,none⟩=some (.int .i64 s.f))∧(W.cell? ⟨n+1,0,none⟩=some (.int .i64 t.a))∧(W.cell? ⟨n+1,1,none⟩=some (.int .i64 t.b))∧(W.cell? ⟨n+1,2,none⟩=some (.int .i64 t.c))∧(W.cell? ⟨n+1,3,none⟩=some (.int .i64 t.d))∧(W.cell? ⟨n+1,4,none⟩=some (.int .i64 t.e))∧(W.cell? ⟨n+1,5,none⟩=some (.int .i64 t.f))∧(W.cell? ⟨n+1+1,0,none⟩=some (.int .i64 0))∧(W.frozen? ⟨n+1+1,0,none⟩=false)∧(W.cell? ⟨n+1+1,1,none⟩=some (.int .i64 0))∧(W.frozen? ⟨n+1+1,1,none⟩=false)∧(W.cell? ⟨n+1+1,2,none⟩=some (.int .i64 0))∧(W.frozen? ⟨n+1+1,2,none⟩=false)∧(W.cell? ⟨n+1+1,3,none⟩=some (.int .i64 0))∧(W.frozen? ⟨n+1+1,3,none⟩=false)∧(W.cell? ⟨n+1+1,4,none⟩=some (.int .i64 0))∧(W.frozen? ⟨n+1+1,4,none⟩=false)∧(W.cell? ⟨n+1+1,5,none⟩=some (.int .i64 0))∧(W.frozen? ⟨n+1+1,5,none⟩=false)∧(n+1+1<W.heap.size):=⟨h.r0_0,h.r0_1,h.r0_2,h.r0_3,h.r0_4,h.r0_5,h.r1_0,h.r1_1,h.r1_2,h.r1_3,h.r1_4,h.r1_5,h.z2_0,h.f2_0,h.z2_1,h.f2_1,h.z2_2,h.f2_2,h.z2_3,h.f2_3,h.z2_4,h.f2_4,h.z2_5,h.f2_5,h.size⟩
theorem B2.drew {w0 W:World} {n:Nat} {s t:D} (h:B2 w0 W n s t):B2 w0 W.drew n s t:=
 ⟨h.r0_0,h.r0_1,h.r0_2,h.r0_3,h.r0_4,h.r0_5,h.r1_0,h.r1_1,h.r1_2,h.r1_3,h.r1_4,h.r1_5,h.z2_0,h.f2_0,h.z2_1,h.f2_1,h.z2_2,h.f2_2,h.z2_3,h.f2_3,h.z2_4,h.f2_4,h.z2_5,h.f2_5,h.size,h.below.drew⟩
theorem B2.call {w0 W:World} {n:Nat} {s t:D} {W':World} (h:B2 w0 W n s t) (hb:Below W.heap.size W W'):B2 w0 W' n s t:=by
 have z:=h.size;have z':=hb.size;have hc:∀b o,b<W.heap.size→W'.cell? ⟨b,o,none⟩=W.cell? ⟨b,o,none⟩:=fun b o h=>hb.cell (p:=⟨b,o,none⟩) h;have hf:∀b o,b<W.heap.size→W'.frozen? ⟨b,o,none⟩=W.frozen? ⟨b,o,none⟩:=fun b o h=>hb.frozen (p:=⟨b,o,none⟩) h
 have l0:n<W.heap.size:=by omega
 have l1:n+1<W.heap.size:=by omega
 have l2:n+1+1<W.heap.size:=by omega
 exact ⟨(hc _ _ l0).trans h.r0_0,(hc _ _ l0).trans h.r0_1,(hc _ _ l0).trans h.r0_2,(hc _ _ l0).trans h.r0_3,(hc _ _ l0).trans h.r0_4,(hc _ _ l0).trans h.r0_5,(hc _ _ l1).trans h.r1_0,(hc _ _ l1).trans h.r1_1,(hc _ _ l1).trans h.r1_2,(hc _ _ l1).trans h.r1_3,(hc _ _ l1).trans h.r1_4,(hc _ _ l1).trans h.r1_5,(hc _ _ l2).trans h.z2_0,(hf _ _ l2).trans h.f2_0,(hc _ _ l2).trans h.z2_1,(hf _ _ l2).trans h.f2_1,(hc _ _ l2).trans h.z2_2,(hf _ _ l2).trans h.f2_2,(hc _ _ l2).trans h.z2_3,(hf _ _ l2).trans h.f2_3,(hc _ _ l2).trans h.z2_4,(hf _ _ l2).trans h.f2_4,(hc _ _ l2).trans h.z2_5,(hf _ _ l2).trans h.f2_5,by omega,h.below.trans (hb.mono (by omega))⟩
theorem B2.all {w0 W:World} {n:Nat} {s t:D} (h:B2 w0 W n s t):W.cell? ⟨n,0,none⟩=some (.int .i64 s.a)∧W.cell? ⟨n,1,none⟩=some (.int .i64 s.b)∧W.cell? ⟨n,2,none⟩=some (.int .i64 s.c)∧W.cell? ⟨n,3,none⟩=some (.int .i64 s.d)∧W.cell? ⟨n,4,none⟩=some (.int .i64 s.e)∧W.cell? ⟨n,5,none⟩=some (.int .i64 s.f)∧W.cell? ⟨n+1,0,none⟩=some (.int .i64 t.a)∧W.cell? ⟨n+1,1,none⟩=some (.int .i64 t.b)∧W.cell? ⟨n+1,2,none⟩=some (.int .i64 t.c)∧W.cell? ⟨n+1,3,none⟩=some (.int .i64 t.d)∧W.cell? ⟨n+1,4,none⟩=some (.int .i64 t.e)∧W.cell? ⟨n+1,5,none⟩=some (.int .i64 t.f):=
 ⟨h.r0_0,h.r0_1,h.r0_2,h.r0_3,h.r0_4,h.r0_5,h.r1_0,h.r1_1,h.r1_2,h.r1_3,h.r1_4,h.r1_5⟩
theorem B2.set6_2 {w0 W:World} {n:Nat} {s t:D} (h:B2 w0 W n s t) (u0 u1 u2 u3 u4 u5:Value):((((((W.setCell ⟨n+1+1,0,none⟩ u0).setCell ⟨n+1+1,1,none⟩ u1).setCell ⟨n+1+1,2,none⟩ u2).setCell ⟨n+1+1,3,none⟩ u3).setCell ⟨n+1+1,4,none⟩ u4).setCell ⟨n+1+1,5,none⟩ u5).cell? ⟨n,0,none⟩=some (.int .i64 s.a)∧((((((W.setCell ⟨n+1+1,0,none⟩ u0).setCell ⟨n+1+1,1,none⟩ u1).setCell ⟨n+1+1,2,none⟩ u2).setCell ⟨n+1+1,3,none⟩ u3).setCell ⟨n+1+1,4,none⟩ u4).setCell ⟨n+1+1,5,none⟩ u5).cell? ⟨n,1,none⟩=some (.int .i64 s.b)∧((((((W.setCell ⟨n+1+1,0,none⟩ u0).setCell ⟨n+1+1,1,none⟩ u1).setCell ⟨n+1+1,2,none⟩ u2).setCell ⟨n+1+1,3,none⟩ u3).setCell ⟨n+1+1,4,none⟩ u4).setCell ⟨n+1+1,5,none⟩ u5).cell? ⟨n,2,none⟩=some (.int .i64 s.c)∧((((((W.setCell ⟨n+1+1,0,none⟩ u0).setCell ⟨n+1+1,1,none⟩ u1).setCell ⟨n+1+1,2,none⟩ u2).setCell ⟨n+1+1,3,none⟩ u3).setCell ⟨n+1+1,4,none⟩ u4).setCell ⟨n+1+1,5,none⟩ u5).cell? ⟨n,3,none⟩=some (.int .i64 s.d)∧((((((W.setCell ⟨n+1+1,0,none⟩ u0).setCell ⟨n+1+1,1,none⟩ u1).setCell ⟨n+1+1,2,none⟩ u2).setCell ⟨n+1+1,3,none⟩ u3).setCell ⟨n+1+1,4,none⟩ u4).setCell ⟨n+1+1,5,none⟩ u5).cell? ⟨n,4,none⟩=some (.int .i64 s.e)∧((((((W.setCell ⟨n+1+1,0,none⟩ u0).setCell ⟨n+1+1,1,none⟩ u1).setCell ⟨n+1+1,2,none⟩ u2).setCell ⟨n+1+1,3,none⟩ u3).setCell ⟨n+1+1,4,none⟩ u4).setCell ⟨n+1+1,5,none⟩ u5).cell? ⟨n,5,none⟩=some (.int .i64 s.f)∧((((((W.setCell ⟨n+1+1,0,none⟩ u0).setCell ⟨n+1+1,1,none⟩ u1).setCell ⟨n+1+1,2,none⟩ u2).setCell ⟨n+1+1,3,none⟩ u3).setCell ⟨n+1+1,4,none⟩ u4).setCell ⟨n+1+1,5,none⟩ u5).cell? ⟨n+1,0,none⟩=some (.int .i64 t.a)∧((((((W.setCell ⟨n+1+1,0,none⟩ u0).setCell ⟨n+1+1,1,none⟩ u1).setCell ⟨n+1+1,2,none⟩ u2).setCell ⟨n+1+1,3,none⟩ u3).setCell ⟨n+1+1,4,none⟩ u4).setCell ⟨n+1+1,5,none⟩ u5).cell? ⟨n+1,1,none⟩=some (.int .i64 t.b)∧((((((W.setCell ⟨n+1+1,0,none⟩ u0).setCell ⟨n+1+1,1,none⟩ u1).setCell ⟨n+1+1,2,none⟩ u2).setCell ⟨n+1+1,3,none⟩ u3).setCell ⟨n+1+1,4,none⟩ u4).setCell ⟨n+1+1,5,none⟩ u5).cell? ⟨n+1,2,none⟩=some (.int .i64 t.c)∧((((((W.setCell ⟨n+1+1,0,none⟩ u0).setCell ⟨n+1+1,1,none⟩ u1).setCell ⟨n+1+1,2,none⟩ u2).setCell ⟨n+1+1,3,none⟩ u3).setCell ⟨n+1+1,4,none⟩ u4).setCell ⟨n+1+1,5,none⟩ u5).cell? ⟨n+1,3,none⟩=some (.int .i64 t.d)∧((((((W.setCell ⟨n+1+1,0,none⟩ u0).setCell ⟨n+1+1,1,none⟩ u1).setCell ⟨n+1+1,2,none⟩ u2).setCell ⟨n+1+1,3,none⟩ u3).setCell ⟨n+1+1,4,none⟩ u4).setCell ⟨n+1+1,5,none⟩ u5).cell? ⟨n+1,4,none⟩=some (.int .i64 t.e)∧((((((W.setCell ⟨n+1+1,0,none⟩ u0).setCell ⟨n+1+1,1,none⟩ u1).setCell ⟨n+1+1,2,none⟩ u2).setCell ⟨n+1+1,3,none⟩ u3).setCell ⟨n+1+1,4,none⟩ u4).setCell ⟨n+1+1,5,none⟩ u5).cell? ⟨n+1,5,none⟩=some (.int .i64 t.f):=by
 have n0:¬(n=n+1+1):=by omega
 have n1:¬(n+1=n+1+1):=by omega
 exact ⟨(fset (fset (fset (fset (fset (fset h.r0_0 n0) n0) n0) n0) n0) n0),(fset (fset (fset (fset (fset (fset h.r0_1 n0) n0) n0) n0) n0) n0),(fset (fset (fset (fset (fset (fset h.r0_2 n0) n0) n0) n0) n0) n0),(fset (fset (fset (fset (fset (fset h.r0_3 n0) n0) n0) n0) n0) n0),(fset (fset (fset (fset (fset (fset h.r0_4 n0) n0) n0) n0) n0) n0),(fset (fset (fset (fset (fset (fset h.r0_5 n0) n0) n0) n0) n0) n0),(fset (fset (fset (fset (fset (fset h.r1_0 n1) n1) n1) n1) n1) n1),(fset (fset (fset (fset (fset (fset h.r1_1 n1) n1) n1) n1) n1) n1),(fset (fset (fset (fset (fset (fset h.r1_2 n1) n1) n1) n1) n1) n1),(fset (fset (fset (fset (fset (fset h.r1_3 n1) n1) n1) n1) n1) n1),(fset (fset (fset (fset (fset (fset h.r1_4 n1) n1) n1) n1) n1) n1),(fset (fset (fset (fset (fset (fset h.r1_5 n1) n1) n1) n1) n1) n1)⟩
theorem B2.fin6_2 {w0 W:World} {n:Nat} {s t:D} (h:B2 w0 W n s t) (u0 u1 u2 u3 u4 u5:Int):((((((W.setCell ⟨n+1+1,0,none⟩ (.int .i64 u0)).setCell ⟨n+1+1,1,none⟩ (.int .i64 u1)).setCell ⟨n+1+1,2,none⟩ (.int .i64 u2)).setCell ⟨n+1+1,3,none⟩ (.int .i64 u3)).setCell ⟨n+1+1,4,none⟩ (.int .i64 u4)).setCell ⟨n+1+1,5,none⟩ (.int .i64 u5)).cell? ⟨n+1+1,0,none⟩=some (.int .i64 u0)∧((((((W.setCell ⟨n+1+1,0,none⟩ (.int .i64 u0)).setCell ⟨n+1+1,1,none⟩ (.int .i64 u1)).setCell ⟨n+1+1,2,none⟩ (.int .i64 u2)).setCell ⟨n+1+1,3,none⟩ (.int .i64 u3)).setCell ⟨n+1+1,4,none⟩ (.int .i64 u4)).setCell ⟨n+1+1,5,none⟩ (.int .i64 u5)).cell? ⟨n+1+1,1,none⟩=some (.int .i64 u1)∧((((((W.setCell ⟨n+1+1,0,none⟩ (.int .i64 u0)).setCell ⟨n+1+1,1,none⟩ (.int .i64 u1)).setCell ⟨n+1+1,2,none⟩ (.int .i64 u2)).setCell ⟨n+1+1,3,none⟩ (.int .i64 u3)).setCell ⟨n+1+1,4,none⟩ (.int .i64 u4)).setCell ⟨n+1+1,5,none⟩ (.int .i64 u5)).cell? ⟨n+1+1,2,none⟩=some (.int .i64 u2)∧((((((W.setCell ⟨n+1+1,0,none⟩ (.int .i64 u0)).setCell ⟨n+1+1,1,none⟩ (.int .i64 u1)).setCell ⟨n+1+1,2,none⟩ (.int .i64 u2)).setCell ⟨n+1+1,3,none⟩ (.int .i64 u3)).setCell ⟨n+1+1,4,none⟩ (.int .i64 u4)).setCell ⟨n+1+1,5,none⟩ (.int .i64 u5)).cell? ⟨n+1+1,3,none⟩=some (.int .i64 u3)∧((((((W.setCell ⟨n+1+1,0,none⟩ (.int .i64 u0)).setCell ⟨n+1+1,1,none⟩ (.int .i64 u1)).setCell ⟨n+1+1,2,none⟩ (.int .i64 u2)).setCell ⟨n+1+1,3,none⟩ (.int .i64 u3)).setCell ⟨n+1+1,4,none⟩ (.int .i64 u4)).setCell ⟨n+1+1,5,none⟩ (.int .i64 u5)).cell? ⟨n+1+1,4,none⟩=some (.int .i64 u4)∧((((((W.setCell ⟨n+1+1,0,none⟩ (.int .i64 u0)).setCell ⟨n+1+1,1,none⟩ (.int .i64 u1)).setCell ⟨n+1+1,2,none⟩ (.int .i64 u2)).setCell ⟨n+1+1,3,none⟩ (.int .i64 u3)).setCell ⟨n+1+1,4,none⟩ (.int .i64 u4)).setCell ⟨n+1+1,5,none⟩ (.int .i64 u5)).cell? ⟨n+1+1,5,none⟩=some (.int .i64 u5)∧Below n w0 ((((((W.setCell ⟨n+1+1,0,none⟩ (.int .i64 u0)).setCell ⟨n+1+1,1,none⟩ (.int .i64 u1)).setCell ⟨n+1+1,2,none⟩ (.int .i64 u2)).setCell ⟨n+1+1,3,none⟩ (.int .i64 u3)).setCell ⟨n+1+1,4,none⟩ (.int .i64 u4)).setCell ⟨n+1+1,5,none⟩ (.int .i64 u5)):=by
 have b:=h.below;have z0:=h.z2_0;have z1:=h.z2_1;have z2:=h.z2_2;have z3:=h.z2_3;have z4:=h.z2_4;have z5:=h.z2_5;clear h;refine ⟨?_,?_,?_,?_,?_,?_,((((((b.setCell (by dsimp only;omega) _).setCell (by dsimp only;omega) _).setCell (by dsimp only;omega) _).setCell (by dsimp only;omega) _).setCell (by dsimp only;omega) _).setCell (by dsimp only;omega) _)⟩<;>simp [go_sem, *]
structure B3 (w0 W:World) (n:Nat) (s:D) (a b:Int):Prop where
 r0_0:W.cell? ⟨n,0,none⟩=some (.int .i64 s.a)
 r0_1:W.cell? ⟨n,1,none⟩=some (.int .i64 s.b)
 r0_2:W.cell? ⟨n,2,none⟩=some (.int .i64 s.c)
 r0_3:W.cell? ⟨n,3,none⟩=some (.int .i64 s.d)
 r0_4:W.cell? ⟨n,4,none⟩=some (.int .i64 s.e)
 r0_5:W.cell? ⟨n,5,none⟩=some (.int .i64 s.f)
 r1_0:W.cell? ⟨n+1,0,none⟩=some (.int .i64 a)
 r1_1:W.cell? ⟨n+1,1,none⟩=some (.int .i64 b)
 z2_0:W.cell? ⟨n+1+1,0,none⟩=some (.int .i64 0)
 f2_0:W.frozen? ⟨n+1+1,0,none⟩=false
 z2_1:W.cell? ⟨n+1+1,1,none⟩=some (.int .i64 0)
 f2_1:W.frozen? ⟨n+1+1,1,none⟩=false
 z2_2:W.cell? ⟨n+1+1,2,none⟩=some (.int .i64 0)
 f2_2:W.frozen? ⟨n+1+1,2,none⟩=false
 z2_3:W.cell? ⟨n+1+1,3,none⟩=some (.int .i64 0)
 f2_3:W.frozen? ⟨n+1+1,3,none⟩=false
 z2_4:W.cell? ⟨n+1+1,4,none⟩=some (.int .i64 0)
 f2_4:W.frozen? ⟨n+1+1,4,none⟩=false
 z2_5:W.cell? ⟨n+1+1,5,none⟩=some (.int .i64 0)
 f2_5:W.frozen? ⟨n+1+1,5,none⟩=false
 size:n+1+1<W.heap.size
 below:Below n w0 W
theorem B3.al0 {w0 W:World} {n:Nat} {s:D} {a b:Int} (h:B3 w0 W n s a b):(W.cell? ⟨n,0,none⟩=some (.int .i64 s.a))∧(W.cell? ⟨n,1,none⟩=some (.int .i64 s.b))∧(W.cell? ⟨n,2,none⟩=some (.int .i64 s.c))∧(W.cell? ⟨n,3,none⟩=some (.int .i64 s.d))∧(W.cell? ⟨n,4,none⟩=some (.int .i64 s.e))∧(W.cell? ⟨n,5,none⟩=some (.int .i64 s.f))∧(W.cell? ⟨n+1,0,none⟩=some (.int .i64 a))∧(W.cell? ⟨n+1,1,none⟩=some (.int .i64 b))∧(W.cell? ⟨n+1+1,0,none⟩=some (.int .i64 0))∧(W.frozen? ⟨n+1+1,0,none⟩=false)∧(W.cell? ⟨n+1+1,1,none⟩=some (.int .i64 0))∧(W.frozen? ⟨n+1+1,1,none⟩=false)∧(W.cell? ⟨n+1+1,2,none⟩=some (.int .i64 0))∧(W.frozen? ⟨n+1+1,2,none⟩=false)∧(W.cell? ⟨n+1+1,3,none⟩=some (.int .i64 0))∧(W.frozen? ⟨n+1+1,3,none⟩=false)∧(W.cell? ⟨n+1+1,4,none⟩=some (.int .i64 0))∧(W.frozen? ⟨n+1+1,4,none⟩=false)∧(W.cell? ⟨n+1+1,5,none⟩=some (.int .i64 0))∧(W.frozen? ⟨n+1+1,5,none⟩=false)∧(n+1+1<W.heap.size):=⟨h.r0_0,h.r0_1,h.r0_2,h.r0_3,h.r0_4,h.r0_5,h.r1_0,h.r1_1,h.z2_0,h.f2_0,h.z2_1,h.f2_1,h.z2_2,h.f2_2,h.z2_3,h.f2_3,h.z2_4,h.f2_4,h.z2_5,h.f2_5,h.size⟩
theorem B3.drew {w0 W:World} {n:Nat} {s:D} {a b:Int} (h:B3 w0 W n s a b):B3 w0 W.drew n s a b:=
 ⟨h.r0_0,h.r0_1,h.r0_2,h.r0_3,h.r0_4,h.r0_5,h.r1_0,h.r1_1,h.z2_0,h.f2_0,h.z2_1,h.f2_1,h.z2_2,h.f2_2,h.z2_3,h.f2_3,h.z2_4,h.f2_4,h.z2_5,h.f2_5,h.size,h.below.drew⟩
theorem B3.call {w0 W:World} {n:Nat} {s:D} {a b:Int} {W':World} (h:B3 w0 W n s a b) (hb:Below W.heap.size W W'):B3 w0 W' n s a b:=by
 have z:=h.size;have z':=hb.size;have hc:∀b o,b<W.heap.size→W'.cell? ⟨b,o,none⟩=W.cell? ⟨b,o,none⟩:=fun b o h=>hb.cell (p:=⟨b,o,none⟩) h;have hf:∀b o,b<W.heap.size→W'.frozen? ⟨b,o,none⟩=W.frozen? ⟨b,o,none⟩:=fun b o h=>hb.frozen (p:=⟨b,o,none⟩) h
 have l0:n<W.heap.size:=by omega
 have l1:n+1<W.heap.size:=by omega
 have l2:n+1+1<W.heap.size:=by omega
 exact ⟨(hc _ _ l0).trans h.r0_0,(hc _ _ l0).trans h.r0_1,(hc _ _ l0).trans h.r0_2,(hc _ _ l0).trans h.r0_3,(hc _ _ l0).trans h.r0_4,(hc _ _ l0).trans h.r0_5,(hc _ _ l1).trans h.r1_0,(hc _ _ l1).trans h.r1_1,(hc _ _ l2).trans h.z2_0,(hf _ _ l2).trans h.f2_0,(hc _ _ l2).trans h.z2_1,(hf _ _ l2).trans h.f2_1,(hc _ _ l2).trans h.z2_2,(hf _ _ l2).trans h.f2_2,(hc _ _ l2).trans h.z2_3,(hf _ _ l2).trans h.f2_3,(hc _ _ l2).trans h.z2_4,(hf _ _ l2).trans h.f2_4,(hc _ _ l2).trans h.z2_5,(hf _ _ l2).trans h.f2_5,by omega,h.below.trans (hb.mono (by omega))⟩
theorem B3.all {w0 W:World} {n:Nat} {s:D} {a b:Int} (h:B3 w0 W n s a b):W.cell? ⟨n,0,none⟩=some (.int .i64 s.a)∧W.cell? ⟨n,1,none⟩=some (.int .i64 s.b)∧W.cell? ⟨n,2,none⟩=some (.int .i64 s.c)∧W.cell? ⟨n,3,none⟩=some (.int .i64 s.d)∧W.cell? ⟨n,4,none⟩=some (.int .i64 s.e)∧W.cell? ⟨n,5,none⟩=some (.int .i64 s.f)∧W.cell? ⟨n+1,0,none⟩=some (.int .i64 a)∧W.cell? ⟨n+1,1,none⟩=some (.int .i64 b):=
 ⟨h.r0_0,h.r0_1,h.r0_2,h.r0_3,h.r0_4,h.r0_5,h.r1_0,h.r1_1⟩
theorem B3.set6_2 {w0 W:World} {n:Nat} {s:D} {a b:Int} (h:B3 w0 W n s a b) (u0 u1 u2 u3 u4 u5:Value):((((((W.setCell ⟨n+1+1,0,none⟩ u0).setCell ⟨n+1+1,1,none⟩ u1).setCell ⟨n+1+1,2,none⟩ u2).setCell ⟨n+1+1,3,none⟩ u3).setCell ⟨n+1+1,4,none⟩ u4).setCell ⟨n+1+1,5,none⟩ u5).cell? ⟨n,0,none⟩=some (.int .i64 s.a)∧((((((W.setCell ⟨n+1+1,0,none⟩ u0).setCell ⟨n+1+1,1,none⟩ u1).setCell ⟨n+1+1,2,none⟩ u2).setCell ⟨n+1+1,3,none⟩ u3).setCell ⟨n+1+1,4,none⟩ u4).setCell ⟨n+1+1,5,none⟩ u5).cell? ⟨n,1,none⟩=some (.int .i64 s.b)∧((((((W.setCell ⟨n+1+1,0,none⟩ u0).setCell ⟨n+1+1,1,none⟩ u1).setCell ⟨n+1+1,2,none⟩ u2).setCell ⟨n+1+1,3,none⟩ u3).setCell ⟨n+1+1,4,none⟩ u4).setCell ⟨n+1+1,5,none⟩ u5).cell? ⟨n,2,none⟩=some (.int .i64 s.c)∧((((((W.setCell ⟨n+1+1,0,none⟩ u0).setCell ⟨n+1+1,1,none⟩ u1).setCell ⟨n+1+1,2,none⟩ u2).setCell ⟨n+1+1,3,none⟩ u3).setCell ⟨n+1+1,4,none⟩ u4).setCell ⟨n+1+1,5,none⟩ u5).cell? ⟨n,3,none⟩=some (.int .i64 s.d)∧((((((W.setCell ⟨n+1+1,0,none⟩ u0).setCell ⟨n+1+1,1,none⟩ u1).setCell ⟨n+1+1,2,none⟩ u2).setCell ⟨n+1+1,3,none⟩ u3).setCell ⟨n+1+1,4,none⟩ u4).setCell ⟨n+1+1,5,none⟩ u5).cell? ⟨n,4,none⟩=some (.int .i64 s.e)∧((((((W.setCell ⟨n+1+1,0,none⟩ u0).setCell ⟨n+1+1,1,none⟩ u1).setCell ⟨n+1+1,2,none⟩ u2).setCell ⟨n+1+1,3,none⟩ u3).setCell ⟨n+1+1,4,none⟩ u4).setCell ⟨n+1+1,5,none⟩ u5).cell? ⟨n,5,none⟩=some (.int .i64 s.f)∧((((((W.setCell ⟨n+1+1,0,none⟩ u0).setCell ⟨n+1+1,1,none⟩ u1).setCell ⟨n+1+1,2,none⟩ u2).setCell ⟨n+1+1,3,none⟩ u3).setCell ⟨n+1+1,4,none⟩ u4).setCell ⟨n+1+1,5,none⟩ u5).cell? ⟨n+1,0,none⟩=some (.int .i64 a)∧((((((W.setCell ⟨n+1+1,0,none⟩ u0).setCell ⟨n+1+1,1,none⟩ u1).setCell ⟨n+1+1,2,none⟩ u2).setCell ⟨n+1+1,3,none⟩ u3).setCell ⟨n+1+1,4,none⟩ u4).setCell ⟨n+1+1,5,none⟩ u5).cell? ⟨n+1,1,none⟩=some (.int .i64 b):=by
 have n0:¬(n=n+1+1):=by omega
 have n1:¬(n+1=n+1+1):=by omega
 exact ⟨(fset (fset (fset (fset (fset (fset h.r0_0 n0) n0) n0) n0) n0) n0),(fset (fset (fset (fset (fset (fset h.r0_1 n0) n0) n0) n0) n0) n0),(fset (fset (fset (fset (fset (fset h.r0_2 n0) n0) n0) n0) n0) n0),(fset (fset (fset (fset (fset (fset h.r0_3 n0) n0) n0) n0) n0) n0),(fset (fset (fset (fset (fset (fset h.r0_4 n0) n0) n0) n0) n0) n0),(fset (fset (fset (fset (fset (fset h.r0_5 n0) n0) n0) n0) n0) n0),(fset (fset (fset (fset (fset (fset h.r1_0 n1) n1) n1) n1) n1) n1),(fset (fset (fset (fset (fset (fset h.r1_1 n1) n1) n1) n1) n1) n1)⟩
theorem B3.fin6_2 {w0 W:World} {n:Nat} {s:D} {a b:Int} (h:B3 w0 W n s a b) (u0 u1 u2 u3 u4 u5:Int):((((((W.setCell ⟨n+1+1,0,none⟩ (.int .i64 u0)).setCell ⟨n+1+1,1,none⟩ (.int .i64 u1)).setCell ⟨n+1+1,2,none⟩ (.int .i64 u2)).setCell ⟨n+1+1,3,none⟩ (.int .i64 u3)).setCell ⟨n+1+1,4,none⟩ (.int .i64 u4)).setCell ⟨n+1+1,5,none⟩ (.int .i64 u5)).cell? ⟨n+1+1,0,none⟩=some (.int .i64 u0)∧((((((W.setCell ⟨n+1+1,0,none⟩ (.int .i64 u0)).setCell ⟨n+1+1,1,none⟩ (.int .i64 u1)).setCell ⟨n+1+1,2,none⟩ (.int .i64 u2)).setCell ⟨n+1+1,3,none⟩ (.int .i64 u3)).setCell ⟨n+1+1,4,none⟩ (.int .i64 u4)).setCell ⟨n+1+1,5,none⟩ (.int .i64 u5)).cell? ⟨n+1+1,1,none⟩=some (.int .i64 u1)∧((((((W.setCell ⟨n+1+1,0,none⟩ (.int .i64 u0)).setCell ⟨n+1+1,1,none⟩ (.int .i64 u1)).setCell ⟨n+1+1,2,none⟩ (.int .i64 u2)).setCell ⟨n+1+1,3,none⟩ (.int .i64 u3)).setCell ⟨n+1+1,4,none⟩ (.int .i64 u4)).setCell ⟨n+1+1,5,none⟩ (.int .i64 u5)).cell? ⟨n+1+1,2,none⟩=some (.int .i64 u2)∧((((((W.setCell ⟨n+1+1,0,none⟩ (.int .i64 u0)).setCell ⟨n+1+1,1,none⟩ (.int .i64 u1)).setCell ⟨n+1+1,2,none⟩ (.int .i64 u2)).setCell ⟨n+1+1,3,none⟩ (.int .i64 u3)).setCell ⟨n+1+1,4,none⟩ (.int .i64 u4)).setCell ⟨n+1+1,5,none⟩ (.int .i64 u5)).cell? ⟨n+1+1,3,none⟩=some (.int .i64 u3)∧((((((W.setCell ⟨n+1+1,0,none⟩ (.int .i64 u0)).setCell ⟨n+1+1,1,none⟩ (.int .i64 u1)).setCell ⟨n+1+1,2,none⟩ (.int .i64 u2)).setCell ⟨n+1+1,3,none⟩ (.int .i64 u3)).setCell ⟨n+1+1,4,none⟩ (.int .i64 u4)).setCell ⟨n+1+1,5,none⟩ (.int .i64 u5)).cell? ⟨n+1+1,4,none⟩=some (.int .i64 u4)∧((((((W.setCell ⟨n+1+1,0,none⟩ (.int .i64 u0)).setCell ⟨n+1+1,1,none⟩ (.int .i64 u1)).setCell ⟨n+1+1,2,none⟩ (.int .i64 u2)).setCell ⟨n+1+1,3,none⟩ (.int .i64 u3)).setCell ⟨n+1+1,4,none⟩ (.int .i64 u4)).setCell ⟨n+1+1,5,none⟩ (.int .i64 u5)).cell? ⟨n+1+1,5,none⟩=some (.int .i64 u5)∧Below n w0 ((((((W.setCell ⟨n+1+1,0,none⟩ (.int .i64 u0)).setCell ⟨n+1+1,1,none⟩ (.int .i64 u1)).setCell ⟨n+1+1,2,none⟩ (.int .i64 u2)).setCell ⟨n+1+1,3,none⟩ (.int .i64 u3)).setCell ⟨n+1+1,4,none⟩ (.int .i64 u4)).setCell ⟨n+1+1,5,none⟩ (.int .i64 u5)):=by
 have b:=h.below;have z0:=h.z2_0;have z1:=h.z2_1;have z2:=h.z2_2;have z3:=h.z2_3;have z4:=h.z2_4;have z5:=h.z2_5;clear h;refine ⟨?_,?_,?_,?_,?_,?_,((((((b.setCell (by dsimp only;omega) _).setCell (by dsimp only;omega) _).setCell (by dsimp only;omega) _).setCell (by dsimp only;omega) _).setCell (by dsimp only;omega) _).setCell (by dsimp only;omega) _)⟩<;>simp [go_sem, *]
def addD (s t:D):RD:=if vD s=true∧vD t=true then comb (addR s.a s.b t.a t.b) (addR s.c s.d t.c t.d) (addR s.e s.f t.e t.f) else ⟨zD,1⟩
set_option maxRecDepth 100000 in
set_option maxHeartbeats 1000000 in
theorem dadd_any (s t:D) (w:World) :
  Calls Tryz.prog 77 #[dv s,dv t] w fun e w'=>e=retD (addD s t)∧Below w.heap.size w w':=by
 have I0:B2 w (((w.alloc (.cells #[.int .i64 s.a,.int .i64 s.b,.int .i64 s.c,.int .i64 s.d,.int .i64 s.e,.int .i64 s.f] 45)).alloc (.cells #[.int .i64 t.a,.int .i64 t.b,.int .i64 t.c,.int .i64 t.d,.int .i64 t.e,.int .i64 t.f] 45)).alloc (.cells #[.int .i64 0,.int .i64 0,.int .i64 0,.int .i64 0,.int .i64 0,.int .i64 0] 45)) w.heap.size s t:=by
  refine ⟨by simp [go_sem],by simp [go_sem],by simp [go_sem],by simp [go_sem],by simp [go_sem],by simp [go_sem],by simp [go_sem],by simp [go_sem],by simp [go_sem],by simp [go_sem],by simp [go_sem],by simp [go_sem],by simp [go_sem],by simp [go_sem],by simp [go_sem],by simp [go_sem],by simp [go_sem],by simp [go_sem],by simp [go_sem],by simp [go_sem],by simp [go_sem],by simp [go_sem],by simp [go_sem],by simp [go_sem],by simp,?_⟩
  ·repeat (first|exact Below.refl _ _|refine Below.alloc ?_ (by first|omega|(simp<;>omega)) _)
 cases hs:vD s
 ·rw [show addD s t=⟨zD,1⟩ from if_neg (by rw [hs];simp)];have HS:=Lib.hid hs;clear hs;go_enter Tryz.func77,Tryz.ntmps77
  go_wp2_with fail
  refine (dvalid_any s _).mono ?_;rintro e w1 ⟨rfl,hb⟩;rw [HS.out];have I1:=I0.call hb;clear hb;have I1al0:=I1.al0
  go_wp2_with fail
  have K:=I1.fin6_2 (0) (0) (0) (0) (0) (0);revert K;generalize ((((((w1.setCell ⟨w.heap.size+1+1,0,none⟩ (.int .i64 0)).setCell ⟨w.heap.size+1+1,1,none⟩ (.int .i64 0)).setCell ⟨w.heap.size+1+1,2,none⟩ (.int .i64 0)).setCell ⟨w.heap.size+1+1,3,none⟩ (.int .i64 0)).setCell ⟨w.heap.size+1+1,4,none⟩ (.int .i64 0)).setCell ⟨w.heap.size+1+1,5,none⟩ (.int .i64 0))=X;intro K;obtain ⟨k0,k1,k2,k3,k4,k5,kb⟩:=K;exact bodyPost_ret (v:=.tuple #[dv ⟨0,0,0,0,0,0⟩,.int .i64 1]) (by simp [results,Tryz.results77,go_sem,k0,k1,k2,k3,k4,k5]) rfl ⟨rfl,kb⟩
 ·cases ht:vD t
  ·rw [show addD s t=⟨zD,1⟩ from if_neg (by rw [ht];simp)];have HS:=Lib.hid hs;have HT:=Lib.hid ht;clear hs ht;go_enter Tryz.func77,Tryz.ntmps77
   go_wp2_with fail
   refine (dvalid_any s _).mono ?_;rintro e w1 ⟨rfl,hb⟩;rw [HS.out];have I1:=I0.call hb;clear hb;have I1al0:=I1.al0
   go_wp2_with fail
   refine (dvalid_any t _).mono ?_;rintro e w2 ⟨rfl,hb⟩;rw [HT.out];have I2:=I1.call hb;clear hb;clear I1al0;have I2al0:=I2.al0
   go_wp2_with fail
   have K:=I2.fin6_2 (0) (0) (0) (0) (0) (0);revert K;generalize ((((((w2.setCell ⟨w.heap.size+1+1,0,none⟩ (.int .i64 0)).setCell ⟨w.heap.size+1+1,1,none⟩ (.int .i64 0)).setCell ⟨w.heap.size+1+1,2,none⟩ (.int .i64 0)).setCell ⟨w.heap.size+1+1,3,none⟩ (.int .i64 0)).setCell ⟨w.heap.size+1+1,4,none⟩ (.int .i64 0)).setCell ⟨w.heap.size+1+1,5,none⟩ (.int .i64 0))=X;intro K;obtain ⟨k0,k1,k2,k3,k4,k5,kb⟩:=K;exact bodyPost_ret (v:=.tuple #[dv ⟨0,0,0,0,0,0⟩,.int .i64 1]) (by simp [results,Tryz.results77,go_sem,k0,k1,k2,k3,k4,k5]) rfl ⟨rfl,kb⟩
  ·rw [show addD s t=comb (addR s.a s.b t.a t.b) (addR s.c s.d t.c t.d) (addR s.e s.f t.e t.f) from if_pos ⟨hs,ht⟩];obtain ⟨⟨⟨d0,d1,d2,d3,d4,d5⟩,ee⟩,hd⟩:∃r:RD,comb (addR s.a s.b t.a t.b) (addR s.c s.d t.c t.d) (addR s.e s.f t.e t.f)=r:=⟨_,rfl⟩;have HD:=Lib.hid (show retD (comb (addR s.a s.b t.a t.b) (addR s.c s.d t.c t.d) (addR s.e s.f t.e t.f)) = .returned (.tuple #[.agg #[.int .i64 d0,.int .i64 d1,.int .i64 d2,.int .i64 d3,.int .i64 d4,.int .i64 d5],.int .i64 ee]) from by rw [hd]);rw [hd];clear hd;have HS:=Lib.hid hs;have HT:=Lib.hid ht;clear hs ht;go_enter Tryz.func77,Tryz.ntmps77
   go_wp2_with fail
   refine (dvalid_any s _).mono ?_;rintro e w1 ⟨rfl,hb⟩;rw [HS.out];have I1:=I0.call hb;clear hb;have I1al0:=I1.al0
   go_wp2_with fail
   refine (dvalid_any t _).mono ?_;rintro e w2 ⟨rfl,hb⟩;rw [HT.out];have I2:=I1.call hb;clear hb;clear I1al0;have I2al0:=I2.al0
   go_wp2_with fail
   refine (combine_add s t _).mono ?_;rintro e w3 ⟨rfl,hb⟩;rw [HD.out];have I3:=I2.call hb;clear hb;clear I2al0;have I3al0:=I3.al0
   go_wp2_with fail
   have K:=I3.fin6_2 (d0) (d1) (d2) (d3) (d4) (d5);revert K;generalize ((((((w3.setCell ⟨w.heap.size+1+1,0,none⟩ (.int .i64 d0)).setCell ⟨w.heap.size+1+1,1,none⟩ (.int .i64 d1)).setCell ⟨w.heap.size+1+1,2,none⟩ (.int .i64 d2)).setCell ⟨w.heap.size+1+1,3,none⟩ (.int .i64 d3)).setCell ⟨w.heap.size+1+1,4,none⟩ (.int .i64 d4)).setCell ⟨w.heap.size+1+1,5,none⟩ (.int .i64 d5))=X;intro K;obtain ⟨k0,k1,k2,k3,k4,k5,kb⟩:=K;exact bodyPost_ret (v:=.tuple #[dv ⟨d0,d1,d2,d3,d4,d5⟩,.int .i64 ee]) (by simp [results,Tryz.results77,go_sem,k0,k1,k2,k3,k4,k5]) rfl ⟨rfl,kb⟩
def subD (s t:D):RD:=if vD s=true∧vD t=true then comb (subR s.a s.b t.a t.b) (subR s.c s.d t.c t.d) (subR s.e s.f t.e t.f) else ⟨zD,1⟩
set_option maxRecDepth 100000 in
set_option maxHeartbeats 1000000 in
theorem dsub_any (s t:D) (w:World) :
  Calls Tryz.prog 114 #[dv s,dv t] w fun e w'=>e=retD (subD s t)∧Below w.heap.size w w':=by
 have I0:B2 w (((w.alloc (.cells #[.int .i64 s.a,.int .i64 s.b,.int .i64 s.c,.int .i64 s.d,.int .i64 s.e,.int .i64 s.f] 45)).alloc (.cells #[.int .i64 t.a,.int .i64 t.b,.int .i64 t.c,.int .i64 t.d,.int .i64 t.e,.int .i64 t.f] 45)).alloc (.cells #[.int .i64 0,.int .i64 0,.int .i64 0,.int .i64 0,.int .i64 0,.int .i64 0] 45)) w.heap.size s t:=by
  refine ⟨by simp [go_sem],by simp [go_sem],by simp [go_sem],by simp [go_sem],by simp [go_sem],by simp [go_sem],by simp [go_sem],by simp [go_sem],by simp [go_sem],by simp [go_sem],by simp [go_sem],by simp [go_sem],by simp [go_sem],by simp [go_sem],by simp [go_sem],by simp [go_sem],by simp [go_sem],by simp [go_sem],by simp [go_sem],by simp [go_sem],by simp [go_sem],by simp [go_sem],by simp [go_sem],by simp [go_sem],by simp,?_⟩
  ·repeat (first|exact Below.refl _ _|refine Below.alloc ?_ (by first|omega|(simp<;>omega)) _)
 cases hs:vD s
 ·rw [show subD s t=⟨zD,1⟩ from if_neg (by rw [hs];simp)];have HS:=Lib.hid hs;clear hs;go_enter Tryz.func114,Tryz.ntmps114
  go_wp2_with fail
  refine (dvalid_any s _).mono ?_;rintro e w1 ⟨rfl,hb⟩;rw [HS.out];have I1:=I0.call hb;clear hb;have I1al0:=I1.al0
  go_wp2_with fail
  have K:=I1.fin6_2 (0) (0) (0) (0) (0) (0);revert K;generalize ((((((w1.setCell ⟨w.heap.size+1+1,0,none⟩ (.int .i64 0)).setCell ⟨w.heap.size+1+1,1,none⟩ (.int .i64 0)).setCell ⟨w.heap.size+1+1,2,none⟩ (.int .i64 0)).setCell ⟨w.heap.size+1+1,3,none⟩ (.int .i64 0)).setCell ⟨w.heap.size+1+1,4,none⟩ (.int .i64 0)).setCell ⟨w.heap.size+1+1,5,none⟩ (.int .i64 0))=X;intro K;obtain ⟨k0,k1,k2,k3,k4,k5,kb⟩:=K;exact bodyPost_ret (v:=.tuple #[dv ⟨0,0,0,0,0,0⟩,.int .i64 1]) (by simp [results,Tryz.results114,go_sem,k0,k1,k2,k3,k4,k5]) rfl ⟨rfl,kb⟩
 ·cases ht:vD t
  ·rw [show subD s t=⟨zD,1⟩ from if_neg (by rw [ht];simp)];have HS:=Lib.hid hs;have HT:=Lib.hid ht;clear hs ht;go_enter Tryz.func114,Tryz.ntmps114
   go_wp2_with fail
   refine (dvalid_any s _).mono ?_;rintro e w1 ⟨rfl,hb⟩;rw [HS.out];have I1:=I0.call hb;clear hb;have I1al0:=I1.al0
   go_wp2_with fail
   refine (dvalid_any t _).mono ?_;rintro e w2 ⟨rfl,hb⟩;rw [HT.out];have I2:=I1.call hb;clear hb;clear I1al0;have I2al0:=I2.al0
   go_wp2_with fail
   have K:=I2.fin6_2 (0) (0) (0) (0) (0) (0);revert K;generalize ((((((w2.setCell ⟨w.heap.size+1+1,0,none⟩ (.int .i64 0)).setCell ⟨w.heap.size+1+1,1,none⟩ (.int .i64 0)).setCell ⟨w.heap.size+1+1,2,none⟩ (.int .i64 0)).setCell ⟨w.heap.size+1+1,3,none⟩ (.int .i64 0)).setCell ⟨w.heap.size+1+1,4,none⟩ (.int .i64 0)).setCell ⟨w.heap.size+1+1,5,none⟩ (.int .i64 0))=X;intro K;obtain ⟨k0,k1,k2,k3,k4,k5,kb⟩:=K;exact bodyPost_ret (v:=.tuple #[dv ⟨0,0,0,0,0,0⟩,.int .i64 1]) (by simp [results,Tryz.results114,go_sem,k0,k1,k2,k3,k4,k5]) rfl ⟨rfl,kb⟩
  ·rw [show subD s t=comb (subR s.a s.b t.a t.b) (subR s.c s.d t.c t.d) (subR s.e s.f t.e t.f) from if_pos ⟨hs,ht⟩];obtain ⟨⟨⟨d0,d1,d2,d3,d4,d5⟩,ee⟩,hd⟩:∃r:RD,comb (subR s.a s.b t.a t.b) (subR s.c s.d t.c t.d) (subR s.e s.f t.e t.f)=r:=⟨_,rfl⟩;have HD:=Lib.hid (show retD (comb (subR s.a s.b t.a t.b) (subR s.c s.d t.c t.d) (subR s.e s.f t.e t.f)) = .returned (.tuple #[.agg #[.int .i64 d0,.int .i64 d1,.int .i64 d2,.int .i64 d3,.int .i64 d4,.int .i64 d5],.int .i64 ee]) from by rw [hd]);rw [hd];clear hd;have HS:=Lib.hid hs;have HT:=Lib.hid ht;clear hs ht;go_enter Tryz.func114,Tryz.ntmps114
   go_wp2_with fail
   refine (dvalid_any s _).mono ?_;rintro e w1 ⟨rfl,hb⟩;rw [HS.out];have I1:=I0.call hb;clear hb;have I1al0:=I1.al0
   go_wp2_with fail
   refine (dvalid_any t _).mono ?_;rintro e w2 ⟨rfl,hb⟩;rw [HT.out];have I2:=I1.call hb;clear hb;clear I1al0;have I2al0:=I2.al0
   go_wp2_with fail
   refine (combine_sub s t _).mono ?_;rintro e w3 ⟨rfl,hb⟩;rw [HD.out];have I3:=I2.call hb;clear hb;clear I2al0;have I3al0:=I3.al0
   go_wp2_with fail
   have K:=I3.fin6_2 (d0) (d1) (d2) (d3) (d4) (d5);revert K;generalize ((((((w3.setCell ⟨w.heap.size+1+1,0,none⟩ (.int .i64 d0)).setCell ⟨w.heap.size+1+1,1,none⟩ (.int .i64 d1)).setCell ⟨w.heap.size+1+1,2,none⟩ (.int .i64 d2)).setCell ⟨w.heap.size+1+1,3,none⟩ (.int .i64 d3)).setCell ⟨w.heap.size+1+1,4,none⟩ (.int .i64 d4)).setCell ⟨w.heap.size+1+1,5,none⟩ (.int .i64 d5))=X;intro K;obtain ⟨k0,k1,k2,k3,k4,k5,kb⟩:=K;exact bodyPost_ret (v:=.tuple #[dv ⟨d0,d1,d2,d3,d4,d5⟩,.int .i64 ee]) (by simp [results,Tryz.results114,go_sem,k0,k1,k2,k3,k4,k5]) rfl ⟨rfl,kb⟩
def scaleD (s:D) (a b:Int):RD:=if vD s=true∧vB a b=true then comb (mulR s.a s.b a b) (mulR s.c s.d a b) (mulR s.e s.f a b) else ⟨zD,1⟩
set_option maxRecDepth 100000 in
set_option maxHeartbeats 1000000 in
theorem dscale_any (s:D) (a b:Int) (w:World) :
  Calls Tryz.prog 76 #[dv s,iv a b] w fun e w'=>e=retD (scaleD s a b)∧Below w.heap.size w w':=by
 have I0:B3 w (((w.alloc (.cells #[.int .i64 s.a,.int .i64 s.b,.int .i64 s.c,.int .i64 s.d,.int .i64 s.e,.int .i64 s.f] 45)).alloc (.cells #[.int .i64 a,.int .i64 b] 25)).alloc (.cells #[.int .i64 0,.int .i64 0,.int .i64 0,.int .i64 0,.int .i64 0,.int .i64 0] 45)) w.heap.size s a b:=by
  refine ⟨by simp [go_sem],by simp [go_sem],by simp [go_sem],by simp [go_sem],by simp [go_sem],by simp [go_sem],by simp [go_sem],by simp [go_sem],by simp [go_sem],by simp [go_sem],by simp [go_sem],by simp [go_sem],by simp [go_sem],by simp [go_sem],by simp [go_sem],by simp [go_sem],by simp [go_sem],by simp [go_sem],by simp [go_sem],by simp [go_sem],by simp,?_⟩
  ·repeat (first|exact Below.refl _ _|refine Below.alloc ?_ (by first|omega|(simp<;>omega)) _)
 cases hs:vD s
 ·rw [show scaleD s a b=⟨zD,1⟩ from if_neg (by rw [hs];simp)];have HS:=Lib.hid hs;clear hs;go_enter Tryz.func76,Tryz.ntmps76
  go_wp2_with fail
  refine (dvalid_any s _).mono ?_;rintro e w1 ⟨rfl,hb⟩;rw [HS.out];have I1:=I0.call hb;clear hb;have I1al0:=I1.al0
  go_wp2_with fail
  have K:=I1.fin6_2 (0) (0) (0) (0) (0) (0);revert K;generalize ((((((w1.setCell ⟨w.heap.size+1+1,0,none⟩ (.int .i64 0)).setCell ⟨w.heap.size+1+1,1,none⟩ (.int .i64 0)).setCell ⟨w.heap.size+1+1,2,none⟩ (.int .i64 0)).setCell ⟨w.heap.size+1+1,3,none⟩ (.int .i64 0)).setCell ⟨w.heap.size+1+1,4,none⟩ (.int .i64 0)).setCell ⟨w.heap.size+1+1,5,none⟩ (.int .i64 0))=X;intro K;obtain ⟨k0,k1,k2,k3,k4,k5,kb⟩:=K;exact bodyPost_ret (v:=.tuple #[dv ⟨0,0,0,0,0,0⟩,.int .i64 1]) (by simp [results,Tryz.results76,go_sem,k0,k1,k2,k3,k4,k5]) rfl ⟨rfl,kb⟩
 ·cases ht:vB a b
  ·rw [show scaleD s a b=⟨zD,1⟩ from if_neg (by rw [ht];simp)];have HS:=Lib.hid hs;have HT:=Lib.hid ht;clear hs ht;go_enter Tryz.func76,Tryz.ntmps76
   go_wp2_with fail
   refine (dvalid_any s _).mono ?_;rintro e w1 ⟨rfl,hb⟩;rw [HS.out];have I1:=I0.call hb;clear hb;have I1al0:=I1.al0
   go_wp2_with fail
   refine (valid_any a b _).mono ?_;rintro e w2 ⟨rfl,hw2⟩;rw [HT.out]
   have hb:Below w1.heap.size w1 w2:=by rw [←hw2];exact (Below.refl _ _).alloc (Nat.le_refl _) _
   clear hw2;have I2:=I1.call hb;clear hb;clear I1al0;have I2al0:=I2.al0
   go_wp2_with fail
   have K:=I2.fin6_2 (0) (0) (0) (0) (0) (0);revert K;generalize ((((((w2.setCell ⟨w.heap.size+1+1,0,none⟩ (.int .i64 0)).setCell ⟨w.heap.size+1+1,1,none⟩ (.int .i64 0)).setCell ⟨w.heap.size+1+1,2,none⟩ (.int .i64 0)).setCell ⟨w.heap.size+1+1,3,none⟩ (.int .i64 0)).setCell ⟨w.heap.size+1+1,4,none⟩ (.int .i64 0)).setCell ⟨w.heap.size+1+1,5,none⟩ (.int .i64 0))=X;intro K;obtain ⟨k0,k1,k2,k3,k4,k5,kb⟩:=K;exact bodyPost_ret (v:=.tuple #[dv ⟨0,0,0,0,0,0⟩,.int .i64 1]) (by simp [results,Tryz.results76,go_sem,k0,k1,k2,k3,k4,k5]) rfl ⟨rfl,kb⟩
  ·rw [show scaleD s a b=comb (mulR s.a s.b a b) (mulR s.c s.d a b) (mulR s.e s.f a b) from if_pos ⟨hs,ht⟩];obtain ⟨⟨⟨d0,d1,d2,d3,d4,d5⟩,ee⟩,hd⟩:∃r:RD,comb (mulR s.a s.b a b) (mulR s.c s.d a b) (mulR s.e s.f a b)=r:=⟨_,rfl⟩;have HD:=Lib.hid (show retD (comb (mulR s.a s.b a b) (mulR s.c s.d a b) (mulR s.e s.f a b)) = .returned (.tuple #[.agg #[.int .i64 d0,.int .i64 d1,.int .i64 d2,.int .i64 d3,.int .i64 d4,.int .i64 d5],.int .i64 ee]) from by rw [hd]);rw [hd];clear hd;have HS:=Lib.hid hs;have HT:=Lib.hid ht;clear hs ht;go_enter Tryz.func76,Tryz.ntmps76
   go_wp2_with fail
   refine (dvalid_any s _).mono ?_;rintro e w1 ⟨rfl,hb⟩;rw [HS.out];have I1:=I0.call hb;clear hb;have I1al0:=I1.al0
   go_wp2_with fail
   refine (valid_any a b _).mono ?_;rintro e w2 ⟨rfl,hw2⟩;rw [HT.out]
   have hb:Below w1.heap.size w1 w2:=by rw [←hw2];exact (Below.refl _ _).alloc (Nat.le_refl _) _
   clear hw2;have I2:=I1.call hb;clear hb;clear I1al0;have I2al0:=I2.al0;have HC:=Lib.hid (fun w=>combine_mul s ⟨a,b,a,b,a,b⟩ w)
   go_wp2_with fail
   refine (HC.out _).mono ?_;rintro e w3 ⟨rfl,hb⟩;rw [HD.out];have I3:=I2.call hb;clear hb;clear I2al0;have I3al0:=I3.al0
   go_wp2_with fail
   have K:=I3.fin6_2 (d0) (d1) (d2) (d3) (d4) (d5);revert K;generalize ((((((w3.setCell ⟨w.heap.size+1+1,0,none⟩ (.int .i64 d0)).setCell ⟨w.heap.size+1+1,1,none⟩ (.int .i64 d1)).setCell ⟨w.heap.size+1+1,2,none⟩ (.int .i64 d2)).setCell ⟨w.heap.size+1+1,3,none⟩ (.int .i64 d3)).setCell ⟨w.heap.size+1+1,4,none⟩ (.int .i64 d4)).setCell ⟨w.heap.size+1+1,5,none⟩ (.int .i64 d5))=X;intro K;obtain ⟨k0,k1,k2,k3,k4,k5,kb⟩:=K;exact bodyPost_ret (v:=.tuple #[dv ⟨d0,d1,d2,d3,d4,d5⟩,.int .i64 ee]) (by simp [results,Tryz.results76,go_sem,k0,k1,k2,k3,k4,k5]) rfl ⟨rfl,kb⟩
end Go.Proofs.YtiecdgcdcpmgaaaGreat.Iv

/- Contracts of package direction's scalar product: sum, number, Dot. -/
namespace Go.Proofs.YtiecdgcdcpmgaaaGreat.Iv
open Go.RowKit
theorem Step.then {B c:Nat} {E E':Int} {w w1 w2:World} (h:Step B w c E w1) (k:Step B w1 c E' w2):Step B w c E' w2:=
 ⟨k.cell,fun b o hb hn=>(k.other b o (Nat.lt_of_lt_of_le hb h.size) hn).trans (h.other b o hb hn),fun b o hb=>(k.frozen b o (Nat.lt_of_lt_of_le hb h.size)).trans (h.frozen b o hb),Nat.le_trans h.size k.size,fun h1 h2=>(h.below h1 h2).trans (k.below h1 (Nat.le_trans h2 h.size))⟩
theorem Step.start {B c:Nat} {E:Int} {w w1:World} (hb:Below w.heap.size w w1) (hc:w.cell? ⟨c,0,none⟩=some (.int .i64 E)):Step B w c E w1:=by
 have hlt:c<w.heap.size:=World.block_lt_of_cell? w _ hc;exact ⟨(hb.cell (p:=⟨c,0,none⟩) hlt).trans hc,fun b o h _=>hb.cell (p:=⟨b,o,none⟩) h,fun b o h=>hb.frozen (p:=⟨b,o,none⟩) h,hb.size,fun _ h2=>hb.mono h2⟩
theorem Step.more {B c:Nat} {E:Int} {w w1 w2:World} (h:Step B w c E w1) (hc:c<w.heap.size) (hb:Below w.heap.size w1 w2):Step B w c E w2:=
 ⟨(hb.cell (p:=⟨c,0,none⟩) hc).trans h.cell,fun b o h1 h2=>(hb.cell (p:=⟨b,o,none⟩) h1).trans (h.other b o h1 h2),fun b o h1=>(hb.frozen (p:=⟨b,o,none⟩) h1).trans (h.frozen b o h1),Nat.le_trans h.size hb.size,fun h1 h2=>(h.below h1 h2).trans (hb.mono h2)⟩
set_option maxRecDepth 100000 in
theorem dnumber_any (c:Nat) (e a b:Int) (w:World) (hc:w.cell? ⟨c,0,none⟩=some (.int .i64 e)) :
  Calls Tryz.prog 94 #[.pointer (some ⟨c,0,none⟩),iv a b] w fun r w'=>r=retR (if e=0 then ⟨a,b,0⟩ else ⟨0,0,e⟩)∧Below w.heap.size w w':=by
 have hlt:c<w.heap.size:=World.block_lt_of_cell? w _ hc
 have q1:c<w.heap.size+1:=by omega
 have q2:c<w.heap.size+1+1:=by omega
 have n1:¬(c=w.heap.size):=by omega
 have n2:¬(c=w.heap.size+1):=by omega
 by_cases he:e=0
 ·subst he;rw [if_pos rfl];go_enter Tryz.func94,Tryz.ntmps94
  go_wp2_with fail
  exact bodyPost_ret (v:=.tuple #[iv a b,.int .i64 0]) (by simp [results,Tryz.results94,go_sem, *]) rfl ⟨rfl,(by repeat (first|exact Below.refl _ _|refine Below.drew ?_|refine below_drewN ?_ _|refine Below.setCell ?_ (by first|omega|(simp<;>omega)) _|refine Below.alloc ?_ (by first|omega|(simp<;>omega)) _))⟩
 ·rw [if_neg he]
  have he':(e == 0)=false:=by simpa using he
  go_enter Tryz.func94,Tryz.ntmps94
  go_wp2_with fail
  go_region
  all_goals go_wp2_with fail
  all_goals exact bodyPost_ret (v:=.tuple #[iv 0 0,.int .i64 e]) (by simp [results,Tryz.results94,go_sem, *]) rfl ⟨rfl,(by repeat (first|exact Below.refl _ _|refine Below.drew ?_|refine below_drewN ?_ _|refine Below.setCell ?_ (by first|omega|(simp<;>omega)) _|refine Below.alloc ?_ (by first|omega|(simp<;>omega)) _))⟩
def sumG (e:Int) (s:D):R:=goOn (goOn e (addR s.a s.b s.c s.d)).e (addR (goOn e (addR s.a s.b s.c s.d)).lo (goOn e (addR s.a s.b s.c s.d)).hi s.e s.f)
structure Sm (w0 W:World) (s:D) (B c:Nat) (E:Int):Prop where
 r0:W.cell? ⟨w0.heap.size,0,none⟩=some (.int .i64 s.a)
 r1:W.cell? ⟨w0.heap.size,1,none⟩=some (.int .i64 s.b)
 r2:W.cell? ⟨w0.heap.size,2,none⟩=some (.int .i64 s.c)
 r3:W.cell? ⟨w0.heap.size,3,none⟩=some (.int .i64 s.d)
 r4:W.cell? ⟨w0.heap.size,4,none⟩=some (.int .i64 s.e)
 r5:W.cell? ⟨w0.heap.size,5,none⟩=some (.int .i64 s.f)
 z0:W.cell? ⟨w0.heap.size+1,0,none⟩=some (.int .i64 0)
 f0:W.frozen? ⟨w0.heap.size+1,0,none⟩=false
 z1:W.cell? ⟨w0.heap.size+1,1,none⟩=some (.int .i64 0)
 f1:W.frozen? ⟨w0.heap.size+1,1,none⟩=false
 fE:W.frozen? ⟨c,0,none⟩=false
 lt:c<w0.heap.size
 size:w0.heap.size+1<W.heap.size
 st:Step B w0 c E W
theorem Sm.drew {w0 W:World} {s:D} {B c:Nat} {E:Int} (h:Sm w0 W s B c E):Sm w0 W.drew s B c E:=
 ⟨h.r0,h.r1,h.r2,h.r3,h.r4,h.r5,h.z0,h.f0,h.z1,h.f1,h.fE,h.lt,h.size,h.st.more h.lt (Below.refl _ _).drew⟩
theorem Sm.step {w0 W W':World} {s:D} {B c:Nat} {E E':Int} (h:Sm w0 W s B c E) (k:Step B W c E' W'):Sm w0 W' s B c E':=by
 have a:=h.size;have b:=h.lt;have d:=k.size
 have l0:w0.heap.size<W.heap.size:=by omega
 have l1:w0.heap.size+1<W.heap.size:=by omega
 have n0:¬(w0.heap.size=c):=by omega
 have n1:¬(w0.heap.size+1=c):=by omega
 exact ⟨(k.other _ _ l0 n0).trans h.r0,(k.other _ _ l0 n0).trans h.r1,(k.other _ _ l0 n0).trans h.r2,(k.other _ _ l0 n0).trans h.r3,(k.other _ _ l0 n0).trans h.r4,(k.other _ _ l0 n0).trans h.r5,(k.other _ _ l1 n1).trans h.z0,(k.frozen _ _ l1).trans h.f0,(k.other _ _ l1 n1).trans h.z1,(k.frozen _ _ l1).trans h.f1,(k.frozen _ _ (by omega)).trans h.fE,h.lt,by omega,h.st.then k⟩
theorem Sm.all {w0 W:World} {s:D} {B c:Nat} {E:Int} (h:Sm w0 W s B c E):W.cell? ⟨w0.heap.size,0,none⟩=some (.int .i64 s.a)∧W.cell? ⟨w0.heap.size,1,none⟩=some (.int .i64 s.b)∧W.cell? ⟨w0.heap.size,2,none⟩=some (.int .i64 s.c)∧W.cell? ⟨w0.heap.size,3,none⟩=some (.int .i64 s.d)∧W.cell? ⟨w0.heap.size,4,none⟩=some (.int .i64 s.e)∧W.cell? ⟨w0.heap.size,5,none⟩=some (.int .i64 s.f):=⟨h.r0,h.r1,h.r2,h.r3,h.r4,h.r5⟩
theorem Sm.set {w0 W:World} {s:D} {B c:Nat} {E:Int} (h:Sm w0 W s B c E) (u0 u1:Value):((W.setCell ⟨w0.heap.size+1,0,none⟩ u0).setCell ⟨w0.heap.size+1,1,none⟩ u1).cell? ⟨w0.heap.size,0,none⟩=some (.int .i64 s.a)∧((W.setCell ⟨w0.heap.size+1,0,none⟩ u0).setCell ⟨w0.heap.size+1,1,none⟩ u1).cell? ⟨w0.heap.size,1,none⟩=some (.int .i64 s.b)∧((W.setCell ⟨w0.heap.size+1,0,none⟩ u0).setCell ⟨w0.heap.size+1,1,none⟩ u1).cell? ⟨w0.heap.size,2,none⟩=some (.int .i64 s.c)∧((W.setCell ⟨w0.heap.size+1,0,none⟩ u0).setCell ⟨w0.heap.size+1,1,none⟩ u1).cell? ⟨w0.heap.size,3,none⟩=some (.int .i64 s.d)∧((W.setCell ⟨w0.heap.size+1,0,none⟩ u0).setCell ⟨w0.heap.size+1,1,none⟩ u1).cell? ⟨w0.heap.size,4,none⟩=some (.int .i64 s.e)∧((W.setCell ⟨w0.heap.size+1,0,none⟩ u0).setCell ⟨w0.heap.size+1,1,none⟩ u1).cell? ⟨w0.heap.size,5,none⟩=some (.int .i64 s.f):=by
 have n:¬(w0.heap.size=w0.heap.size+1):=by omega
 exact ⟨fset (fset h.r0 n) n,fset (fset h.r1 n) n,fset (fset h.r2 n) n,fset (fset h.r3 n) n,fset (fset h.r4 n) n,fset (fset h.r5 n) n⟩
theorem Sm.fin {w0 W:World} {s:D} {B c:Nat} {E:Int} (h:Sm w0 W s B c E) (u0 u1:Int):((W.setCell ⟨w0.heap.size+1,0,none⟩ (.int .i64 u0)).setCell ⟨w0.heap.size+1,1,none⟩ (.int .i64 u1)).cell? ⟨w0.heap.size+1,0,none⟩=some (.int .i64 u0)∧((W.setCell ⟨w0.heap.size+1,0,none⟩ (.int .i64 u0)).setCell ⟨w0.heap.size+1,1,none⟩ (.int .i64 u1)).cell? ⟨w0.heap.size+1,1,none⟩=some (.int .i64 u1)∧Step B w0 c E ((W.setCell ⟨w0.heap.size+1,0,none⟩ (.int .i64 u0)).setCell ⟨w0.heap.size+1,1,none⟩ (.int .i64 u1)):=by
 have z0:=h.z0;have z1:=h.z1;have st:=h.st;have lt:=h.lt;clear h;refine ⟨by simp [go_sem, *],by simp [go_sem, *],st.more lt (((Below.refl _ _).setCell (by dsimp only;omega) _).setCell (by dsimp only;omega) _)⟩
set_option maxRecDepth 100000 in
set_option maxHeartbeats 8000000 in
theorem dsum_any (B c:Nat) (e:Int) (s:D) (w:World) (hc:w.cell? ⟨c,0,none⟩=some (.int .i64 e)) (hf:w.frozen? ⟨c,0,none⟩=false) :
  Calls Tryz.prog 95 #[.pointer (some ⟨c,0,none⟩),dv s] w fun r w'=>r = .returned (iv (sumG e s).lo (sumG e s).hi)∧Step B w c (sumG e s).e w':=by
 have hlt:c<w.heap.size:=World.block_lt_of_cell? w _ hc
 have n1:¬(c=w.heap.size):=by omega
 have n2:¬(c=w.heap.size+1):=by omega
 have q1:c<w.heap.size+1:=by omega
 have hbel:Below w.heap.size w ((w.alloc (.cells #[.int .i64 s.a,.int .i64 s.b,.int .i64 s.c,.int .i64 s.d,.int .i64 s.e,.int .i64 s.f] 45)).alloc (.cells #[.int .i64 0,.int .i64 0] 25)):=((Below.refl _ _).alloc (Nat.le_refl _) _).alloc (by simp) _
 have I0:Sm w ((w.alloc (.cells #[.int .i64 s.a,.int .i64 s.b,.int .i64 s.c,.int .i64 s.d,.int .i64 s.e,.int .i64 s.f] 45)).alloc (.cells #[.int .i64 0,.int .i64 0] 25)) s B c e:=by
  refine ⟨by simp [go_sem],by simp [go_sem],by simp [go_sem],by simp [go_sem],by simp [go_sem],by simp [go_sem],by simp [go_sem],by simp [go_sem],by simp [go_sem],by simp [go_sem],by simp [go_sem, *],hlt,by simp,Step.start hbel hc⟩
 clear hbel;unfold sumG;obtain ⟨⟨p0,q0,e0⟩,h0⟩:∃r:R,goOn e (addR s.a s.b s.c s.d)=r:=⟨_,rfl⟩;have H0:=Lib.hid (show Ending.returned (iv (goOn e (addR s.a s.b s.c s.d)).lo (goOn e (addR s.a s.b s.c s.d)).hi) = .returned (iv p0 q0)∧(goOn e (addR s.a s.b s.c s.d)).e=e0 from by rw [h0];exact ⟨rfl,rfl⟩);rw [h0];dsimp only;obtain ⟨⟨p1,q1',e1⟩,h1⟩:∃r:R,goOn e0 (addR p0 q0 s.e s.f)=r:=⟨_,rfl⟩;have H1:=Lib.hid (show Ending.returned (iv (goOn e0 (addR p0 q0 s.e s.f)).lo (goOn e0 (addR p0 q0 s.e s.f)).hi) = .returned (iv p1 q1')∧(goOn e0 (addR p0 q0 s.e s.f)).e=e1 from by rw [h1];exact ⟨rfl,rfl⟩);rw [h1];dsimp only;clear h0 h1;go_enter Tryz.func95,Tryz.ntmps95
 go_wp2_with fail
 go_region_held3 (fun w'=>w'.cell? ⟨w.heap.size,0,none⟩=some (.int .i64 s.a)∧w'.cell? ⟨w.heap.size,1,none⟩=some (.int .i64 s.b)∧w'.cell? ⟨w.heap.size,2,none⟩=some (.int .i64 s.c)∧w'.cell? ⟨w.heap.size,3,none⟩=some (.int .i64 s.d)∧w'.cell? ⟨w.heap.size,4,none⟩=some (.int .i64 s.e)∧w'.cell? ⟨w.heap.size,5,none⟩=some (.int .i64 s.f)) (with_reducible first|exact I0.drew.all|exact IB.set _ _|exact IB.all|exact IA.all)
  (first|(have hm:=hmarkA;go_at_call 65;refine (do_add B c p0 q0 s.e s.f e0 wA IA.st.cell IA.fE).mono ?_;rintro r wB ⟨rfl,st⟩;rw [H1.out.1];rw [H1.out.2] at st;have IB:=IA.step st;clear st;have zz0:=IB.z0;have zz1:=IB.z1;have ff0:=IB.f0;have ff1:=IB.f1)|(go_at_call 65;refine (do_add B c s.a s.b s.c s.d e _ I0.drew.st.cell I0.drew.fE).mono ?_;rintro r wA ⟨rfl,st⟩;rw [H0.out.1];rw [H0.out.2] at st;have IA:=I0.drew.step st;clear st;have hmarkA:wA=wA:=rfl))
 all_goals go_wp2_with fail
 have K:=IB.fin p1 q1';revert K;generalize ((wB.setCell ⟨w.heap.size+1,0,none⟩ (.int .i64 p1)).setCell ⟨w.heap.size+1,1,none⟩ (.int .i64 q1'))=X;intro K;obtain ⟨k0,k1,kb⟩:=K;exact bodyPost_ret (v:=iv p1 q1') (by simp [results,Tryz.results95,go_sem,k0,k1]) rfl ⟨rfl,kb⟩
structure D2 (w0 W:World) (n:Nat) (s t:D):Prop where
 r0_0:W.cell? ⟨n,0,none⟩=some (.int .i64 s.a)
 r0_1:W.cell? ⟨n,1,none⟩=some (.int .i64 s.b)
 r0_2:W.cell? ⟨n,2,none⟩=some (.int .i64 s.c)
 r0_3:W.cell? ⟨n,3,none⟩=some (.int .i64 s.d)
 r0_4:W.cell? ⟨n,4,none⟩=some (.int .i64 s.e)
 r0_5:W.cell? ⟨n,5,none⟩=some (.int .i64 s.f)
 r1_0:W.cell? ⟨n+1,0,none⟩=some (.int .i64 t.a)
 r1_1:W.cell? ⟨n+1,1,none⟩=some (.int .i64 t.b)
 r1_2:W.cell? ⟨n+1,2,none⟩=some (.int .i64 t.c)
 r1_3:W.cell? ⟨n+1,3,none⟩=some (.int .i64 t.d)
 r1_4:W.cell? ⟨n+1,4,none⟩=some (.int .i64 t.e)
 r1_5:W.cell? ⟨n+1,5,none⟩=some (.int .i64 t.f)
 z2_0:W.cell? ⟨n+1+1,0,none⟩=some (.int .i64 0)
 f2_0:W.frozen? ⟨n+1+1,0,none⟩=false
 z2_1:W.cell? ⟨n+1+1,1,none⟩=some (.int .i64 0)
 f2_1:W.frozen? ⟨n+1+1,1,none⟩=false
 size:n+1+1<W.heap.size
 below:Below n w0 W
theorem D2.al0 {w0 W:World} {n:Nat} {s t:D} (h:D2 w0 W n s t):(W.cell? ⟨n,0,none⟩=some (.int .i64 s.a))∧(W.cell? ⟨n,1,none⟩=some (.int .i64 s.b))∧(W.cell? ⟨n,2,none⟩=some (.int .i64 s.c))∧(W.cell? ⟨n,3,none⟩=some (.int .i64 s.d))∧(W.cell? ⟨n,4,none⟩=some (.int .i64 s.e))∧(W.cell? ⟨n,5,none⟩=some (.int .i64 s.f))∧(W.cell? ⟨n+1,0,none⟩=some (.int .i64 t.a))∧(W.cell? ⟨n+1,1,none⟩=some (.int .i64 t.b))∧(W.cell? ⟨n+1,2,none⟩=some (.int .i64 t.c))∧(W.cell? ⟨n+1,3,none⟩=some (.int .i64 t.d))∧(W.cell? ⟨n+1,4,none⟩=some (.int .i64 t.e))∧(W.cell? ⟨n+1,5,none⟩=some (.int .i64 t.f))∧(W.cell? ⟨n+1+1,0,none⟩=some (.int .i64 0))∧(W.frozen? ⟨n+1+1,0,none⟩=false)∧(W.cell? ⟨n+1+1,1,none⟩=some (.int .i64 0))∧(W.frozen? ⟨n+1+1,1,none⟩=false)∧(n+1+1<W.heap.size):=⟨h.r0_0,h.r0_1,h.r0_2,h.r0_3,h.r0_4,h.r0_5,h.r1_0,h.r1_1,h.r1_2,h.r1_3,h.r1_4,h.r1_5,h.z2_0,h.f2_0,h.z2_1,h.f2_1,h.size⟩
theorem D2.drew {w0 W:World} {n:Nat} {s t:D} (h:D2 w0 W n s t):D2 w0 W.drew n s t:=
 ⟨h.r0_0,h.r0_1,h.r0_2,h.r0_3,h.r0_4,h.r0_5,h.r1_0,h.r1_1,h.r1_2,h.r1_3,h.r1_4,h.r1_5,h.z2_0,h.f2_0,h.z2_1,h.f2_1,h.size,h.below.drew⟩
theorem D2.call {w0 W:World} {n:Nat} {s t:D} {W':World} (h:D2 w0 W n s t) (hb:Below W.heap.size W W'):D2 w0 W' n s t:=by
 have z:=h.size;have z':=hb.size;have hc:∀b o,b<W.heap.size→W'.cell? ⟨b,o,none⟩=W.cell? ⟨b,o,none⟩:=fun b o h=>hb.cell (p:=⟨b,o,none⟩) h;have hf:∀b o,b<W.heap.size→W'.frozen? ⟨b,o,none⟩=W.frozen? ⟨b,o,none⟩:=fun b o h=>hb.frozen (p:=⟨b,o,none⟩) h
 have l0:n<W.heap.size:=by omega
 have l1:n+1<W.heap.size:=by omega
 have l2:n+1+1<W.heap.size:=by omega
 exact ⟨(hc _ _ l0).trans h.r0_0,(hc _ _ l0).trans h.r0_1,(hc _ _ l0).trans h.r0_2,(hc _ _ l0).trans h.r0_3,(hc _ _ l0).trans h.r0_4,(hc _ _ l0).trans h.r0_5,(hc _ _ l1).trans h.r1_0,(hc _ _ l1).trans h.r1_1,(hc _ _ l1).trans h.r1_2,(hc _ _ l1).trans h.r1_3,(hc _ _ l1).trans h.r1_4,(hc _ _ l1).trans h.r1_5,(hc _ _ l2).trans h.z2_0,(hf _ _ l2).trans h.f2_0,(hc _ _ l2).trans h.z2_1,(hf _ _ l2).trans h.f2_1,by omega,h.below.trans (hb.mono (by omega))⟩
theorem D2.all {w0 W:World} {n:Nat} {s t:D} (h:D2 w0 W n s t):W.cell? ⟨n,0,none⟩=some (.int .i64 s.a)∧W.cell? ⟨n,1,none⟩=some (.int .i64 s.b)∧W.cell? ⟨n,2,none⟩=some (.int .i64 s.c)∧W.cell? ⟨n,3,none⟩=some (.int .i64 s.d)∧W.cell? ⟨n,4,none⟩=some (.int .i64 s.e)∧W.cell? ⟨n,5,none⟩=some (.int .i64 s.f)∧W.cell? ⟨n+1,0,none⟩=some (.int .i64 t.a)∧W.cell? ⟨n+1,1,none⟩=some (.int .i64 t.b)∧W.cell? ⟨n+1,2,none⟩=some (.int .i64 t.c)∧W.cell? ⟨n+1,3,none⟩=some (.int .i64 t.d)∧W.cell? ⟨n+1,4,none⟩=some (.int .i64 t.e)∧W.cell? ⟨n+1,5,none⟩=some (.int .i64 t.f):=
 ⟨h.r0_0,h.r0_1,h.r0_2,h.r0_3,h.r0_4,h.r0_5,h.r1_0,h.r1_1,h.r1_2,h.r1_3,h.r1_4,h.r1_5⟩
theorem D2.fin2_2 {w0 W:World} {n:Nat} {s t:D} (h:D2 w0 W n s t) (u0 u1:Int):((W.setCell ⟨n+1+1,0,none⟩ (.int .i64 u0)).setCell ⟨n+1+1,1,none⟩ (.int .i64 u1)).cell? ⟨n+1+1,0,none⟩=some (.int .i64 u0)∧((W.setCell ⟨n+1+1,0,none⟩ (.int .i64 u0)).setCell ⟨n+1+1,1,none⟩ (.int .i64 u1)).cell? ⟨n+1+1,1,none⟩=some (.int .i64 u1)∧Below n w0 ((W.setCell ⟨n+1+1,0,none⟩ (.int .i64 u0)).setCell ⟨n+1+1,1,none⟩ (.int .i64 u1)):=by
 have b:=h.below;have z0:=h.z2_0;have z1:=h.z2_1;clear h;refine ⟨?_,?_,((b.setCell (by dsimp only;omega) _).setCell (by dsimp only;omega) _)⟩<;>simp [go_sem, *]
def prodD (s t:D):RD:=comb (mulR s.a s.b t.a t.b) (mulR s.c s.d t.c t.d) (mulR s.e s.f t.e t.f)
def onlyR (r:R):R:=if r.e=0 then ⟨r.lo,r.hi,0⟩ else ⟨0,0,r.e⟩
def dotR (s t:D):R:=if vD s=true∧vD t=true then onlyR (sumG (prodD s t).e (prodD s t).d) else ⟨0,0,1⟩
set_option maxRecDepth 100000 in
set_option maxHeartbeats 2000000 in
theorem ddot_any (s t:D) (w:World) :
  Calls Tryz.prog 56 #[dv s,dv t] w fun e w'=>e=retR (dotR s t)∧Below w.heap.size w w':=by
 have I0:D2 w (((w.alloc (.cells #[.int .i64 s.a,.int .i64 s.b,.int .i64 s.c,.int .i64 s.d,.int .i64 s.e,.int .i64 s.f] 45)).alloc (.cells #[.int .i64 t.a,.int .i64 t.b,.int .i64 t.c,.int .i64 t.d,.int .i64 t.e,.int .i64 t.f] 45)).alloc (.cells #[.int .i64 0,.int .i64 0] 25)) w.heap.size s t:=by
  refine ⟨by simp [go_sem],by simp [go_sem],by simp [go_sem],by simp [go_sem],by simp [go_sem],by simp [go_sem],by simp [go_sem],by simp [go_sem],by simp [go_sem],by simp [go_sem],by simp [go_sem],by simp [go_sem],by simp [go_sem],by simp [go_sem],by simp [go_sem],by simp [go_sem],by simp,?_⟩
  ·repeat (first|exact Below.refl _ _|refine Below.alloc ?_ (by first|omega|(simp<;>omega)) _)
 cases hs:vD s
 ·rw [show dotR s t=⟨0,0,1⟩ from if_neg (by rw [hs];simp)];have HS:=Lib.hid hs;clear hs;go_enter Tryz.func56,Tryz.ntmps56
  go_wp2_with fail
  refine (dvalid_any s _).mono ?_;rintro e w1 ⟨rfl,hb⟩;rw [HS.out];have I1:=I0.call hb;clear hb;have I1al0:=I1.al0
  go_wp2_with fail
  have K:=I1.fin2_2 (0) (0);revert K;generalize ((w1.setCell ⟨w.heap.size+1+1,0,none⟩ (.int .i64 0)).setCell ⟨w.heap.size+1+1,1,none⟩ (.int .i64 0))=X;intro K;obtain ⟨k0,k1,kb⟩:=K;exact bodyPost_ret (v:=.tuple #[iv 0 0,.int .i64 1]) (by simp [results,Tryz.results56,go_sem,k0,k1]) rfl ⟨rfl,kb⟩
 ·cases ht:vD t
  ·rw [show dotR s t=⟨0,0,1⟩ from if_neg (by rw [ht];simp)];have HS:=Lib.hid hs;have HT:=Lib.hid ht;clear hs ht;go_enter Tryz.func56,Tryz.ntmps56
   go_wp2_with fail
   refine (dvalid_any s _).mono ?_;rintro e w1 ⟨rfl,hb⟩;rw [HS.out];have I1:=I0.call hb;clear hb;have I1al0:=I1.al0
   go_wp2_with fail
   refine (dvalid_any t _).mono ?_;rintro e w2 ⟨rfl,hb⟩;rw [HT.out];have I2:=I1.call hb;clear hb;clear I1al0;have I2al0:=I2.al0
   go_wp2_with fail
   have K:=I2.fin2_2 (0) (0);revert K;generalize ((w2.setCell ⟨w.heap.size+1+1,0,none⟩ (.int .i64 0)).setCell ⟨w.heap.size+1+1,1,none⟩ (.int .i64 0))=X;intro K;obtain ⟨k0,k1,kb⟩:=K;exact bodyPost_ret (v:=.tuple #[iv 0 0,.int .i64 1]) (by simp [results,Tryz.results56,go_sem,k0,k1]) rfl ⟨rfl,kb⟩
  ·rw [show dotR s t=onlyR (sumG (prodD s t).e (prodD s t).d) from if_pos ⟨hs,ht⟩];obtain ⟨⟨⟨d0,d1,d2,d3,d4,d5⟩,ee⟩,hd⟩:∃r:RD,prodD s t=r:=⟨_,rfl⟩;have HD:=Lib.hid (show retD (prodD s t) = .returned (.tuple #[.agg #[.int .i64 d0,.int .i64 d1,.int .i64 d2,.int .i64 d3,.int .i64 d4,.int .i64 d5],.int .i64 ee]) from by rw [hd]);rw [hd];clear hd;dsimp only;obtain ⟨⟨g0,g1,g2⟩,hg⟩:∃r:R,sumG ee ⟨d0,d1,d2,d3,d4,d5⟩=r:=⟨_,rfl⟩;have HG:=Lib.hid (show Ending.returned (iv (sumG ee ⟨d0,d1,d2,d3,d4,d5⟩).lo (sumG ee ⟨d0,d1,d2,d3,d4,d5⟩).hi) = .returned (iv g0 g1)∧(sumG ee ⟨d0,d1,d2,d3,d4,d5⟩).e=g2 from by rw [hg];exact ⟨rfl,rfl⟩);rw [hg];clear hg;obtain ⟨⟨o0,o1,o2⟩,ho⟩:∃r:R,onlyR ⟨g0,g1,g2⟩=r:=⟨_,rfl⟩;have HO:=Lib.hid (show retR (if g2=0 then ⟨g0,g1,0⟩ else ⟨0,0,g2⟩) = .returned (.tuple #[iv o0 o1,.int .i64 o2]) from by rw [show (if g2=0 then (⟨g0,g1,0⟩:R) else ⟨0,0,g2⟩)=onlyR ⟨g0,g1,g2⟩ from rfl,ho]);rw [ho];clear ho;have HS:=Lib.hid hs;have HT:=Lib.hid ht;clear hs ht;go_enter Tryz.func56,Tryz.ntmps56
   go_wp2_with fail
   refine (dvalid_any s _).mono ?_;rintro e w1 ⟨rfl,hb⟩;rw [HS.out];have I1:=I0.call hb;clear hb;have I1al0:=I1.al0
   go_wp2_with fail
   refine (dvalid_any t _).mono ?_;rintro e w2 ⟨rfl,hb⟩;rw [HT.out];have I2:=I1.call hb;clear hb;clear I1al0;have I2al0:=I2.al0;have HC:=Lib.hid (fun w=>combine_mul s t w)
   go_wp2_with fail
   refine (HC.out _).mono ?_;rintro e w3 ⟨rfl,hb⟩;rw [show comb (mulR s.a s.b t.a t.b) (mulR s.c s.d t.c t.d) (mulR s.e s.f t.e t.f)=prodD s t from rfl,HD.out];have I3:=I2.call hb;clear hb;clear I2al0;have I3al0:=I3.al0
   have m1:¬(w.heap.size+1+1=w3.heap.size):=by omega
   have m2:¬(w3.heap.size=w.heap.size+1+1):=by omega
   have m3:w.heap.size+1+1<w3.heap.size+1:=by omega
   go_wp2_with fail
   refine (dsum_any w3.heap.size (w3.heap.size+1) ee ⟨d0,d1,d2,d3,d4,d5⟩ _ (by simp [go_sem]) (by simp [go_sem])).mono ?_;rintro e w4 ⟨rfl,st⟩;rw [HG.out.1];rw [HG.out.2] at st;have hb:Below w3.heap.size w3 w4:=(((Below.refl _ _).alloc (Nat.le_refl _) _).alloc (by simp) _).trans (st.below (by omega) (by simp;omega));have ce:=st.cell;clear st;have I4:=I3.call hb;clear I3al0;have I4al0:=I4.al0;have z4:=hb.size
   go_wp2_with fail
   refine (dnumber_any (w3.heap.size+1) g2 g0 g1 _ ce).mono ?_;rintro e w5 ⟨rfl,hb5⟩;rw [HO.out];have I5:=I4.call hb5;clear hb5;clear I4al0;have I5al0:=I5.al0
   go_wp2_with fail
   have K:=I5.fin2_2 (o0) (o1);revert K;generalize ((w5.setCell ⟨w.heap.size+1+1,0,none⟩ (.int .i64 o0)).setCell ⟨w.heap.size+1+1,1,none⟩ (.int .i64 o1))=X;intro K;obtain ⟨k0,k1,kb⟩:=K;exact bodyPost_ret (v:=.tuple #[iv o0 o1,.int .i64 o2]) (by simp [results,Tryz.results56,go_sem,k0,k1]) rfl ⟨rfl,kb⟩
end Go.Proofs.YtiecdgcdcpmgaaaGreat.Iv

/- Plain facts on the face that a ray hits: what the program computes. -/
namespace Go.Proofs.YtiecdgcdcpmgaaaGreat.Iv
structure W4 where
 f:Int
 l:Int
 g:Int
 b:Bool
structure FR where
 e:Int
 w:Option W4
def wayF (i:Int) (c g:R):Option W4:=
 if c.hi≤0 then none else some ⟨i,(max 0 g.lo*16777216).tdiv c.hi,if 0<c.lo then (max 0 g.hi*16777216+c.lo - 1).tdiv c.lo else 0,decide (0<c.lo)⟩
def faceR (i:Int) (n:D) (p:Int × Int) (a v:D):FR:=
 if (dotR n v).e=0 then
  if (dotR n a).e=0 then
   if (subR p.1 p.2 (dotR n a).lo (dotR n a).hi).e=0 then ⟨0,wayF i (dotR n v) (subR p.1 p.2 (dotR n a).lo (dotR n a).hi)⟩
   else ⟨(subR p.1 p.2 (dotR n a).lo (dotR n a).hi).e,none⟩
  else ⟨(dotR n a).e,none⟩
 else ⟨(dotR n v).e,none⟩
structure WR where
 e:Int
 l:List W4
def waysR (a v:D):Nat→List (D × Int × Int)→WR
 |_,[]=>⟨0,[]⟩
 |i,x::t=>if (faceR i x.1 x.2 a v).e=0 then ⟨(waysR a v (i+1) t).e,(faceR i x.1 x.2 a v).w.toList ++ (waysR a v (i+1) t).l⟩ else ⟨(faceR i x.1 x.2 a v).e,[]⟩
def upR (a v:D) (l:List (D × Int × Int)) (k:Nat):List W4:=(waysR a v 0 (l.take k)).l
def noE (a v:D) (l:List (D × Int × Int)) (k:Nat):Prop:=∀i x,i<k→l[i]? = some x→(faceR i x.1 x.2 a v).e=0
theorem ways_app (a v:D) (l r:List (D × Int × Int)):∀i,(∀j x,l[j]? = some x→(faceR (i+j:Nat) x.1 x.2 a v).e=0) →
  waysR a v i (l ++ r)=⟨(waysR a v (i+l.length) r).e,(waysR a v i l).l ++ (waysR a v (i+l.length) r).l⟩∧(waysR a v i l).e=0:=by
 induction l with
 |nil=>intro i _;exact ⟨by simp [waysR],rfl⟩
 |cons x t ih=>
  intro i h;have h0:=h 0 x rfl;obtain ⟨k1,k2⟩:=ih (i+1) (fun j y hy=>by have:=h (j+1) y hy;rwa [show i+(j+1)=i+1+j by omega] at this);simp only [Nat.add_zero] at h0;refine ⟨?_,?_⟩
  ·rw [List.cons_append,waysR,waysR,if_pos h0,if_pos h0,k1];dsimp only;rw [List.length_cons,show i+1+t.length=i+(t.length+1) by omega,List.append_assoc]
  ·rw [waysR,if_pos h0];exact k2
theorem take_ok {a v:D} {l:List (D × Int × Int)} {k:Nat} (h:noE a v l k):∀j x,(l.take k)[j]? = some x→(faceR (0+j:Nat) x.1 x.2 a v).e=0:=by
 intro j x hx;rw [Nat.zero_add];rw [List.getElem?_take] at hx;split at hx
 ·exact h j x (by assumption) hx
 ·cases hx
theorem up_next {a v:D} {l:List (D × Int × Int)} {k:Nat} {x:D × Int × Int} (h:noE a v l k) (hx:l[k]? = some x) (h0:(faceR k x.1 x.2 a v).e=0) :
  upR a v l (k+1)=upR a v l k ++ (faceR k x.1 x.2 a v).w.toList∧noE a v l (k+1):=by
 have hk:k<l.length:=(List.getElem?_eq_some_iff.1 hx).1;refine ⟨?_,?_⟩
 ·have h1:=(ways_app a v (l.take k) [x] 0 (take_ok h)).1
  have h2:l.take (k+1)=l.take k ++ [x]:=by
   rw [List.take_add_one,hx];rfl
  rw [upR,h2,h1]
  have h3:(l.take k).length=k:=by rw [List.length_take];omega
  dsimp only;rw [Nat.zero_add,h3,waysR,if_pos h0,waysR];dsimp only;rw [List.append_nil];rfl
 ·intro i y hi hy;rcases Nat.lt_or_ge i k with h'|h'
  ·exact h i y h' hy
  ·obtain rfl:i=k:=by omega
   rw [hx] at hy;cases hy;exact h0
theorem ways_all {a v:D} {l:List (D × Int × Int)} (h:noE a v l l.length):waysR a v 0 l=⟨0,upR a v l l.length⟩:=by
 have h1:=ways_app a v (l.take l.length) [] 0 (take_ok h);rw [List.append_nil] at h1;have h2:=h1.1;have h3:=h1.2;rw [List.take_length] at h2 h3;rw [upR,List.take_length]
 have:∀w:WR,w.e=0→w=⟨0,w.l⟩:=fun w hw=>by cases w;cases hw;rfl
 exact this _ h3
theorem ways_err {a v:D} {l:List (D × Int × Int)} {k:Nat} {x:D × Int × Int} (h:noE a v l k) (hx:l[k]? = some x) (h0:¬(faceR k x.1 x.2 a v).e=0):(waysR a v 0 l).e=(faceR k x.1 x.2 a v).e:=by
 have hk:k<l.length:=(List.getElem?_eq_some_iff.1 hx).1;have h1:=(ways_app a v (l.take k) (l.drop k) 0 (take_ok h)).1;rw [List.take_append_drop] at h1;rw [h1];dsimp only
 have h3:(l.take k).length=k:=by rw [List.length_take];omega
 have h4:l.drop k=x::l.drop (k+1):=by
  rw [List.getElem?_eq_getElem hk] at hx;cases hx;exact List.drop_eq_getElem_cons hk
 rw [h3,Nat.zero_add,h4,waysR,if_neg h0]
def better (b w:W4):W4:=if w.b=true∧(b.b=false∨w.g<b.g) then w else b
def bestR (l:List W4):W4:=l.foldl better ⟨0,0,0,false⟩
theorem best_snoc (l:List W4) (w:W4):bestR (l ++ [w])=better (bestR l) w:=by rw [bestR,List.foldl_append];rfl
def wcells (w:W4):List Go.Value:=[.int .i64 w.f,.int .i64 w.l,.int .i64 w.g,.bool w.b]
def wsCells (l:List W4):List Go.Value:=l.flatMap wcells
theorem wsCells_snoc (l:List W4) (w:W4):wsCells (l ++ [w])=wsCells l ++ wcells w:=by simp [wsCells]
theorem wsCells_at:∀(l:List W4) {k:Nat} {x:W4},l[k]? = some x→∀j,j<4→(wsCells l)[k*4+j]? = (wcells x)[j]?
 | [],_,_,h,_,_=>by simp at h
 |y::t,0,x,h,j,hj=>by
  simp only [List.getElem?_cons_zero,Option.some.injEq] at h;subst h;rw [wsCells,List.flatMap_cons,Nat.zero_mul,Nat.zero_add,List.getElem?_append_left (by simpa [wcells] using hj)]
 |y::t,k+1,x,h,j,hj=>by
  rw [List.getElem?_cons_succ] at h;have ih:=wsCells_at t h j hj;rw [wsCells,List.flatMap_cons,List.getElem?_append_right (by simp [wcells];omega)];rw [wsCells] at ih;rw [←ih]
  congr 1
  simp [wcells];omega
theorem up_len (a v:D) (l:List (D × Int × Int)):∀i,(waysR a v i l).l.length≤l.length:=by
 induction l with
 |nil=>intro i;exact Nat.le_refl _
 |cons x t ih=>
  intro i;rw [waysR];split
  ·have:=ih (i+1)
   have h2:(faceR i x.1 x.2 a v).w.toList.length≤1:=by cases (faceR i x.1 x.2 a v).w<;>simp
   simp only [List.length_append,List.length_cons];omega
  ·simp
structure HR where
 f:Int
 l:Int
 g:Int
 e:Int
def amb (b:W4) (l:List W4):Bool:=l.any fun w=>decide (w.f≠b.f) && decide (w.l≤b.g)
theorem amb_some {b x:W4} {l:List W4} {k:Nat} (h:l[k]? = some x) (h1:¬(x.f=b.f)) (h2:x.l≤b.g):amb b l=true:=
 List.any_eq_true.2 ⟨x,List.mem_of_getElem? h,by simp [h1,h2]⟩
theorem amb_none {b:W4} {l:List W4} (h:∀(j:Nat) (x:W4),j<l.length→l[j]? = some x→¬(¬(x.f=b.f)∧x.l≤b.g)):amb b l=false:=by
 rw [amb,List.any_eq_false];intro x hx;obtain ⟨j,hj⟩:=List.getElem?_of_mem hx;have:=h j x (List.getElem?_eq_some_iff.1 hj).1 hj;simpa using this
def hitR (l:List (D × Int × Int)) (a v:D):HR:=
 if (waysR a v 0 l).e=0 then
  if (waysR a v 0 l).l = [] then ⟨0,0,0,7⟩
  else if (bestR (waysR a v 0 l).l).b=false then ⟨0,0,0,20⟩
  else if amb (bestR (waysR a v 0 l).l) (waysR a v 0 l).l=true then ⟨0,0,0,20⟩
  else if 1073741824<(bestR (waysR a v 0 l).l).g then ⟨0,0,0,3⟩
  else ⟨(bestR (waysR a v 0 l).l).f,(bestR (waysR a v 0 l).l).l,(bestR (waysR a v 0 l).l).g,0⟩
 else ⟨0,0,0,(waysR a v 0 l).e⟩
end Go.Proofs.YtiecdgcdcpmgaaaGreat.Iv
