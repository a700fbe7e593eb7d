/- Texts PDr9. -/
import Derived.Test.YtiecdgcdcpmgaaaGreatM12

/- Contract of package refraction's refract: the direction of a refracted ray, and the cosines. -/
namespace Go.Proofs.YtiecdgcdcpmgaaaGreat.Iv
open Go.RowKit
structure F6 (w0 W:World) (n:Nat) (s t:D) (a b o0 o1 o2 o3 o4 o5 p q u v:Int):Prop where
 r0_0:W.cell? ⟨n,0,none⟩=some (.int .i64 s.a)
 r0_1:W.cell? ⟨n,1,none⟩=some (.int .i64 s.b)
 r0_2:W.cell? ⟨n,2,none⟩=some (.int .i64 s.c)
 r0_3:W.cell? ⟨n,3,none⟩=some (.int .i64 s.d)
 r0_4:W.cell? ⟨n,4,none⟩=some (.int .i64 s.e)
 r0_5:W.cell? ⟨n,5,none⟩=some (.int .i64 s.f)
 r1_0:W.cell? ⟨n+1,0,none⟩=some (.int .i64 t.a)
 r1_1:W.cell? ⟨n+1,1,none⟩=some (.int .i64 t.b)
 r1_2:W.cell? ⟨n+1,2,none⟩=some (.int .i64 t.c)
 r1_3:W.cell? ⟨n+1,3,none⟩=some (.int .i64 t.d)
 r1_4:W.cell? ⟨n+1,4,none⟩=some (.int .i64 t.e)
 r1_5:W.cell? ⟨n+1,5,none⟩=some (.int .i64 t.f)
 r2_0:W.cell? ⟨n+1+1,0,none⟩=some (.int .i64 a)
 r2_1:W.cell? ⟨n+1+1,1,none⟩=some (.int .i64 b)
 v3_0:W.cell? ⟨n+1+1+1,0,none⟩=some (.int .i64 o0)
 f3_0:W.frozen? ⟨n+1+1+1,0,none⟩=false
 v3_1:W.cell? ⟨n+1+1+1,1,none⟩=some (.int .i64 o1)
 f3_1:W.frozen? ⟨n+1+1+1,1,none⟩=false
 v3_2:W.cell? ⟨n+1+1+1,2,none⟩=some (.int .i64 o2)
 f3_2:W.frozen? ⟨n+1+1+1,2,none⟩=false
 v3_3:W.cell? ⟨n+1+1+1,3,none⟩=some (.int .i64 o3)
 f3_3:W.frozen? ⟨n+1+1+1,3,none⟩=false
 v3_4:W.cell? ⟨n+1+1+1,4,none⟩=some (.int .i64 o4)
 f3_4:W.frozen? ⟨n+1+1+1,4,none⟩=false
 v3_5:W.cell? ⟨n+1+1+1,5,none⟩=some (.int .i64 o5)
 f3_5:W.frozen? ⟨n+1+1+1,5,none⟩=false
 v4_0:W.cell? ⟨n+1+1+1+1,0,none⟩=some (.int .i64 p)
 f4_0:W.frozen? ⟨n+1+1+1+1,0,none⟩=false
 v4_1:W.cell? ⟨n+1+1+1+1,1,none⟩=some (.int .i64 q)
 f4_1:W.frozen? ⟨n+1+1+1+1,1,none⟩=false
 v5_0:W.cell? ⟨n+1+1+1+1+1,0,none⟩=some (.int .i64 u)
 f5_0:W.frozen? ⟨n+1+1+1+1+1,0,none⟩=false
 v5_1:W.cell? ⟨n+1+1+1+1+1,1,none⟩=some (.int .i64 v)
 f5_1:W.frozen? ⟨n+1+1+1+1+1,1,none⟩=false
 size:n+1+1+1+1+1<W.heap.size
 below:Below n w0 W
theorem F6.al0 {w0 W:World} {n:Nat} {s t:D} {a b o0 o1 o2 o3 o4 o5 p q u v:Int} (h:F6 w0 W n s t a b o0 o1 o2 o3 o4 o5 p q u v):(W.cell? ⟨n,0,none⟩=some (.int .i64 s.a))∧(W.cell? ⟨n,1,none⟩=some (.int .i64 s.b))∧(W.cell? ⟨n,2,none⟩=some (.int .i64 s.c))∧(W.cell? ⟨n,3,none⟩=some (.int .i64 s.d))∧(W.cell? ⟨n,4,none⟩=some (.int .i64 s.e))∧(W.cell? ⟨n,5,none⟩=some (.int .i64 s.f))∧(W.cell? ⟨n+1,0,none⟩=some (.int .i64 t.a))∧(W.cell? ⟨n+1,1,none⟩=some (.int .i64 t.b))∧(W.cell? ⟨n+1,2,none⟩=some (.int .i64 t.c))∧(W.cell? ⟨n+1,3,none⟩=some (.int .i64 t.d))∧(W.cell? ⟨n+1,4,none⟩=some (.int .i64 t.e))∧(W.cell? ⟨n+1,5,none⟩=some (.int .i64 t.f))∧(W.cell? ⟨n+1+1,0,none⟩=some (.int .i64 a))∧(W.cell? ⟨n+1+1,1,none⟩=some (.int .i64 b))∧(W.cell? ⟨n+1+1+1,0,none⟩=some (.int .i64 o0))∧(W.frozen? ⟨n+1+1+1,0,none⟩=false)∧(W.cell? ⟨n+1+1+1,1,none⟩=some (.int .i64 o1))∧(W.frozen? ⟨n+1+1+1,1,none⟩=false)∧(W.cell? ⟨n+1+1+1,2,none⟩=some (.int .i64 o2))∧(W.frozen? ⟨n+1+1+1,2,none⟩=false)∧(W.cell? ⟨n+1+1+1,3,none⟩=some (.int .i64 o3))∧(W.frozen? ⟨n+1+1+1,3,none⟩=false)∧(W.cell? ⟨n+1+1+1,4,none⟩=some (.int .i64 o4))∧(W.frozen? ⟨n+1+1+1,4,none⟩=false)∧(W.cell? ⟨n+1+1+1,5,none⟩=some (.int .i64 o5))∧(W.frozen? ⟨n+1+1+1,5,none⟩=false)∧(W.cell? ⟨n+1+1+1+1,0,none⟩=some (.int .i64 p))∧(W.frozen? ⟨n+1+1+1+1,0,none⟩=false)∧(W.cell? ⟨n+1+1+1+1,1,none⟩=some (.int .i64 q))∧(W.frozen? ⟨n+1+1+1+1,1,none⟩=false)∧(W.cell? ⟨n+1+1+1+1+1,0,none⟩=some (.int .i64 u))∧(W.frozen? ⟨n+1+1+1+1+1,0,none⟩=false)∧(W.cell? ⟨n+1+1+1+1+1,1,none⟩=some (.int .i64 v))∧(W.frozen? ⟨n+1+1+1+1+1,1,none⟩=false)∧(n+1+1+1+1+1<W.heap.size):=⟨h.r0_0,h.r0_1,h.r0_2,h.r0_3,h.r0_4,h.r0_5,h.r1_0,h.r1_1,h.r1_2,h.r1_3,h.r1_4,h.r1_5,h.r2_0,h.r2_1,h.v3_0,h.f3_0,h.v3_1,h.f3_1,h.v3_2,h.f3_2,h.v3_3,h.f3_3,h.v3_4,h.f3_4,h.v3_5,h.f3_5,h.v4_0,h.f4_0,h.v4_1,h.f4_1,h.v5_0,h.f5_0,h.v5_1,h.f5_1,h.size⟩
theorem F6.call {w0 W:World} {n:Nat} {s t:D} {a b o0 o1 o2 o3 o4 o5 p q u v:Int} {W':World} (h:F6 w0 W n s t a b o0 o1 o2 o3 o4 o5 p q u v) (hb:Below W.heap.size W W'):F6 w0 W' n s t a b o0 o1 o2 o3 o4 o5 p q u v:=by
 have z:=h.size;have z':=hb.size;have hc:∀b o,b<W.heap.size→W'.cell? ⟨b,o,none⟩=W.cell? ⟨b,o,none⟩:=fun b o h=>hb.cell (p:=⟨b,o,none⟩) h;have hf:∀b o,b<W.heap.size→W'.frozen? ⟨b,o,none⟩=W.frozen? ⟨b,o,none⟩:=fun b o h=>hb.frozen (p:=⟨b,o,none⟩) h
 have l0:n<W.heap.size:=by omega
 have l1:n+1<W.heap.size:=by omega
 have l2:n+1+1<W.heap.size:=by omega
 have l3:n+1+1+1<W.heap.size:=by omega
 have l4:n+1+1+1+1<W.heap.size:=by omega
 have l5:n+1+1+1+1+1<W.heap.size:=by omega
 exact ⟨(hc _ _ l0).trans h.r0_0,(hc _ _ l0).trans h.r0_1,(hc _ _ l0).trans h.r0_2,(hc _ _ l0).trans h.r0_3,(hc _ _ l0).trans h.r0_4,(hc _ _ l0).trans h.r0_5,(hc _ _ l1).trans h.r1_0,(hc _ _ l1).trans h.r1_1,(hc _ _ l1).trans h.r1_2,(hc _ _ l1).trans h.r1_3,(hc _ _ l1).trans h.r1_4,(hc _ _ l1).trans h.r1_5,(hc _ _ l2).trans h.r2_0,(hc _ _ l2).trans h.r2_1,(hc _ _ l3).trans h.v3_0,(hf _ _ l3).trans h.f3_0,(hc _ _ l3).trans h.v3_1,(hf _ _ l3).trans h.f3_1,(hc _ _ l3).trans h.v3_2,(hf _ _ l3).trans h.f3_2,(hc _ _ l3).trans h.v3_3,(hf _ _ l3).trans h.f3_3,(hc _ _ l3).trans h.v3_4,(hf _ _ l3).trans h.f3_4,(hc _ _ l3).trans h.v3_5,(hf _ _ l3).trans h.f3_5,(hc _ _ l4).trans h.v4_0,(hf _ _ l4).trans h.f4_0,(hc _ _ l4).trans h.v4_1,(hf _ _ l4).trans h.f4_1,(hc _ _ l5).trans h.v5_0,(hf _ _ l5).trans h.f5_0,(hc _ _ l5).trans h.v5_1,(hf _ _ l5).trans h.f5_1,by omega,h.below.trans (hb.mono (by omega))⟩
theorem F6.drew {w0 W:World} {n:Nat} {s t:D} {a b o0 o1 o2 o3 o4 o5 p q u v:Int} (h:F6 w0 W n s t a b o0 o1 o2 o3 o4 o5 p q u v):F6 w0 W.drew n s t a b o0 o1 o2 o3 o4 o5 p q u v:=h.call (Below.refl _ _).drew
theorem F6.alc {w0 W:World} {n:Nat} {s t:D} {a b o0 o1 o2 o3 o4 o5 p q u v:Int} (h:F6 w0 W n s t a b o0 o1 o2 o3 o4 o5 p q u v) (o:Obj):F6 w0 (W.alloc o) n s t a b o0 o1 o2 o3 o4 o5 p q u v:=h.call ((Below.refl _ _).alloc (Nat.le_refl _) o)
theorem F6.res {w0 W:World} {n:Nat} {s t:D} {a b o0 o1 o2 o3 o4 o5 p q u v:Int} (h:F6 w0 W n s t a b o0 o1 o2 o3 o4 o5 p q u v):W.cell? ⟨n+1+1+1,0,none⟩=some (.int .i64 o0)∧W.cell? ⟨n+1+1+1,1,none⟩=some (.int .i64 o1)∧W.cell? ⟨n+1+1+1,2,none⟩=some (.int .i64 o2)∧W.cell? ⟨n+1+1+1,3,none⟩=some (.int .i64 o3)∧W.cell? ⟨n+1+1+1,4,none⟩=some (.int .i64 o4)∧W.cell? ⟨n+1+1+1,5,none⟩=some (.int .i64 o5)∧W.cell? ⟨n+1+1+1+1,0,none⟩=some (.int .i64 p)∧W.cell? ⟨n+1+1+1+1,1,none⟩=some (.int .i64 q)∧W.cell? ⟨n+1+1+1+1+1,0,none⟩=some (.int .i64 u)∧W.cell? ⟨n+1+1+1+1+1,1,none⟩=some (.int .i64 v):=⟨h.v3_0,h.v3_1,h.v3_2,h.v3_3,h.v3_4,h.v3_5,h.v4_0,h.v4_1,h.v5_0,h.v5_1⟩
theorem F6.set3 {w0 W:World} {n:Nat} {s t:D} {a b o0 o1 o2 o3 o4 o5 p q u v:Int} (h:F6 w0 W n s t a b o0 o1 o2 o3 o4 o5 p q u v) (u0 u1 u2 u3 u4 u5:Int):F6 w0 ((((((W.setCell ⟨n+1+1+1,0,none⟩ (.int .i64 u0)).setCell ⟨n+1+1+1,1,none⟩ (.int .i64 u1)).setCell ⟨n+1+1+1,2,none⟩ (.int .i64 u2)).setCell ⟨n+1+1+1,3,none⟩ (.int .i64 u3)).setCell ⟨n+1+1+1,4,none⟩ (.int .i64 u4)).setCell ⟨n+1+1+1,5,none⟩ (.int .i64 u5)) n s t a b u0 u1 u2 u3 u4 u5 p q u v:=by
 have n0:¬(n=n+1+1+1):=by omega
 have n1:¬(n+1=n+1+1+1):=by omega
 have n2:¬(n+1+1=n+1+1+1):=by omega
 have n4:¬(n+1+1+1+1=n+1+1+1):=by omega
 have n5:¬(n+1+1+1+1+1=n+1+1+1):=by omega
 have y0:=h.v3_0;have y1:=h.v3_1;have y2:=h.v3_2;have y3:=h.v3_3;have y4:=h.v3_4;have y5:=h.v3_5;exact ⟨(fset (fset (fset (fset (fset (fset h.r0_0 n0) n0) n0) n0) n0) n0),(fset (fset (fset (fset (fset (fset h.r0_1 n0) n0) n0) n0) n0) n0),(fset (fset (fset (fset (fset (fset h.r0_2 n0) n0) n0) n0) n0) n0),(fset (fset (fset (fset (fset (fset h.r0_3 n0) n0) n0) n0) n0) n0),(fset (fset (fset (fset (fset (fset h.r0_4 n0) n0) n0) n0) n0) n0),(fset (fset (fset (fset (fset (fset h.r0_5 n0) n0) n0) n0) n0) n0),(fset (fset (fset (fset (fset (fset h.r1_0 n1) n1) n1) n1) n1) n1),(fset (fset (fset (fset (fset (fset h.r1_1 n1) n1) n1) n1) n1) n1),(fset (fset (fset (fset (fset (fset h.r1_2 n1) n1) n1) n1) n1) n1),(fset (fset (fset (fset (fset (fset h.r1_3 n1) n1) n1) n1) n1) n1),(fset (fset (fset (fset (fset (fset h.r1_4 n1) n1) n1) n1) n1) n1),(fset (fset (fset (fset (fset (fset h.r1_5 n1) n1) n1) n1) n1) n1),(fset (fset (fset (fset (fset (fset h.r2_0 n2) n2) n2) n2) n2) n2),(fset (fset (fset (fset (fset (fset h.r2_1 n2) n2) n2) n2) n2) n2),by simp [go_sem, *],by simp [go_sem,h.f3_0],by simp [go_sem, *],by simp [go_sem,h.f3_1],by simp [go_sem, *],by simp [go_sem,h.f3_2],by simp [go_sem, *],by simp [go_sem,h.f3_3],by simp [go_sem, *],by simp [go_sem,h.f3_4],by simp [go_sem, *],by simp [go_sem,h.f3_5],(fset (fset (fset (fset (fset (fset h.v4_0 n4) n4) n4) n4) n4) n4),by simp [go_sem,h.f4_0],(fset (fset (fset (fset (fset (fset h.v4_1 n4) n4) n4) n4) n4) n4),by simp [go_sem,h.f4_1],(fset (fset (fset (fset (fset (fset h.v5_0 n5) n5) n5) n5) n5) n5),by simp [go_sem,h.f5_0],(fset (fset (fset (fset (fset (fset h.v5_1 n5) n5) n5) n5) n5) n5),by simp [go_sem,h.f5_1],by simpa using h.size,((((((h.below.setCell (by dsimp only;omega) _).setCell (by dsimp only;omega) _).setCell (by dsimp only;omega) _).setCell (by dsimp only;omega) _).setCell (by dsimp only;omega) _).setCell (by dsimp only;omega) _)⟩
theorem F6.set4 {w0 W:World} {n:Nat} {s t:D} {a b o0 o1 o2 o3 o4 o5 p q u v:Int} (h:F6 w0 W n s t a b o0 o1 o2 o3 o4 o5 p q u v) (u0 u1:Int):F6 w0 ((W.setCell ⟨n+1+1+1+1,0,none⟩ (.int .i64 u0)).setCell ⟨n+1+1+1+1,1,none⟩ (.int .i64 u1)) n s t a b o0 o1 o2 o3 o4 o5 u0 u1 u v:=by
 have n0:¬(n=n+1+1+1+1):=by omega
 have n1:¬(n+1=n+1+1+1+1):=by omega
 have n2:¬(n+1+1=n+1+1+1+1):=by omega
 have n3:¬(n+1+1+1=n+1+1+1+1):=by omega
 have n5:¬(n+1+1+1+1+1=n+1+1+1+1):=by omega
 have y0:=h.v4_0;have y1:=h.v4_1;exact ⟨(fset (fset h.r0_0 n0) n0),(fset (fset h.r0_1 n0) n0),(fset (fset h.r0_2 n0) n0),(fset (fset h.r0_3 n0) n0),(fset (fset h.r0_4 n0) n0),(fset (fset h.r0_5 n0) n0),(fset (fset h.r1_0 n1) n1),(fset (fset h.r1_1 n1) n1),(fset (fset h.r1_2 n1) n1),(fset (fset h.r1_3 n1) n1),(fset (fset h.r1_4 n1) n1),(fset (fset h.r1_5 n1) n1),(fset (fset h.r2_0 n2) n2),(fset (fset h.r2_1 n2) n2),(fset (fset h.v3_0 n3) n3),by simp [go_sem,h.f3_0],(fset (fset h.v3_1 n3) n3),by simp [go_sem,h.f3_1],(fset (fset h.v3_2 n3) n3),by simp [go_sem,h.f3_2],(fset (fset h.v3_3 n3) n3),by simp [go_sem,h.f3_3],(fset (fset h.v3_4 n3) n3),by simp [go_sem,h.f3_4],(fset (fset h.v3_5 n3) n3),by simp [go_sem,h.f3_5],by simp [go_sem, *],by simp [go_sem,h.f4_0],by simp [go_sem, *],by simp [go_sem,h.f4_1],(fset (fset h.v5_0 n5) n5),by simp [go_sem,h.f5_0],(fset (fset h.v5_1 n5) n5),by simp [go_sem,h.f5_1],by simpa using h.size,((h.below.setCell (by dsimp only;omega) _).setCell (by dsimp only;omega) _)⟩
theorem F6.set5 {w0 W:World} {n:Nat} {s t:D} {a b o0 o1 o2 o3 o4 o5 p q u v:Int} (h:F6 w0 W n s t a b o0 o1 o2 o3 o4 o5 p q u v) (u0 u1:Int):F6 w0 ((W.setCell ⟨n+1+1+1+1+1,0,none⟩ (.int .i64 u0)).setCell ⟨n+1+1+1+1+1,1,none⟩ (.int .i64 u1)) n s t a b o0 o1 o2 o3 o4 o5 p q u0 u1:=by
 have n0:¬(n=n+1+1+1+1+1):=by omega
 have n1:¬(n+1=n+1+1+1+1+1):=by omega
 have n2:¬(n+1+1=n+1+1+1+1+1):=by omega
 have n3:¬(n+1+1+1=n+1+1+1+1+1):=by omega
 have n4:¬(n+1+1+1+1=n+1+1+1+1+1):=by omega
 have y0:=h.v5_0;have y1:=h.v5_1;exact ⟨(fset (fset h.r0_0 n0) n0),(fset (fset h.r0_1 n0) n0),(fset (fset h.r0_2 n0) n0),(fset (fset h.r0_3 n0) n0),(fset (fset h.r0_4 n0) n0),(fset (fset h.r0_5 n0) n0),(fset (fset h.r1_0 n1) n1),(fset (fset h.r1_1 n1) n1),(fset (fset h.r1_2 n1) n1),(fset (fset h.r1_3 n1) n1),(fset (fset h.r1_4 n1) n1),(fset (fset h.r1_5 n1) n1),(fset (fset h.r2_0 n2) n2),(fset (fset h.r2_1 n2) n2),(fset (fset h.v3_0 n3) n3),by simp [go_sem,h.f3_0],(fset (fset h.v3_1 n3) n3),by simp [go_sem,h.f3_1],(fset (fset h.v3_2 n3) n3),by simp [go_sem,h.f3_2],(fset (fset h.v3_3 n3) n3),by simp [go_sem,h.f3_3],(fset (fset h.v3_4 n3) n3),by simp [go_sem,h.f3_4],(fset (fset h.v3_5 n3) n3),by simp [go_sem,h.f3_5],(fset (fset h.v4_0 n4) n4),by simp [go_sem,h.f4_0],(fset (fset h.v4_1 n4) n4),by simp [go_sem,h.f4_1],by simp [go_sem, *],by simp [go_sem,h.f5_0],by simp [go_sem, *],by simp [go_sem,h.f5_1],by simpa using h.size,((h.below.setCell (by dsimp only;omega) _).setCell (by dsimp only;omega) _)⟩
theorem F6.step {w0 W:World} {n:Nat} {s t:D} {a b o0 o1 o2 o3 o4 o5 p q u v:Int} {W':World} {m:Nat} {E:Int} (h:F6 w0 W n s t a b o0 o1 o2 o3 o4 o5 p q u v) (st:Step n W m E W') (mg:n+1+1+1+1+1<m):F6 w0 W' n s t a b o0 o1 o2 o3 o4 o5 p q u v:=by
 have z:=h.size;have z':=st.size
 have l0:n<W.heap.size:=by omega
 have n0:¬(n=m):=by omega
 have l1:n+1<W.heap.size:=by omega
 have n1:¬(n+1=m):=by omega
 have l2:n+1+1<W.heap.size:=by omega
 have n2:¬(n+1+1=m):=by omega
 have l3:n+1+1+1<W.heap.size:=by omega
 have n3:¬(n+1+1+1=m):=by omega
 have l4:n+1+1+1+1<W.heap.size:=by omega
 have n4:¬(n+1+1+1+1=m):=by omega
 have l5:n+1+1+1+1+1<W.heap.size:=by omega
 have n5:¬(n+1+1+1+1+1=m):=by omega
 exact ⟨(st.other _ _ l0 n0).trans h.r0_0,(st.other _ _ l0 n0).trans h.r0_1,(st.other _ _ l0 n0).trans h.r0_2,(st.other _ _ l0 n0).trans h.r0_3,(st.other _ _ l0 n0).trans h.r0_4,(st.other _ _ l0 n0).trans h.r0_5,(st.other _ _ l1 n1).trans h.r1_0,(st.other _ _ l1 n1).trans h.r1_1,(st.other _ _ l1 n1).trans h.r1_2,(st.other _ _ l1 n1).trans h.r1_3,(st.other _ _ l1 n1).trans h.r1_4,(st.other _ _ l1 n1).trans h.r1_5,(st.other _ _ l2 n2).trans h.r2_0,(st.other _ _ l2 n2).trans h.r2_1,(st.other _ _ l3 n3).trans h.v3_0,(st.frozen _ _ l3).trans h.f3_0,(st.other _ _ l3 n3).trans h.v3_1,(st.frozen _ _ l3).trans h.f3_1,(st.other _ _ l3 n3).trans h.v3_2,(st.frozen _ _ l3).trans h.f3_2,(st.other _ _ l3 n3).trans h.v3_3,(st.frozen _ _ l3).trans h.f3_3,(st.other _ _ l3 n3).trans h.v3_4,(st.frozen _ _ l3).trans h.f3_4,(st.other _ _ l3 n3).trans h.v3_5,(st.frozen _ _ l3).trans h.f3_5,(st.other _ _ l4 n4).trans h.v4_0,(st.frozen _ _ l4).trans h.f4_0,(st.other _ _ l4 n4).trans h.v4_1,(st.frozen _ _ l4).trans h.f4_1,(st.other _ _ l5 n5).trans h.v5_0,(st.frozen _ _ l5).trans h.f5_0,(st.other _ _ l5 n5).trans h.v5_1,(st.frozen _ _ l5).trans h.f5_1,by omega,h.below.trans (st.below (by omega) (by omega))⟩
theorem F6.put {w0 W:World} {n:Nat} {s t:D} {a b o0 o1 o2 o3 o4 o5 p q u v:Int} {d i:Nat} {uu:Value} (h:F6 w0 W n s t a b o0 o1 o2 o3 o4 o5 p q u v) (lt:n+1+1+1+1+1<d):F6 w0 (W.setCell ⟨d,i,none⟩ uu) n s t a b o0 o1 o2 o3 o4 o5 p q u v:=by
 have n0:¬(n=d):=by omega
 have n1:¬(n+1=d):=by omega
 have n2:¬(n+1+1=d):=by omega
 have n3:¬(n+1+1+1=d):=by omega
 have n4:¬(n+1+1+1+1=d):=by omega
 have n5:¬(n+1+1+1+1+1=d):=by omega
 exact ⟨fset h.r0_0 n0,fset h.r0_1 n0,fset h.r0_2 n0,fset h.r0_3 n0,fset h.r0_4 n0,fset h.r0_5 n0,fset h.r1_0 n1,fset h.r1_1 n1,fset h.r1_2 n1,fset h.r1_3 n1,fset h.r1_4 n1,fset h.r1_5 n1,fset h.r2_0 n2,fset h.r2_1 n2,fset h.v3_0 n3,by simp [go_sem,h.f3_0],fset h.v3_1 n3,by simp [go_sem,h.f3_1],fset h.v3_2 n3,by simp [go_sem,h.f3_2],fset h.v3_3 n3,by simp [go_sem,h.f3_3],fset h.v3_4 n3,by simp [go_sem,h.f3_4],fset h.v3_5 n3,by simp [go_sem,h.f3_5],fset h.v4_0 n4,by simp [go_sem,h.f4_0],fset h.v4_1 n4,by simp [go_sem,h.f4_1],fset h.v5_0 n5,by simp [go_sem,h.f5_0],fset h.v5_1 n5,by simp [go_sem,h.f5_1],by simpa using h.size,h.below.setCell (by dsimp only;omega) _⟩
structure Ft (w0 W:World) (n:Nat) (s t:D) (a b o0 o1 o2 o3 o4 o5 p q u v:Int) (m:Nat) (E:Int):Prop where
 I:F6 w0 W n s t a b o0 o1 o2 o3 o4 o5 p q u v
 cE:W.cell? ⟨m,0,none⟩=some (.int .i64 E)
 fE:W.frozen? ⟨m,0,none⟩=false
 mg:n+1+1+1+1+1<m
 size:m<W.heap.size
theorem Ft.of {w0 W:World} {n:Nat} {s t:D} {a b o0 o1 o2 o3 o4 o5 p q u v:Int} {ty:TypeId} (h:F6 w0 W n s t a b o0 o1 o2 o3 o4 o5 p q u v):Ft w0 (W.alloc (.cells #[.int .i64 0] ty)) n s t a b o0 o1 o2 o3 o4 o5 p q u v W.heap.size 0:=⟨h.alc _,by simp [go_sem],by simp [go_sem],h.size,by simp⟩
theorem Ft.call {w0 W:World} {n:Nat} {s t:D} {a b o0 o1 o2 o3 o4 o5 p q u v:Int} {m:Nat} {E:Int} {W':World} (h:Ft w0 W n s t a b o0 o1 o2 o3 o4 o5 p q u v m E) (hb:Below W.heap.size W W'):Ft w0 W' n s t a b o0 o1 o2 o3 o4 o5 p q u v m E:=⟨h.I.call hb,(hb.cell (p:=⟨m,0,none⟩) h.size).trans h.cE,(hb.frozen (p:=⟨m,0,none⟩) h.size).trans h.fE,h.mg,Nat.lt_of_lt_of_le h.size hb.size⟩
theorem Ft.alc {w0 W:World} {n:Nat} {s t:D} {a b o0 o1 o2 o3 o4 o5 p q u v:Int} {m:Nat} {E:Int} (h:Ft w0 W n s t a b o0 o1 o2 o3 o4 o5 p q u v m E) (o:Obj):Ft w0 (W.alloc o) n s t a b o0 o1 o2 o3 o4 o5 p q u v m E:=h.call ((Below.refl _ _).alloc (Nat.le_refl _) o)
theorem Ft.drew {w0 W:World} {n:Nat} {s t:D} {a b o0 o1 o2 o3 o4 o5 p q u v:Int} {m:Nat} {E:Int} (h:Ft w0 W n s t a b o0 o1 o2 o3 o4 o5 p q u v m E):Ft w0 W.drew n s t a b o0 o1 o2 o3 o4 o5 p q u v m E:=h.call (Below.refl _ _).drew
theorem Ft.step {w0 W:World} {n:Nat} {s t:D} {a b o0 o1 o2 o3 o4 o5 p q u v:Int} {m:Nat} {E:Int} {W':World} {E':Int} (h:Ft w0 W n s t a b o0 o1 o2 o3 o4 o5 p q u v m E) (st:Step n W m E' W'):Ft w0 W' n s t a b o0 o1 o2 o3 o4 o5 p q u v m E':=⟨h.I.step st h.mg,st.cell,(st.frozen _ _ h.size).trans h.fE,h.mg,Nat.lt_of_lt_of_le h.size st.size⟩
theorem Ft.put {w0 W:World} {n:Nat} {s t:D} {a b o0 o1 o2 o3 o4 o5 p q u v:Int} {m:Nat} {E:Int} {d i:Nat} {uu:Value} (h:Ft w0 W n s t a b o0 o1 o2 o3 o4 o5 p q u v m E) (lt:m<d):Ft w0 (W.setCell ⟨d,i,none⟩ uu) n s t a b o0 o1 o2 o3 o4 o5 p q u v m E:=⟨h.I.put (Nat.lt_trans h.mg lt),fset h.cE (Nat.ne_of_lt lt),by simp [go_sem,h.fE],h.mg,by simpa using h.size⟩
theorem Ft.set3 {w0 W:World} {n:Nat} {s t:D} {a b o0 o1 o2 o3 o4 o5 p q u v:Int} {m:Nat} {E:Int} (h:Ft w0 W n s t a b o0 o1 o2 o3 o4 o5 p q u v m E) (u0 u1 u2 u3 u4 u5:Int):Ft w0 ((((((W.setCell ⟨n+1+1+1,0,none⟩ (.int .i64 u0)).setCell ⟨n+1+1+1,1,none⟩ (.int .i64 u1)).setCell ⟨n+1+1+1,2,none⟩ (.int .i64 u2)).setCell ⟨n+1+1+1,3,none⟩ (.int .i64 u3)).setCell ⟨n+1+1+1,4,none⟩ (.int .i64 u4)).setCell ⟨n+1+1+1,5,none⟩ (.int .i64 u5)) n s t a b u0 u1 u2 u3 u4 u5 p q u v m E:=by
 have mg:=h.mg
 have n3:¬(m=n+1+1+1):=by omega
 exact ⟨h.I.set3 u0 u1 u2 u3 u4 u5,(fset (fset (fset (fset (fset (fset h.cE n3) n3) n3) n3) n3) n3),by simp [go_sem,h.fE],mg,by simpa using h.size⟩
theorem Ft.set4 {w0 W:World} {n:Nat} {s t:D} {a b o0 o1 o2 o3 o4 o5 p q u v:Int} {m:Nat} {E:Int} (h:Ft w0 W n s t a b o0 o1 o2 o3 o4 o5 p q u v m E) (u0 u1:Int):Ft w0 ((W.setCell ⟨n+1+1+1+1,0,none⟩ (.int .i64 u0)).setCell ⟨n+1+1+1+1,1,none⟩ (.int .i64 u1)) n s t a b o0 o1 o2 o3 o4 o5 u0 u1 u v m E:=by
 have mg:=h.mg
 have n3:¬(m=n+1+1+1+1):=by omega
 exact ⟨h.I.set4 u0 u1,(fset (fset h.cE n3) n3),by simp [go_sem,h.fE],mg,by simpa using h.size⟩
theorem Ft.set5 {w0 W:World} {n:Nat} {s t:D} {a b o0 o1 o2 o3 o4 o5 p q u v:Int} {m:Nat} {E:Int} (h:Ft w0 W n s t a b o0 o1 o2 o3 o4 o5 p q u v m E) (u0 u1:Int):Ft w0 ((W.setCell ⟨n+1+1+1+1+1,0,none⟩ (.int .i64 u0)).setCell ⟨n+1+1+1+1+1,1,none⟩ (.int .i64 u1)) n s t a b o0 o1 o2 o3 o4 o5 p q u0 u1 m E:=by
 have mg:=h.mg
 have n3:¬(m=n+1+1+1+1+1):=by omega
 exact ⟨h.I.set5 u0 u1,(fset (fset h.cE n3) n3),by simp [go_sem,h.fE],mg,by simpa using h.size⟩
theorem Ft.res {w0 W:World} {n:Nat} {s t:D} {a b o0 o1 o2 o3 o4 o5 p q u v:Int} {m:Nat} {E:Int} (h:Ft w0 W n s t a b o0 o1 o2 o3 o4 o5 p q u v m E):W.cell? ⟨n+1+1+1,0,none⟩=some (.int .i64 o0)∧W.cell? ⟨n+1+1+1,1,none⟩=some (.int .i64 o1)∧W.cell? ⟨n+1+1+1,2,none⟩=some (.int .i64 o2)∧W.cell? ⟨n+1+1+1,3,none⟩=some (.int .i64 o3)∧W.cell? ⟨n+1+1+1,4,none⟩=some (.int .i64 o4)∧W.cell? ⟨n+1+1+1,5,none⟩=some (.int .i64 o5)∧W.cell? ⟨n+1+1+1+1,0,none⟩=some (.int .i64 p)∧W.cell? ⟨n+1+1+1+1,1,none⟩=some (.int .i64 q)∧W.cell? ⟨n+1+1+1+1+1,0,none⟩=some (.int .i64 u)∧W.cell? ⟨n+1+1+1+1+1,1,none⟩=some (.int .i64 v)∧W.cell? ⟨m,0,none⟩=some (.int .i64 E):=⟨h.I.v3_0,h.I.v3_1,h.I.v3_2,h.I.v3_3,h.I.v3_4,h.I.v3_5,h.I.v4_0,h.I.v4_1,h.I.v5_0,h.I.v5_1,h.cE⟩
theorem At.e0 {W:World} {b:Nat} {p q r s t u:Value} (h:At W b [p,q,r,s,t,u]):W.cell? ⟨b,0,none⟩=some p:=h.2 0 _ rfl
theorem At.e1 {W:World} {b:Nat} {p q r s t u:Value} (h:At W b [p,q,r,s,t,u]):W.cell? ⟨b,1,none⟩=some q:=h.2 1 _ rfl
theorem At.e2 {W:World} {b:Nat} {p q r s t u:Value} (h:At W b [p,q,r,s,t,u]):W.cell? ⟨b,2,none⟩=some r:=h.2 2 _ rfl
theorem At.e3 {W:World} {b:Nat} {p q r s t u:Value} (h:At W b [p,q,r,s,t,u]):W.cell? ⟨b,3,none⟩=some s:=h.2 3 _ rfl
theorem At.e4 {W:World} {b:Nat} {p q r s t u:Value} (h:At W b [p,q,r,s,t,u]):W.cell? ⟨b,4,none⟩=some t:=h.2 4 _ rfl
theorem At.e5 {W:World} {b:Nat} {p q r s t u:Value} (h:At W b [p,q,r,s,t,u]):W.cell? ⟨b,5,none⟩=some u:=h.2 5 _ rfl
structure RF where
 d:D
 p:Int
 q:Int
 u:Int
 v:Int
 e:Int
def failF (e:Int):RF:=⟨zD,0,0,0,0,e⟩
def cleanF (f:RF):RF:=if f.e=0 then f else failF f.e
def retF (f:RF):Ending:=.returned (.tuple #[dv f.d,iv f.p f.q,iv f.u f.v,.int .i64 f.e])
theorem clean_if {d:D} {p q u v e:Int} : cleanF ⟨d,p,q,u,v,e⟩=if e=0 then ⟨d,p,q,u,v,0⟩ else failF e:=by
 unfold cleanF
 by_cases h:e=0
 ·subst h;rfl
 ·rw [if_neg h,if_neg h]
def tailF (s t:D) (a b p q u v:Int):RF:=
 let t1:=goOnD 0 (scaleD s a b)
 let n1:=goOn t1.e (mulR a b p q)
 let n2:=goOn n1.e (subR u v n1.lo n1.hi)
 let t2:=goOnD n2.e (scaleD t n2.lo n2.hi)
 let o:=goOnD t2.e (addD t1.d t2.d)
 if o.e=0 then ⟨o.d,p,q,u,v,0⟩ else failF o.e
def afterR (p q x y:Int):R:=if sgn p q<0 then negR (sqrtR x y).lo (sqrtR x y).hi else sqrtR x y
def refrR (s t:D) (a b:Int):RF:=if (vD s && vD t)=true∧vB a b=true then
  (if (dotR s t).e=0 then (if sgn (dotR s t).lo (dotR s t).hi=0 then failF 9 else
   (if (radR (dotR s t).lo (dotR s t).hi a b).e=0 then (if (radR (dotR s t).lo (dotR s t).hi a b).lo<0 then failF 15 else
    tailF s t a b (dotR s t).lo (dotR s t).hi (afterR (dotR s t).lo (dotR s t).hi (radR (dotR s t).lo (dotR s t).hi a b).lo (radR (dotR s t).lo (dotR s t).hi a b).hi).lo (afterR (dotR s t).lo (dotR s t).hi (radR (dotR s t).lo (dotR s t).hi a b).lo (radR (dotR s t).lo (dotR s t).hi a b).hi).hi)
    else failF (radR (dotR s t).lo (dotR s t).hi a b).e)) else failF (dotR s t).e)
 else failF 1
set_option maxRecDepth 100000 in
set_option maxHeartbeats 8000000 in
theorem refract_any (s t:D) (a b:Int) (w:World) :
  Calls Tryz.prog 102 #[dv s,dv t,iv a b] w fun e w'=>(∃f:RF,e=retF f∧cleanF f=refrR s t a b)∧Below w.heap.size w w':=by
 have I0:F6 w ((((((w.alloc (.cells #[.int .i64 s.a,.int .i64 s.b,.int .i64 s.c,.int .i64 s.d,.int .i64 s.e,.int .i64 s.f] 45)).alloc (.cells #[.int .i64 t.a,.int .i64 t.b,.int .i64 t.c,.int .i64 t.d,.int .i64 t.e,.int .i64 t.f] 45)).alloc (.cells #[.int .i64 a,.int .i64 b] 25)).alloc (.cells #[.int .i64 0,.int .i64 0,.int .i64 0,.int .i64 0,.int .i64 0,.int .i64 0] 45)).alloc (.cells #[.int .i64 0,.int .i64 0] 25)).alloc (.cells #[.int .i64 0,.int .i64 0] 25)) w.heap.size s t a b 0 0 0 0 0 0 0 0 0 0:=by
  refine ⟨by simp [go_sem],by simp [go_sem],by simp [go_sem],by simp [go_sem],by simp [go_sem],by simp [go_sem],by simp [go_sem],by simp [go_sem],by simp [go_sem],by simp [go_sem],by simp [go_sem],by simp [go_sem],by simp [go_sem],by simp [go_sem],by simp [go_sem],by simp [go_sem],by simp [go_sem],by simp [go_sem],by simp [go_sem],by simp [go_sem],by simp [go_sem],by simp [go_sem],by simp [go_sem],by simp [go_sem],by simp [go_sem],by simp [go_sem],by simp [go_sem],by simp [go_sem],by simp [go_sem],by simp [go_sem],by simp [go_sem],by simp [go_sem],by simp [go_sem],by simp [go_sem],by simp,?_⟩
  ·repeat (first|exact Below.refl _ _|refine Below.alloc ?_ (by first|omega|(simp<;>omega)) _)
 cases hs:(vD s && vD t)
 ·have hR:refrR s t a b=failF 1:=if_neg (by rw [hs];simp);have HS:=Lib.hid hs;clear hs;go_enter Tryz.func102,Tryz.ntmps102
  go_wp2_with fail
  refine (vray_any s t _).mono ?_;rintro e w1 ⟨rfl,hb⟩;rw [HS.out];have I1:=I0.call hb;clear hb;have I1al0:=I1.al0
  go_wp2_with fail
  go_region_held3 (fun w'=>w'.cell? ⟨w.heap.size+1+1+1,0,none⟩=some (.int .i64 0)∧w'.cell? ⟨w.heap.size+1+1+1,1,none⟩=some (.int .i64 0)∧w'.cell? ⟨w.heap.size+1+1+1,2,none⟩=some (.int .i64 0)∧w'.cell? ⟨w.heap.size+1+1+1,3,none⟩=some (.int .i64 0)∧w'.cell? ⟨w.heap.size+1+1+1,4,none⟩=some (.int .i64 0)∧w'.cell? ⟨w.heap.size+1+1+1,5,none⟩=some (.int .i64 0)∧w'.cell? ⟨w.heap.size+1+1+1+1,0,none⟩=some (.int .i64 0)∧w'.cell? ⟨w.heap.size+1+1+1+1,1,none⟩=some (.int .i64 0)∧w'.cell? ⟨w.heap.size+1+1+1+1+1,0,none⟩=some (.int .i64 0)∧w'.cell? ⟨w.heap.size+1+1+1+1+1,1,none⟩=some (.int .i64 0)) (with_reducible first|exact I1.drew.res|exact (I1.set3 (0) (0) (0) (0) (0) (0)).drew.res|exact ((I1.set3 (0) (0) (0) (0) (0) (0)).set4 (0) (0)).drew.res|exact (((I1.set3 (0) (0) (0) (0) (0) (0)).set4 (0) (0)).set5 (0) (0)).drew.res)
   (fail)
  all_goals go_wp2_with fail
  have K:=(((I1.set3 (0) (0) (0) (0) (0) (0)).set4 (0) (0)).set5 (0) (0)).drew.res;have KB:=(((I1.set3 (0) (0) (0) (0) (0) (0)).set4 (0) (0)).set5 (0) (0)).drew.below;revert K KB;generalize ((((((((((w1.setCell ⟨w.heap.size+1+1+1,0,none⟩ (.int .i64 0)).setCell ⟨w.heap.size+1+1+1,1,none⟩ (.int .i64 0)).setCell ⟨w.heap.size+1+1+1,2,none⟩ (.int .i64 0)).setCell ⟨w.heap.size+1+1+1,3,none⟩ (.int .i64 0)).setCell ⟨w.heap.size+1+1+1,4,none⟩ (.int .i64 0)).setCell ⟨w.heap.size+1+1+1,5,none⟩ (.int .i64 0)).setCell ⟨w.heap.size+1+1+1+1,0,none⟩ (.int .i64 0)).setCell ⟨w.heap.size+1+1+1+1,1,none⟩ (.int .i64 0)).setCell ⟨w.heap.size+1+1+1+1+1,0,none⟩ (.int .i64 0)).setCell ⟨w.heap.size+1+1+1+1+1,1,none⟩ (.int .i64 0)).drew=X;intro K KB;obtain ⟨kk0,kk1,kk2,kk3,kk4,kk5,kk6,kk7,kk8,kk9⟩:=K;exact bodyPost_ret (v:=.tuple #[dv ⟨0,0,0,0,0,0⟩,iv 0 0,iv 0 0,.int .i64 1]) (by simp [results,Tryz.results102,go_sem,kk0,kk1,kk2,kk3,kk4,kk5,kk6,kk7,kk8,kk9]) rfl ⟨⟨⟨⟨0,0,0,0,0,0⟩,0,0,0,0,1⟩,rfl,by rw [hR];rfl⟩,KB⟩
 ·cases ht:vB a b
  ·have hR:refrR s t a b=failF 1:=if_neg (by rw [ht];simp);have HS:=Lib.hid hs;have HT:=Lib.hid ht;clear hs ht;go_enter Tryz.func102,Tryz.ntmps102
   go_wp2_with fail
   refine (vray_any s t _).mono ?_;rintro e w1 ⟨rfl,hb⟩;rw [HS.out];have I1:=I0.call hb;clear hb;have I1al0:=I1.al0
   go_wp2_with fail
   refine (validb_any a b _).mono ?_;rintro e w2 ⟨rfl,hb⟩;rw [HT.out];have I2:=I1.call hb;clear hb;clear I1al0;have I2al0:=I2.al0
   go_wp2_with fail
   go_region_held3 (fun w'=>w'.cell? ⟨w.heap.size+1+1+1,0,none⟩=some (.int .i64 0)∧w'.cell? ⟨w.heap.size+1+1+1,1,none⟩=some (.int .i64 0)∧w'.cell? ⟨w.heap.size+1+1+1,2,none⟩=some (.int .i64 0)∧w'.cell? ⟨w.heap.size+1+1+1,3,none⟩=some (.int .i64 0)∧w'.cell? ⟨w.heap.size+1+1+1,4,none⟩=some (.int .i64 0)∧w'.cell? ⟨w.heap.size+1+1+1,5,none⟩=some (.int .i64 0)∧w'.cell? ⟨w.heap.size+1+1+1+1,0,none⟩=some (.int .i64 0)∧w'.cell? ⟨w.heap.size+1+1+1+1,1,none⟩=some (.int .i64 0)∧w'.cell? ⟨w.heap.size+1+1+1+1+1,0,none⟩=some (.int .i64 0)∧w'.cell? ⟨w.heap.size+1+1+1+1+1,1,none⟩=some (.int .i64 0)) (with_reducible first|exact I2.drew.res|exact (I2.set3 (0) (0) (0) (0) (0) (0)).drew.res|exact ((I2.set3 (0) (0) (0) (0) (0) (0)).set4 (0) (0)).drew.res|exact (((I2.set3 (0) (0) (0) (0) (0) (0)).set4 (0) (0)).set5 (0) (0)).drew.res)
    (fail)
   all_goals go_wp2_with fail
   have K:=(((I2.set3 (0) (0) (0) (0) (0) (0)).set4 (0) (0)).set5 (0) (0)).drew.res;have KB:=(((I2.set3 (0) (0) (0) (0) (0) (0)).set4 (0) (0)).set5 (0) (0)).drew.below;revert K KB;generalize ((((((((((w2.setCell ⟨w.heap.size+1+1+1,0,none⟩ (.int .i64 0)).setCell ⟨w.heap.size+1+1+1,1,none⟩ (.int .i64 0)).setCell ⟨w.heap.size+1+1+1,2,none⟩ (.int .i64 0)).setCell ⟨w.heap.size+1+1+1,3,none⟩ (.int .i64 0)).setCell ⟨w.heap.size+1+1+1,4,none⟩ (.int .i64 0)).setCell ⟨w.heap.size+1+1+1,5,none⟩ (.int .i64 0)).setCell ⟨w.heap.size+1+1+1+1,0,none⟩ (.int .i64 0)).setCell ⟨w.heap.size+1+1+1+1,1,none⟩ (.int .i64 0)).setCell ⟨w.heap.size+1+1+1+1+1,0,none⟩ (.int .i64 0)).setCell ⟨w.heap.size+1+1+1+1+1,1,none⟩ (.int .i64 0)).drew=X;intro K KB;obtain ⟨kk0,kk1,kk2,kk3,kk4,kk5,kk6,kk7,kk8,kk9⟩:=K;exact bodyPost_ret (v:=.tuple #[dv ⟨0,0,0,0,0,0⟩,iv 0 0,iv 0 0,.int .i64 1]) (by simp [results,Tryz.results102,go_sem,kk0,kk1,kk2,kk3,kk4,kk5,kk6,kk7,kk8,kk9]) rfl ⟨⟨⟨⟨0,0,0,0,0,0⟩,0,0,0,0,1⟩,rfl,by rw [hR];rfl⟩,KB⟩
  ·obtain ⟨⟨c1,k1,e1⟩,h1⟩:∃r:R,dotR s t=r:=⟨_,rfl⟩;have H1:=Lib.hid (show retR (dotR s t) = .returned (.tuple #[iv c1 k1,.int .i64 e1]) from by rw [h1]);obtain ⟨⟨c2,k2,e2⟩,h2⟩:∃r:R,radR c1 k1 a b=r:=⟨_,rfl⟩;have H2:=Lib.hid (show retR (radR c1 k1 a b) = .returned (.tuple #[iv c2 k2,.int .i64 e2]) from by rw [h2]);obtain ⟨⟨c3,k3,e3⟩,h3⟩:∃r:R,sqrtR c2 k2=r:=⟨_,rfl⟩;have H3:=Lib.hid (show retR (sqrtR c2 k2) = .returned (.tuple #[iv c3 k3,.int .i64 e3]) from by rw [h3]);obtain ⟨⟨c4,k4,e4⟩,h4⟩:∃r:R,negR c3 k3=r:=⟨_,rfl⟩;have H4:=Lib.hid (show retR (negR c3 k3) = .returned (.tuple #[iv c4 k4,.int .i64 e4]) from by rw [h4])
   have HH:refrR s t a b=(if e1=0 then (if sgn c1 k1=0 then failF 9 else (if e2=0 then (if c2<0 then failF 15 else tailF s t a b c1 k1 (afterR c1 k1 c2 k2).lo (afterR c1 k1 c2 k2).hi) else failF e2)) else failF e1):=by rw [show refrR s t a b=_ from if_pos ⟨hs,ht⟩,h1];dsimp only;rw [h2]
   have HA:afterR c1 k1 c2 k2=if sgn c1 k1<0 then ⟨c4,k4,e4⟩ else ⟨c3,k3,e3⟩:=by unfold afterR;rw [h3];dsimp only;rw [h4]
   clear h1 h2 h3 h4
   by_cases hE:e1=0
   ·subst hE
    by_cases hZ:sgn c1 k1=0
    ·have hR:refrR s t a b=failF 9:=by rw [HH,if_pos rfl,if_pos hZ]
     have HZ:=Lib.hid hZ;clear HH HA hZ;have HS:=Lib.hid hs;have HT:=Lib.hid ht;clear hs ht;go_enter Tryz.func102,Tryz.ntmps102
     go_wp2_with fail
     refine (vray_any s t _).mono ?_;rintro e w1 ⟨rfl,hb⟩;rw [HS.out];have I1:=I0.call hb;clear hb;have I1al0:=I1.al0
     go_wp2_with fail
     refine (validb_any a b _).mono ?_;rintro e w2 ⟨rfl,hb⟩;rw [HT.out];have I2:=I1.call hb;clear hb;clear I1al0;have I2al0:=I2.al0
     go_wp2_with fail
     refine (ddot_any s t _).mono ?_;rintro e w3 ⟨rfl,hb⟩;rw [H1.out];have I3:=I2.call hb;clear hb;clear I2al0;have I3al0:=I3.al0
     go_wp2_with fail
     refine (sign_any c1 k1 _).mono ?_;rintro e w4 ⟨rfl,hb⟩;rw [HZ.out];have I4:=(I3.set4 c1 k1).call hb;clear hb;clear I3al0;have I4al0:=I4.al0
     go_wp2_with fail
     go_region_held3 (fun w'=>w'.cell? ⟨w.heap.size+1+1+1,0,none⟩=some (.int .i64 0)∧w'.cell? ⟨w.heap.size+1+1+1,1,none⟩=some (.int .i64 0)∧w'.cell? ⟨w.heap.size+1+1+1,2,none⟩=some (.int .i64 0)∧w'.cell? ⟨w.heap.size+1+1+1,3,none⟩=some (.int .i64 0)∧w'.cell? ⟨w.heap.size+1+1+1,4,none⟩=some (.int .i64 0)∧w'.cell? ⟨w.heap.size+1+1+1,5,none⟩=some (.int .i64 0)∧w'.cell? ⟨w.heap.size+1+1+1+1,0,none⟩=some (.int .i64 c1)∧w'.cell? ⟨w.heap.size+1+1+1+1,1,none⟩=some (.int .i64 k1)∧w'.cell? ⟨w.heap.size+1+1+1+1+1,0,none⟩=some (.int .i64 0)∧w'.cell? ⟨w.heap.size+1+1+1+1+1,1,none⟩=some (.int .i64 0)) (with_reducible first|exact I4.drew.res|exact (I4.set3 (0) (0) (0) (0) (0) (0)).drew.res|exact ((I4.set3 (0) (0) (0) (0) (0) (0)).set4 (c1) (k1)).drew.res|exact (((I4.set3 (0) (0) (0) (0) (0) (0)).set4 (c1) (k1)).set5 (0) (0)).drew.res)
      (fail)
     all_goals go_wp2_with fail
     have K:=(((I4.set3 (0) (0) (0) (0) (0) (0)).set4 (c1) (k1)).set5 (0) (0)).drew.res;have KB:=(((I4.set3 (0) (0) (0) (0) (0) (0)).set4 (c1) (k1)).set5 (0) (0)).drew.below;revert K KB;generalize ((((((((((w4.setCell ⟨w.heap.size+1+1+1,0,none⟩ (.int .i64 0)).setCell ⟨w.heap.size+1+1+1,1,none⟩ (.int .i64 0)).setCell ⟨w.heap.size+1+1+1,2,none⟩ (.int .i64 0)).setCell ⟨w.heap.size+1+1+1,3,none⟩ (.int .i64 0)).setCell ⟨w.heap.size+1+1+1,4,none⟩ (.int .i64 0)).setCell ⟨w.heap.size+1+1+1,5,none⟩ (.int .i64 0)).setCell ⟨w.heap.size+1+1+1+1,0,none⟩ (.int .i64 c1)).setCell ⟨w.heap.size+1+1+1+1,1,none⟩ (.int .i64 k1)).setCell ⟨w.heap.size+1+1+1+1+1,0,none⟩ (.int .i64 0)).setCell ⟨w.heap.size+1+1+1+1+1,1,none⟩ (.int .i64 0)).drew=X;intro K KB;obtain ⟨kk0,kk1,kk2,kk3,kk4,kk5,kk6,kk7,kk8,kk9⟩:=K;exact bodyPost_ret (v:=.tuple #[dv ⟨0,0,0,0,0,0⟩,iv c1 k1,iv 0 0,.int .i64 9]) (by simp [results,Tryz.results102,go_sem,kk0,kk1,kk2,kk3,kk4,kk5,kk6,kk7,kk8,kk9]) rfl ⟨⟨⟨⟨0,0,0,0,0,0⟩,c1,k1,0,0,9⟩,rfl,by rw [hR];rfl⟩,KB⟩
    ·obtain ⟨σ,hσ⟩:∃σ,sgn c1 k1 = σ:=⟨_,rfl⟩;rw [hσ] at hZ HH HA;have HG:=Lib.hid hσ;clear hσ
     have hZ':(σ == 0)=false:=by simpa using hZ
     by_cases hF:e2=0
     ·subst hF
      by_cases hN:c2<0
      ·have hR:refrR s t a b=failF 15:=by rw [HH,if_pos rfl,if_neg hZ,if_pos rfl,if_pos hN]
       clear HH HA;have HS:=Lib.hid hs;have HT:=Lib.hid ht;clear hs ht;go_enter Tryz.func102,Tryz.ntmps102
       go_wp2_with fail
       refine (vray_any s t _).mono ?_;rintro e w1 ⟨rfl,hb⟩;rw [HS.out];have I1:=I0.call hb;clear hb;have I1al0:=I1.al0
       go_wp2_with fail
       refine (validb_any a b _).mono ?_;rintro e w2 ⟨rfl,hb⟩;rw [HT.out];have I2:=I1.call hb;clear hb;clear I1al0;have I2al0:=I2.al0
       go_wp2_with fail
       refine (ddot_any s t _).mono ?_;rintro e w3 ⟨rfl,hb⟩;rw [H1.out];have I3:=I2.call hb;clear hb;clear I2al0;have I3al0:=I3.al0
       go_wp2_with fail
       refine (sign_any c1 k1 _).mono ?_;rintro e w4 ⟨rfl,hb⟩;rw [HG.out];have I4:=(I3.set4 c1 k1).call hb;clear hb;clear I3al0;have I4al0:=I4.al0
       go_wp2_with fail
       refine (radicand_any c1 k1 a b _).mono ?_;rintro e w5 ⟨rfl,hb⟩;rw [H2.out];have I5:=I4.call hb;clear hb;clear I4al0;have I5al0:=I5.al0
       have naq_0:w.heap.size<w5.heap.size:=by omega
       have nbq_0:¬(w.heap.size=w5.heap.size):=by omega
       have ncq_0:¬(w5.heap.size=w.heap.size):=by omega
       have ndq_0:w.heap.size<w5.heap.size+1:=by omega
       have naq_1:w.heap.size+1<w5.heap.size:=by omega
       have nbq_1:¬(w.heap.size+1=w5.heap.size):=by omega
       have ncq_1:¬(w5.heap.size=w.heap.size+1):=by omega
       have ndq_1:w.heap.size+1<w5.heap.size+1:=by omega
       have naq_2:w.heap.size+1+1<w5.heap.size:=by omega
       have nbq_2:¬(w.heap.size+1+1=w5.heap.size):=by omega
       have ncq_2:¬(w5.heap.size=w.heap.size+1+1):=by omega
       have ndq_2:w.heap.size+1+1<w5.heap.size+1:=by omega
       have naq_3:w.heap.size+1+1+1<w5.heap.size:=by omega
       have nbq_3:¬(w.heap.size+1+1+1=w5.heap.size):=by omega
       have ncq_3:¬(w5.heap.size=w.heap.size+1+1+1):=by omega
       have ndq_3:w.heap.size+1+1+1<w5.heap.size+1:=by omega
       have naq_4:w.heap.size+1+1+1+1<w5.heap.size:=by omega
       have nbq_4:¬(w.heap.size+1+1+1+1=w5.heap.size):=by omega
       have ncq_4:¬(w5.heap.size=w.heap.size+1+1+1+1):=by omega
       have ndq_4:w.heap.size+1+1+1+1<w5.heap.size+1:=by omega
       have naq_5:w.heap.size+1+1+1+1+1<w5.heap.size:=by omega
       have nbq_5:¬(w.heap.size+1+1+1+1+1=w5.heap.size):=by omega
       have ncq_5:¬(w5.heap.size=w.heap.size+1+1+1+1+1):=by omega
       have ndq_5:w.heap.size+1+1+1+1+1<w5.heap.size+1:=by omega
       go_wp2_with fail
       go_region_held3 (fun w'=>w'.cell? ⟨w.heap.size+1+1+1,0,none⟩=some (.int .i64 0)∧w'.cell? ⟨w.heap.size+1+1+1,1,none⟩=some (.int .i64 0)∧w'.cell? ⟨w.heap.size+1+1+1,2,none⟩=some (.int .i64 0)∧w'.cell? ⟨w.heap.size+1+1+1,3,none⟩=some (.int .i64 0)∧w'.cell? ⟨w.heap.size+1+1+1,4,none⟩=some (.int .i64 0)∧w'.cell? ⟨w.heap.size+1+1+1,5,none⟩=some (.int .i64 0)∧w'.cell? ⟨w.heap.size+1+1+1+1,0,none⟩=some (.int .i64 c1)∧w'.cell? ⟨w.heap.size+1+1+1+1,1,none⟩=some (.int .i64 k1)∧w'.cell? ⟨w.heap.size+1+1+1+1+1,0,none⟩=some (.int .i64 0)∧w'.cell? ⟨w.heap.size+1+1+1+1+1,1,none⟩=some (.int .i64 0)) (with_reducible first|exact (I5.alc _).drew.res|exact ((I5.set3 (0) (0) (0) (0) (0) (0)).alc _).drew.res|exact (((I5.set3 (0) (0) (0) (0) (0) (0)).set4 (c1) (k1)).alc _).drew.res|exact ((((I5.set3 (0) (0) (0) (0) (0) (0)).set4 (c1) (k1)).set5 (0) (0)).alc _).drew.res)
        (fail)
       all_goals go_wp2_with fail
       have K:=((((I5.set3 (0) (0) (0) (0) (0) (0)).set4 (c1) (k1)).set5 (0) (0)).alc (.cells #[.int .i64 c2,.int .i64 k2] 25)).drew.res;have KB:=((((I5.set3 (0) (0) (0) (0) (0) (0)).set4 (c1) (k1)).set5 (0) (0)).alc (.cells #[.int .i64 c2,.int .i64 k2] 25)).drew.below;revert K KB;generalize (((((((((((w5.setCell ⟨w.heap.size+1+1+1,0,none⟩ (.int .i64 0)).setCell ⟨w.heap.size+1+1+1,1,none⟩ (.int .i64 0)).setCell ⟨w.heap.size+1+1+1,2,none⟩ (.int .i64 0)).setCell ⟨w.heap.size+1+1+1,3,none⟩ (.int .i64 0)).setCell ⟨w.heap.size+1+1+1,4,none⟩ (.int .i64 0)).setCell ⟨w.heap.size+1+1+1,5,none⟩ (.int .i64 0)).setCell ⟨w.heap.size+1+1+1+1,0,none⟩ (.int .i64 c1)).setCell ⟨w.heap.size+1+1+1+1,1,none⟩ (.int .i64 k1)).setCell ⟨w.heap.size+1+1+1+1+1,0,none⟩ (.int .i64 0)).setCell ⟨w.heap.size+1+1+1+1+1,1,none⟩ (.int .i64 0)).alloc (.cells #[.int .i64 c2,.int .i64 k2] 25)).drew=X;intro K KB;obtain ⟨kk0,kk1,kk2,kk3,kk4,kk5,kk6,kk7,kk8,kk9⟩:=K;exact bodyPost_ret (v:=.tuple #[dv ⟨0,0,0,0,0,0⟩,iv c1 k1,iv 0 0,.int .i64 15]) (by simp [results,Tryz.results102,go_sem,kk0,kk1,kk2,kk3,kk4,kk5,kk6,kk7,kk8,kk9]) rfl ⟨⟨⟨⟨0,0,0,0,0,0⟩,c1,k1,0,0,15⟩,rfl,by rw [hR];rfl⟩,KB⟩
      ·have HR:refrR s t a b=tailF s t a b c1 k1 (afterR c1 k1 c2 k2).lo (afterR c1 k1 c2 k2).hi:=by rw [HH,if_pos rfl,if_neg hZ,if_pos rfl,if_neg hN]
       clear HH
       by_cases hS : σ < 0
       ·rw [if_pos hS] at HA;rw [HA] at HR;dsimp only at HR;clear HA;obtain ⟨⟨⟨y0,y1,y2,y3,y4,y5⟩,f1⟩,hy⟩:∃r:RD,goOnD 0 (scaleD s a b)=r:=⟨_,rfl⟩;have HY:=Lib.hid (show Ending.returned (dv (goOnD 0 (scaleD s a b)).d) = .returned (.agg #[.int .i64 y0,.int .i64 y1,.int .i64 y2,.int .i64 y3,.int .i64 y4,.int .i64 y5])∧(goOnD 0 (scaleD s a b)).e=f1 from by rw [hy];exact ⟨rfl,rfl⟩);obtain ⟨⟨p5,q5,f2⟩,hn5⟩:∃r:R,goOn f1 (mulR a b c1 k1)=r:=⟨_,rfl⟩;have N5:=Lib.hid (show Ending.returned (iv (goOn f1 (mulR a b c1 k1)).lo (goOn f1 (mulR a b c1 k1)).hi) = .returned (iv p5 q5)∧(goOn f1 (mulR a b c1 k1)).e=f2 from by rw [hn5];exact ⟨rfl,rfl⟩);obtain ⟨⟨p6,q6,f3⟩,hn6⟩:∃r:R,goOn f2 (subR c4 k4 p5 q5)=r:=⟨_,rfl⟩;have N6:=Lib.hid (show Ending.returned (iv (goOn f2 (subR c4 k4 p5 q5)).lo (goOn f2 (subR c4 k4 p5 q5)).hi) = .returned (iv p6 q6)∧(goOn f2 (subR c4 k4 p5 q5)).e=f3 from by rw [hn6];exact ⟨rfl,rfl⟩);obtain ⟨⟨⟨g0,g1,g2,g3,g4,g5⟩,f4⟩,hg⟩:∃r:RD,goOnD f3 (scaleD t p6 q6)=r:=⟨_,rfl⟩;have HG4:=Lib.hid (show Ending.returned (dv (goOnD f3 (scaleD t p6 q6)).d) = .returned (.agg #[.int .i64 g0,.int .i64 g1,.int .i64 g2,.int .i64 g3,.int .i64 g4,.int .i64 g5])∧(goOnD f3 (scaleD t p6 q6)).e=f4 from by rw [hg];exact ⟨rfl,rfl⟩);obtain ⟨⟨⟨d0,d1,d2,d3,d4,d5⟩,f5⟩,hdd⟩:∃r:RD,goOnD f4 (addD ⟨y0,y1,y2,y3,y4,y5⟩ ⟨g0,g1,g2,g3,g4,g5⟩)=r:=⟨_,rfl⟩;have HD5:=Lib.hid (show Ending.returned (dv (goOnD f4 (addD ⟨y0,y1,y2,y3,y4,y5⟩ ⟨g0,g1,g2,g3,g4,g5⟩)).d) = .returned (.agg #[.int .i64 d0,.int .i64 d1,.int .i64 d2,.int .i64 d3,.int .i64 d4,.int .i64 d5])∧(goOnD f4 (addD ⟨y0,y1,y2,y3,y4,y5⟩ ⟨g0,g1,g2,g3,g4,g5⟩)).e=f5 from by rw [hdd];exact ⟨rfl,rfl⟩)
        have HT9:tailF s t a b c1 k1 c4 k4=if f5=0 then ⟨⟨d0,d1,d2,d3,d4,d5⟩,c1,k1,c4,k4,0⟩ else failF f5:=by unfold tailF;simp only [hy,hn5,hn6,hg,hdd]
        rw [HT9] at HR;clear hy hn5 hn6 hg hdd HT9;have HS:=Lib.hid hs;have HT:=Lib.hid ht;clear hs ht;go_enter Tryz.func102,Tryz.ntmps102
        go_wp2_with fail
        refine (vray_any s t _).mono ?_;rintro e w1 ⟨rfl,hb⟩;rw [HS.out];have I1:=I0.call hb;clear hb;have I1al0:=I1.al0
        go_wp2_with fail
        refine (validb_any a b _).mono ?_;rintro e w2 ⟨rfl,hb⟩;rw [HT.out];have I2:=I1.call hb;clear hb;clear I1al0;have I2al0:=I2.al0
        go_wp2_with fail
        refine (ddot_any s t _).mono ?_;rintro e w3 ⟨rfl,hb⟩;rw [H1.out];have I3:=I2.call hb;clear hb;clear I2al0;have I3al0:=I3.al0
        go_wp2_with fail
        refine (sign_any c1 k1 _).mono ?_;rintro e w4 ⟨rfl,hb⟩;rw [HG.out];have I4:=(I3.set4 c1 k1).call hb;clear hb;clear I3al0;have I4al0:=I4.al0
        go_wp2_with fail
        refine (radicand_any c1 k1 a b _).mono ?_;rintro e w5 ⟨rfl,hb⟩;rw [H2.out];have I5:=I4.call hb;clear hb;clear I4al0;have I5al0:=I5.al0
        have naq_0:w.heap.size<w5.heap.size:=by omega
        have nbq_0:¬(w.heap.size=w5.heap.size):=by omega
        have ncq_0:¬(w5.heap.size=w.heap.size):=by omega
        have ndq_0:w.heap.size<w5.heap.size+1:=by omega
        have naq_1:w.heap.size+1<w5.heap.size:=by omega
        have nbq_1:¬(w.heap.size+1=w5.heap.size):=by omega
        have ncq_1:¬(w5.heap.size=w.heap.size+1):=by omega
        have ndq_1:w.heap.size+1<w5.heap.size+1:=by omega
        have naq_2:w.heap.size+1+1<w5.heap.size:=by omega
        have nbq_2:¬(w.heap.size+1+1=w5.heap.size):=by omega
        have ncq_2:¬(w5.heap.size=w.heap.size+1+1):=by omega
        have ndq_2:w.heap.size+1+1<w5.heap.size+1:=by omega
        have naq_3:w.heap.size+1+1+1<w5.heap.size:=by omega
        have nbq_3:¬(w.heap.size+1+1+1=w5.heap.size):=by omega
        have ncq_3:¬(w5.heap.size=w.heap.size+1+1+1):=by omega
        have ndq_3:w.heap.size+1+1+1<w5.heap.size+1:=by omega
        have naq_4:w.heap.size+1+1+1+1<w5.heap.size:=by omega
        have nbq_4:¬(w.heap.size+1+1+1+1=w5.heap.size):=by omega
        have ncq_4:¬(w5.heap.size=w.heap.size+1+1+1+1):=by omega
        have ndq_4:w.heap.size+1+1+1+1<w5.heap.size+1:=by omega
        have naq_5:w.heap.size+1+1+1+1+1<w5.heap.size:=by omega
        have nbq_5:¬(w.heap.size+1+1+1+1+1=w5.heap.size):=by omega
        have ncq_5:¬(w5.heap.size=w.heap.size+1+1+1+1+1):=by omega
        have ndq_5:w.heap.size+1+1+1+1+1<w5.heap.size+1:=by omega
        go_wp2_with fail
        refine (sqrt_any c2 k2 _).mono ?_;rintro e w6 ⟨rfl,hb⟩;rw [H3.out];have I6:=(I5.alc (.cells #[.int .i64 c2,.int .i64 k2] 25)).call hb;clear hb;clear I5al0;have I6al0:=I6.al0
        go_wp2_with fail
        refine (neg_any c3 k3 _).mono ?_;rintro e w7 ⟨rfl,hb⟩;rw [H4.out];have I7:=(I6.set5 c3 k3).call hb;clear hb;clear I6al0;have I7al0:=I7.al0;have T0:=Ft.of (ty:=164) (I7.set5 c4 k4)
        have hm:((w7.setCell ⟨w.heap.size+1+1+1+1+1,0,none⟩ (.int .i64 c4)).setCell ⟨w.heap.size+1+1+1+1+1,1,none⟩ (.int .i64 k4)).heap.size=w7.heap.size:=by simp
        rw [hm] at T0;clear hm
        have naq_0:w.heap.size<w7.heap.size:=by omega
        have nbq_0:¬(w.heap.size=w7.heap.size):=by omega
        have ncq_0:¬(w7.heap.size=w.heap.size):=by omega
        have ndq_0:w.heap.size<w7.heap.size+1:=by omega
        have naq_1:w.heap.size+1<w7.heap.size:=by omega
        have nbq_1:¬(w.heap.size+1=w7.heap.size):=by omega
        have ncq_1:¬(w7.heap.size=w.heap.size+1):=by omega
        have ndq_1:w.heap.size+1<w7.heap.size+1:=by omega
        have naq_2:w.heap.size+1+1<w7.heap.size:=by omega
        have nbq_2:¬(w.heap.size+1+1=w7.heap.size):=by omega
        have ncq_2:¬(w7.heap.size=w.heap.size+1+1):=by omega
        have ndq_2:w.heap.size+1+1<w7.heap.size+1:=by omega
        have naq_3:w.heap.size+1+1+1<w7.heap.size:=by omega
        have nbq_3:¬(w.heap.size+1+1+1=w7.heap.size):=by omega
        have ncq_3:¬(w7.heap.size=w.heap.size+1+1+1):=by omega
        have ndq_3:w.heap.size+1+1+1<w7.heap.size+1:=by omega
        have naq_4:w.heap.size+1+1+1+1<w7.heap.size:=by omega
        have nbq_4:¬(w.heap.size+1+1+1+1=w7.heap.size):=by omega
        have ncq_4:¬(w7.heap.size=w.heap.size+1+1+1+1):=by omega
        have ndq_4:w.heap.size+1+1+1+1<w7.heap.size+1:=by omega
        have naq_5:w.heap.size+1+1+1+1+1<w7.heap.size:=by omega
        have nbq_5:¬(w.heap.size+1+1+1+1+1=w7.heap.size):=by omega
        have ncq_5:¬(w7.heap.size=w.heap.size+1+1+1+1+1):=by omega
        have ndq_5:w.heap.size+1+1+1+1+1<w7.heap.size+1:=by omega
        go_wp2_with fail
        refine (rscale_any w.heap.size w7.heap.size 0 s a b _ T0.cE T0.fE).mono ?_;rintro r w8 ⟨rfl,st⟩;rw [HY.out.1];rw [HY.out.2] at st;have T1:=T0.step st;clear st T0;clear I7al0 naq_0 nbq_0 ncq_0 ndq_0;have T2:=T1.alc (.cells #[.int .i64 y0,.int .i64 y1,.int .i64 y2,.int .i64 y3,.int .i64 y4,.int .i64 y5] 45);have A2:At (w8.alloc (.cells #[.int .i64 y0,.int .i64 y1,.int .i64 y2,.int .i64 y3,.int .i64 y4,.int .i64 y5] 45)) w8.heap.size [.int .i64 y0,.int .i64 y1,.int .i64 y2,.int .i64 y3,.int .i64 y4,.int .i64 y5]:=At.new6 rfl;have neA:¬(w8.heap.size=w7.heap.size):=Nat.ne_of_gt T1.size;have ID:=T2.drew;have AD:=A2.drew;have IDz:=(T2.alc (.cells #[.int .i64 0,.int .i64 0] 25)).drew;have ADz:=(A2.alc (.cells #[.int .i64 0,.int .i64 0] 25)).drew
        have hsz8:(w8.alloc (.cells #[.int .i64 y0,.int .i64 y1,.int .i64 y2,.int .i64 y3,.int .i64 y4,.int .i64 y5] 45)).heap.size=w8.heap.size+1:=by simp
        have ZDz:Zn (((w8.alloc (.cells #[.int .i64 y0,.int .i64 y1,.int .i64 y2,.int .i64 y3,.int .i64 y4,.int .i64 y5] 45)).alloc (.cells #[.int .i64 0,.int .i64 0] 25)).drew) (w8.heap.size+1):=(Zn.new (by simp)).kept (Below.refl _ _).drew;have szT:=T1.size
        have lz1:w7.heap.size<w8.heap.size+1:=by omega
        have neND0:¬(w8.heap.size+1=w7.heap.size):=by omega
        have nA1:¬(w8.heap.size=w8.heap.size+1):=by omega
        clear hsz8
        go_upto_region 20 with fail
        go_cut [17] from 87 to 93 (fun vz wx=>∃bz:Nat,vz = .pointer (some ⟨bz,0,none⟩)∧Ft w wx w.heap.size s t a b 0 0 0 0 0 0 c1 k1 c4 k4 w7.heap.size f3∧At wx w8.heap.size [.int .i64 y0,.int .i64 y1,.int .i64 y2,.int .i64 y3,.int .i64 y4,.int .i64 y5]∧At wx bz [.int .i64 p6,.int .i64 q6]∧w7.heap.size<bz)
        case first=>
         go_region_held3 (fun w'=>w'.cell? ⟨w.heap.size+1+1,0,none⟩=some (.int .i64 a)∧w'.cell? ⟨w.heap.size+1+1,1,none⟩=some (.int .i64 b)∧w'.cell? ⟨w.heap.size+1+1+1+1,0,none⟩=some (.int .i64 c1)∧w'.cell? ⟨w.heap.size+1+1+1+1,1,none⟩=some (.int .i64 k1)∧w'.cell? ⟨w.heap.size+1+1+1+1+1,0,none⟩=some (.int .i64 c4)∧w'.cell? ⟨w.heap.size+1+1+1+1+1,1,none⟩=some (.int .i64 k4)) (with_reducible first|exact ⟨IDz.I.r2_0,IDz.I.r2_1,IDz.I.v4_0,IDz.I.v4_1,IDz.I.v5_0,IDz.I.v5_1⟩|exact ⟨ID.I.r2_0,ID.I.r2_1,ID.I.v4_0,ID.I.v4_1,ID.I.v5_0,ID.I.v5_1⟩|exact ⟨(ID.alc _).I.r2_0,(ID.alc _).I.r2_1,(ID.alc _).I.v4_0,(ID.alc _).I.v4_1,(ID.alc _).I.v5_0,(ID.alc _).I.v5_1⟩|exact ⟨IA.I.r2_0,IA.I.r2_1,IA.I.v4_0,IA.I.v4_1,IA.I.v5_0,IA.I.v5_1⟩|exact ⟨(IA.alc _).I.r2_0,(IA.alc _).I.r2_1,(IA.alc _).I.v4_0,(IA.alc _).I.v4_1,(IA.alc _).I.v5_0,(IA.alc _).I.v5_1⟩|exact ⟨IB.I.r2_0,IB.I.r2_1,IB.I.v4_0,IB.I.v4_1,IB.I.v5_0,IB.I.v5_1⟩|exact ⟨(IB.alc _).I.r2_0,(IB.alc _).I.r2_1,(IB.alc _).I.v4_0,(IB.alc _).I.v4_1,(IB.alc _).I.v5_0,(IB.alc _).I.v5_1⟩|exact ⟨((IB.put lz1).put lz1).I.r2_0,((IB.put lz1).put lz1).I.r2_1,((IB.put lz1).put lz1).I.v4_0,((IB.put lz1).put lz1).I.v4_1,((IB.put lz1).put lz1).I.v5_0,((IB.put lz1).put lz1).I.v5_1⟩|exact ⟨((IB.put IA.size).put IA.size).I.r2_0,((IB.put IA.size).put IA.size).I.r2_1,((IB.put IA.size).put IA.size).I.v4_0,((IB.put IA.size).put IA.size).I.v4_1,((IB.put IA.size).put IA.size).I.v5_0,((IB.put IA.size).put IA.size).I.v5_1⟩)
          (first|(have hm:=hmarkA;go_at_call 110;refine (num_sub w.heap.size w7.heap.size c4 k4 p5 q5 f2 _ ?_ ?_).mono ?_;(· (with_reducible first|exact IA.cE|exact (IA.alc _).cE));(· (with_reducible first|exact IA.fE|exact (IA.alc _).fE));rintro r wB ⟨rfl,st⟩;rw [N6.out.1];rw [N6.out.2] at st;have IB:Ft w wB w.heap.size s t a b 0 0 0 0 0 0 c1 k1 c4 k4 w7.heap.size f3:=(by with_reducible first|exact IA.step st|exact (IA.alc _).step st);have AB:At wB (w8.heap.size) [.int .i64 y0,.int .i64 y1,.int .i64 y2,.int .i64 y3,.int .i64 y4,.int .i64 y5]:=(by with_reducible first|exact AA.step st neA|exact (AA.alc _).step st neA);have nAB:¬((w8.heap.size)=wB.heap.size):=Nat.ne_of_lt AB.1;have szB:=IB.size;have neNB:¬(wB.heap.size=w7.heap.size):=(by omega);(first|(have hz:=ZA.lt;have ZB:=ZA.step st (by omega))|(have ZB:Zn wB (wA.heap.size):=(by with_reducible exact (Zn.new rfl).step st neNA))|skip);(try (have zz0:=ZB.z0;have zz1:=ZB.z1;have ff0:=ZB.f0;have ff1:=ZB.f1));have hmarkB:wB=wB:=rfl)|(go_at_call 110;refine (num_mul w.heap.size w7.heap.size a b c1 k1 f1 _ ?_ ?_).mono ?_;(· (with_reducible first|exact ID.cE|exact IDz.cE));(· (with_reducible first|exact ID.fE|exact IDz.fE));rintro r wA ⟨rfl,st⟩;rw [N5.out.1];rw [N5.out.2] at st;have IA:Ft w wA w.heap.size s t a b 0 0 0 0 0 0 c1 k1 c4 k4 w7.heap.size f2:=(by with_reducible first|exact ID.step st|exact IDz.step st);have AA:At wA (w8.heap.size) [.int .i64 y0,.int .i64 y1,.int .i64 y2,.int .i64 y3,.int .i64 y4,.int .i64 y5]:=(by with_reducible first|exact AD.step st neA|exact ADz.step st neA);have nAA:¬((w8.heap.size)=wA.heap.size):=Nat.ne_of_lt AA.1;have szA:=IA.size;have neNA:¬(wA.heap.size=w7.heap.size):=(by omega);(first|(have ZA:Zn wA (w8.heap.size+1):=(by with_reducible exact ZDz.step st neND0))|skip);have hmarkA:wA=wA:=rfl))
         all_goals (go_wp2_with fail;go_meet)
         all_goals refine ⟨_,rfl,?_,?_,?_,?_⟩
         all_goals with_reducible first
          |exact (IB.put lz1).put lz1
          |exact (IB.put IA.size).put IA.size
          |exact IB.alc _
          |exact (AB.set nA1).set nA1
          |exact (AB.set nAA).set nAA
          |exact AB.alc _
          |exact ZB.fin _ _
          |exact At.new2 rfl
          |exact lz1
          |exact IA.size
          |exact IB.size
        case rest=>
         obtain ⟨bz,rfl,T3,A3,Q3,ltQ⟩:=hcut;clear ID AD IDz ADz ZDz T1 T2 A2 lz1 neND0 nA1;have neQ:¬(bz=w7.heap.size):=Nat.ne_of_gt ltQ;have mg3:=T3.mg
         have nA3:¬(w8.heap.size=w.heap.size+1+1+1):=by omega
         have nQ3:¬(bz=w.heap.size+1+1+1):=by omega
         have ID:=T3.drew;have AD:=A3.drew;have QD:=Q3.drew
         go_wp2_with fail
         go_region_held3 (fun w'=>w'.cell? ⟨w8.heap.size,0,none⟩=some (.int .i64 y0)∧w'.cell? ⟨w8.heap.size,1,none⟩=some (.int .i64 y1)∧w'.cell? ⟨w8.heap.size,2,none⟩=some (.int .i64 y2)∧w'.cell? ⟨w8.heap.size,3,none⟩=some (.int .i64 y3)∧w'.cell? ⟨w8.heap.size,4,none⟩=some (.int .i64 y4)∧w'.cell? ⟨w8.heap.size,5,none⟩=some (.int .i64 y5)∧w'.cell? ⟨w.heap.size+1,0,none⟩=some (.int .i64 t.a)∧w'.cell? ⟨w.heap.size+1,1,none⟩=some (.int .i64 t.b)∧w'.cell? ⟨w.heap.size+1,2,none⟩=some (.int .i64 t.c)∧w'.cell? ⟨w.heap.size+1,3,none⟩=some (.int .i64 t.d)∧w'.cell? ⟨w.heap.size+1,4,none⟩=some (.int .i64 t.e)∧w'.cell? ⟨w.heap.size+1,5,none⟩=some (.int .i64 t.f)∧w'.cell? ⟨bz,0,none⟩=some (.int .i64 p6)∧w'.cell? ⟨bz,1,none⟩=some (.int .i64 q6)) (with_reducible first|exact ⟨AD.e0,AD.e1,AD.e2,AD.e3,AD.e4,AD.e5,ID.I.r1_0,ID.I.r1_1,ID.I.r1_2,ID.I.r1_3,ID.I.r1_4,ID.I.r1_5,QD.c0,QD.c1⟩|exact ⟨AA.e0,AA.e1,AA.e2,AA.e3,AA.e4,AA.e5,IA.I.r1_0,IA.I.r1_1,IA.I.r1_2,IA.I.r1_3,IA.I.r1_4,IA.I.r1_5,QA.c0,QA.c1⟩|exact ⟨AB.e0,AB.e1,AB.e2,AB.e3,AB.e4,AB.e5,IB.I.r1_0,IB.I.r1_1,IB.I.r1_2,IB.I.r1_3,IB.I.r1_4,IB.I.r1_5,QB.c0,QB.c1⟩|exact ⟨((((((AB.set nA3).set nA3).set nA3).set nA3).set nA3).set nA3).e0,((((((AB.set nA3).set nA3).set nA3).set nA3).set nA3).set nA3).e1,((((((AB.set nA3).set nA3).set nA3).set nA3).set nA3).set nA3).e2,((((((AB.set nA3).set nA3).set nA3).set nA3).set nA3).set nA3).e3,((((((AB.set nA3).set nA3).set nA3).set nA3).set nA3).set nA3).e4,((((((AB.set nA3).set nA3).set nA3).set nA3).set nA3).set nA3).e5,(IB.set3 d0 d1 d2 d3 d4 d5).I.r1_0,(IB.set3 d0 d1 d2 d3 d4 d5).I.r1_1,(IB.set3 d0 d1 d2 d3 d4 d5).I.r1_2,(IB.set3 d0 d1 d2 d3 d4 d5).I.r1_3,(IB.set3 d0 d1 d2 d3 d4 d5).I.r1_4,(IB.set3 d0 d1 d2 d3 d4 d5).I.r1_5,((((((QB.set nQ3).set nQ3).set nQ3).set nQ3).set nQ3).set nQ3).c0,((((((QB.set nQ3).set nQ3).set nQ3).set nQ3).set nQ3).set nQ3).c1⟩)
          (first|(have hm:=hmarkA;go_at_call 112;refine (rvec_add w.heap.size w7.heap.size f4 ⟨y0,y1,y2,y3,y4,y5⟩ ⟨g0,g1,g2,g3,g4,g5⟩ _ ?_ ?_).mono ?_;(· (with_reducible first|exact IA.cE|exact IA.cE));(· (with_reducible first|exact IA.fE|exact IA.fE));rintro r wB ⟨rfl,st⟩;rw [HD5.out.1];rw [HD5.out.2] at st;have IB:Ft w wB w.heap.size s t a b 0 0 0 0 0 0 c1 k1 c4 k4 w7.heap.size f5:=(by with_reducible first|exact IA.step st);have AB:At wB (w8.heap.size) [.int .i64 y0,.int .i64 y1,.int .i64 y2,.int .i64 y3,.int .i64 y4,.int .i64 y5]:=(by with_reducible first|exact AA.step st neA);have nAB:¬((w8.heap.size)=wB.heap.size):=Nat.ne_of_lt AB.1;have QB:At wB (bz) [.int .i64 p6,.int .i64 q6]:=(by with_reducible first|exact QA.step st neQ);have nQB:¬((bz)=wB.heap.size):=Nat.ne_of_lt QB.1;have szB:=IB.size;have neNB:¬(wB.heap.size=w7.heap.size):=(by omega);have zz0:=IB.I.v3_0;have ff0:=IB.I.f3_0;have zz1:=IB.I.v3_1;have ff1:=IB.I.f3_1;have zz2:=IB.I.v3_2;have ff2:=IB.I.f3_2;have zz3:=IB.I.v3_3;have ff3:=IB.I.f3_3;have zz4:=IB.I.v3_4;have ff4:=IB.I.f3_4;have zz5:=IB.I.v3_5;have ff5:=IB.I.f3_5;have hmarkB:wB=wB:=rfl)|(go_at_call 111;refine (rscale_any w.heap.size w7.heap.size f3 t p6 q6 _ ?_ ?_).mono ?_;(· (with_reducible first|exact ID.cE|exact ID.cE));(· (with_reducible first|exact ID.fE|exact ID.fE));rintro r wA ⟨rfl,st⟩;rw [HG4.out.1];rw [HG4.out.2] at st;have IA:Ft w wA w.heap.size s t a b 0 0 0 0 0 0 c1 k1 c4 k4 w7.heap.size f4:=(by with_reducible first|exact ID.step st);have AA:At wA (w8.heap.size) [.int .i64 y0,.int .i64 y1,.int .i64 y2,.int .i64 y3,.int .i64 y4,.int .i64 y5]:=(by with_reducible first|exact AD.step st neA);have nAA:¬((w8.heap.size)=wA.heap.size):=Nat.ne_of_lt AA.1;have QA:At wA (bz) [.int .i64 p6,.int .i64 q6]:=(by with_reducible first|exact QD.step st neQ);have nQA:¬((bz)=wA.heap.size):=Nat.ne_of_lt QA.1;have szA:=IA.size;have neNA:¬(wA.heap.size=w7.heap.size):=(by omega);have hmarkA:wA=wA:=rfl))
         have T4:=(IB.set3 d0 d1 d2 d3 d4 d5);revert T4;generalize ((((((wB.setCell ⟨w.heap.size+1+1+1,0,none⟩ (.int .i64 d0)).setCell ⟨w.heap.size+1+1+1,1,none⟩ (.int .i64 d1)).setCell ⟨w.heap.size+1+1+1,2,none⟩ (.int .i64 d2)).setCell ⟨w.heap.size+1+1+1,3,none⟩ (.int .i64 d3)).setCell ⟨w.heap.size+1+1+1,4,none⟩ (.int .i64 d4)).setCell ⟨w.heap.size+1+1+1,5,none⟩ (.int .i64 d5))=X4;intro T4;clear zz0 ff0 zz1 ff1 zz2 ff2 zz3 ff3 zz4 ff4 zz5 ff5 IA IB AA AB QA QB ID AD QD;have v3_0_x:=T4.I.v3_0;have f3_0_x:=T4.I.f3_0;have v3_1_x:=T4.I.v3_1;have f3_1_x:=T4.I.f3_1;have v3_2_x:=T4.I.v3_2;have f3_2_x:=T4.I.f3_2;have v3_3_x:=T4.I.v3_3;have f3_3_x:=T4.I.f3_3;have v3_4_x:=T4.I.v3_4;have f3_4_x:=T4.I.f3_4;have v3_5_x:=T4.I.v3_5;have f3_5_x:=T4.I.f3_5;have v4_0_x:=T4.I.v4_0;have f4_0_x:=T4.I.f4_0;have v4_1_x:=T4.I.v4_1;have f4_1_x:=T4.I.f4_1;have v5_0_x:=T4.I.v5_0;have f5_0_x:=T4.I.f5_0;have v5_1_x:=T4.I.v5_1;have f5_1_x:=T4.I.f5_1;have cE_x:=T4.cE;have mg4:=T4.mg;have sz4:=T4.size
         have nm3:¬(w.heap.size+1+1+1=w7.heap.size):=by omega
         have nm4:¬(w.heap.size+1+1+1+1=w7.heap.size):=by omega
         have nm5:¬(w.heap.size+1+1+1+1+1=w7.heap.size):=by omega
         go_wp2_with fail
         go_region_held3 (fun w'=>w'.cell? ⟨w.heap.size+1+1+1,0,none⟩=some (.int .i64 d0)∧w'.cell? ⟨w.heap.size+1+1+1,1,none⟩=some (.int .i64 d1)∧w'.cell? ⟨w.heap.size+1+1+1,2,none⟩=some (.int .i64 d2)∧w'.cell? ⟨w.heap.size+1+1+1,3,none⟩=some (.int .i64 d3)∧w'.cell? ⟨w.heap.size+1+1+1,4,none⟩=some (.int .i64 d4)∧w'.cell? ⟨w.heap.size+1+1+1,5,none⟩=some (.int .i64 d5)∧w'.cell? ⟨w.heap.size+1+1+1+1,0,none⟩=some (.int .i64 c1)∧w'.cell? ⟨w.heap.size+1+1+1+1,1,none⟩=some (.int .i64 k1)∧w'.cell? ⟨w.heap.size+1+1+1+1+1,0,none⟩=some (.int .i64 c4)∧w'.cell? ⟨w.heap.size+1+1+1+1+1,1,none⟩=some (.int .i64 k4)∧w'.cell? ⟨w7.heap.size,0,none⟩=some (.int .i64 f5)) (with_reducible first|exact T4.drew.res|exact (T4.set3 d0 d1 d2 d3 d4 d5).drew.res|exact ((T4.set3 d0 d1 d2 d3 d4 d5).set4 c1 k1).drew.res|exact (((T4.set3 d0 d1 d2 d3 d4 d5).set4 c1 k1).set5 c4 k4).drew.res)
          (fail)
         all_goals go_wp2_with fail
         have K:=(((T4.set3 d0 d1 d2 d3 d4 d5).set4 c1 k1).set5 c4 k4).drew.res;have KB:=(((T4.set3 d0 d1 d2 d3 d4 d5).set4 c1 k1).set5 c4 k4).drew.I.below;revert K KB;generalize ((((((((((X4.setCell ⟨w.heap.size+1+1+1,0,none⟩ (.int .i64 d0)).setCell ⟨w.heap.size+1+1+1,1,none⟩ (.int .i64 d1)).setCell ⟨w.heap.size+1+1+1,2,none⟩ (.int .i64 d2)).setCell ⟨w.heap.size+1+1+1,3,none⟩ (.int .i64 d3)).setCell ⟨w.heap.size+1+1+1,4,none⟩ (.int .i64 d4)).setCell ⟨w.heap.size+1+1+1,5,none⟩ (.int .i64 d5)).setCell ⟨w.heap.size+1+1+1+1,0,none⟩ (.int .i64 c1)).setCell ⟨w.heap.size+1+1+1+1,1,none⟩ (.int .i64 k1)).setCell ⟨w.heap.size+1+1+1+1+1,0,none⟩ (.int .i64 c4)).setCell ⟨w.heap.size+1+1+1+1+1,1,none⟩ (.int .i64 k4)).drew=X;intro K KB;obtain ⟨kk0,kk1,kk2,kk3,kk4,kk5,kk6,kk7,kk8,kk9,kcE⟩:=K;exact bodyPost_ret (v:=.tuple #[dv ⟨d0,d1,d2,d3,d4,d5⟩,iv c1 k1,iv c4 k4,.int .i64 f5]) (by simp [results,Tryz.results102,go_sem,kk0,kk1,kk2,kk3,kk4,kk5,kk6,kk7,kk8,kk9]) rfl ⟨⟨⟨⟨d0,d1,d2,d3,d4,d5⟩,c1,k1,c4,k4,f5⟩,rfl,by rw [HR];exact clean_if⟩,KB⟩
       ·rw [if_neg hS] at HA;rw [HA] at HR;dsimp only at HR;clear HA;obtain ⟨⟨⟨y0,y1,y2,y3,y4,y5⟩,f1⟩,hy⟩:∃r:RD,goOnD 0 (scaleD s a b)=r:=⟨_,rfl⟩;have HY:=Lib.hid (show Ending.returned (dv (goOnD 0 (scaleD s a b)).d) = .returned (.agg #[.int .i64 y0,.int .i64 y1,.int .i64 y2,.int .i64 y3,.int .i64 y4,.int .i64 y5])∧(goOnD 0 (scaleD s a b)).e=f1 from by rw [hy];exact ⟨rfl,rfl⟩);obtain ⟨⟨p5,q5,f2⟩,hn5⟩:∃r:R,goOn f1 (mulR a b c1 k1)=r:=⟨_,rfl⟩;have N5:=Lib.hid (show Ending.returned (iv (goOn f1 (mulR a b c1 k1)).lo (goOn f1 (mulR a b c1 k1)).hi) = .returned (iv p5 q5)∧(goOn f1 (mulR a b c1 k1)).e=f2 from by rw [hn5];exact ⟨rfl,rfl⟩);obtain ⟨⟨p6,q6,f3⟩,hn6⟩:∃r:R,goOn f2 (subR c3 k3 p5 q5)=r:=⟨_,rfl⟩;have N6:=Lib.hid (show Ending.returned (iv (goOn f2 (subR c3 k3 p5 q5)).lo (goOn f2 (subR c3 k3 p5 q5)).hi) = .returned (iv p6 q6)∧(goOn f2 (subR c3 k3 p5 q5)).e=f3 from by rw [hn6];exact ⟨rfl,rfl⟩);obtain ⟨⟨⟨g0,g1,g2,g3,g4,g5⟩,f4⟩,hg⟩:∃r:RD,goOnD f3 (scaleD t p6 q6)=r:=⟨_,rfl⟩;have HG4:=Lib.hid (show Ending.returned (dv (goOnD f3 (scaleD t p6 q6)).d) = .returned (.agg #[.int .i64 g0,.int .i64 g1,.int .i64 g2,.int .i64 g3,.int .i64 g4,.int .i64 g5])∧(goOnD f3 (scaleD t p6 q6)).e=f4 from by rw [hg];exact ⟨rfl,rfl⟩);obtain ⟨⟨⟨d0,d1,d2,d3,d4,d5⟩,f5⟩,hdd⟩:∃r:RD,goOnD f4 (addD ⟨y0,y1,y2,y3,y4,y5⟩ ⟨g0,g1,g2,g3,g4,g5⟩)=r:=⟨_,rfl⟩;have HD5:=Lib.hid (show Ending.returned (dv (goOnD f4 (addD ⟨y0,y1,y2,y3,y4,y5⟩ ⟨g0,g1,g2,g3,g4,g5⟩)).d) = .returned (.agg #[.int .i64 d0,.int .i64 d1,.int .i64 d2,.int .i64 d3,.int .i64 d4,.int .i64 d5])∧(goOnD f4 (addD ⟨y0,y1,y2,y3,y4,y5⟩ ⟨g0,g1,g2,g3,g4,g5⟩)).e=f5 from by rw [hdd];exact ⟨rfl,rfl⟩)
        have HT9:tailF s t a b c1 k1 c3 k3=if f5=0 then ⟨⟨d0,d1,d2,d3,d4,d5⟩,c1,k1,c3,k3,0⟩ else failF f5:=by unfold tailF;simp only [hy,hn5,hn6,hg,hdd]
        rw [HT9] at HR;clear hy hn5 hn6 hg hdd HT9;have HS:=Lib.hid hs;have HT:=Lib.hid ht;clear hs ht;go_enter Tryz.func102,Tryz.ntmps102
        go_wp2_with fail
        refine (vray_any s t _).mono ?_;rintro e w1 ⟨rfl,hb⟩;rw [HS.out];have I1:=I0.call hb;clear hb;have I1al0:=I1.al0
        go_wp2_with fail
        refine (validb_any a b _).mono ?_;rintro e w2 ⟨rfl,hb⟩;rw [HT.out];have I2:=I1.call hb;clear hb;clear I1al0;have I2al0:=I2.al0
        go_wp2_with fail
        refine (ddot_any s t _).mono ?_;rintro e w3 ⟨rfl,hb⟩;rw [H1.out];have I3:=I2.call hb;clear hb;clear I2al0;have I3al0:=I3.al0
        go_wp2_with fail
        refine (sign_any c1 k1 _).mono ?_;rintro e w4 ⟨rfl,hb⟩;rw [HG.out];have I4:=(I3.set4 c1 k1).call hb;clear hb;clear I3al0;have I4al0:=I4.al0
        go_wp2_with fail
        refine (radicand_any c1 k1 a b _).mono ?_;rintro e w5 ⟨rfl,hb⟩;rw [H2.out];have I5:=I4.call hb;clear hb;clear I4al0;have I5al0:=I5.al0
        have naq_0:w.heap.size<w5.heap.size:=by omega
        have nbq_0:¬(w.heap.size=w5.heap.size):=by omega
        have ncq_0:¬(w5.heap.size=w.heap.size):=by omega
        have ndq_0:w.heap.size<w5.heap.size+1:=by omega
        have naq_1:w.heap.size+1<w5.heap.size:=by omega
        have nbq_1:¬(w.heap.size+1=w5.heap.size):=by omega
        have ncq_1:¬(w5.heap.size=w.heap.size+1):=by omega
        have ndq_1:w.heap.size+1<w5.heap.size+1:=by omega
        have naq_2:w.heap.size+1+1<w5.heap.size:=by omega
        have nbq_2:¬(w.heap.size+1+1=w5.heap.size):=by omega
        have ncq_2:¬(w5.heap.size=w.heap.size+1+1):=by omega
        have ndq_2:w.heap.size+1+1<w5.heap.size+1:=by omega
        have naq_3:w.heap.size+1+1+1<w5.heap.size:=by omega
        have nbq_3:¬(w.heap.size+1+1+1=w5.heap.size):=by omega
        have ncq_3:¬(w5.heap.size=w.heap.size+1+1+1):=by omega
        have ndq_3:w.heap.size+1+1+1<w5.heap.size+1:=by omega
        have naq_4:w.heap.size+1+1+1+1<w5.heap.size:=by omega
        have nbq_4:¬(w.heap.size+1+1+1+1=w5.heap.size):=by omega
        have ncq_4:¬(w5.heap.size=w.heap.size+1+1+1+1):=by omega
        have ndq_4:w.heap.size+1+1+1+1<w5.heap.size+1:=by omega
        have naq_5:w.heap.size+1+1+1+1+1<w5.heap.size:=by omega
        have nbq_5:¬(w.heap.size+1+1+1+1+1=w5.heap.size):=by omega
        have ncq_5:¬(w5.heap.size=w.heap.size+1+1+1+1+1):=by omega
        have ndq_5:w.heap.size+1+1+1+1+1<w5.heap.size+1:=by omega
        go_wp2_with fail
        refine (sqrt_any c2 k2 _).mono ?_;rintro e w6 ⟨rfl,hb⟩;rw [H3.out];have I6:=(I5.alc (.cells #[.int .i64 c2,.int .i64 k2] 25)).call hb;clear hb;clear I5al0;have I6al0:=I6.al0;have T0:=Ft.of (ty:=164) (I6.set5 c3 k3)
        have hm:((w6.setCell ⟨w.heap.size+1+1+1+1+1,0,none⟩ (.int .i64 c3)).setCell ⟨w.heap.size+1+1+1+1+1,1,none⟩ (.int .i64 k3)).heap.size=w6.heap.size:=by simp
        rw [hm] at T0;clear hm
        have naq_0:w.heap.size<w6.heap.size:=by omega
        have nbq_0:¬(w.heap.size=w6.heap.size):=by omega
        have ncq_0:¬(w6.heap.size=w.heap.size):=by omega
        have ndq_0:w.heap.size<w6.heap.size+1:=by omega
        have naq_1:w.heap.size+1<w6.heap.size:=by omega
        have nbq_1:¬(w.heap.size+1=w6.heap.size):=by omega
        have ncq_1:¬(w6.heap.size=w.heap.size+1):=by omega
        have ndq_1:w.heap.size+1<w6.heap.size+1:=by omega
        have naq_2:w.heap.size+1+1<w6.heap.size:=by omega
        have nbq_2:¬(w.heap.size+1+1=w6.heap.size):=by omega
        have ncq_2:¬(w6.heap.size=w.heap.size+1+1):=by omega
        have ndq_2:w.heap.size+1+1<w6.heap.size+1:=by omega
        have naq_3:w.heap.size+1+1+1<w6.heap.size:=by omega
        have nbq_3:¬(w.heap.size+1+1+1=w6.heap.size):=by omega
        have ncq_3:¬(w6.heap.size=w.heap.size+1+1+1):=by omega
        have ndq_3:w.heap.size+1+1+1<w6.heap.size+1:=by omega
        have naq_4:w.heap.size+1+1+1+1<w6.heap.size:=by omega
        have nbq_4:¬(w.heap.size+1+1+1+1=w6.heap.size):=by omega
        have ncq_4:¬(w6.heap.size=w.heap.size+1+1+1+1):=by omega
        have ndq_4:w.heap.size+1+1+1+1<w6.heap.size+1:=by omega
        have naq_5:w.heap.size+1+1+1+1+1<w6.heap.size:=by omega
        have nbq_5:¬(w.heap.size+1+1+1+1+1=w6.heap.size):=by omega
        have ncq_5:¬(w6.heap.size=w.heap.size+1+1+1+1+1):=by omega
        have ndq_5:w.heap.size+1+1+1+1+1<w6.heap.size+1:=by omega
        go_wp2_with fail
        refine (rscale_any w.heap.size w6.heap.size 0 s a b _ T0.cE T0.fE).mono ?_;rintro r w8 ⟨rfl,st⟩;rw [HY.out.1];rw [HY.out.2] at st;have T1:=T0.step st;clear st T0;clear I6al0 naq_0 nbq_0 ncq_0 ndq_0;have T2:=T1.alc (.cells #[.int .i64 y0,.int .i64 y1,.int .i64 y2,.int .i64 y3,.int .i64 y4,.int .i64 y5] 45);have A2:At (w8.alloc (.cells #[.int .i64 y0,.int .i64 y1,.int .i64 y2,.int .i64 y3,.int .i64 y4,.int .i64 y5] 45)) w8.heap.size [.int .i64 y0,.int .i64 y1,.int .i64 y2,.int .i64 y3,.int .i64 y4,.int .i64 y5]:=At.new6 rfl;have neA:¬(w8.heap.size=w6.heap.size):=Nat.ne_of_gt T1.size;have ID:=T2.drew;have AD:=A2.drew;have IDz:=(T2.alc (.cells #[.int .i64 0,.int .i64 0] 25)).drew;have ADz:=(A2.alc (.cells #[.int .i64 0,.int .i64 0] 25)).drew
        have hsz8:(w8.alloc (.cells #[.int .i64 y0,.int .i64 y1,.int .i64 y2,.int .i64 y3,.int .i64 y4,.int .i64 y5] 45)).heap.size=w8.heap.size+1:=by simp
        have ZDz:Zn (((w8.alloc (.cells #[.int .i64 y0,.int .i64 y1,.int .i64 y2,.int .i64 y3,.int .i64 y4,.int .i64 y5] 45)).alloc (.cells #[.int .i64 0,.int .i64 0] 25)).drew) (w8.heap.size+1):=(Zn.new (by simp)).kept (Below.refl _ _).drew;have szT:=T1.size
        have lz1:w6.heap.size<w8.heap.size+1:=by omega
        have neND0:¬(w8.heap.size+1=w6.heap.size):=by omega
        have nA1:¬(w8.heap.size=w8.heap.size+1):=by omega
        clear hsz8
        go_upto_region 20 with fail
        go_cut [17] from 87 to 93 (fun vz wx=>∃bz:Nat,vz = .pointer (some ⟨bz,0,none⟩)∧Ft w wx w.heap.size s t a b 0 0 0 0 0 0 c1 k1 c3 k3 w6.heap.size f3∧At wx w8.heap.size [.int .i64 y0,.int .i64 y1,.int .i64 y2,.int .i64 y3,.int .i64 y4,.int .i64 y5]∧At wx bz [.int .i64 p6,.int .i64 q6]∧w6.heap.size<bz)
        case first=>
         go_region_held3 (fun w'=>w'.cell? ⟨w.heap.size+1+1,0,none⟩=some (.int .i64 a)∧w'.cell? ⟨w.heap.size+1+1,1,none⟩=some (.int .i64 b)∧w'.cell? ⟨w.heap.size+1+1+1+1,0,none⟩=some (.int .i64 c1)∧w'.cell? ⟨w.heap.size+1+1+1+1,1,none⟩=some (.int .i64 k1)∧w'.cell? ⟨w.heap.size+1+1+1+1+1,0,none⟩=some (.int .i64 c3)∧w'.cell? ⟨w.heap.size+1+1+1+1+1,1,none⟩=some (.int .i64 k3)) (with_reducible first|exact ⟨IDz.I.r2_0,IDz.I.r2_1,IDz.I.v4_0,IDz.I.v4_1,IDz.I.v5_0,IDz.I.v5_1⟩|exact ⟨ID.I.r2_0,ID.I.r2_1,ID.I.v4_0,ID.I.v4_1,ID.I.v5_0,ID.I.v5_1⟩|exact ⟨(ID.alc _).I.r2_0,(ID.alc _).I.r2_1,(ID.alc _).I.v4_0,(ID.alc _).I.v4_1,(ID.alc _).I.v5_0,(ID.alc _).I.v5_1⟩|exact ⟨IA.I.r2_0,IA.I.r2_1,IA.I.v4_0,IA.I.v4_1,IA.I.v5_0,IA.I.v5_1⟩|exact ⟨(IA.alc _).I.r2_0,(IA.alc _).I.r2_1,(IA.alc _).I.v4_0,(IA.alc _).I.v4_1,(IA.alc _).I.v5_0,(IA.alc _).I.v5_1⟩|exact ⟨IB.I.r2_0,IB.I.r2_1,IB.I.v4_0,IB.I.v4_1,IB.I.v5_0,IB.I.v5_1⟩|exact ⟨(IB.alc _).I.r2_0,(IB.alc _).I.r2_1,(IB.alc _).I.v4_0,(IB.alc _).I.v4_1,(IB.alc _).I.v5_0,(IB.alc _).I.v5_1⟩|exact ⟨((IB.put lz1).put lz1).I.r2_0,((IB.put lz1).put lz1).I.r2_1,((IB.put lz1).put lz1).I.v4_0,((IB.put lz1).put lz1).I.v4_1,((IB.put lz1).put lz1).I.v5_0,((IB.put lz1).put lz1).I.v5_1⟩|exact ⟨((IB.put IA.size).put IA.size).I.r2_0,((IB.put IA.size).put IA.size).I.r2_1,((IB.put IA.size).put IA.size).I.v4_0,((IB.put IA.size).put IA.size).I.v4_1,((IB.put IA.size).put IA.size).I.v5_0,((IB.put IA.size).put IA.size).I.v5_1⟩)
          (first|(have hm:=hmarkA;go_at_call 110;refine (num_sub w.heap.size w6.heap.size c3 k3 p5 q5 f2 _ ?_ ?_).mono ?_;(· (with_reducible first|exact IA.cE|exact (IA.alc _).cE));(· (with_reducible first|exact IA.fE|exact (IA.alc _).fE));rintro r wB ⟨rfl,st⟩;rw [N6.out.1];rw [N6.out.2] at st;have IB:Ft w wB w.heap.size s t a b 0 0 0 0 0 0 c1 k1 c3 k3 w6.heap.size f3:=(by with_reducible first|exact IA.step st|exact (IA.alc _).step st);have AB:At wB (w8.heap.size) [.int .i64 y0,.int .i64 y1,.int .i64 y2,.int .i64 y3,.int .i64 y4,.int .i64 y5]:=(by with_reducible first|exact AA.step st neA|exact (AA.alc _).step st neA);have nAB:¬((w8.heap.size)=wB.heap.size):=Nat.ne_of_lt AB.1;have szB:=IB.size;have neNB:¬(wB.heap.size=w6.heap.size):=(by omega);(first|(have hz:=ZA.lt;have ZB:=ZA.step st (by omega))|(have ZB:Zn wB (wA.heap.size):=(by with_reducible exact (Zn.new rfl).step st neNA))|skip);(try (have zz0:=ZB.z0;have zz1:=ZB.z1;have ff0:=ZB.f0;have ff1:=ZB.f1));have hmarkB:wB=wB:=rfl)|(go_at_call 110;refine (num_mul w.heap.size w6.heap.size a b c1 k1 f1 _ ?_ ?_).mono ?_;(· (with_reducible first|exact ID.cE|exact IDz.cE));(· (with_reducible first|exact ID.fE|exact IDz.fE));rintro r wA ⟨rfl,st⟩;rw [N5.out.1];rw [N5.out.2] at st;have IA:Ft w wA w.heap.size s t a b 0 0 0 0 0 0 c1 k1 c3 k3 w6.heap.size f2:=(by with_reducible first|exact ID.step st|exact IDz.step st);have AA:At wA (w8.heap.size) [.int .i64 y0,.int .i64 y1,.int .i64 y2,.int .i64 y3,.int .i64 y4,.int .i64 y5]:=(by with_reducible first|exact AD.step st neA|exact ADz.step st neA);have nAA:¬((w8.heap.size)=wA.heap.size):=Nat.ne_of_lt AA.1;have szA:=IA.size;have neNA:¬(wA.heap.size=w6.heap.size):=(by omega);(first|(have ZA:Zn wA (w8.heap.size+1):=(by with_reducible exact ZDz.step st neND0))|skip);have hmarkA:wA=wA:=rfl))
         all_goals (go_wp2_with fail;go_meet)
         all_goals refine ⟨_,rfl,?_,?_,?_,?_⟩
         all_goals with_reducible first
          |exact (IB.put lz1).put lz1
          |exact (IB.put IA.size).put IA.size
          |exact IB.alc _
          |exact (AB.set nA1).set nA1
          |exact (AB.set nAA).set nAA
          |exact AB.alc _
          |exact ZB.fin _ _
          |exact At.new2 rfl
          |exact lz1
          |exact IA.size
          |exact IB.size
        case rest=>
         obtain ⟨bz,rfl,T3,A3,Q3,ltQ⟩:=hcut;clear ID AD IDz ADz ZDz T1 T2 A2 lz1 neND0 nA1;have neQ:¬(bz=w6.heap.size):=Nat.ne_of_gt ltQ;have mg3:=T3.mg
         have nA3:¬(w8.heap.size=w.heap.size+1+1+1):=by omega
         have nQ3:¬(bz=w.heap.size+1+1+1):=by omega
         have ID:=T3.drew;have AD:=A3.drew;have QD:=Q3.drew
         go_wp2_with fail
         go_region_held3 (fun w'=>w'.cell? ⟨w8.heap.size,0,none⟩=some (.int .i64 y0)∧w'.cell? ⟨w8.heap.size,1,none⟩=some (.int .i64 y1)∧w'.cell? ⟨w8.heap.size,2,none⟩=some (.int .i64 y2)∧w'.cell? ⟨w8.heap.size,3,none⟩=some (.int .i64 y3)∧w'.cell? ⟨w8.heap.size,4,none⟩=some (.int .i64 y4)∧w'.cell? ⟨w8.heap.size,5,none⟩=some (.int .i64 y5)∧w'.cell? ⟨w.heap.size+1,0,none⟩=some (.int .i64 t.a)∧w'.cell? ⟨w.heap.size+1,1,none⟩=some (.int .i64 t.b)∧w'.cell? ⟨w.heap.size+1,2,none⟩=some (.int .i64 t.c)∧w'.cell? ⟨w.heap.size+1,3,none⟩=some (.int .i64 t.d)∧w'.cell? ⟨w.heap.size+1,4,none⟩=some (.int .i64 t.e)∧w'.cell? ⟨w.heap.size+1,5,none⟩=some (.int .i64 t.f)∧w'.cell? ⟨bz,0,none⟩=some (.int .i64 p6)∧w'.cell? ⟨bz,1,none⟩=some (.int .i64 q6)) (with_reducible first|exact ⟨AD.e0,AD.e1,AD.e2,AD.e3,AD.e4,AD.e5,ID.I.r1_0,ID.I.r1_1,ID.I.r1_2,ID.I.r1_3,ID.I.r1_4,ID.I.r1_5,QD.c0,QD.c1⟩|exact ⟨AA.e0,AA.e1,AA.e2,AA.e3,AA.e4,AA.e5,IA.I.r1_0,IA.I.r1_1,IA.I.r1_2,IA.I.r1_3,IA.I.r1_4,IA.I.r1_5,QA.c0,QA.c1⟩|exact ⟨AB.e0,AB.e1,AB.e2,AB.e3,AB.e4,AB.e5,IB.I.r1_0,IB.I.r1_1,IB.I.r1_2,IB.I.r1_3,IB.I.r1_4,IB.I.r1_5,QB.c0,QB.c1⟩|exact ⟨((((((AB.set nA3).set nA3).set nA3).set nA3).set nA3).set nA3).e0,((((((AB.set nA3).set nA3).set nA3).set nA3).set nA3).set nA3).e1,((((((AB.set nA3).set nA3).set nA3).set nA3).set nA3).set nA3).e2,((((((AB.set nA3).set nA3).set nA3).set nA3).set nA3).set nA3).e3,((((((AB.set nA3).set nA3).set nA3).set nA3).set nA3).set nA3).e4,((((((AB.set nA3).set nA3).set nA3).set nA3).set nA3).set nA3).e5,(IB.set3 d0 d1 d2 d3 d4 d5).I.r1_0,(IB.set3 d0 d1 d2 d3 d4 d5).I.r1_1,(IB.set3 d0 d1 d2 d3 d4 d5).I.r1_2,(IB.set3 d0 d1 d2 d3 d4 d5).I.r1_3,(IB.set3 d0 d1 d2 d3 d4 d5).I.r1_4,(IB.set3 d0 d1 d2 d3 d4 d5).I.r1_5,((((((QB.set nQ3).set nQ3).set nQ3).set nQ3).set nQ3).set nQ3).c0,((((((QB.set nQ3).set nQ3).set nQ3).set nQ3).set nQ3).set nQ3).c1⟩)
          (first|(have hm:=hmarkA;go_at_call 112;refine (rvec_add w.heap.size w6.heap.size f4 ⟨y0,y1,y2,y3,y4,y5⟩ ⟨g0,g1,g2,g3,g4,g5⟩ _ ?_ ?_).mono ?_;(· (with_reducible first|exact IA.cE|exact IA.cE));(· (with_reducible first|exact IA.fE|exact IA.fE));rintro r wB ⟨rfl,st⟩;rw [HD5.out.1];rw [HD5.out.2] at st;have IB:Ft w wB w.heap.size s t a b 0 0 0 0 0 0 c1 k1 c3 k3 w6.heap.size f5:=(by with_reducible first|exact IA.step st);have AB:At wB (w8.heap.size) [.int .i64 y0,.int .i64 y1,.int .i64 y2,.int .i64 y3,.int .i64 y4,.int .i64 y5]:=(by with_reducible first|exact AA.step st neA);have nAB:¬((w8.heap.size)=wB.heap.size):=Nat.ne_of_lt AB.1;have QB:At wB (bz) [.int .i64 p6,.int .i64 q6]:=(by with_reducible first|exact QA.step st neQ);have nQB:¬((bz)=wB.heap.size):=Nat.ne_of_lt QB.1;have szB:=IB.size;have neNB:¬(wB.heap.size=w6.heap.size):=(by omega);have zz0:=IB.I.v3_0;have ff0:=IB.I.f3_0;have zz1:=IB.I.v3_1;have ff1:=IB.I.f3_1;have zz2:=IB.I.v3_2;have ff2:=IB.I.f3_2;have zz3:=IB.I.v3_3;have ff3:=IB.I.f3_3;have zz4:=IB.I.v3_4;have ff4:=IB.I.f3_4;have zz5:=IB.I.v3_5;have ff5:=IB.I.f3_5;have hmarkB:wB=wB:=rfl)|(go_at_call 111;refine (rscale_any w.heap.size w6.heap.size f3 t p6 q6 _ ?_ ?_).mono ?_;(· (with_reducible first|exact ID.cE|exact ID.cE));(· (with_reducible first|exact ID.fE|exact ID.fE));rintro r wA ⟨rfl,st⟩;rw [HG4.out.1];rw [HG4.out.2] at st;have IA:Ft w wA w.heap.size s t a b 0 0 0 0 0 0 c1 k1 c3 k3 w6.heap.size f4:=(by with_reducible first|exact ID.step st);have AA:At wA (w8.heap.size) [.int .i64 y0,.int .i64 y1,.int .i64 y2,.int .i64 y3,.int .i64 y4,.int .i64 y5]:=(by with_reducible first|exact AD.step st neA);have nAA:¬((w8.heap.size)=wA.heap.size):=Nat.ne_of_lt AA.1;have QA:At wA (bz) [.int .i64 p6,.int .i64 q6]:=(by with_reducible first|exact QD.step st neQ);have nQA:¬((bz)=wA.heap.size):=Nat.ne_of_lt QA.1;have szA:=IA.size;have neNA:¬(wA.heap.size=w6.heap.size):=(by omega);have hmarkA:wA=wA:=rfl))
         have T4:=(IB.set3 d0 d1 d2 d3 d4 d5);revert T4;generalize ((((((wB.setCell ⟨w.heap.size+1+1+1,0,none⟩ (.int .i64 d0)).setCell ⟨w.heap.size+1+1+1,1,none⟩ (.int .i64 d1)).setCell ⟨w.heap.size+1+1+1,2,none⟩ (.int .i64 d2)).setCell ⟨w.heap.size+1+1+1,3,none⟩ (.int .i64 d3)).setCell ⟨w.heap.size+1+1+1,4,none⟩ (.int .i64 d4)).setCell ⟨w.heap.size+1+1+1,5,none⟩ (.int .i64 d5))=X4;intro T4;clear zz0 ff0 zz1 ff1 zz2 ff2 zz3 ff3 zz4 ff4 zz5 ff5 IA IB AA AB QA QB ID AD QD;have v3_0_x:=T4.I.v3_0;have f3_0_x:=T4.I.f3_0;have v3_1_x:=T4.I.v3_1;have f3_1_x:=T4.I.f3_1;have v3_2_x:=T4.I.v3_2;have f3_2_x:=T4.I.f3_2;have v3_3_x:=T4.I.v3_3;have f3_3_x:=T4.I.f3_3;have v3_4_x:=T4.I.v3_4;have f3_4_x:=T4.I.f3_4;have v3_5_x:=T4.I.v3_5;have f3_5_x:=T4.I.f3_5;have v4_0_x:=T4.I.v4_0;have f4_0_x:=T4.I.f4_0;have v4_1_x:=T4.I.v4_1;have f4_1_x:=T4.I.f4_1;have v5_0_x:=T4.I.v5_0;have f5_0_x:=T4.I.f5_0;have v5_1_x:=T4.I.v5_1;have f5_1_x:=T4.I.f5_1;have cE_x:=T4.cE;have mg4:=T4.mg;have sz4:=T4.size
         have nm3:¬(w.heap.size+1+1+1=w6.heap.size):=by omega
         have nm4:¬(w.heap.size+1+1+1+1=w6.heap.size):=by omega
         have nm5:¬(w.heap.size+1+1+1+1+1=w6.heap.size):=by omega
         go_wp2_with fail
         go_region_held3 (fun w'=>w'.cell? ⟨w.heap.size+1+1+1,0,none⟩=some (.int .i64 d0)∧w'.cell? ⟨w.heap.size+1+1+1,1,none⟩=some (.int .i64 d1)∧w'.cell? ⟨w.heap.size+1+1+1,2,none⟩=some (.int .i64 d2)∧w'.cell? ⟨w.heap.size+1+1+1,3,none⟩=some (.int .i64 d3)∧w'.cell? ⟨w.heap.size+1+1+1,4,none⟩=some (.int .i64 d4)∧w'.cell? ⟨w.heap.size+1+1+1,5,none⟩=some (.int .i64 d5)∧w'.cell? ⟨w.heap.size+1+1+1+1,0,none⟩=some (.int .i64 c1)∧w'.cell? ⟨w.heap.size+1+1+1+1,1,none⟩=some (.int .i64 k1)∧w'.cell? ⟨w.heap.size+1+1+1+1+1,0,none⟩=some (.int .i64 c3)∧w'.cell? ⟨w.heap.size+1+1+1+1+1,1,none⟩=some (.int .i64 k3)∧w'.cell? ⟨w6.heap.size,0,none⟩=some (.int .i64 f5)) (with_reducible first|exact T4.drew.res|exact (T4.set3 d0 d1 d2 d3 d4 d5).drew.res|exact ((T4.set3 d0 d1 d2 d3 d4 d5).set4 c1 k1).drew.res|exact (((T4.set3 d0 d1 d2 d3 d4 d5).set4 c1 k1).set5 c3 k3).drew.res)
          (fail)
         all_goals go_wp2_with fail
         have K:=(((T4.set3 d0 d1 d2 d3 d4 d5).set4 c1 k1).set5 c3 k3).drew.res;have KB:=(((T4.set3 d0 d1 d2 d3 d4 d5).set4 c1 k1).set5 c3 k3).drew.I.below;revert K KB;generalize ((((((((((X4.setCell ⟨w.heap.size+1+1+1,0,none⟩ (.int .i64 d0)).setCell ⟨w.heap.size+1+1+1,1,none⟩ (.int .i64 d1)).setCell ⟨w.heap.size+1+1+1,2,none⟩ (.int .i64 d2)).setCell ⟨w.heap.size+1+1+1,3,none⟩ (.int .i64 d3)).setCell ⟨w.heap.size+1+1+1,4,none⟩ (.int .i64 d4)).setCell ⟨w.heap.size+1+1+1,5,none⟩ (.int .i64 d5)).setCell ⟨w.heap.size+1+1+1+1,0,none⟩ (.int .i64 c1)).setCell ⟨w.heap.size+1+1+1+1,1,none⟩ (.int .i64 k1)).setCell ⟨w.heap.size+1+1+1+1+1,0,none⟩ (.int .i64 c3)).setCell ⟨w.heap.size+1+1+1+1+1,1,none⟩ (.int .i64 k3)).drew=X;intro K KB;obtain ⟨kk0,kk1,kk2,kk3,kk4,kk5,kk6,kk7,kk8,kk9,kcE⟩:=K;exact bodyPost_ret (v:=.tuple #[dv ⟨d0,d1,d2,d3,d4,d5⟩,iv c1 k1,iv c3 k3,.int .i64 f5]) (by simp [results,Tryz.results102,go_sem,kk0,kk1,kk2,kk3,kk4,kk5,kk6,kk7,kk8,kk9]) rfl ⟨⟨⟨⟨d0,d1,d2,d3,d4,d5⟩,c1,k1,c3,k3,f5⟩,rfl,by rw [HR];exact clean_if⟩,KB⟩
     ·have hR:refrR s t a b=failF e2:=by rw [HH,if_pos rfl,if_neg hZ,if_neg hF]
      have hF':(e2 == 0)=false:=by simpa using hF
      clear HH HA;have HS:=Lib.hid hs;have HT:=Lib.hid ht;clear hs ht;go_enter Tryz.func102,Tryz.ntmps102
      go_wp2_with fail
      refine (vray_any s t _).mono ?_;rintro e w1 ⟨rfl,hb⟩;rw [HS.out];have I1:=I0.call hb;clear hb;have I1al0:=I1.al0
      go_wp2_with fail
      refine (validb_any a b _).mono ?_;rintro e w2 ⟨rfl,hb⟩;rw [HT.out];have I2:=I1.call hb;clear hb;clear I1al0;have I2al0:=I2.al0
      go_wp2_with fail
      refine (ddot_any s t _).mono ?_;rintro e w3 ⟨rfl,hb⟩;rw [H1.out];have I3:=I2.call hb;clear hb;clear I2al0;have I3al0:=I3.al0
      go_wp2_with fail
      refine (sign_any c1 k1 _).mono ?_;rintro e w4 ⟨rfl,hb⟩;rw [HG.out];have I4:=(I3.set4 c1 k1).call hb;clear hb;clear I3al0;have I4al0:=I4.al0
      go_wp2_with fail
      refine (radicand_any c1 k1 a b _).mono ?_;rintro e w5 ⟨rfl,hb⟩;rw [H2.out];have I5:=I4.call hb;clear hb;clear I4al0;have I5al0:=I5.al0
      have naq_0:w.heap.size<w5.heap.size:=by omega
      have nbq_0:¬(w.heap.size=w5.heap.size):=by omega
      have ncq_0:¬(w5.heap.size=w.heap.size):=by omega
      have ndq_0:w.heap.size<w5.heap.size+1:=by omega
      have naq_1:w.heap.size+1<w5.heap.size:=by omega
      have nbq_1:¬(w.heap.size+1=w5.heap.size):=by omega
      have ncq_1:¬(w5.heap.size=w.heap.size+1):=by omega
      have ndq_1:w.heap.size+1<w5.heap.size+1:=by omega
      have naq_2:w.heap.size+1+1<w5.heap.size:=by omega
      have nbq_2:¬(w.heap.size+1+1=w5.heap.size):=by omega
      have ncq_2:¬(w5.heap.size=w.heap.size+1+1):=by omega
      have ndq_2:w.heap.size+1+1<w5.heap.size+1:=by omega
      have naq_3:w.heap.size+1+1+1<w5.heap.size:=by omega
      have nbq_3:¬(w.heap.size+1+1+1=w5.heap.size):=by omega
      have ncq_3:¬(w5.heap.size=w.heap.size+1+1+1):=by omega
      have ndq_3:w.heap.size+1+1+1<w5.heap.size+1:=by omega
      have naq_4:w.heap.size+1+1+1+1<w5.heap.size:=by omega
      have nbq_4:¬(w.heap.size+1+1+1+1=w5.heap.size):=by omega
      have ncq_4:¬(w5.heap.size=w.heap.size+1+1+1+1):=by omega
      have ndq_4:w.heap.size+1+1+1+1<w5.heap.size+1:=by omega
      have naq_5:w.heap.size+1+1+1+1+1<w5.heap.size:=by omega
      have nbq_5:¬(w.heap.size+1+1+1+1+1=w5.heap.size):=by omega
      have ncq_5:¬(w5.heap.size=w.heap.size+1+1+1+1+1):=by omega
      have ndq_5:w.heap.size+1+1+1+1+1<w5.heap.size+1:=by omega
      go_wp2_with fail
      go_region_held3 (fun w'=>w'.cell? ⟨w.heap.size+1+1+1,0,none⟩=some (.int .i64 0)∧w'.cell? ⟨w.heap.size+1+1+1,1,none⟩=some (.int .i64 0)∧w'.cell? ⟨w.heap.size+1+1+1,2,none⟩=some (.int .i64 0)∧w'.cell? ⟨w.heap.size+1+1+1,3,none⟩=some (.int .i64 0)∧w'.cell? ⟨w.heap.size+1+1+1,4,none⟩=some (.int .i64 0)∧w'.cell? ⟨w.heap.size+1+1+1,5,none⟩=some (.int .i64 0)∧w'.cell? ⟨w.heap.size+1+1+1+1,0,none⟩=some (.int .i64 c1)∧w'.cell? ⟨w.heap.size+1+1+1+1,1,none⟩=some (.int .i64 k1)∧w'.cell? ⟨w.heap.size+1+1+1+1+1,0,none⟩=some (.int .i64 0)∧w'.cell? ⟨w.heap.size+1+1+1+1+1,1,none⟩=some (.int .i64 0)) (with_reducible first|exact (I5.alc _).drew.res|exact ((I5.set3 (0) (0) (0) (0) (0) (0)).alc _).drew.res|exact (((I5.set3 (0) (0) (0) (0) (0) (0)).set4 (c1) (k1)).alc _).drew.res|exact ((((I5.set3 (0) (0) (0) (0) (0) (0)).set4 (c1) (k1)).set5 (0) (0)).alc _).drew.res)
       (fail)
      all_goals go_wp2_with fail
      have K:=((((I5.set3 (0) (0) (0) (0) (0) (0)).set4 (c1) (k1)).set5 (0) (0)).alc (.cells #[.int .i64 c2,.int .i64 k2] 25)).drew.res;have KB:=((((I5.set3 (0) (0) (0) (0) (0) (0)).set4 (c1) (k1)).set5 (0) (0)).alc (.cells #[.int .i64 c2,.int .i64 k2] 25)).drew.below;revert K KB;generalize (((((((((((w5.setCell ⟨w.heap.size+1+1+1,0,none⟩ (.int .i64 0)).setCell ⟨w.heap.size+1+1+1,1,none⟩ (.int .i64 0)).setCell ⟨w.heap.size+1+1+1,2,none⟩ (.int .i64 0)).setCell ⟨w.heap.size+1+1+1,3,none⟩ (.int .i64 0)).setCell ⟨w.heap.size+1+1+1,4,none⟩ (.int .i64 0)).setCell ⟨w.heap.size+1+1+1,5,none⟩ (.int .i64 0)).setCell ⟨w.heap.size+1+1+1+1,0,none⟩ (.int .i64 c1)).setCell ⟨w.heap.size+1+1+1+1,1,none⟩ (.int .i64 k1)).setCell ⟨w.heap.size+1+1+1+1+1,0,none⟩ (.int .i64 0)).setCell ⟨w.heap.size+1+1+1+1+1,1,none⟩ (.int .i64 0)).alloc (.cells #[.int .i64 c2,.int .i64 k2] 25)).drew=X;intro K KB;obtain ⟨kk0,kk1,kk2,kk3,kk4,kk5,kk6,kk7,kk8,kk9⟩:=K;exact bodyPost_ret (v:=.tuple #[dv ⟨0,0,0,0,0,0⟩,iv c1 k1,iv 0 0,.int .i64 e2]) (by simp [results,Tryz.results102,go_sem,kk0,kk1,kk2,kk3,kk4,kk5,kk6,kk7,kk8,kk9]) rfl ⟨⟨⟨⟨0,0,0,0,0,0⟩,c1,k1,0,0,e2⟩,rfl,by rw [hR];exact if_neg hF⟩,KB⟩
   ·have hR:refrR s t a b=failF e1:=by rw [HH,if_neg hE]
    have hE':(e1 == 0)=false:=by simpa using hE
    clear HH HA;have HS:=Lib.hid hs;have HT:=Lib.hid ht;clear hs ht;go_enter Tryz.func102,Tryz.ntmps102
    go_wp2_with fail
    refine (vray_any s t _).mono ?_;rintro e w1 ⟨rfl,hb⟩;rw [HS.out];have I1:=I0.call hb;clear hb;have I1al0:=I1.al0
    go_wp2_with fail
    refine (validb_any a b _).mono ?_;rintro e w2 ⟨rfl,hb⟩;rw [HT.out];have I2:=I1.call hb;clear hb;clear I1al0;have I2al0:=I2.al0
    go_wp2_with fail
    refine (ddot_any s t _).mono ?_;rintro e w3 ⟨rfl,hb⟩;rw [H1.out];have I3:=I2.call hb;clear hb;clear I2al0;have I3al0:=I3.al0
    go_wp2_with fail
    go_region_held3 (fun w'=>w'.cell? ⟨w.heap.size+1+1+1,0,none⟩=some (.int .i64 0)∧w'.cell? ⟨w.heap.size+1+1+1,1,none⟩=some (.int .i64 0)∧w'.cell? ⟨w.heap.size+1+1+1,2,none⟩=some (.int .i64 0)∧w'.cell? ⟨w.heap.size+1+1+1,3,none⟩=some (.int .i64 0)∧w'.cell? ⟨w.heap.size+1+1+1,4,none⟩=some (.int .i64 0)∧w'.cell? ⟨w.heap.size+1+1+1,5,none⟩=some (.int .i64 0)∧w'.cell? ⟨w.heap.size+1+1+1+1,0,none⟩=some (.int .i64 c1)∧w'.cell? ⟨w.heap.size+1+1+1+1,1,none⟩=some (.int .i64 k1)∧w'.cell? ⟨w.heap.size+1+1+1+1+1,0,none⟩=some (.int .i64 0)∧w'.cell? ⟨w.heap.size+1+1+1+1+1,1,none⟩=some (.int .i64 0)) (with_reducible first|exact (I3.set4 c1 k1).drew.res|exact ((I3.set4 c1 k1).set3 (0) (0) (0) (0) (0) (0)).drew.res|exact (((I3.set4 c1 k1).set3 (0) (0) (0) (0) (0) (0)).set4 (c1) (k1)).drew.res|exact ((((I3.set4 c1 k1).set3 (0) (0) (0) (0) (0) (0)).set4 (c1) (k1)).set5 (0) (0)).drew.res)
     (fail)
    all_goals go_wp2_with fail
    have K:=((((I3.set4 c1 k1).set3 (0) (0) (0) (0) (0) (0)).set4 (c1) (k1)).set5 (0) (0)).drew.res;have KB:=((((I3.set4 c1 k1).set3 (0) (0) (0) (0) (0) (0)).set4 (c1) (k1)).set5 (0) (0)).drew.below;revert K KB;generalize ((((((((((((w3.setCell ⟨w.heap.size+1+1+1+1,0,none⟩ (.int .i64 c1)).setCell ⟨w.heap.size+1+1+1+1,1,none⟩ (.int .i64 k1)).setCell ⟨w.heap.size+1+1+1,0,none⟩ (.int .i64 0)).setCell ⟨w.heap.size+1+1+1,1,none⟩ (.int .i64 0)).setCell ⟨w.heap.size+1+1+1,2,none⟩ (.int .i64 0)).setCell ⟨w.heap.size+1+1+1,3,none⟩ (.int .i64 0)).setCell ⟨w.heap.size+1+1+1,4,none⟩ (.int .i64 0)).setCell ⟨w.heap.size+1+1+1,5,none⟩ (.int .i64 0)).setCell ⟨w.heap.size+1+1+1+1,0,none⟩ (.int .i64 c1)).setCell ⟨w.heap.size+1+1+1+1,1,none⟩ (.int .i64 k1)).setCell ⟨w.heap.size+1+1+1+1+1,0,none⟩ (.int .i64 0)).setCell ⟨w.heap.size+1+1+1+1+1,1,none⟩ (.int .i64 0)).drew=X;intro K KB;obtain ⟨kk0,kk1,kk2,kk3,kk4,kk5,kk6,kk7,kk8,kk9⟩:=K;exact bodyPost_ret (v:=.tuple #[dv ⟨0,0,0,0,0,0⟩,iv c1 k1,iv 0 0,.int .i64 e1]) (by simp [results,Tryz.results102,go_sem,kk0,kk1,kk2,kk3,kk4,kk5,kk6,kk7,kk8,kk9]) rfl ⟨⟨⟨⟨0,0,0,0,0,0⟩,c1,k1,0,0,e1⟩,rfl,by rw [hR];exact if_neg hE⟩,KB⟩
end Go.Proofs.YtiecdgcdcpmgaaaGreat.Iv
