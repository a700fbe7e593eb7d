/- Texts PDkM, PDj, POf, PRc, PRd0. -/
import Derived.Test.YtiecdgcdcpmgaaaGreatM06
import Derived.Test.YtiecdgcdcpmgaaaGreatM19
import Derived.Test.YtiecdgcdcpmgaaaGreatM14
import Derived.Test.YtiecdgcdcpmgaaaGreatM12
import Derived.BigQuiet
import Derived.Test.YtiecdgcdcpmgaaaGreatM11
import Derived.Test.YtiecdgcdcpmgaaaGreatM05

/- Plain facts: what Reflect, Hits and Refract return for boxes that are contained in others is contained in what they return for these. -/
namespace Go.Proofs.YtiecdgcdcpmgaaaGreat.Iv
structure SubD (s' s:D):Prop where
 x:Sub s'.a s'.b s.a s.b
 y:Sub s'.c s'.d s.c s.d
 z:Sub s'.e s'.f s.e s.f
def InclD (r r':RD):Prop:=r.e=0→r'.e=0∧SubD r'.d r.d
theorem SubD.v {s' s:D} (h:SubD s' s):vD s=true:=by simp [vD,h.x.v,h.y.v,h.z.v]
theorem SubD.v' {s' s:D} (h:SubD s' s):vD s'=true:=by simp [vD,h.x.v',h.y.v',h.z.v']
theorem incl_goOn {e e':Int} {r r':R} (h:e=0→e'=0) (k:e=0→Incl r r'):Incl (goOn e r) (goOn e' r'):=by
 intro h0;have h1:=goOn_e h0;subst h1;have h2:=h rfl;subst h2;rw [goOn0] at h0 ⊢;exact k rfl h0
theorem incl_comb {a b c a' b' c':R} (h1:Incl a a') (h2:Incl b b') (h3:Incl c c'):InclD (comb a b c) (comb a' b' c'):=by
 intro h0;obtain ⟨x,y,z,e⟩:=comb_v h0;obtain ⟨x1,x2⟩:=h1 x;obtain ⟨y1,y2⟩:=h2 y;obtain ⟨z1,z2⟩:=h3 z
 have h':comb a' b' c'=⟨⟨a'.lo,a'.hi,b'.lo,b'.hi,c'.lo,c'.hi⟩,0⟩:=by
  rw [comb,if_pos x1,if_pos y1,if_pos z1]
 rw [e,h'];exact ⟨rfl,x2,y2,z2⟩
theorem incl_only {r r':R} (h:Incl r r'):Incl (onlyR r) (onlyR r'):=by
 intro h0;unfold onlyR at h0 ⊢
 by_cases c:r.e=0
 ·obtain ⟨c',s⟩:=h c;rw [if_pos c,if_pos c'];exact ⟨rfl,s⟩
 ·rw [if_neg c] at h0;exact absurd h0 c
theorem incl_sumG {e e':Int} {s s':D} (h:e=0→e'=0∧SubD s' s):Incl (sumG e s) (sumG e' s'):=by
 have h1:Incl (goOn e (addR s.a s.b s.c s.d)) (goOn e' (addR s'.a s'.b s'.c s'.d)):=incl_goOn (fun x=>(h x).1) (fun x=>incl_add (h x).2.x (h x).2.y);exact incl_goOn (fun x=>(h1 x).1) (fun x=>incl_add (h1 x).2 (h (goOn_e x)).2.z)
theorem incl_dot {s t s' t':D} (h:SubD s' s) (k:SubD t' t):Incl (dotR s t) (dotR s' t'):=by
 rw [dotR,dotR,if_pos ⟨h.v,k.v⟩,if_pos ⟨h.v',k.v'⟩];exact incl_only (incl_sumG (incl_comb (incl_mul h.x k.x) (incl_mul h.y k.y) (incl_mul h.z k.z)))
theorem sub_refl {a b:Int} (h:vB a b=true):Sub a b a b:=⟨h,h,Int.le_refl _,(vB_iff.1 h).2.1,Int.le_refl _⟩
end Go.Proofs.YtiecdgcdcpmgaaaGreat.Iv

/- Contracts of the laws' helpers: parts of boxes, the reference's tests of boxes. -/
namespace Go.Proofs.YtiecdgcdcpmgaaaGreat.Iv
open Go.RowKit
attribute [local go_sem] run_min2' run_max2'
theorem below_dN (w:World) (n:Nat):Below w.heap.size w (w.drewN n):=⟨rfl,rfl,rfl,Nat.le_refl _,fun _ _=>rfl⟩
theorem Bx.drewn {W:World} {b:Nat} {cs:List Value} (h:Bx W b cs) (n:Nat):Bx (W.drewN n) b cs:=h.kept (below_dN _ _)
theorem Ho.drewn {w0 W:World} {m:Nat} {l:List (Nat × List Value)} (h:Ho w0 W m l) (n:Nat):Ho w0 (W.drewN n) m l:=h.call (below_dN _ _)
set_option maxRecDepth 100000 in
set_option maxHeartbeats 4000000 in
theorem rdvalid_any (s:D) (w:World) :
  Calls Tryz.prog 42 #[dv s] w fun e w'=>e = .returned (.bool (vD s))∧Below w.heap.size w w':=by
 cases h1:vB s.a s.b
 ·rw [show vD s=false from by simp [vD,h1]];have E1:=Lib.hid h1;clear h1;have H0:=((Ho.nil w).bx [.int .i64 s.a,.int .i64 s.b,.int .i64 s.c,.int .i64 s.d,.int .i64 s.e,.int .i64 s.f] 57 (w.heap.size) (by simp));go_enter Tryz.func42,Tryz.ntmps42
  go_wp2_with fail
  refine (rvalid_below s.a s.b _).mono ?_;rintro r w1 ⟨rfl,hb⟩;rw [E1.out];have H1:Ho w w1 (w.heap.size+1) [(w.heap.size,[.int .i64 s.a,.int .i64 s.b,.int .i64 s.c,.int .i64 s.d,.int .i64 s.e,.int .i64 s.f])]:=Ho.call hoA hb;have hs1:=H1.size;have hz1:=hb.size
  (try simp at hz1)
  clear hb;have h0_1:=(H1.at 0 rfl).c;have zx1:=zq (w.heap.size) (w1.heap.size)
  go_wp2_with fail
  go_ret
  exact ⟨rfl,H1.below⟩
 ·cases h2:vB s.c s.d
  ·rw [show vD s=false from by simp [vD,h2]];have E1:=Lib.hid h1;have E2:=Lib.hid h2;clear h1 h2;have H0:=((Ho.nil w).bx [.int .i64 s.a,.int .i64 s.b,.int .i64 s.c,.int .i64 s.d,.int .i64 s.e,.int .i64 s.f] 57 (w.heap.size) (by simp));go_enter Tryz.func42,Tryz.ntmps42
   go_wp2_with fail
   refine (rvalid_below s.a s.b _).mono ?_;rintro r w1 ⟨rfl,hb⟩;rw [E1.out];have H1:Ho w w1 (w.heap.size+1) [(w.heap.size,[.int .i64 s.a,.int .i64 s.b,.int .i64 s.c,.int .i64 s.d,.int .i64 s.e,.int .i64 s.f])]:=Ho.call hoA hb;have hs1:=H1.size;have hz1:=hb.size
   (try simp at hz1)
   clear hb;have h0_1:=(H1.at 0 rfl).c;have zx1:=zq (w.heap.size) (w1.heap.size)
   go_wp2_with fail
   refine (rvalid_below s.c s.d _).mono ?_;rintro r w2 ⟨rfl,hb⟩;rw [E2.out];have H2:Ho w w2 (w.heap.size+1) [(w.heap.size,[.int .i64 s.a,.int .i64 s.b,.int .i64 s.c,.int .i64 s.d,.int .i64 s.e,.int .i64 s.f])]:=Ho.call hoA hb;clear h0_1 zx1;have hs2:=H2.size;have hz2:=hb.size
   (try simp at hz2)
   clear hb;have h0_2:=(H2.at 0 rfl).c;have zx2:=zq (w.heap.size) (w2.heap.size)
   go_wp2_with fail
   go_ret
   exact ⟨rfl,H2.below⟩
  ·rw [show vD s=vB s.e s.f from by simp [vD,h1,h2]];have E1:=Lib.hid h1;have E2:=Lib.hid h2;clear h1 h2;have H0:=((Ho.nil w).bx [.int .i64 s.a,.int .i64 s.b,.int .i64 s.c,.int .i64 s.d,.int .i64 s.e,.int .i64 s.f] 57 (w.heap.size) (by simp));go_enter Tryz.func42,Tryz.ntmps42
   go_wp2_with fail
   refine (rvalid_below s.a s.b _).mono ?_;rintro r w1 ⟨rfl,hb⟩;rw [E1.out];have H1:Ho w w1 (w.heap.size+1) [(w.heap.size,[.int .i64 s.a,.int .i64 s.b,.int .i64 s.c,.int .i64 s.d,.int .i64 s.e,.int .i64 s.f])]:=Ho.call hoA hb;have hs1:=H1.size;have hz1:=hb.size
   (try simp at hz1)
   clear hb;have h0_1:=(H1.at 0 rfl).c;have zx1:=zq (w.heap.size) (w1.heap.size)
   go_wp2_with fail
   refine (rvalid_below s.c s.d _).mono ?_;rintro r w2 ⟨rfl,hb⟩;rw [E2.out];have H2:Ho w w2 (w.heap.size+1) [(w.heap.size,[.int .i64 s.a,.int .i64 s.b,.int .i64 s.c,.int .i64 s.d,.int .i64 s.e,.int .i64 s.f])]:=Ho.call hoA hb;clear h0_1 zx1;have hs2:=H2.size;have hz2:=hb.size
   (try simp at hz2)
   clear hb;have h0_2:=(H2.at 0 rfl).c;have zx2:=zq (w.heap.size) (w2.heap.size)
   go_wp2_with fail
   refine (rvalid_below s.e s.f _).mono ?_;rintro r w3 ⟨rfl,hb⟩;have H3:Ho w w3 (w.heap.size+1) [(w.heap.size,[.int .i64 s.a,.int .i64 s.b,.int .i64 s.c,.int .i64 s.d,.int .i64 s.e,.int .i64 s.f])]:=Ho.call hoA hb;clear h0_2 zx2;have hs3:=H3.size;have hz3:=hb.size
   (try simp at hz3)
   clear hb;have h0_3:=(H3.at 0 rfl).c;have zx3:=zq (w.heap.size) (w3.heap.size)
   go_wp2_with fail
   go_ret
   exact ⟨rfl,H3.below⟩
end Go.Proofs.YtiecdgcdcpmgaaaGreat.Iv

/- Contract of direction.Of. -/
namespace Go.Proofs.YtiecdgcdcpmgaaaGreat.Iv
open Go.RowKit
attribute [local go_sem] Oper.semAt_some
set_option maxRecDepth 100000 in
set_option maxHeartbeats 1000000 in
theorem do_div (B c:Nat) (a b x y e:Int) (w:World) (hc:w.cell? ⟨c,0,none⟩=some (.int .i64 e)) (hf:w.frozen? ⟨c,0,none⟩=false) :
  Calls Tryz.prog 65 #[.pointer (some ⟨c,0,none⟩),.func (.func 63) #[] #[],iv a b,iv x y] w fun r w'=>r = .returned (iv (goOn e (divR a b x y)).lo (goOn e (divR a b x y)).hi)∧Step B w c (goOn e (divR a b x y)).e w':=by
 have hlt:c<w.heap.size:=World.block_lt_of_cell? w _ hc
 have q1:c<w.heap.size+1:=by omega
 have q2:c<w.heap.size+1+1:=by omega
 have q3:c<w.heap.size+1+1+1:=by omega
 have nn0:¬(c=w.heap.size):=by omega
 have mm0:¬(w.heap.size=c):=by omega
 have nn1:¬(c=w.heap.size+1):=by omega
 have mm1:¬(w.heap.size+1=c):=by omega
 have nn2:¬(c=w.heap.size+1+1):=by omega
 have mm2:¬(w.heap.size+1+1=c):=by omega
 have nn3:¬(c=w.heap.size+1+1+1):=by omega
 have mm3:¬(w.heap.size+1+1+1=c):=by omega
 by_cases he:e=0
 ·subst he;rw [show goOn 0 (divR a b x y)=divR a b x y from if_pos rfl];obtain ⟨⟨p,q,f⟩,hR⟩:∃r:R,divR a b x y=r:=⟨_,rfl⟩;have HR:=Lib.hid (show retR (divR a b x y) = .returned (.tuple #[iv p q,.int .i64 f]) from by rw [hR]);rw [hR];clear hR;go_enter Tryz.func65,Tryz.ntmps65
  go_wp2_with fail
  refine (div_any a b x y _).mono ?_;rintro r w1 ⟨rfl,hb1⟩;rw [HR.out];obtain ⟨hc1,hf1⟩:=bcell hb1;have hz1:=hb1.size
  try simp at hz1
  have d3:w1.cell? ⟨w.heap.size+1+1,0,none⟩=some (.int .i64 0):=(hc1 _ _ (by simp)).trans (by simp [go_sem]);have d4:w1.cell? ⟨w.heap.size+1+1,1,none⟩=some (.int .i64 0):=(hc1 _ _ (by simp)).trans (by simp [go_sem]);have d5:w1.frozen? ⟨w.heap.size+1+1,0,none⟩=false:=(hf1 _ _ (by simp)).trans (by simp [go_sem]);have d6:w1.frozen? ⟨w.heap.size+1+1,1,none⟩=false:=(hf1 _ _ (by simp)).trans (by simp [go_sem]);have d1:w1.cell? ⟨c,0,none⟩=some (.int .i64 0):=(hc1 _ _ (by simp;omega)).trans (by simp [go_sem, *]);have d2:w1.frozen? ⟨c,0,none⟩=false:=(hf1 _ _ (by simp;omega)).trans (by simp [go_sem, *])
  have v1:c<w1.heap.size:=by omega
  have v2:¬(c=w1.heap.size):=by omega
  have v3:¬(w1.heap.size=c):=by omega
  have v4:w.heap.size+1+1<w1.heap.size:=by omega
  have v5:¬(w.heap.size+1+1=w1.heap.size):=by omega
  have v6:¬(w1.heap.size=w.heap.size+1+1):=by omega
  have v7:c<w1.heap.size+1:=by omega
  have v8:w.heap.size+1+1<w1.heap.size+1:=by omega
  have v9:¬(c=w.heap.size+1+1):=by omega
  have v10:¬(w.heap.size+1+1=c):=by omega
  go_wp2_with fail
  refine bodyPost_ret (v:=iv p q) (by simp [results,Tryz.results65,go_sem, *]) rfl ⟨rfl,?_⟩;refine ⟨by simp [go_sem, *],fun b o hb hn=>?_,fun b o hb=>?_,by simp;omega,fun h1 h2=>?_⟩
  ·have y2:=hc1 b o (by simp;omega)
   have x1:b<w.heap.size+1:=by omega
   have x2:b<w.heap.size+1+1:=by omega
   have x3:¬(b=w.heap.size):=by omega
   have x4:¬(b=w.heap.size+1):=by omega
   have x5:¬(b=w.heap.size+1+1):=by omega
   have x6:¬(w.heap.size+1+1=b):=by omega
   have x7:¬(w.heap.size+1=b):=by omega
   have hn':¬(c=b):=fun h=>hn h.symm
   have x8:b<w1.heap.size:=by omega
   have x9:¬(b=w1.heap.size):=by omega
   have x10:¬(w1.heap.size=b):=by omega
   simp [go_sem, *]
  ·have y2:=hf1 b o (by simp;omega)
   have x1:b<w.heap.size+1:=by omega
   have x2:b<w.heap.size+1+1:=by omega
   have x8:b<w1.heap.size:=by omega
   simp [go_sem, *]
  ·have y1:Below B w w1:=((((Below.refl _ _).alloc (by first|omega|(simp<;>omega)) _).alloc (by first|omega|(simp<;>omega)) _).alloc (by first|omega|(simp<;>omega)) _).trans (hb1.mono (by simp;omega))
   (repeat (first|exact y1|refine Below.setCell ?_ (by first|omega|(simp<;>omega)) _|refine Below.alloc ?_ (by first|omega|(simp<;>omega)) _))
 ·rw [show goOn e (divR a b x y)=⟨0,0,e⟩ from if_neg he]
  have he':(e == 0)=false:=by simpa using he
  go_enter Tryz.func65,Tryz.ntmps65
  go_wp2_with fail
  refine bodyPost_ret (v:=iv 0 0) (by simp [results,Tryz.results65,go_sem, *]) rfl ⟨rfl,?_⟩;refine ⟨by simp [go_sem, *],fun b o hb hn=>?_,fun b o hb=>?_,by simp;omega,fun h1 h2=>?_⟩
  ·have x1:b<w.heap.size+1:=by omega
   have x2:b<w.heap.size+1+1:=by omega
   simp [go_sem, *]
  ·have x1:b<w.heap.size+1:=by omega
   have x2:b<w.heap.size+1+1:=by omega
   simp [go_sem, *]
  ·(repeat (first|exact Below.refl _ _|refine Below.setCell ?_ (by first|omega|(simp<;>omega)) _|refine Below.alloc ?_ (by first|omega|(simp<;>omega)) _))
set_option maxRecDepth 100000 in
set_option maxHeartbeats 1000000 in
theorem ap_sq (B c:Nat) (a b e:Int) (w:World) (hc:w.cell? ⟨c,0,none⟩=some (.int .i64 e)) (hf:w.frozen? ⟨c,0,none⟩=false) :
  Calls Tryz.prog 66 #[.pointer (some ⟨c,0,none⟩),.func (.func 67) #[] #[],iv a b] w fun r w'=>r = .returned (iv (goOn e (sqR a b)).lo (goOn e (sqR a b)).hi)∧Step B w c (goOn e (sqR a b)).e w':=by
 have hlt:c<w.heap.size:=World.block_lt_of_cell? w _ hc
 have q1:c<w.heap.size+1:=by omega
 have q2:c<w.heap.size+1+1:=by omega
 have q3:c<w.heap.size+1+1+1:=by omega
 have nn0:¬(c=w.heap.size):=by omega
 have mm0:¬(w.heap.size=c):=by omega
 have nn1:¬(c=w.heap.size+1):=by omega
 have mm1:¬(w.heap.size+1=c):=by omega
 have nn2:¬(c=w.heap.size+1+1):=by omega
 have mm2:¬(w.heap.size+1+1=c):=by omega
 have nn3:¬(c=w.heap.size+1+1+1):=by omega
 have mm3:¬(w.heap.size+1+1+1=c):=by omega
 by_cases he:e=0
 ·subst he;rw [show goOn 0 (sqR a b)=sqR a b from if_pos rfl];obtain ⟨⟨p,q,f⟩,hR⟩:∃r:R,sqR a b=r:=⟨_,rfl⟩;have HR:=Lib.hid (show retR (sqR a b) = .returned (.tuple #[iv p q,.int .i64 f]) from by rw [hR]);rw [hR];clear hR;go_enter Tryz.func66,Tryz.ntmps66
  go_wp2_with fail
  refine (square_any a b _).mono ?_;rintro r w1 ⟨rfl,hb1⟩;rw [HR.out];obtain ⟨hc1,hf1⟩:=bcell hb1;have hz1:=hb1.size
  try simp at hz1
  have d3:w1.cell? ⟨w.heap.size+1,0,none⟩=some (.int .i64 0):=(hc1 _ _ (by simp)).trans (by simp [go_sem]);have d4:w1.cell? ⟨w.heap.size+1,1,none⟩=some (.int .i64 0):=(hc1 _ _ (by simp)).trans (by simp [go_sem]);have d5:w1.frozen? ⟨w.heap.size+1,0,none⟩=false:=(hf1 _ _ (by simp)).trans (by simp [go_sem]);have d6:w1.frozen? ⟨w.heap.size+1,1,none⟩=false:=(hf1 _ _ (by simp)).trans (by simp [go_sem]);have d1:w1.cell? ⟨c,0,none⟩=some (.int .i64 0):=(hc1 _ _ (by simp;omega)).trans (by simp [go_sem, *]);have d2:w1.frozen? ⟨c,0,none⟩=false:=(hf1 _ _ (by simp;omega)).trans (by simp [go_sem, *])
  have v1:c<w1.heap.size:=by omega
  have v2:¬(c=w1.heap.size):=by omega
  have v3:¬(w1.heap.size=c):=by omega
  have v4:w.heap.size+1<w1.heap.size:=by omega
  have v5:¬(w.heap.size+1=w1.heap.size):=by omega
  have v6:¬(w1.heap.size=w.heap.size+1):=by omega
  have v7:c<w1.heap.size+1:=by omega
  have v8:w.heap.size+1<w1.heap.size+1:=by omega
  have v9:¬(c=w.heap.size+1):=by omega
  have v10:¬(w.heap.size+1=c):=by omega
  go_wp2_with fail
  refine bodyPost_ret (v:=iv p q) (by simp [results,Tryz.results66,go_sem, *]) rfl ⟨rfl,?_⟩;refine ⟨by simp [go_sem, *],fun b o hb hn=>?_,fun b o hb=>?_,by simp;omega,fun h1 h2=>?_⟩
  ·have y2:=hc1 b o (by simp;omega)
   have x1:b<w.heap.size+1:=by omega
   have x2:b<w.heap.size+1+1:=by omega
   have x3:¬(b=w.heap.size):=by omega
   have x4:¬(b=w.heap.size+1):=by omega
   have x5:¬(b=w.heap.size+1+1):=by omega
   have x6:¬(w.heap.size+1+1=b):=by omega
   have x7:¬(w.heap.size+1=b):=by omega
   have hn':¬(c=b):=fun h=>hn h.symm
   have x8:b<w1.heap.size:=by omega
   have x9:¬(b=w1.heap.size):=by omega
   have x10:¬(w1.heap.size=b):=by omega
   simp [go_sem, *]
  ·have y2:=hf1 b o (by simp;omega)
   have x1:b<w.heap.size+1:=by omega
   have x2:b<w.heap.size+1+1:=by omega
   have x8:b<w1.heap.size:=by omega
   simp [go_sem, *]
  ·have y1:Below B w w1:=(((Below.refl _ _).alloc (by first|omega|(simp<;>omega)) _).alloc (by first|omega|(simp<;>omega)) _).trans (hb1.mono (by simp;omega))
   (repeat (first|exact y1|refine Below.setCell ?_ (by first|omega|(simp<;>omega)) _|refine Below.alloc ?_ (by first|omega|(simp<;>omega)) _))
 ·rw [show goOn e (sqR a b)=⟨0,0,e⟩ from if_neg he]
  have he':(e == 0)=false:=by simpa using he
  go_enter Tryz.func66,Tryz.ntmps66
  go_wp2_with fail
  refine bodyPost_ret (v:=iv 0 0) (by simp [results,Tryz.results66,go_sem, *]) rfl ⟨rfl,?_⟩;refine ⟨by simp [go_sem, *],fun b o hb hn=>?_,fun b o hb=>?_,by simp;omega,fun h1 h2=>?_⟩
  ·have x1:b<w.heap.size+1:=by omega
   have x2:b<w.heap.size+1+1:=by omega
   simp [go_sem, *]
  ·have x1:b<w.heap.size+1:=by omega
   have x2:b<w.heap.size+1+1:=by omega
   simp [go_sem, *]
  ·(repeat (first|exact Below.refl _ _|refine Below.setCell ?_ (by first|omega|(simp<;>omega)) _|refine Below.alloc ?_ (by first|omega|(simp<;>omega)) _))
theorem dunit_any (w:World):Calls Tryz.prog 68 #[] w fun e w'=>e = .returned (iv 16777216 16777216)∧Below w.heap.size w w':=by
 go_enter Tryz.func68,Tryz.ntmps68
 go_wp2_with fail
 exact bodyPost_ret (v:=iv 16777216 16777216) (by simp [results,Tryz.results68,go_sem]) rfl ⟨rfl,(by repeat (first|exact Below.refl _ _|refine Below.drew ?_|refine below_drewN ?_ _|refine Below.setCell ?_ (by first|omega|(simp<;>omega)) _|refine Below.alloc ?_ (by first|omega|(simp<;>omega)) _))⟩
def bindG (e:Int) (r:R) (f:Int→Int→Int→RD):RD:=f (goOn e r).lo (goOn e r).hi (goOn e r).e
def ofG (ul uh vl vh:Int):RD:=
 bindG 0 (sqR ul uh) fun p1 q1 e1=>bindG e1 (sqR vl vh) fun p2 q2 e2=>bindG e2 (addR p1 q1 p2 q2) fun p3 q3 e3=>
 bindG e3 (addR 16777216 16777216 p3 q3) fun p4 q4 e4=>bindG e4 (addR ul uh ul uh) fun p5 q5 e5=>bindG e5 (divR p5 q5 p4 q4) fun p6 q6 e6=>
 bindG e6 (addR vl vh vl vh) fun p7 q7 e7=>bindG e7 (divR p7 q7 p4 q4) fun p8 q8 e8=>bindG e8 (subR p3 q3 16777216 16777216) fun p9 q9 e9=>
 bindG e9 (divR p9 q9 p4 q4) fun pa qa ea=>dirR ea ⟨p6,q6,p8,q8,pa,qa⟩
def ofR (ul uh vl vh:Int):RD:=if vB ul uh=true then (if vB vl vh=true then ofG ul uh vl vh else ⟨zD,1⟩) else ⟨zD,1⟩
structure Fa (b0 c n0 bo:Nat) (ul uh vl vh p1 q1 e1 p2 q2 e2 p3 q3 e3 p4 q4 e4 p5 q5 e5 p6 q6 e6 p7 q7 e7 p8 q8 e8 p9 q9 e9 pa qa ea:Int) (w0 w:World) (l0 l1 l2 l3 l4 l5 l6 l7:Bool) (v0 v1 v2 v3 v4 v5 v6:Value) (b6:Nat):Prop where
 g:Ho w0 w (b0+1+1) [(b0+1,[.int .i64 vl,.int .i64 vh]),(b0,[.int .i64 ul,.int .i64 uh])]
 sz:n0≤w.heap.size
 mn:(b0+1+1)≤n0
 u0:Bx w bo [.int .i64 0,.int .i64 0,.int .i64 0,.int .i64 0,.int .i64 0,.int .i64 0]
 un0:bo<n0
 uc0:¬(bo=c)
 mc:(b0+1+1)≤c
 cn:c<n0
 qq4:l4=true→l2=true
 qq5:l5=true→l4=true
 k0:l2=false→Ce w c 0
 k1:l2=true→l4=false→Ce w c e1
 k2:l4=true→l5=false→Ce w c e2
 k3:l5=true→Ce w c e3
 ev0:l0=true→v0 = .func (.func 65) #[.pointer (some ⟨c,0,none⟩)] #[]
 ev1:l1=true→v1=(iv ul uh)
 ev2:l2=true→v2=(iv p1 q1)
 ev3:l3=true→v3=(iv vl vh)
 ev4:l4=true→v4=(iv p2 q2)
 ev5:l5=true→v5=(iv p3 q3)
 ev6:l6=true→v6 = .pointer (some ⟨b6,0,none⟩)
 g6:l6=true→n0≤b6
 t6:l6=true→b6<w.heap.size
 o6:l7=true→l6=true
 z6:l6=true→l7=false→Bx w b6 [.int .i64 0,.int .i64 0]
 s6:l7=true→Bx w b6 [.int .i64 p3,.int .i64 q3]
theorem Fa.kept {b0 c n0 bo:Nat} {ul uh vl vh p1 q1 e1 p2 q2 e2 p3 q3 e3 p4 q4 e4 p5 q5 e5 p6 q6 e6 p7 q7 e7 p8 q8 e8 p9 q9 e9 pa qa ea:Int} {w0 w:World} {l0 l1 l2 l3 l4 l5 l6 l7:Bool} {v0 v1 v2 v3 v4 v5 v6:Value} {b6:Nat} {w':World} (h:Fa b0 c n0 bo ul uh vl vh p1 q1 e1 p2 q2 e2 p3 q3 e3 p4 q4 e4 p5 q5 e5 p6 q6 e6 p7 q7 e7 p8 q8 e8 p9 q9 e9 pa qa ea w0 w l0 l1 l2 l3 l4 l5 l6 l7 v0 v1 v2 v3 v4 v5 v6 b6) (hb:Below w.heap.size w w'):Fa b0 c n0 bo ul uh vl vh p1 q1 e1 p2 q2 e2 p3 q3 e3 p4 q4 e4 p5 q5 e5 p6 q6 e6 p7 q7 e7 p8 q8 e8 p9 q9 e9 pa qa ea w0 w' l0 l1 l2 l3 l4 l5 l6 l7 v0 v1 v2 v3 v4 v5 v6 b6:=
 {h with g:=h.g.call hb,sz:=Nat.le_trans h.sz hb.size,u0:=h.u0.kept hb,k0:=fun p0=>(h.k0 p0).kept hb,k1:=fun p0 p1=>(h.k1 p0 p1).kept hb,k2:=fun p0 p1=>(h.k2 p0 p1).kept hb,k3:=fun p0=>(h.k3 p0).kept hb,t6:=fun p=>Nat.lt_of_lt_of_le (h.t6 p) hb.size,z6:=fun p q=>(h.z6 p q).kept hb,s6:=fun p=>(h.s6 p).kept hb}
def Fa.I (b0 c n0 bo:Nat) (ul uh vl vh p1 q1 e1 p2 q2 e2 p3 q3 e3 p4 q4 e4 p5 q5 e5 p6 q6 e6 p7 q7 e7 p8 q8 e8 p9 q9 e9 pa qa ea:Int) (w0:World):Act→Array Bool→Act→World→Prop:=fun aO LX aX w=>∃(l0 l1 l2 l3 l4 l5 l6 l7:Bool) (v0 v1 v2 v3 v4 v5 v6:Value) (b6:Nat),LX=#[l0,l1,l2,l3,l4,l5,l6,l7]∧aX=(((((((aO.put (some 24) v0).put (some 25) v1).put (some 26) v2).put (some 27) v3).put (some 28) v4).put (some 29) v5).put (some 8) v6)∧Fa b0 c n0 bo ul uh vl vh p1 q1 e1 p2 q2 e2 p3 q3 e3 p4 q4 e4 p5 q5 e5 p6 q6 e6 p7 q7 e7 p8 q8 e8 p9 q9 e9 pa qa ea w0 w l0 l1 l2 l3 l4 l5 l6 l7 v0 v1 v2 v3 v4 v5 v6 b6
structure Fb (b0 c n0 bo bbs:Nat) (ul uh vl vh p1 q1 e1 p2 q2 e2 p3 q3 e3 p4 q4 e4 p5 q5 e5 p6 q6 e6 p7 q7 e7 p8 q8 e8 p9 q9 e9 pa qa ea:Int) (w0 w:World) (l0 l1 l2 l3 l4 l5:Bool) (v0 v1 v2 v3 v4:Value) (b4:Nat):Prop where
 g:Ho w0 w (b0+1+1) [(b0+1,[.int .i64 vl,.int .i64 vh]),(b0,[.int .i64 ul,.int .i64 uh])]
 sz:n0≤w.heap.size
 mn:(b0+1+1)≤n0
 u0:Bx w bo [.int .i64 0,.int .i64 0,.int .i64 0,.int .i64 0,.int .i64 0,.int .i64 0]
 un0:bo<n0
 uc0:¬(bo=c)
 u1:Bx w bbs [.int .i64 p3,.int .i64 q3]
 un1:bbs<n0
 uc1:¬(bbs=c)
 mc:(b0+1+1)≤c
 cn:c<n0
 k0:l3=false→Ce w c e3
 k1:l3=true→Ce w c e4
 ev0:l0=true→v0 = .func (.func 65) #[.pointer (some ⟨c,0,none⟩)] #[]
 ev1:l1=true→v1=(iv 16777216 16777216)
 ev2:l2=true→v2=(iv p3 q3)
 ev3:l3=true→v3=(iv p4 q4)
 ev4:l4=true→v4 = .pointer (some ⟨b4,0,none⟩)
 g4:l4=true→n0≤b4
 t4:l4=true→b4<w.heap.size
 o4:l5=true→l4=true
 z4:l4=true→l5=false→Bx w b4 [.int .i64 0,.int .i64 0]
 s4:l5=true→Bx w b4 [.int .i64 p4,.int .i64 q4]
theorem Fb.kept {b0 c n0 bo bbs:Nat} {ul uh vl vh p1 q1 e1 p2 q2 e2 p3 q3 e3 p4 q4 e4 p5 q5 e5 p6 q6 e6 p7 q7 e7 p8 q8 e8 p9 q9 e9 pa qa ea:Int} {w0 w:World} {l0 l1 l2 l3 l4 l5:Bool} {v0 v1 v2 v3 v4:Value} {b4:Nat} {w':World} (h:Fb b0 c n0 bo bbs ul uh vl vh p1 q1 e1 p2 q2 e2 p3 q3 e3 p4 q4 e4 p5 q5 e5 p6 q6 e6 p7 q7 e7 p8 q8 e8 p9 q9 e9 pa qa ea w0 w l0 l1 l2 l3 l4 l5 v0 v1 v2 v3 v4 b4) (hb:Below w.heap.size w w'):Fb b0 c n0 bo bbs ul uh vl vh p1 q1 e1 p2 q2 e2 p3 q3 e3 p4 q4 e4 p5 q5 e5 p6 q6 e6 p7 q7 e7 p8 q8 e8 p9 q9 e9 pa qa ea w0 w' l0 l1 l2 l3 l4 l5 v0 v1 v2 v3 v4 b4:=
 {h with g:=h.g.call hb,sz:=Nat.le_trans h.sz hb.size,u0:=h.u0.kept hb,u1:=h.u1.kept hb,k0:=fun p0=>(h.k0 p0).kept hb,k1:=fun p0=>(h.k1 p0).kept hb,t4:=fun p=>Nat.lt_of_lt_of_le (h.t4 p) hb.size,z4:=fun p q=>(h.z4 p q).kept hb,s4:=fun p=>(h.s4 p).kept hb}
def Fb.I (b0 c n0 bo bbs:Nat) (ul uh vl vh p1 q1 e1 p2 q2 e2 p3 q3 e3 p4 q4 e4 p5 q5 e5 p6 q6 e6 p7 q7 e7 p8 q8 e8 p9 q9 e9 pa qa ea:Int) (w0:World):Act→Array Bool→Act→World→Prop:=fun aO LX aX w=>∃(l0 l1 l2 l3 l4 l5:Bool) (v0 v1 v2 v3 v4:Value) (b4:Nat),LX=#[l0,l1,l2,l3,l4,l5]∧aX=(((((aO.put (some 30) v0).put (some 31) v1).put (some 32) v2).put (some 33) v3).put (some 9) v4)∧Fb b0 c n0 bo bbs ul uh vl vh p1 q1 e1 p2 q2 e2 p3 q3 e3 p4 q4 e4 p5 q5 e5 p6 q6 e6 p7 q7 e7 p8 q8 e8 p9 q9 e9 pa qa ea w0 w l0 l1 l2 l3 l4 l5 v0 v1 v2 v3 v4 b4
structure Fc (b0 c n0 bo bbs bbw:Nat) (ul uh vl vh p1 q1 e1 p2 q2 e2 p3 q3 e3 p4 q4 e4 p5 q5 e5 p6 q6 e6 p7 q7 e7 p8 q8 e8 p9 q9 e9 pa qa ea:Int) (w0 w:World) (l0 l1 l2 l3 l4 l5 l6 l7 l8:Bool) (v0 v1 v2 v3 v4 v5 v6 v7:Value) (b7:Nat):Prop where
 g:Ho w0 w (b0+1+1) [(b0+1,[.int .i64 vl,.int .i64 vh]),(b0,[.int .i64 ul,.int .i64 uh])]
 sz:n0≤w.heap.size
 mn:(b0+1+1)≤n0
 u0:Bx w bo [.int .i64 0,.int .i64 0,.int .i64 0,.int .i64 0,.int .i64 0,.int .i64 0]
 un0:bo<n0
 uc0:¬(bo=c)
 u1:Bx w bbs [.int .i64 p3,.int .i64 q3]
 un1:bbs<n0
 uc1:¬(bbs=c)
 u2:Bx w bbw [.int .i64 p4,.int .i64 q4]
 un2:bbw<n0
 uc2:¬(bbw=c)
 mc:(b0+1+1)≤c
 cn:c<n0
 qq6:l6=true→l4=true
 k0:l4=false→Ce w c e4
 k1:l4=true→l6=false→Ce w c e5
 k2:l6=true→Ce w c e6
 ev0:l0=true→v0 = .func (.func 65) #[.pointer (some ⟨c,0,none⟩)] #[]
 ev1:l1=true→v1 = .func (.func 65) #[.pointer (some ⟨c,0,none⟩)] #[]
 ev2:l2=true→v2=(iv ul uh)
 ev3:l3=true→v3=(iv ul uh)
 ev4:l4=true→v4=(iv p5 q5)
 ev5:l5=true→v5=(iv p4 q4)
 ev6:l6=true→v6=(iv p6 q6)
 ev7:l7=true→v7 = .pointer (some ⟨b7,0,none⟩)
 g7:l7=true→n0≤b7
 t7:l7=true→b7<w.heap.size
 o7:l8=true→l7=true
 z7:l7=true→l8=false→Bx w b7 [.int .i64 0,.int .i64 0]
 s7:l8=true→Bx w b7 [.int .i64 p6,.int .i64 q6]
theorem Fc.kept {b0 c n0 bo bbs bbw:Nat} {ul uh vl vh p1 q1 e1 p2 q2 e2 p3 q3 e3 p4 q4 e4 p5 q5 e5 p6 q6 e6 p7 q7 e7 p8 q8 e8 p9 q9 e9 pa qa ea:Int} {w0 w:World} {l0 l1 l2 l3 l4 l5 l6 l7 l8:Bool} {v0 v1 v2 v3 v4 v5 v6 v7:Value} {b7:Nat} {w':World} (h:Fc b0 c n0 bo bbs bbw ul uh vl vh p1 q1 e1 p2 q2 e2 p3 q3 e3 p4 q4 e4 p5 q5 e5 p6 q6 e6 p7 q7 e7 p8 q8 e8 p9 q9 e9 pa qa ea w0 w l0 l1 l2 l3 l4 l5 l6 l7 l8 v0 v1 v2 v3 v4 v5 v6 v7 b7) (hb:Below w.heap.size w w'):Fc b0 c n0 bo bbs bbw ul uh vl vh p1 q1 e1 p2 q2 e2 p3 q3 e3 p4 q4 e4 p5 q5 e5 p6 q6 e6 p7 q7 e7 p8 q8 e8 p9 q9 e9 pa qa ea w0 w' l0 l1 l2 l3 l4 l5 l6 l7 l8 v0 v1 v2 v3 v4 v5 v6 v7 b7:=
 {h with g:=h.g.call hb,sz:=Nat.le_trans h.sz hb.size,u0:=h.u0.kept hb,u1:=h.u1.kept hb,u2:=h.u2.kept hb,k0:=fun p0=>(h.k0 p0).kept hb,k1:=fun p0 p1=>(h.k1 p0 p1).kept hb,k2:=fun p0=>(h.k2 p0).kept hb,t7:=fun p=>Nat.lt_of_lt_of_le (h.t7 p) hb.size,z7:=fun p q=>(h.z7 p q).kept hb,s7:=fun p=>(h.s7 p).kept hb}
def Fc.I (b0 c n0 bo bbs bbw:Nat) (ul uh vl vh p1 q1 e1 p2 q2 e2 p3 q3 e3 p4 q4 e4 p5 q5 e5 p6 q6 e6 p7 q7 e7 p8 q8 e8 p9 q9 e9 pa qa ea:Int) (w0:World):Act→Array Bool→Act→World→Prop:=fun aO LX aX w=>∃(l0 l1 l2 l3 l4 l5 l6 l7 l8:Bool) (v0 v1 v2 v3 v4 v5 v6 v7:Value) (b7:Nat),LX=#[l0,l1,l2,l3,l4,l5,l6,l7,l8]∧aX=((((((((aO.put (some 34) v0).put (some 35) v1).put (some 36) v2).put (some 37) v3).put (some 38) v4).put (some 39) v5).put (some 40) v6).put (some 10) v7)∧Fc b0 c n0 bo bbs bbw ul uh vl vh p1 q1 e1 p2 q2 e2 p3 q3 e3 p4 q4 e4 p5 q5 e5 p6 q6 e6 p7 q7 e7 p8 q8 e8 p9 q9 e9 pa qa ea w0 w l0 l1 l2 l3 l4 l5 l6 l7 l8 v0 v1 v2 v3 v4 v5 v6 v7 b7
structure Fd (b0 c n0 bo bbs bbw bbx:Nat) (ul uh vl vh p1 q1 e1 p2 q2 e2 p3 q3 e3 p4 q4 e4 p5 q5 e5 p6 q6 e6 p7 q7 e7 p8 q8 e8 p9 q9 e9 pa qa ea:Int) (w0 w:World) (l0 l1 l2 l3 l4 l5 l6 l7 l8:Bool) (v0 v1 v2 v3 v4 v5 v6 v7:Value) (b7:Nat):Prop where
 g:Ho w0 w (b0+1+1) [(b0+1,[.int .i64 vl,.int .i64 vh]),(b0,[.int .i64 ul,.int .i64 uh])]
 sz:n0≤w.heap.size
 mn:(b0+1+1)≤n0
 u0:Bx w bo [.int .i64 0,.int .i64 0,.int .i64 0,.int .i64 0,.int .i64 0,.int .i64 0]
 un0:bo<n0
 uc0:¬(bo=c)
 u1:Bx w bbs [.int .i64 p3,.int .i64 q3]
 un1:bbs<n0
 uc1:¬(bbs=c)
 u2:Bx w bbw [.int .i64 p4,.int .i64 q4]
 un2:bbw<n0
 uc2:¬(bbw=c)
 u3:Bx w bbx [.int .i64 p6,.int .i64 q6]
 un3:bbx<n0
 uc3:¬(bbx=c)
 mc:(b0+1+1)≤c
 cn:c<n0
 qq6:l6=true→l4=true
 k0:l4=false→Ce w c e6
 k1:l4=true→l6=false→Ce w c e7
 k2:l6=true→Ce w c e8
 ev0:l0=true→v0 = .func (.func 65) #[.pointer (some ⟨c,0,none⟩)] #[]
 ev1:l1=true→v1 = .func (.func 65) #[.pointer (some ⟨c,0,none⟩)] #[]
 ev2:l2=true→v2=(iv vl vh)
 ev3:l3=true→v3=(iv vl vh)
 ev4:l4=true→v4=(iv p7 q7)
 ev5:l5=true→v5=(iv p4 q4)
 ev6:l6=true→v6=(iv p8 q8)
 ev7:l7=true→v7 = .pointer (some ⟨b7,0,none⟩)
 g7:l7=true→n0≤b7
 t7:l7=true→b7<w.heap.size
 o7:l8=true→l7=true
 z7:l7=true→l8=false→Bx w b7 [.int .i64 0,.int .i64 0]
 s7:l8=true→Bx w b7 [.int .i64 p8,.int .i64 q8]
theorem Fd.kept {b0 c n0 bo bbs bbw bbx:Nat} {ul uh vl vh p1 q1 e1 p2 q2 e2 p3 q3 e3 p4 q4 e4 p5 q5 e5 p6 q6 e6 p7 q7 e7 p8 q8 e8 p9 q9 e9 pa qa ea:Int} {w0 w:World} {l0 l1 l2 l3 l4 l5 l6 l7 l8:Bool} {v0 v1 v2 v3 v4 v5 v6 v7:Value} {b7:Nat} {w':World} (h:Fd b0 c n0 bo bbs bbw bbx ul uh vl vh p1 q1 e1 p2 q2 e2 p3 q3 e3 p4 q4 e4 p5 q5 e5 p6 q6 e6 p7 q7 e7 p8 q8 e8 p9 q9 e9 pa qa ea w0 w l0 l1 l2 l3 l4 l5 l6 l7 l8 v0 v1 v2 v3 v4 v5 v6 v7 b7) (hb:Below w.heap.size w w'):Fd b0 c n0 bo bbs bbw bbx ul uh vl vh p1 q1 e1 p2 q2 e2 p3 q3 e3 p4 q4 e4 p5 q5 e5 p6 q6 e6 p7 q7 e7 p8 q8 e8 p9 q9 e9 pa qa ea w0 w' l0 l1 l2 l3 l4 l5 l6 l7 l8 v0 v1 v2 v3 v4 v5 v6 v7 b7:=
 {h with g:=h.g.call hb,sz:=Nat.le_trans h.sz hb.size,u0:=h.u0.kept hb,u1:=h.u1.kept hb,u2:=h.u2.kept hb,u3:=h.u3.kept hb,k0:=fun p0=>(h.k0 p0).kept hb,k1:=fun p0 p1=>(h.k1 p0 p1).kept hb,k2:=fun p0=>(h.k2 p0).kept hb,t7:=fun p=>Nat.lt_of_lt_of_le (h.t7 p) hb.size,z7:=fun p q=>(h.z7 p q).kept hb,s7:=fun p=>(h.s7 p).kept hb}
def Fd.I (b0 c n0 bo bbs bbw bbx:Nat) (ul uh vl vh p1 q1 e1 p2 q2 e2 p3 q3 e3 p4 q4 e4 p5 q5 e5 p6 q6 e6 p7 q7 e7 p8 q8 e8 p9 q9 e9 pa qa ea:Int) (w0:World):Act→Array Bool→Act→World→Prop:=fun aO LX aX w=>∃(l0 l1 l2 l3 l4 l5 l6 l7 l8:Bool) (v0 v1 v2 v3 v4 v5 v6 v7:Value) (b7:Nat),LX=#[l0,l1,l2,l3,l4,l5,l6,l7,l8]∧aX=((((((((aO.put (some 41) v0).put (some 42) v1).put (some 43) v2).put (some 44) v3).put (some 45) v4).put (some 46) v5).put (some 47) v6).put (some 11) v7)∧Fd b0 c n0 bo bbs bbw bbx ul uh vl vh p1 q1 e1 p2 q2 e2 p3 q3 e3 p4 q4 e4 p5 q5 e5 p6 q6 e6 p7 q7 e7 p8 q8 e8 p9 q9 e9 pa qa ea w0 w l0 l1 l2 l3 l4 l5 l6 l7 l8 v0 v1 v2 v3 v4 v5 v6 v7 b7
structure Fe (b0 c n0 bo bbs bbw bbx bby:Nat) (ul uh vl vh p1 q1 e1 p2 q2 e2 p3 q3 e3 p4 q4 e4 p5 q5 e5 p6 q6 e6 p7 q7 e7 p8 q8 e8 p9 q9 e9 pa qa ea:Int) (w0 w:World) (l0 l1 l2 l3 l4 l5 l6 l7 l8:Bool) (v0 v1 v2 v3 v4 v5 v6 v7:Value) (b7:Nat):Prop where
 g:Ho w0 w (b0+1+1) [(b0+1,[.int .i64 vl,.int .i64 vh]),(b0,[.int .i64 ul,.int .i64 uh])]
 sz:n0≤w.heap.size
 mn:(b0+1+1)≤n0
 u0:Bx w bo [.int .i64 0,.int .i64 0,.int .i64 0,.int .i64 0,.int .i64 0,.int .i64 0]
 un0:bo<n0
 uc0:¬(bo=c)
 u1:Bx w bbs [.int .i64 p3,.int .i64 q3]
 un1:bbs<n0
 uc1:¬(bbs=c)
 u2:Bx w bbw [.int .i64 p4,.int .i64 q4]
 un2:bbw<n0
 uc2:¬(bbw=c)
 u3:Bx w bbx [.int .i64 p6,.int .i64 q6]
 un3:bbx<n0
 uc3:¬(bbx=c)
 u4:Bx w bby [.int .i64 p8,.int .i64 q8]
 un4:bby<n0
 uc4:¬(bby=c)
 mc:(b0+1+1)≤c
 cn:c<n0
 qq6:l6=true→l4=true
 k0:l4=false→Ce w c e8
 k1:l4=true→l6=false→Ce w c e9
 k2:l6=true→Ce w c ea
 ev0:l0=true→v0 = .func (.func 65) #[.pointer (some ⟨c,0,none⟩)] #[]
 ev1:l1=true→v1 = .func (.func 65) #[.pointer (some ⟨c,0,none⟩)] #[]
 ev2:l2=true→v2=(iv p3 q3)
 ev3:l3=true→v3=(iv 16777216 16777216)
 ev4:l4=true→v4=(iv p9 q9)
 ev5:l5=true→v5=(iv p4 q4)
 ev6:l6=true→v6=(iv pa qa)
 ev7:l7=true→v7 = .pointer (some ⟨b7,0,none⟩)
 g7:l7=true→n0≤b7
 t7:l7=true→b7<w.heap.size
 o7:l8=true→l7=true
 z7:l7=true→l8=false→Bx w b7 [.int .i64 0,.int .i64 0]
 s7:l8=true→Bx w b7 [.int .i64 pa,.int .i64 qa]
theorem Fe.kept {b0 c n0 bo bbs bbw bbx bby:Nat} {ul uh vl vh p1 q1 e1 p2 q2 e2 p3 q3 e3 p4 q4 e4 p5 q5 e5 p6 q6 e6 p7 q7 e7 p8 q8 e8 p9 q9 e9 pa qa ea:Int} {w0 w:World} {l0 l1 l2 l3 l4 l5 l6 l7 l8:Bool} {v0 v1 v2 v3 v4 v5 v6 v7:Value} {b7:Nat} {w':World} (h:Fe b0 c n0 bo bbs bbw bbx bby ul uh vl vh p1 q1 e1 p2 q2 e2 p3 q3 e3 p4 q4 e4 p5 q5 e5 p6 q6 e6 p7 q7 e7 p8 q8 e8 p9 q9 e9 pa qa ea w0 w l0 l1 l2 l3 l4 l5 l6 l7 l8 v0 v1 v2 v3 v4 v5 v6 v7 b7) (hb:Below w.heap.size w w'):Fe b0 c n0 bo bbs bbw bbx bby ul uh vl vh p1 q1 e1 p2 q2 e2 p3 q3 e3 p4 q4 e4 p5 q5 e5 p6 q6 e6 p7 q7 e7 p8 q8 e8 p9 q9 e9 pa qa ea w0 w' l0 l1 l2 l3 l4 l5 l6 l7 l8 v0 v1 v2 v3 v4 v5 v6 v7 b7:=
 {h with g:=h.g.call hb,sz:=Nat.le_trans h.sz hb.size,u0:=h.u0.kept hb,u1:=h.u1.kept hb,u2:=h.u2.kept hb,u3:=h.u3.kept hb,u4:=h.u4.kept hb,k0:=fun p0=>(h.k0 p0).kept hb,k1:=fun p0 p1=>(h.k1 p0 p1).kept hb,k2:=fun p0=>(h.k2 p0).kept hb,t7:=fun p=>Nat.lt_of_lt_of_le (h.t7 p) hb.size,z7:=fun p q=>(h.z7 p q).kept hb,s7:=fun p=>(h.s7 p).kept hb}
def Fe.I (b0 c n0 bo bbs bbw bbx bby:Nat) (ul uh vl vh p1 q1 e1 p2 q2 e2 p3 q3 e3 p4 q4 e4 p5 q5 e5 p6 q6 e6 p7 q7 e7 p8 q8 e8 p9 q9 e9 pa qa ea:Int) (w0:World):Act→Array Bool→Act→World→Prop:=fun aO LX aX w=>∃(l0 l1 l2 l3 l4 l5 l6 l7 l8:Bool) (v0 v1 v2 v3 v4 v5 v6 v7:Value) (b7:Nat),LX=#[l0,l1,l2,l3,l4,l5,l6,l7,l8]∧aX=((((((((aO.put (some 48) v0).put (some 49) v1).put (some 50) v2).put (some 51) v3).put (some 52) v4).put (some 53) v5).put (some 54) v6).put (some 12) v7)∧Fe b0 c n0 bo bbs bbw bbx bby ul uh vl vh p1 q1 e1 p2 q2 e2 p3 q3 e3 p4 q4 e4 p5 q5 e5 p6 q6 e6 p7 q7 e7 p8 q8 e8 p9 q9 e9 pa qa ea w0 w l0 l1 l2 l3 l4 l5 l6 l7 l8 v0 v1 v2 v3 v4 v5 v6 v7 b7
set_option maxRecDepth 100000 in
set_option maxHeartbeats 16000000 in
theorem of_any (ul uh vl vh:Int) (w:World) :
  Calls Tryz.prog 30 #[iv ul uh,iv vl vh] w fun e w'=>e=retD (ofR ul uh vl vh)∧Below w.heap.size w w':=by
 cases hu:vB ul uh
 ·rw [show ofR ul uh vl vh=⟨zD,1⟩ from if_neg (by rw [hu];decide)];have HU:=Lib.hid hu;clear hu;have H0:=(((Ho.nil w).bx [.int .i64 ul,.int .i64 uh] 25 (w.heap.size) (by simp)).bx [.int .i64 vl,.int .i64 vh] 25 (w.heap.size+1) (by simp));have o_0:Bx (((w.alloc (.cells (List.toArray [.int .i64 ul,.int .i64 uh]) 25)).alloc (.cells (List.toArray [.int .i64 vl,.int .i64 vh]) 25)).alloc (.cells (List.toArray [.int .i64 0,.int .i64 0,.int .i64 0,.int .i64 0,.int .i64 0,.int .i64 0]) 45)) (w.heap.size+1+1) [.int .i64 0,.int .i64 0,.int .i64 0,.int .i64 0,.int .i64 0,.int .i64 0]:=bxA;go_enter Tryz.func30,Tryz.ntmps30;have o_0c:=o_0.c;have o_0f:=o_0.f
  go_wp2_with fail
  refine (validb_any ul uh _).mono ?_;rintro r w1 ⟨rfl,hb⟩;rw [HU.out];have H1:Ho w w1 (w.heap.size+1+1) [(w.heap.size+1,[.int .i64 vl,.int .i64 vh]),(w.heap.size,[.int .i64 ul,.int .i64 uh])]:=Ho.call hoA hb;have o_1:=bxK o_0 hb;clear o_0c o_0f;have hs1:=H1.size;have hz1:=hb.size
  (try simp at hz1)
  clear hb;have h0_1:=(H1.at 1 rfl).c;have h1_1:=(H1.at 0 rfl).c;have o_1c:=o_1.c;have o_1f:=o_1.f;have o_1l:=o_1.lt;have zx1:=ai (zq (w.heap.size+1+1) (w1.heap.size))<|ai (zq (w.heap.size) (w1.heap.size))<|ai (zq (w.heap.size+1) (w1.heap.size))<|ai (zp (w.heap.size+1+1) (w.heap.size))<|zp (w.heap.size+1+1) (w.heap.size+1)
  go_wp2_with fail
  refine bodyPost_box (b:=w.heap.size+1+1) (cs:=[.int .i64 0,.int .i64 0,.int .i64 0,.int .i64 0,.int .i64 0,.int .i64 0]) (v:=.tuple #[dv zD,.int .i64 1]) bxA (fun X hX=>by simp [zD,results,Tryz.results30,go_sem,hX]) rfl ⟨rfl,by
   refine Ho.below (n:=w.heap.size+1+1) (l:=[(w.heap.size+1,[.int .i64 vl,.int .i64 vh]),(w.heap.size,[.int .i64 ul,.int .i64 uh])]) ?_
   exact hoA⟩
 ·cases hv:vB vl vh
  ·rw [show ofR ul uh vl vh=⟨zD,1⟩ from (if_pos hu).trans (if_neg (by rw [hv];decide))];have HU:=Lib.hid hu;have HV:=Lib.hid hv;clear hu hv;have H0:=(((Ho.nil w).bx [.int .i64 ul,.int .i64 uh] 25 (w.heap.size) (by simp)).bx [.int .i64 vl,.int .i64 vh] 25 (w.heap.size+1) (by simp));have o_0:Bx (((w.alloc (.cells (List.toArray [.int .i64 ul,.int .i64 uh]) 25)).alloc (.cells (List.toArray [.int .i64 vl,.int .i64 vh]) 25)).alloc (.cells (List.toArray [.int .i64 0,.int .i64 0,.int .i64 0,.int .i64 0,.int .i64 0,.int .i64 0]) 45)) (w.heap.size+1+1) [.int .i64 0,.int .i64 0,.int .i64 0,.int .i64 0,.int .i64 0,.int .i64 0]:=bxA;go_enter Tryz.func30,Tryz.ntmps30;have o_0c:=o_0.c;have o_0f:=o_0.f
   go_wp2_with fail
   refine (validb_any ul uh _).mono ?_;rintro r w1 ⟨rfl,hb⟩;rw [HU.out];have H1:Ho w w1 (w.heap.size+1+1) [(w.heap.size+1,[.int .i64 vl,.int .i64 vh]),(w.heap.size,[.int .i64 ul,.int .i64 uh])]:=Ho.call hoA hb;have o_1:=bxK o_0 hb;clear o_0c o_0f;have hs1:=H1.size;have hz1:=hb.size
   (try simp at hz1)
   clear hb;have h0_1:=(H1.at 1 rfl).c;have h1_1:=(H1.at 0 rfl).c;have o_1c:=o_1.c;have o_1f:=o_1.f;have o_1l:=o_1.lt;have zx1:=ai (zq (w.heap.size+1+1) (w1.heap.size))<|ai (zq (w.heap.size) (w1.heap.size))<|ai (zq (w.heap.size+1) (w1.heap.size))<|ai (zp (w.heap.size+1+1) (w.heap.size))<|zp (w.heap.size+1+1) (w.heap.size+1)
   go_wp2_with fail
   refine (validb_any vl vh _).mono ?_;rintro r w2 ⟨rfl,hb⟩;rw [HV.out];have H2:Ho w w2 (w.heap.size+1+1) [(w.heap.size+1,[.int .i64 vl,.int .i64 vh]),(w.heap.size,[.int .i64 ul,.int .i64 uh])]:=Ho.call hoA hb;have o_2:=bxK o_1 hb;clear h0_1 h1_1 o_1c o_1f zx1;have hs2:=H2.size;have hz2:=hb.size
   (try simp at hz2)
   clear hb;have h0_2:=(H2.at 1 rfl).c;have h1_2:=(H2.at 0 rfl).c;have o_2c:=o_2.c;have o_2f:=o_2.f;have o_2l:=o_2.lt;have zx2:=ai (zq (w.heap.size+1+1) (w2.heap.size))<|ai (zq (w.heap.size) (w2.heap.size))<|ai (zq (w.heap.size+1) (w2.heap.size))<|ai (zp (w.heap.size+1+1) (w.heap.size))<|zp (w.heap.size+1+1) (w.heap.size+1)
   go_wp2_with fail
   refine bodyPost_box (b:=w.heap.size+1+1) (cs:=[.int .i64 0,.int .i64 0,.int .i64 0,.int .i64 0,.int .i64 0,.int .i64 0]) (v:=.tuple #[dv zD,.int .i64 1]) bxA (fun X hX=>by simp [zD,results,Tryz.results30,go_sem,hX]) rfl ⟨rfl,by
    refine Ho.below (n:=w.heap.size+1+1) (l:=[(w.heap.size+1,[.int .i64 vl,.int .i64 vh]),(w.heap.size,[.int .i64 ul,.int .i64 uh])]) ?_
    exact hoA⟩
  ·rw [show ofR ul uh vl vh=ofG ul uh vl vh from (if_pos hu).trans (if_pos hv)];have HU:=Lib.hid hu;have HV:=Lib.hid hv;clear hu hv;obtain ⟨⟨p1,q1,e1⟩,h1⟩:∃r:R,goOn 0 (sqR ul uh)=r:=⟨_,rfl⟩;obtain ⟨⟨p2,q2,e2⟩,h2⟩:∃r:R,goOn e1 (sqR vl vh)=r:=⟨_,rfl⟩;obtain ⟨⟨p3,q3,e3⟩,h3⟩:∃r:R,goOn e2 (addR p1 q1 p2 q2)=r:=⟨_,rfl⟩;obtain ⟨⟨p4,q4,e4⟩,h4⟩:∃r:R,goOn e3 (addR 16777216 16777216 p3 q3)=r:=⟨_,rfl⟩;obtain ⟨⟨p5,q5,e5⟩,h5⟩:∃r:R,goOn e4 (addR ul uh ul uh)=r:=⟨_,rfl⟩;obtain ⟨⟨p6,q6,e6⟩,h6⟩:∃r:R,goOn e5 (divR p5 q5 p4 q4)=r:=⟨_,rfl⟩;obtain ⟨⟨p7,q7,e7⟩,h7⟩:∃r:R,goOn e6 (addR vl vh vl vh)=r:=⟨_,rfl⟩;obtain ⟨⟨p8,q8,e8⟩,h8⟩:∃r:R,goOn e7 (divR p7 q7 p4 q4)=r:=⟨_,rfl⟩;obtain ⟨⟨p9,q9,e9⟩,h9⟩:∃r:R,goOn e8 (subR p3 q3 16777216 16777216)=r:=⟨_,rfl⟩;obtain ⟨⟨pa,qa,ea⟩,ha⟩:∃r:R,goOn e9 (divR p9 q9 p4 q4)=r:=⟨_,rfl⟩;obtain ⟨⟨⟨d0,d1,d2,d3,d4,d5⟩,ee⟩,hd⟩:∃r:RD,dirR ea ⟨p6,q6,p8,q8,pa,qa⟩=r:=⟨_,rfl⟩
   rw [show ofG ul uh vl vh=⟨⟨d0,d1,d2,d3,d4,d5⟩,ee⟩ from by
    unfold ofG bindG;simp only [h1];simp only [h2];simp only [h3];simp only [h4];simp only [h5];simp only [h6];simp only [h7];simp only [h8];simp only [h9];simp only [ha]
    exact hd]
   have E1:=Lib.hid h1;have E2:=Lib.hid h2;have E3:=Lib.hid h3;have E4:=Lib.hid h4;have E5:=Lib.hid h5;have E6:=Lib.hid h6;have E7:=Lib.hid h7;have E8:=Lib.hid h8;have E9:=Lib.hid h9;have Ea:=Lib.hid ha;have HD:=Lib.hid (show retD (dirR ea ⟨p6,q6,p8,q8,pa,qa⟩) = .returned (.tuple #[dv ⟨d0,d1,d2,d3,d4,d5⟩,.int .i64 ee]) from by rw [hd]);clear hd h1 h2 h3 h4 h5 h6 h7 h8 h9 ha;have H0:=(((Ho.nil w).bx [.int .i64 ul,.int .i64 uh] 25 (w.heap.size) (by simp)).bx [.int .i64 vl,.int .i64 vh] 25 (w.heap.size+1) (by simp));have o_0:Bx (((w.alloc (.cells (List.toArray [.int .i64 ul,.int .i64 uh]) 25)).alloc (.cells (List.toArray [.int .i64 vl,.int .i64 vh]) 25)).alloc (.cells (List.toArray [.int .i64 0,.int .i64 0,.int .i64 0,.int .i64 0,.int .i64 0,.int .i64 0]) 45)) (w.heap.size+1+1) [.int .i64 0,.int .i64 0,.int .i64 0,.int .i64 0,.int .i64 0,.int .i64 0]:=bxA;go_enter Tryz.func30,Tryz.ntmps30;have o_0c:=o_0.c;have o_0f:=o_0.f
   go_wp2_with fail
   refine (validb_any ul uh _).mono ?_;rintro r w1 ⟨rfl,hb⟩;rw [HU.out];have H1:Ho w w1 (w.heap.size+1+1) [(w.heap.size+1,[.int .i64 vl,.int .i64 vh]),(w.heap.size,[.int .i64 ul,.int .i64 uh])]:=Ho.call hoA hb;have o_1:=bxK o_0 hb;clear o_0c o_0f;have hs1:=H1.size;have hz1:=hb.size
   (try simp at hz1)
   clear hb;have h0_1:=(H1.at 1 rfl).c;have h1_1:=(H1.at 0 rfl).c;have o_1c:=o_1.c;have o_1f:=o_1.f;have o_1l:=o_1.lt;have zx1:=ai (zq (w.heap.size+1+1) (w1.heap.size))<|ai (zq (w.heap.size) (w1.heap.size))<|ai (zq (w.heap.size+1) (w1.heap.size))<|ai (zp (w.heap.size+1+1) (w.heap.size))<|zp (w.heap.size+1+1) (w.heap.size+1)
   go_wp2_with fail
   refine (validb_any vl vh _).mono ?_;rintro r w2 ⟨rfl,hb⟩;rw [HV.out];have H2:Ho w w2 (w.heap.size+1+1) [(w.heap.size+1,[.int .i64 vl,.int .i64 vh]),(w.heap.size,[.int .i64 ul,.int .i64 uh])]:=Ho.call hoA hb;have o_2:=bxK o_1 hb;clear h0_1 h1_1 o_1c o_1f zx1;have hs2:=H2.size;have hz2:=hb.size
   (try simp at hz2)
   clear hb;have h0_2:=(H2.at 1 rfl).c;have h1_2:=(H2.at 0 rfl).c;have o_2c:=o_2.c;have o_2f:=o_2.f;have o_2l:=o_2.lt;have zx2:=ai (zq (w.heap.size+1+1) (w2.heap.size))<|ai (zq (w.heap.size) (w2.heap.size))<|ai (zq (w.heap.size+1) (w2.heap.size))<|ai (zp (w.heap.size+1+1) (w.heap.size))<|zp (w.heap.size+1+1) (w.heap.size+1)
   go_upto_region 5 with fail
   have HA:Ho w (w2.alloc (.cells (List.toArray [.int .i64 0]) 119)) (w.heap.size+1+1) [(w.heap.size+1,[.int .i64 vl,.int .i64 vh]),(w.heap.size,[.int .i64 ul,.int .i64 uh])]:=hoA;have Ao:Bx (w2.alloc (.cells (List.toArray [.int .i64 0]) 119)) (w.heap.size+1+1) [.int .i64 0,.int .i64 0,.int .i64 0,.int .i64 0,.int .i64 0,.int .i64 0]:=bxB;have KA:Ce (w2.alloc (.cells (List.toArray [.int .i64 0]) 119)) w2.heap.size 0:=Bx.ce bxA;clear h0_2 h1_2 o_2c o_2f zx2;have cg:=H2.size;clear H2 o_2;revert HA Ao KA;generalize w2.alloc (.cells (List.toArray [.int .i64 0]) 119)=w3;intro HA Ao KA;have lto_3:=Ao.lt;have ltc_3:=KA.lt;refine region_sets (Fa.I w.heap.size w2.heap.size w3.heap.size (w.heap.size+1+1)  ul uh vl vh p1 q1 e1 p2 q2 e2 p3 q3 e3 p4 q4 e4 p5 q5 e5 p6 q6 e6 p7 q7 e7 p8 q8 e8 p9 q9 e9 pa qa ea w) (by kernel_rfl) ?_ ?_ ?_
   ·refine ⟨false,false,false,false,false,false,false,false,undef,undef,undef,undef,undef,undef,undef,0,rfl,by simp only [Act.put,sS],?_⟩;constructor
    ·exact hoA
    ·(first|(simp;done)|(simp;omega))
    ·(omega)
    ·exact bxB
    ·(omega)
    ·(omega)
    ·(omega)
    ·(omega)
    ·(intro h;cases h)
    ·(intro h;cases h)
    ·(intro _;(with_reducible repeat (first|exact KA|refine Ce.alc ?_ _|refine Ce.drew ?_|refine Ce.set ?_ (by omega))))
    all_goals (intro h;cases h)
   ·intro L a' w' hI i hi;obtain ⟨l0,l1,l2,l3,l4,l5,l6,l7,v0,v1,v2,v3,v4,v5,v6,b6,rfl,rfl,h⟩:=hI;have hlt:=ready_lt hi
    match i,hi,hlt with
    |0,hi,_=>
     obtain rfl:l0=false:=rl rfl hi;clear hi hlt;have H:=Lib.hid h;clear h;refine wpOp_shut rfl (fun K hK=>?_)
     try simp only [Act.put,sS]
     go_simp;refine hK.out _ _ ?_;unfold Fa.I;refine ⟨_,_,_,_,_,_,_,_,(.func (.func 65) #[.pointer (some ⟨w2.heap.size,0,none⟩)] #[]),v1,v2,v3,v4,v5,v6,b6,rfl,?_,?_⟩
     ·simp only [Act.put,sS]
     ·exact {H.out with ev0:=fun _=>rfl}
    |1,hi,_=>
     obtain rfl:l1=false:=rl rfl hi;clear hi hlt;have c:=(h.g.at 1 rfl).c;have H:=Lib.hid h;clear h;refine wpOp_shut rfl (fun K hK=>?_)
     try simp only [Act.put,sS]
     go_simp;refine hK.out _ _ ?_;unfold Fa.I;refine ⟨_,_,_,_,_,_,_,_,v0,((iv ul uh)),v2,v3,v4,v5,v6,b6,rfl,?_,?_⟩
     ·simp only [Act.put,sS]
     ·exact {H.out with ev1:=fun _=>rfl}
    |2,hi,_=>
     obtain rfl:l2=false:=rl rfl hi;obtain rfl:l1=true:=rk rfl hi 1 .data;clear hi hlt;obtain rfl:=h.ev1 rfl;have CK:=h.k0 rfl;have H:=Lib.hid h;clear h;refine wpOp_shut rfl (fun K hK=>?_)
     try simp only [Act.put,sS]
     go_simp;refine (ap_sq w.heap.size w2.heap.size ul uh 0 _ CK.v CK.f).mono ?_;rintro e wY ⟨rfl,st⟩;rw [E1.out];rw [E1.out] at st;dsimp only;dsimp only at st
     try go_simp
     refine hK.out _ _ ?_;unfold Fa.I;refine ⟨_,_,_,_,_,_,_,_,v0,((iv ul uh)),((iv p1 q1)),v3,v4,v5,v6,b6,rfl,?_,?_⟩
     ·simp only [Act.put,sS]
     ·have h:=H.out;exact {h with g:=h.g.step st h.mc,sz:=Nat.le_trans h.sz st.size,ev2:=fun _=>rfl,u0:=h.u0.step st h.uc0,k0:=fun p0=>(nomatch p0),k1:=fun p0 p1=>CK.step st,k2:=fun p0 p1=>(nomatch (h.qq4 p0)),k3:=fun p0=>(nomatch (h.qq4 (h.qq5 p0))),qq4:=fun _=>rfl,t6:=fun p=>Nat.lt_of_lt_of_le (h.t6 p) st.size,z6:=fun p r=>(h.z6 p r).step st (Nat.ne_of_gt (Nat.lt_of_lt_of_le h.cn (h.g6 p))),s6:=fun p=>(h.s6 p).step st (Nat.ne_of_gt (Nat.lt_of_lt_of_le h.cn (h.g6 (h.o6 p))))}
    |3,hi,_=>
     obtain rfl:l3=false:=rl rfl hi;clear hi hlt;have c:=(h.g.at 0 rfl).c;have H:=Lib.hid h;clear h;refine wpOp_shut rfl (fun K hK=>?_)
     try simp only [Act.put,sS]
     go_simp;refine hK.out _ _ ?_;unfold Fa.I;refine ⟨_,_,_,_,_,_,_,_,v0,v1,v2,((iv vl vh)),v4,v5,v6,b6,rfl,?_,?_⟩
     ·simp only [Act.put,sS]
     ·exact {H.out with ev3:=fun _=>rfl}
    |4,hi,_=>
     obtain rfl:l4=false:=rl rfl hi;obtain rfl:l3=true:=rk rfl hi 3 .data;obtain rfl:l2=true:=rk rfl hi 2 .chain;clear hi hlt;obtain rfl:=h.ev3 rfl;obtain rfl:=h.ev2 rfl;have CK:=h.k1 rfl rfl;have H:=Lib.hid h;clear h;refine wpOp_shut rfl (fun K hK=>?_)
     try simp only [Act.put,sS]
     go_simp;refine (ap_sq w.heap.size w2.heap.size vl vh e1 _ CK.v CK.f).mono ?_;rintro e wY ⟨rfl,st⟩;rw [E2.out];rw [E2.out] at st;dsimp only;dsimp only at st
     try go_simp
     refine hK.out _ _ ?_;unfold Fa.I;refine ⟨_,_,_,_,_,_,_,_,v0,v1,((iv p1 q1)),((iv vl vh)),((iv p2 q2)),v5,v6,b6,rfl,?_,?_⟩
     ·simp only [Act.put,sS]
     ·have h:=H.out;exact {h with g:=h.g.step st h.mc,sz:=Nat.le_trans h.sz st.size,ev4:=fun _=>rfl,u0:=h.u0.step st h.uc0,k0:=fun p0=>(nomatch (Eq.trans (Eq.symm (rfl:true=true)) p0)),k1:=fun p0 p1=>(nomatch p1),k2:=fun p0 p1=>CK.step st,k3:=fun p0=>(nomatch (h.qq5 p0)),qq4:=fun _=>rfl,qq5:=fun _=>rfl,t6:=fun p=>Nat.lt_of_lt_of_le (h.t6 p) st.size,z6:=fun p r=>(h.z6 p r).step st (Nat.ne_of_gt (Nat.lt_of_lt_of_le h.cn (h.g6 p))),s6:=fun p=>(h.s6 p).step st (Nat.ne_of_gt (Nat.lt_of_lt_of_le h.cn (h.g6 (h.o6 p))))}
    |5,hi,_=>
     obtain rfl:l5=false:=rl rfl hi;obtain rfl:l0=true:=rk rfl hi 0 .data;obtain rfl:l2=true:=rk rfl hi 2 .data;obtain rfl:l4=true:=rk rfl hi 4 .chain;clear hi hlt;obtain rfl:=h.ev0 rfl;obtain rfl:=h.ev2 rfl;obtain rfl:=h.ev4 rfl;have CK:=h.k2 rfl rfl;have H:=Lib.hid h;clear h;refine wpOp_shut rfl (fun K hK=>?_)
     try simp only [Act.put,sS]
     go_simp;refine (do_add w.heap.size w2.heap.size p1 q1 p2 q2 e2 _ CK.v CK.f).mono ?_;rintro e wY ⟨rfl,st⟩;rw [E3.out];rw [E3.out] at st;dsimp only;dsimp only at st
     try go_simp
     refine hK.out _ _ ?_;unfold Fa.I;refine ⟨_,_,_,_,_,_,_,_,(.func (.func 65) #[.pointer (some ⟨w2.heap.size,0,none⟩)] #[]),v1,((iv p1 q1)),v3,((iv p2 q2)),((iv p3 q3)),v6,b6,rfl,?_,?_⟩
     ·simp only [Act.put,sS]
     ·have h:=H.out;exact {h with g:=h.g.step st h.mc,sz:=Nat.le_trans h.sz st.size,ev5:=fun _=>rfl,u0:=h.u0.step st h.uc0,k0:=fun p0=>(nomatch (Eq.trans (Eq.symm (h.qq4 rfl)) p0)),k1:=fun p0 p1=>(nomatch (Eq.trans (Eq.symm (rfl:true=true)) p1)),k2:=fun p0 p1=>(nomatch p1),k3:=fun p0=>CK.step st,qq5:=fun _=>rfl,t6:=fun p=>Nat.lt_of_lt_of_le (h.t6 p) st.size,z6:=fun p r=>(h.z6 p r).step st (Nat.ne_of_gt (Nat.lt_of_lt_of_le h.cn (h.g6 p))),s6:=fun p=>(h.s6 p).step st (Nat.ne_of_gt (Nat.lt_of_lt_of_le h.cn (h.g6 (h.o6 p))))}
    |6,hi,_=>
     obtain rfl:l6=false:=rl rfl hi;clear hi hlt;have H:=Lib.hid h;clear h;refine wpOp_shut rfl (fun K hK=>?_)
     try simp only [Act.put,sS]
     go_simp;refine hK.out _ _ ?_;unfold Fa.I;refine ⟨_,_,_,_,_,_,_,_,v0,v1,v2,v3,v4,v5,(.pointer (some ⟨w'.heap.size,0,none⟩)),w'.heap.size,rfl,?_,?_⟩
     ·simp only [Act.put,sS]
     ·have h:=H.out;have h2:=h.kept ((Below.refl _ _).alloc (Nat.le_refl _) (.cells (List.toArray [.int .i64 0,.int .i64 0]) 25));exact {h2 with ev6:=fun _=>rfl,g6:=fun _=>h.sz,t6:=fun _=>by simp,o6:=fun p=>rfl,z6:=fun _ _=>Bx.new rfl,s6:=fun p=>(nomatch (h.o6 p))}
    |7,hi,_=>
     obtain rfl:l7=false:=rl rfl hi;obtain rfl:l6=true:=rk rfl hi 6 .phase;obtain rfl:l5=true:=rk rfl hi 5 .phase;obtain rfl:l0=true:=rk rfl hi 0 .phase;obtain rfl:l1=true:=rk rfl hi 1 .phase;obtain rfl:l2=true:=rk rfl hi 2 .phase;obtain rfl:l3=true:=rk rfl hi 3 .phase;obtain rfl:l4=true:=rk rfl hi 4 .phase;clear hi hlt;obtain rfl:=h.ev6 rfl;obtain rfl:=h.ev5 rfl;obtain rfl:=h.ev0 rfl;obtain rfl:=h.ev1 rfl;obtain rfl:=h.ev2 rfl;obtain rfl:=h.ev3 rfl;obtain rfl:=h.ev4 rfl;have bz:=h.z6 rfl rfl;have c:=bz.c;have f:=bz.f;clear bz;have H:=Lib.hid h;clear h;refine wpOp_shut rfl (fun K hK=>?_)
     try simp only [Act.put,sS]
     go_simp;refine hK.out _ _ ?_;unfold Fa.I;refine ⟨_,_,_,_,_,_,_,_,(.func (.func 65) #[.pointer (some ⟨w2.heap.size,0,none⟩)] #[]),((iv ul uh)),((iv p1 q1)),((iv vl vh)),((iv p2 q2)),((iv p3 q3)),(.pointer (some ⟨b6,0,none⟩)),b6,rfl,?_,?_⟩
     ·simp only [Act.put,sS]
     ·have h:=H.out;have gb:=h.g6 rfl;have gm:=Nat.le_trans h.mn gb;exact {h with g:=((h.g.put gm).put gm),sz:=by simpa using h.sz,o6:=fun _=>rfl,z6:=fun _ p=>(nomatch p),s6:=fun _=>(((h.z6 rfl rfl).put).put),t6:=fun p=>by simpa using h.t6 p,u0:=((h.u0.set (Nat.ne_of_lt (Nat.lt_of_lt_of_le h.un0 gb))).set (Nat.ne_of_lt (Nat.lt_of_lt_of_le h.un0 gb))),k0:=fun p0=>(((h.k0 p0).set (Nat.ne_of_lt (Nat.lt_of_lt_of_le h.cn gb))).set (Nat.ne_of_lt (Nat.lt_of_lt_of_le h.cn gb))),k1:=fun p0 p1=>(((h.k1 p0 p1).set (Nat.ne_of_lt (Nat.lt_of_lt_of_le h.cn gb))).set (Nat.ne_of_lt (Nat.lt_of_lt_of_le h.cn gb))),k2:=fun p0 p1=>(((h.k2 p0 p1).set (Nat.ne_of_lt (Nat.lt_of_lt_of_le h.cn gb))).set (Nat.ne_of_lt (Nat.lt_of_lt_of_le h.cn gb))),k3:=fun p0=>(((h.k3 p0).set (Nat.ne_of_lt (Nat.lt_of_lt_of_le h.cn gb))).set (Nat.ne_of_lt (Nat.lt_of_lt_of_le h.cn gb)))}
    |i+8,_,hlt=>exact absurd hlt (by simp)
   ·intro L a' w' hI hn;obtain ⟨l0,l1,l2,l3,l4,l5,l6,l7,v0,v1,v2,v3,v4,v5,v6,b6,rfl,rfl,h⟩:=hI;obtain rfl:l0=true:=nr 0 rfl hn;obtain rfl:l1=true:=nr 1 rfl hn;obtain rfl:l2=true:=nr 2 rfl hn;obtain rfl:l3=true:=nr 3 rfl hn;obtain rfl:l4=true:=nr 4 rfl hn;obtain rfl:l5=true:=nr 5 rfl hn;obtain rfl:l6=true:=nr 6 rfl hn;obtain rfl:l7=true:=nr 7 rfl hn;clear hn;obtain rfl:=h.ev0 rfl;obtain rfl:=h.ev1 rfl;obtain rfl:=h.ev2 rfl;obtain rfl:=h.ev3 rfl;obtain rfl:=h.ev4 rfl;obtain rfl:=h.ev5 rfl;obtain rfl:=h.ev6 rfl;simp only [Act.put,sS]
    rename World=>w4
    have HA:=h.g;have Ao:=h.u0;have As:=h.s6 rfl;have KA:=h.k3 rfl;have Gs:=h.g6 rfl;have z4:=h.sz;clear h;revert As Gs;generalize b6=ks;intro As Gs;have lts_4:=As.lt;have ltc_4:=KA.lt;have lto_4:=Ao.lt
    go_upto_region 6 with fail
    refine region_sets (Fb.I w.heap.size w2.heap.size w4.heap.size (w.heap.size+1+1) ks ul uh vl vh p1 q1 e1 p2 q2 e2 p3 q3 e3 p4 q4 e4 p5 q5 e5 p6 q6 e6 p7 q7 e7 p8 q8 e8 p9 q9 e9 pa qa ea w) (by kernel_rfl) ?_ ?_ ?_
    ·refine ⟨false,false,false,false,false,false,undef,undef,undef,undef,undef,0,rfl,by simp only [Act.put,sS],?_⟩;constructor
     ·exact hoA
     ·(first|(simp;done)|(simp;omega))
     ·(omega)
     ·exact bxB
     ·(omega)
     ·(omega)
     ·exact bxB
     ·(omega)
     ·(omega)
     ·(omega)
     ·(omega)
     ·(intro _;(with_reducible repeat (first|exact KA|refine Ce.alc ?_ _|refine Ce.drew ?_|refine Ce.set ?_ (by omega))))
     all_goals (intro h;cases h)
    ·intro L a' w' hI i hi;obtain ⟨l0,l1,l2,l3,l4,l5,v0,v1,v2,v3,v4,b4,rfl,rfl,h⟩:=hI;have hlt:=ready_lt hi
     match i,hi,hlt with
     |0,hi,_=>
      obtain rfl:l0=false:=rl rfl hi;clear hi hlt;have H:=Lib.hid h;clear h;refine wpOp_shut rfl (fun K hK=>?_)
      try simp only [Act.put,sS]
      go_simp;refine hK.out _ _ ?_;unfold Fb.I;refine ⟨_,_,_,_,_,_,(.func (.func 65) #[.pointer (some ⟨w2.heap.size,0,none⟩)] #[]),v1,v2,v3,v4,b4,rfl,?_,?_⟩
      ·simp only [Act.put,sS]
      ·exact {H.out with ev0:=fun _=>rfl}
     |1,hi,_=>
      obtain rfl:l1=false:=rl rfl hi;clear hi hlt;have H:=Lib.hid h;clear h;refine wpOp_shut rfl (fun K hK=>?_)
      try simp only [Act.put,sS]
      go_simp;refine (dunit_any _).mono ?_;rintro e wY ⟨rfl,hb⟩
      try go_simp
      refine hK.out _ _ ?_;unfold Fb.I;refine ⟨_,_,_,_,_,_,v0,((iv 16777216 16777216)),v2,v3,v4,b4,rfl,?_,?_⟩
      ·simp only [Act.put,sS]
      ·exact {(H.out.kept hb) with ev1:=fun _=>rfl}
     |2,hi,_=>
      obtain rfl:l2=false:=rl rfl hi;clear hi hlt;have c:=h.u1.c;have H:=Lib.hid h;clear h;refine wpOp_shut rfl (fun K hK=>?_)
      try simp only [Act.put,sS]
      go_simp;refine hK.out _ _ ?_;unfold Fb.I;refine ⟨_,_,_,_,_,_,v0,v1,((iv p3 q3)),v3,v4,b4,rfl,?_,?_⟩
      ·simp only [Act.put,sS]
      ·exact {H.out with ev2:=fun _=>rfl}
     |3,hi,_=>
      obtain rfl:l3=false:=rl rfl hi;obtain rfl:l0=true:=rk rfl hi 0 .data;obtain rfl:l1=true:=rk rfl hi 1 .chain;obtain rfl:l2=true:=rk rfl hi 2 .data;clear hi hlt;obtain rfl:=h.ev0 rfl;obtain rfl:=h.ev1 rfl;obtain rfl:=h.ev2 rfl;have CK:=h.k0 rfl;have H:=Lib.hid h;clear h;refine wpOp_shut rfl (fun K hK=>?_)
      try simp only [Act.put,sS]
      go_simp;refine (do_add w.heap.size w2.heap.size 16777216 16777216 p3 q3 e3 _ CK.v CK.f).mono ?_;rintro e wY ⟨rfl,st⟩;rw [E4.out];rw [E4.out] at st;dsimp only;dsimp only at st
      try go_simp
      refine hK.out _ _ ?_;unfold Fb.I;refine ⟨_,_,_,_,_,_,(.func (.func 65) #[.pointer (some ⟨w2.heap.size,0,none⟩)] #[]),((iv 16777216 16777216)),((iv p3 q3)),((iv p4 q4)),v4,b4,rfl,?_,?_⟩
      ·simp only [Act.put,sS]
      ·have h:=H.out;exact {h with g:=h.g.step st h.mc,sz:=Nat.le_trans h.sz st.size,ev3:=fun _=>rfl,u0:=h.u0.step st h.uc0,u1:=h.u1.step st h.uc1,k0:=fun p0=>(nomatch p0),k1:=fun p0=>CK.step st,t4:=fun p=>Nat.lt_of_lt_of_le (h.t4 p) st.size,z4:=fun p r=>(h.z4 p r).step st (Nat.ne_of_gt (Nat.lt_of_lt_of_le h.cn (h.g4 p))),s4:=fun p=>(h.s4 p).step st (Nat.ne_of_gt (Nat.lt_of_lt_of_le h.cn (h.g4 (h.o4 p))))}
     |4,hi,_=>
      obtain rfl:l4=false:=rl rfl hi;clear hi hlt;have H:=Lib.hid h;clear h;refine wpOp_shut rfl (fun K hK=>?_)
      try simp only [Act.put,sS]
      go_simp;refine hK.out _ _ ?_;unfold Fb.I;refine ⟨_,_,_,_,_,_,v0,v1,v2,v3,(.pointer (some ⟨w'.heap.size,0,none⟩)),w'.heap.size,rfl,?_,?_⟩
      ·simp only [Act.put,sS]
      ·have h:=H.out;have h2:=h.kept ((Below.refl _ _).alloc (Nat.le_refl _) (.cells (List.toArray [.int .i64 0,.int .i64 0]) 25));exact {h2 with ev4:=fun _=>rfl,g4:=fun _=>h.sz,t4:=fun _=>by simp,o4:=fun p=>rfl,z4:=fun _ _=>Bx.new rfl,s4:=fun p=>(nomatch (h.o4 p))}
     |5,hi,_=>
      obtain rfl:l5=false:=rl rfl hi;obtain rfl:l4=true:=rk rfl hi 4 .phase;obtain rfl:l3=true:=rk rfl hi 3 .phase;obtain rfl:l0=true:=rk rfl hi 0 .phase;obtain rfl:l1=true:=rk rfl hi 1 .phase;obtain rfl:l2=true:=rk rfl hi 2 .phase;clear hi hlt;obtain rfl:=h.ev4 rfl;obtain rfl:=h.ev3 rfl;obtain rfl:=h.ev0 rfl;obtain rfl:=h.ev1 rfl;obtain rfl:=h.ev2 rfl;have bz:=h.z4 rfl rfl;have c:=bz.c;have f:=bz.f;clear bz;have H:=Lib.hid h;clear h;refine wpOp_shut rfl (fun K hK=>?_)
      try simp only [Act.put,sS]
      go_simp;refine hK.out _ _ ?_;unfold Fb.I;refine ⟨_,_,_,_,_,_,(.func (.func 65) #[.pointer (some ⟨w2.heap.size,0,none⟩)] #[]),((iv 16777216 16777216)),((iv p3 q3)),((iv p4 q4)),(.pointer (some ⟨b4,0,none⟩)),b4,rfl,?_,?_⟩
      ·simp only [Act.put,sS]
      ·have h:=H.out;have gb:=h.g4 rfl;have gm:=Nat.le_trans h.mn gb;exact {h with g:=((h.g.put gm).put gm),sz:=by simpa using h.sz,o4:=fun _=>rfl,z4:=fun _ p=>(nomatch p),s4:=fun _=>(((h.z4 rfl rfl).put).put),t4:=fun p=>by simpa using h.t4 p,u0:=((h.u0.set (Nat.ne_of_lt (Nat.lt_of_lt_of_le h.un0 gb))).set (Nat.ne_of_lt (Nat.lt_of_lt_of_le h.un0 gb))),u1:=((h.u1.set (Nat.ne_of_lt (Nat.lt_of_lt_of_le h.un1 gb))).set (Nat.ne_of_lt (Nat.lt_of_lt_of_le h.un1 gb))),k0:=fun p0=>(((h.k0 p0).set (Nat.ne_of_lt (Nat.lt_of_lt_of_le h.cn gb))).set (Nat.ne_of_lt (Nat.lt_of_lt_of_le h.cn gb))),k1:=fun p0=>(((h.k1 p0).set (Nat.ne_of_lt (Nat.lt_of_lt_of_le h.cn gb))).set (Nat.ne_of_lt (Nat.lt_of_lt_of_le h.cn gb)))}
     |i+6,_,hlt=>exact absurd hlt (by simp)
    ·intro L a' w' hI hn;obtain ⟨l0,l1,l2,l3,l4,l5,v0,v1,v2,v3,v4,b4,rfl,rfl,h⟩:=hI;obtain rfl:l0=true:=nr 0 rfl hn;obtain rfl:l1=true:=nr 1 rfl hn;obtain rfl:l2=true:=nr 2 rfl hn;obtain rfl:l3=true:=nr 3 rfl hn;obtain rfl:l4=true:=nr 4 rfl hn;obtain rfl:l5=true:=nr 5 rfl hn;clear hn;obtain rfl:=h.ev0 rfl;obtain rfl:=h.ev1 rfl;obtain rfl:=h.ev2 rfl;obtain rfl:=h.ev3 rfl;obtain rfl:=h.ev4 rfl;simp only [Act.put,sS]
     rename World=>w5
     have HA:=h.g;have Ao:=h.u0;have As:=h.u1;have Aw:=h.s4 rfl;have KA:=h.k1 rfl;have Gw:=h.g4 rfl;have z5:=h.sz;clear h;revert Aw Gw;generalize b4=kw;intro Aw Gw;have ltw_5:=Aw.lt;have ltc_5:=KA.lt;have lto_5:=Ao.lt;have lts_5:=As.lt
     go_upto_region 7 with fail
     refine region_sets (Fc.I w.heap.size w2.heap.size w5.heap.size (w.heap.size+1+1) ks kw ul uh vl vh p1 q1 e1 p2 q2 e2 p3 q3 e3 p4 q4 e4 p5 q5 e5 p6 q6 e6 p7 q7 e7 p8 q8 e8 p9 q9 e9 pa qa ea w) (by kernel_rfl) ?_ ?_ ?_
     ·refine ⟨false,false,false,false,false,false,false,false,false,undef,undef,undef,undef,undef,undef,undef,undef,0,rfl,by simp only [Act.put,sS],?_⟩;constructor
      ·exact hoA
      ·(first|(simp;done)|(simp;omega))
      ·(omega)
      ·exact bxB
      ·(omega)
      ·(omega)
      ·exact bxB
      ·(omega)
      ·(omega)
      ·exact bxB
      ·(omega)
      ·(omega)
      ·(omega)
      ·(omega)
      ·(intro h;cases h)
      ·(intro _;(with_reducible repeat (first|exact KA|refine Ce.alc ?_ _|refine Ce.drew ?_|refine Ce.set ?_ (by omega))))
      all_goals (intro h;cases h)
     ·intro L a' w' hI i hi;obtain ⟨l0,l1,l2,l3,l4,l5,l6,l7,l8,v0,v1,v2,v3,v4,v5,v6,v7,b7,rfl,rfl,h⟩:=hI;have hlt:=ready_lt hi
      match i,hi,hlt with
      |0,hi,_=>
       obtain rfl:l0=false:=rl rfl hi;clear hi hlt;have H:=Lib.hid h;clear h;refine wpOp_shut rfl (fun K hK=>?_)
       try simp only [Act.put,sS]
       go_simp;refine hK.out _ _ ?_;unfold Fc.I;refine ⟨_,_,_,_,_,_,_,_,_,(.func (.func 65) #[.pointer (some ⟨w2.heap.size,0,none⟩)] #[]),v1,v2,v3,v4,v5,v6,v7,b7,rfl,?_,?_⟩
       ·simp only [Act.put,sS]
       ·exact {H.out with ev0:=fun _=>rfl}
      |1,hi,_=>
       obtain rfl:l1=false:=rl rfl hi;clear hi hlt;have H:=Lib.hid h;clear h;refine wpOp_shut rfl (fun K hK=>?_)
       try simp only [Act.put,sS]
       go_simp;refine hK.out _ _ ?_;unfold Fc.I;refine ⟨_,_,_,_,_,_,_,_,_,v0,(.func (.func 65) #[.pointer (some ⟨w2.heap.size,0,none⟩)] #[]),v2,v3,v4,v5,v6,v7,b7,rfl,?_,?_⟩
       ·simp only [Act.put,sS]
       ·exact {H.out with ev1:=fun _=>rfl}
      |2,hi,_=>
       obtain rfl:l2=false:=rl rfl hi;clear hi hlt;have c:=(h.g.at 1 rfl).c;have H:=Lib.hid h;clear h;refine wpOp_shut rfl (fun K hK=>?_)
       try simp only [Act.put,sS]
       go_simp;refine hK.out _ _ ?_;unfold Fc.I;refine ⟨_,_,_,_,_,_,_,_,_,v0,v1,((iv ul uh)),v3,v4,v5,v6,v7,b7,rfl,?_,?_⟩
       ·simp only [Act.put,sS]
       ·exact {H.out with ev2:=fun _=>rfl}
      |3,hi,_=>
       obtain rfl:l3=false:=rl rfl hi;clear hi hlt;have c:=(h.g.at 1 rfl).c;have H:=Lib.hid h;clear h;refine wpOp_shut rfl (fun K hK=>?_)
       try simp only [Act.put,sS]
       go_simp;refine hK.out _ _ ?_;unfold Fc.I;refine ⟨_,_,_,_,_,_,_,_,_,v0,v1,v2,((iv ul uh)),v4,v5,v6,v7,b7,rfl,?_,?_⟩
       ·simp only [Act.put,sS]
       ·exact {H.out with ev3:=fun _=>rfl}
      |4,hi,_=>
       obtain rfl:l4=false:=rl rfl hi;obtain rfl:l1=true:=rk rfl hi 1 .data;obtain rfl:l2=true:=rk rfl hi 2 .data;obtain rfl:l3=true:=rk rfl hi 3 .data;clear hi hlt;obtain rfl:=h.ev1 rfl;obtain rfl:=h.ev2 rfl;obtain rfl:=h.ev3 rfl;have CK:=h.k0 rfl;have H:=Lib.hid h;clear h;refine wpOp_shut rfl (fun K hK=>?_)
       try simp only [Act.put,sS]
       go_simp;refine (do_add w.heap.size w2.heap.size ul uh ul uh e4 _ CK.v CK.f).mono ?_;rintro e wY ⟨rfl,st⟩;rw [E5.out];rw [E5.out] at st;dsimp only;dsimp only at st
       try go_simp
       refine hK.out _ _ ?_;unfold Fc.I;refine ⟨_,_,_,_,_,_,_,_,_,v0,(.func (.func 65) #[.pointer (some ⟨w2.heap.size,0,none⟩)] #[]),((iv ul uh)),((iv ul uh)),((iv p5 q5)),v5,v6,v7,b7,rfl,?_,?_⟩
       ·simp only [Act.put,sS]
       ·have h:=H.out;exact {h with g:=h.g.step st h.mc,sz:=Nat.le_trans h.sz st.size,ev4:=fun _=>rfl,u0:=h.u0.step st h.uc0,u1:=h.u1.step st h.uc1,u2:=h.u2.step st h.uc2,k0:=fun p0=>(nomatch p0),k1:=fun p0 p1=>CK.step st,k2:=fun p0=>(nomatch (h.qq6 p0)),qq6:=fun _=>rfl,t7:=fun p=>Nat.lt_of_lt_of_le (h.t7 p) st.size,z7:=fun p r=>(h.z7 p r).step st (Nat.ne_of_gt (Nat.lt_of_lt_of_le h.cn (h.g7 p))),s7:=fun p=>(h.s7 p).step st (Nat.ne_of_gt (Nat.lt_of_lt_of_le h.cn (h.g7 (h.o7 p))))}
      |5,hi,_=>
       obtain rfl:l5=false:=rl rfl hi;clear hi hlt;have c:=h.u2.c;have H:=Lib.hid h;clear h;refine wpOp_shut rfl (fun K hK=>?_)
       try simp only [Act.put,sS]
       go_simp;refine hK.out _ _ ?_;unfold Fc.I;refine ⟨_,_,_,_,_,_,_,_,_,v0,v1,v2,v3,v4,((iv p4 q4)),v6,v7,b7,rfl,?_,?_⟩
       ·simp only [Act.put,sS]
       ·exact {H.out with ev5:=fun _=>rfl}
      |6,hi,_=>
       obtain rfl:l6=false:=rl rfl hi;obtain rfl:l0=true:=rk rfl hi 0 .data;obtain rfl:l4=true:=rk rfl hi 4 .chain;obtain rfl:l5=true:=rk rfl hi 5 .data;clear hi hlt;obtain rfl:=h.ev0 rfl;obtain rfl:=h.ev4 rfl;obtain rfl:=h.ev5 rfl;have CK:=h.k1 rfl rfl;have H:=Lib.hid h;clear h;refine wpOp_shut rfl (fun K hK=>?_)
       try simp only [Act.put,sS]
       go_simp;refine (do_div w.heap.size w2.heap.size p5 q5 p4 q4 e5 _ CK.v CK.f).mono ?_;rintro e wY ⟨rfl,st⟩;rw [E6.out];rw [E6.out] at st;dsimp only;dsimp only at st
       try go_simp
       refine hK.out _ _ ?_;unfold Fc.I;refine ⟨_,_,_,_,_,_,_,_,_,(.func (.func 65) #[.pointer (some ⟨w2.heap.size,0,none⟩)] #[]),v1,v2,v3,((iv p5 q5)),((iv p4 q4)),((iv p6 q6)),v7,b7,rfl,?_,?_⟩
       ·simp only [Act.put,sS]
       ·have h:=H.out;exact {h with g:=h.g.step st h.mc,sz:=Nat.le_trans h.sz st.size,ev6:=fun _=>rfl,u0:=h.u0.step st h.uc0,u1:=h.u1.step st h.uc1,u2:=h.u2.step st h.uc2,k0:=fun p0=>(nomatch (Eq.trans (Eq.symm (rfl:true=true)) p0)),k1:=fun p0 p1=>(nomatch p1),k2:=fun p0=>CK.step st,qq6:=fun _=>rfl,t7:=fun p=>Nat.lt_of_lt_of_le (h.t7 p) st.size,z7:=fun p r=>(h.z7 p r).step st (Nat.ne_of_gt (Nat.lt_of_lt_of_le h.cn (h.g7 p))),s7:=fun p=>(h.s7 p).step st (Nat.ne_of_gt (Nat.lt_of_lt_of_le h.cn (h.g7 (h.o7 p))))}
      |7,hi,_=>
       obtain rfl:l7=false:=rl rfl hi;clear hi hlt;have H:=Lib.hid h;clear h;refine wpOp_shut rfl (fun K hK=>?_)
       try simp only [Act.put,sS]
       go_simp;refine hK.out _ _ ?_;unfold Fc.I;refine ⟨_,_,_,_,_,_,_,_,_,v0,v1,v2,v3,v4,v5,v6,(.pointer (some ⟨w'.heap.size,0,none⟩)),w'.heap.size,rfl,?_,?_⟩
       ·simp only [Act.put,sS]
       ·have h:=H.out;have h2:=h.kept ((Below.refl _ _).alloc (Nat.le_refl _) (.cells (List.toArray [.int .i64 0,.int .i64 0]) 25));exact {h2 with ev7:=fun _=>rfl,g7:=fun _=>h.sz,t7:=fun _=>by simp,o7:=fun p=>rfl,z7:=fun _ _=>Bx.new rfl,s7:=fun p=>(nomatch (h.o7 p))}
      |8,hi,_=>
       obtain rfl:l8=false:=rl rfl hi;obtain rfl:l7=true:=rk rfl hi 7 .phase;obtain rfl:l6=true:=rk rfl hi 6 .phase;obtain rfl:l0=true:=rk rfl hi 0 .phase;obtain rfl:l1=true:=rk rfl hi 1 .phase;obtain rfl:l2=true:=rk rfl hi 2 .phase;obtain rfl:l3=true:=rk rfl hi 3 .phase;obtain rfl:l4=true:=rk rfl hi 4 .phase;obtain rfl:l5=true:=rk rfl hi 5 .phase;clear hi hlt;obtain rfl:=h.ev7 rfl;obtain rfl:=h.ev6 rfl;obtain rfl:=h.ev0 rfl;obtain rfl:=h.ev1 rfl;obtain rfl:=h.ev2 rfl;obtain rfl:=h.ev3 rfl;obtain rfl:=h.ev4 rfl;obtain rfl:=h.ev5 rfl;have bz:=h.z7 rfl rfl;have c:=bz.c;have f:=bz.f;clear bz;have H:=Lib.hid h;clear h;refine wpOp_shut rfl (fun K hK=>?_)
       try simp only [Act.put,sS]
       go_simp;refine hK.out _ _ ?_;unfold Fc.I;refine ⟨_,_,_,_,_,_,_,_,_,(.func (.func 65) #[.pointer (some ⟨w2.heap.size,0,none⟩)] #[]),(.func (.func 65) #[.pointer (some ⟨w2.heap.size,0,none⟩)] #[]),((iv ul uh)),((iv ul uh)),((iv p5 q5)),((iv p4 q4)),((iv p6 q6)),(.pointer (some ⟨b7,0,none⟩)),b7,rfl,?_,?_⟩
       ·simp only [Act.put,sS]
       ·have h:=H.out;have gb:=h.g7 rfl;have gm:=Nat.le_trans h.mn gb;exact {h with g:=((h.g.put gm).put gm),sz:=by simpa using h.sz,o7:=fun _=>rfl,z7:=fun _ p=>(nomatch p),s7:=fun _=>(((h.z7 rfl rfl).put).put),t7:=fun p=>by simpa using h.t7 p,u0:=((h.u0.set (Nat.ne_of_lt (Nat.lt_of_lt_of_le h.un0 gb))).set (Nat.ne_of_lt (Nat.lt_of_lt_of_le h.un0 gb))),u1:=((h.u1.set (Nat.ne_of_lt (Nat.lt_of_lt_of_le h.un1 gb))).set (Nat.ne_of_lt (Nat.lt_of_lt_of_le h.un1 gb))),u2:=((h.u2.set (Nat.ne_of_lt (Nat.lt_of_lt_of_le h.un2 gb))).set (Nat.ne_of_lt (Nat.lt_of_lt_of_le h.un2 gb))),k0:=fun p0=>(((h.k0 p0).set (Nat.ne_of_lt (Nat.lt_of_lt_of_le h.cn gb))).set (Nat.ne_of_lt (Nat.lt_of_lt_of_le h.cn gb))),k1:=fun p0 p1=>(((h.k1 p0 p1).set (Nat.ne_of_lt (Nat.lt_of_lt_of_le h.cn gb))).set (Nat.ne_of_lt (Nat.lt_of_lt_of_le h.cn gb))),k2:=fun p0=>(((h.k2 p0).set (Nat.ne_of_lt (Nat.lt_of_lt_of_le h.cn gb))).set (Nat.ne_of_lt (Nat.lt_of_lt_of_le h.cn gb)))}
      |i+9,_,hlt=>exact absurd hlt (by simp)
     ·intro L a' w' hI hn;obtain ⟨l0,l1,l2,l3,l4,l5,l6,l7,l8,v0,v1,v2,v3,v4,v5,v6,v7,b7,rfl,rfl,h⟩:=hI;obtain rfl:l0=true:=nr 0 rfl hn;obtain rfl:l1=true:=nr 1 rfl hn;obtain rfl:l2=true:=nr 2 rfl hn;obtain rfl:l3=true:=nr 3 rfl hn;obtain rfl:l4=true:=nr 4 rfl hn;obtain rfl:l5=true:=nr 5 rfl hn;obtain rfl:l6=true:=nr 6 rfl hn;obtain rfl:l7=true:=nr 7 rfl hn;obtain rfl:l8=true:=nr 8 rfl hn;clear hn;obtain rfl:=h.ev0 rfl;obtain rfl:=h.ev1 rfl;obtain rfl:=h.ev2 rfl;obtain rfl:=h.ev3 rfl;obtain rfl:=h.ev4 rfl;obtain rfl:=h.ev5 rfl;obtain rfl:=h.ev6 rfl;obtain rfl:=h.ev7 rfl;simp only [Act.put,sS]
      rename World=>w6
      have HA:=h.g;have Ao:=h.u0;have As:=h.u1;have Aw:=h.u2;have Ax:=h.s7 rfl;have KA:=h.k2 rfl;have Gx:=h.g7 rfl;have z6:=h.sz;clear h;revert Ax Gx;generalize b7=kx;intro Ax Gx;have ltx_6:=Ax.lt;have ltc_6:=KA.lt;have lto_6:=Ao.lt;have lts_6:=As.lt;have ltw_6:=Aw.lt
      go_upto_region 8 with fail
      refine region_sets (Fd.I w.heap.size w2.heap.size w6.heap.size (w.heap.size+1+1) ks kw kx ul uh vl vh p1 q1 e1 p2 q2 e2 p3 q3 e3 p4 q4 e4 p5 q5 e5 p6 q6 e6 p7 q7 e7 p8 q8 e8 p9 q9 e9 pa qa ea w) (by kernel_rfl) ?_ ?_ ?_
      ·refine ⟨false,false,false,false,false,false,false,false,false,undef,undef,undef,undef,undef,undef,undef,undef,0,rfl,by simp only [Act.put,sS],?_⟩;constructor
       ·exact hoA
       ·(first|(simp;done)|(simp;omega))
       ·(omega)
       ·exact bxB
       ·(omega)
       ·(omega)
       ·exact bxB
       ·(omega)
       ·(omega)
       ·exact bxB
       ·(omega)
       ·(omega)
       ·exact bxB
       ·(omega)
       ·(omega)
       ·(omega)
       ·(omega)
       ·(intro h;cases h)
       ·(intro _;(with_reducible repeat (first|exact KA|refine Ce.alc ?_ _|refine Ce.drew ?_|refine Ce.set ?_ (by omega))))
       all_goals (intro h;cases h)
      ·intro L a' w' hI i hi;obtain ⟨l0,l1,l2,l3,l4,l5,l6,l7,l8,v0,v1,v2,v3,v4,v5,v6,v7,b7,rfl,rfl,h⟩:=hI;have hlt:=ready_lt hi
       match i,hi,hlt with
       |0,hi,_=>
        obtain rfl:l0=false:=rl rfl hi;clear hi hlt;have H:=Lib.hid h;clear h;refine wpOp_shut rfl (fun K hK=>?_)
        try simp only [Act.put,sS]
        go_simp;refine hK.out _ _ ?_;unfold Fd.I;refine ⟨_,_,_,_,_,_,_,_,_,(.func (.func 65) #[.pointer (some ⟨w2.heap.size,0,none⟩)] #[]),v1,v2,v3,v4,v5,v6,v7,b7,rfl,?_,?_⟩
        ·simp only [Act.put,sS]
        ·exact {H.out with ev0:=fun _=>rfl}
       |1,hi,_=>
        obtain rfl:l1=false:=rl rfl hi;clear hi hlt;have H:=Lib.hid h;clear h;refine wpOp_shut rfl (fun K hK=>?_)
        try simp only [Act.put,sS]
        go_simp;refine hK.out _ _ ?_;unfold Fd.I;refine ⟨_,_,_,_,_,_,_,_,_,v0,(.func (.func 65) #[.pointer (some ⟨w2.heap.size,0,none⟩)] #[]),v2,v3,v4,v5,v6,v7,b7,rfl,?_,?_⟩
        ·simp only [Act.put,sS]
        ·exact {H.out with ev1:=fun _=>rfl}
       |2,hi,_=>
        obtain rfl:l2=false:=rl rfl hi;clear hi hlt;have c:=(h.g.at 0 rfl).c;have H:=Lib.hid h;clear h;refine wpOp_shut rfl (fun K hK=>?_)
        try simp only [Act.put,sS]
        go_simp;refine hK.out _ _ ?_;unfold Fd.I;refine ⟨_,_,_,_,_,_,_,_,_,v0,v1,((iv vl vh)),v3,v4,v5,v6,v7,b7,rfl,?_,?_⟩
        ·simp only [Act.put,sS]
        ·exact {H.out with ev2:=fun _=>rfl}
       |3,hi,_=>
        obtain rfl:l3=false:=rl rfl hi;clear hi hlt;have c:=(h.g.at 0 rfl).c;have H:=Lib.hid h;clear h;refine wpOp_shut rfl (fun K hK=>?_)
        try simp only [Act.put,sS]
        go_simp;refine hK.out _ _ ?_;unfold Fd.I;refine ⟨_,_,_,_,_,_,_,_,_,v0,v1,v2,((iv vl vh)),v4,v5,v6,v7,b7,rfl,?_,?_⟩
        ·simp only [Act.put,sS]
        ·exact {H.out with ev3:=fun _=>rfl}
       |4,hi,_=>
        obtain rfl:l4=false:=rl rfl hi;obtain rfl:l1=true:=rk rfl hi 1 .data;obtain rfl:l2=true:=rk rfl hi 2 .data;obtain rfl:l3=true:=rk rfl hi 3 .data;clear hi hlt;obtain rfl:=h.ev1 rfl;obtain rfl:=h.ev2 rfl;obtain rfl:=h.ev3 rfl;have CK:=h.k0 rfl;have H:=Lib.hid h;clear h;refine wpOp_shut rfl (fun K hK=>?_)
        try simp only [Act.put,sS]
        go_simp;refine (do_add w.heap.size w2.heap.size vl vh vl vh e6 _ CK.v CK.f).mono ?_;rintro e wY ⟨rfl,st⟩;rw [E7.out];rw [E7.out] at st;dsimp only;dsimp only at st
        try go_simp
        refine hK.out _ _ ?_;unfold Fd.I;refine ⟨_,_,_,_,_,_,_,_,_,v0,(.func (.func 65) #[.pointer (some ⟨w2.heap.size,0,none⟩)] #[]),((iv vl vh)),((iv vl vh)),((iv p7 q7)),v5,v6,v7,b7,rfl,?_,?_⟩
        ·simp only [Act.put,sS]
        ·have h:=H.out;exact {h with g:=h.g.step st h.mc,sz:=Nat.le_trans h.sz st.size,ev4:=fun _=>rfl,u0:=h.u0.step st h.uc0,u1:=h.u1.step st h.uc1,u2:=h.u2.step st h.uc2,u3:=h.u3.step st h.uc3,k0:=fun p0=>(nomatch p0),k1:=fun p0 p1=>CK.step st,k2:=fun p0=>(nomatch (h.qq6 p0)),qq6:=fun _=>rfl,t7:=fun p=>Nat.lt_of_lt_of_le (h.t7 p) st.size,z7:=fun p r=>(h.z7 p r).step st (Nat.ne_of_gt (Nat.lt_of_lt_of_le h.cn (h.g7 p))),s7:=fun p=>(h.s7 p).step st (Nat.ne_of_gt (Nat.lt_of_lt_of_le h.cn (h.g7 (h.o7 p))))}
       |5,hi,_=>
        obtain rfl:l5=false:=rl rfl hi;clear hi hlt;have c:=h.u2.c;have H:=Lib.hid h;clear h;refine wpOp_shut rfl (fun K hK=>?_)
        try simp only [Act.put,sS]
        go_simp;refine hK.out _ _ ?_;unfold Fd.I;refine ⟨_,_,_,_,_,_,_,_,_,v0,v1,v2,v3,v4,((iv p4 q4)),v6,v7,b7,rfl,?_,?_⟩
        ·simp only [Act.put,sS]
        ·exact {H.out with ev5:=fun _=>rfl}
       |6,hi,_=>
        obtain rfl:l6=false:=rl rfl hi;obtain rfl:l0=true:=rk rfl hi 0 .data;obtain rfl:l4=true:=rk rfl hi 4 .chain;obtain rfl:l5=true:=rk rfl hi 5 .data;clear hi hlt;obtain rfl:=h.ev0 rfl;obtain rfl:=h.ev4 rfl;obtain rfl:=h.ev5 rfl;have CK:=h.k1 rfl rfl;have H:=Lib.hid h;clear h;refine wpOp_shut rfl (fun K hK=>?_)
        try simp only [Act.put,sS]
        go_simp;refine (do_div w.heap.size w2.heap.size p7 q7 p4 q4 e7 _ CK.v CK.f).mono ?_;rintro e wY ⟨rfl,st⟩;rw [E8.out];rw [E8.out] at st;dsimp only;dsimp only at st
        try go_simp
        refine hK.out _ _ ?_;unfold Fd.I;refine ⟨_,_,_,_,_,_,_,_,_,(.func (.func 65) #[.pointer (some ⟨w2.heap.size,0,none⟩)] #[]),v1,v2,v3,((iv p7 q7)),((iv p4 q4)),((iv p8 q8)),v7,b7,rfl,?_,?_⟩
        ·simp only [Act.put,sS]
        ·have h:=H.out;exact {h with g:=h.g.step st h.mc,sz:=Nat.le_trans h.sz st.size,ev6:=fun _=>rfl,u0:=h.u0.step st h.uc0,u1:=h.u1.step st h.uc1,u2:=h.u2.step st h.uc2,u3:=h.u3.step st h.uc3,k0:=fun p0=>(nomatch (Eq.trans (Eq.symm (rfl:true=true)) p0)),k1:=fun p0 p1=>(nomatch p1),k2:=fun p0=>CK.step st,qq6:=fun _=>rfl,t7:=fun p=>Nat.lt_of_lt_of_le (h.t7 p) st.size,z7:=fun p r=>(h.z7 p r).step st (Nat.ne_of_gt (Nat.lt_of_lt_of_le h.cn (h.g7 p))),s7:=fun p=>(h.s7 p).step st (Nat.ne_of_gt (Nat.lt_of_lt_of_le h.cn (h.g7 (h.o7 p))))}
       |7,hi,_=>
        obtain rfl:l7=false:=rl rfl hi;clear hi hlt;have H:=Lib.hid h;clear h;refine wpOp_shut rfl (fun K hK=>?_)
        try simp only [Act.put,sS]
        go_simp;refine hK.out _ _ ?_;unfold Fd.I;refine ⟨_,_,_,_,_,_,_,_,_,v0,v1,v2,v3,v4,v5,v6,(.pointer (some ⟨w'.heap.size,0,none⟩)),w'.heap.size,rfl,?_,?_⟩
        ·simp only [Act.put,sS]
        ·have h:=H.out;have h2:=h.kept ((Below.refl _ _).alloc (Nat.le_refl _) (.cells (List.toArray [.int .i64 0,.int .i64 0]) 25));exact {h2 with ev7:=fun _=>rfl,g7:=fun _=>h.sz,t7:=fun _=>by simp,o7:=fun p=>rfl,z7:=fun _ _=>Bx.new rfl,s7:=fun p=>(nomatch (h.o7 p))}
       |8,hi,_=>
        obtain rfl:l8=false:=rl rfl hi;obtain rfl:l7=true:=rk rfl hi 7 .phase;obtain rfl:l6=true:=rk rfl hi 6 .phase;obtain rfl:l0=true:=rk rfl hi 0 .phase;obtain rfl:l1=true:=rk rfl hi 1 .phase;obtain rfl:l2=true:=rk rfl hi 2 .phase;obtain rfl:l3=true:=rk rfl hi 3 .phase;obtain rfl:l4=true:=rk rfl hi 4 .phase;obtain rfl:l5=true:=rk rfl hi 5 .phase;clear hi hlt;obtain rfl:=h.ev7 rfl;obtain rfl:=h.ev6 rfl;obtain rfl:=h.ev0 rfl;obtain rfl:=h.ev1 rfl;obtain rfl:=h.ev2 rfl;obtain rfl:=h.ev3 rfl;obtain rfl:=h.ev4 rfl;obtain rfl:=h.ev5 rfl;have bz:=h.z7 rfl rfl;have c:=bz.c;have f:=bz.f;clear bz;have H:=Lib.hid h;clear h;refine wpOp_shut rfl (fun K hK=>?_)
        try simp only [Act.put,sS]
        go_simp;refine hK.out _ _ ?_;unfold Fd.I;refine ⟨_,_,_,_,_,_,_,_,_,(.func (.func 65) #[.pointer (some ⟨w2.heap.size,0,none⟩)] #[]),(.func (.func 65) #[.pointer (some ⟨w2.heap.size,0,none⟩)] #[]),((iv vl vh)),((iv vl vh)),((iv p7 q7)),((iv p4 q4)),((iv p8 q8)),(.pointer (some ⟨b7,0,none⟩)),b7,rfl,?_,?_⟩
        ·simp only [Act.put,sS]
        ·have h:=H.out;have gb:=h.g7 rfl;have gm:=Nat.le_trans h.mn gb;exact {h with g:=((h.g.put gm).put gm),sz:=by simpa using h.sz,o7:=fun _=>rfl,z7:=fun _ p=>(nomatch p),s7:=fun _=>(((h.z7 rfl rfl).put).put),t7:=fun p=>by simpa using h.t7 p,u0:=((h.u0.set (Nat.ne_of_lt (Nat.lt_of_lt_of_le h.un0 gb))).set (Nat.ne_of_lt (Nat.lt_of_lt_of_le h.un0 gb))),u1:=((h.u1.set (Nat.ne_of_lt (Nat.lt_of_lt_of_le h.un1 gb))).set (Nat.ne_of_lt (Nat.lt_of_lt_of_le h.un1 gb))),u2:=((h.u2.set (Nat.ne_of_lt (Nat.lt_of_lt_of_le h.un2 gb))).set (Nat.ne_of_lt (Nat.lt_of_lt_of_le h.un2 gb))),u3:=((h.u3.set (Nat.ne_of_lt (Nat.lt_of_lt_of_le h.un3 gb))).set (Nat.ne_of_lt (Nat.lt_of_lt_of_le h.un3 gb))),k0:=fun p0=>(((h.k0 p0).set (Nat.ne_of_lt (Nat.lt_of_lt_of_le h.cn gb))).set (Nat.ne_of_lt (Nat.lt_of_lt_of_le h.cn gb))),k1:=fun p0 p1=>(((h.k1 p0 p1).set (Nat.ne_of_lt (Nat.lt_of_lt_of_le h.cn gb))).set (Nat.ne_of_lt (Nat.lt_of_lt_of_le h.cn gb))),k2:=fun p0=>(((h.k2 p0).set (Nat.ne_of_lt (Nat.lt_of_lt_of_le h.cn gb))).set (Nat.ne_of_lt (Nat.lt_of_lt_of_le h.cn gb)))}
       |i+9,_,hlt=>exact absurd hlt (by simp)
      ·intro L a' w' hI hn;obtain ⟨l0,l1,l2,l3,l4,l5,l6,l7,l8,v0,v1,v2,v3,v4,v5,v6,v7,b7,rfl,rfl,h⟩:=hI;obtain rfl:l0=true:=nr 0 rfl hn;obtain rfl:l1=true:=nr 1 rfl hn;obtain rfl:l2=true:=nr 2 rfl hn;obtain rfl:l3=true:=nr 3 rfl hn;obtain rfl:l4=true:=nr 4 rfl hn;obtain rfl:l5=true:=nr 5 rfl hn;obtain rfl:l6=true:=nr 6 rfl hn;obtain rfl:l7=true:=nr 7 rfl hn;obtain rfl:l8=true:=nr 8 rfl hn;clear hn;obtain rfl:=h.ev0 rfl;obtain rfl:=h.ev1 rfl;obtain rfl:=h.ev2 rfl;obtain rfl:=h.ev3 rfl;obtain rfl:=h.ev4 rfl;obtain rfl:=h.ev5 rfl;obtain rfl:=h.ev6 rfl;obtain rfl:=h.ev7 rfl;simp only [Act.put,sS]
       rename World=>w7
       have HA:=h.g;have Ao:=h.u0;have As:=h.u1;have Aw:=h.u2;have Ax:=h.u3;have Ay:=h.s7 rfl;have KA:=h.k2 rfl;have Gy:=h.g7 rfl;have z7:=h.sz;clear h;revert Ay Gy;generalize b7=ky;intro Ay Gy;have lty_7:=Ay.lt;have ltc_7:=KA.lt;have lto_7:=Ao.lt;have lts_7:=As.lt;have ltw_7:=Aw.lt;have ltx_7:=Ax.lt
       go_upto_region 9 with fail
       refine region_sets (Fe.I w.heap.size w2.heap.size w7.heap.size (w.heap.size+1+1) ks kw kx ky ul uh vl vh p1 q1 e1 p2 q2 e2 p3 q3 e3 p4 q4 e4 p5 q5 e5 p6 q6 e6 p7 q7 e7 p8 q8 e8 p9 q9 e9 pa qa ea w) (by kernel_rfl) ?_ ?_ ?_
       ·refine ⟨false,false,false,false,false,false,false,false,false,undef,undef,undef,undef,undef,undef,undef,undef,0,rfl,by simp only [Act.put,sS],?_⟩;constructor
        ·exact hoA
        ·(first|(simp;done)|(simp;omega))
        ·(omega)
        ·exact bxB
        ·(omega)
        ·(omega)
        ·exact bxB
        ·(omega)
        ·(omega)
        ·exact bxB
        ·(omega)
        ·(omega)
        ·exact bxB
        ·(omega)
        ·(omega)
        ·exact bxB
        ·(omega)
        ·(omega)
        ·(omega)
        ·(omega)
        ·(intro h;cases h)
        ·(intro _;(with_reducible repeat (first|exact KA|refine Ce.alc ?_ _|refine Ce.drew ?_|refine Ce.set ?_ (by omega))))
        all_goals (intro h;cases h)
       ·intro L a' w' hI i hi;obtain ⟨l0,l1,l2,l3,l4,l5,l6,l7,l8,v0,v1,v2,v3,v4,v5,v6,v7,b7,rfl,rfl,h⟩:=hI;have hlt:=ready_lt hi
        match i,hi,hlt with
        |0,hi,_=>
         obtain rfl:l0=false:=rl rfl hi;clear hi hlt;have H:=Lib.hid h;clear h;refine wpOp_shut rfl (fun K hK=>?_)
         try simp only [Act.put,sS]
         go_simp;refine hK.out _ _ ?_;unfold Fe.I;refine ⟨_,_,_,_,_,_,_,_,_,(.func (.func 65) #[.pointer (some ⟨w2.heap.size,0,none⟩)] #[]),v1,v2,v3,v4,v5,v6,v7,b7,rfl,?_,?_⟩
         ·simp only [Act.put,sS]
         ·exact {H.out with ev0:=fun _=>rfl}
        |1,hi,_=>
         obtain rfl:l1=false:=rl rfl hi;clear hi hlt;have H:=Lib.hid h;clear h;refine wpOp_shut rfl (fun K hK=>?_)
         try simp only [Act.put,sS]
         go_simp;refine hK.out _ _ ?_;unfold Fe.I;refine ⟨_,_,_,_,_,_,_,_,_,v0,(.func (.func 65) #[.pointer (some ⟨w2.heap.size,0,none⟩)] #[]),v2,v3,v4,v5,v6,v7,b7,rfl,?_,?_⟩
         ·simp only [Act.put,sS]
         ·exact {H.out with ev1:=fun _=>rfl}
        |2,hi,_=>
         obtain rfl:l2=false:=rl rfl hi;clear hi hlt;have c:=h.u1.c;have H:=Lib.hid h;clear h;refine wpOp_shut rfl (fun K hK=>?_)
         try simp only [Act.put,sS]
         go_simp;refine hK.out _ _ ?_;unfold Fe.I;refine ⟨_,_,_,_,_,_,_,_,_,v0,v1,((iv p3 q3)),v3,v4,v5,v6,v7,b7,rfl,?_,?_⟩
         ·simp only [Act.put,sS]
         ·exact {H.out with ev2:=fun _=>rfl}
        |3,hi,_=>
         obtain rfl:l3=false:=rl rfl hi;clear hi hlt;have H:=Lib.hid h;clear h;refine wpOp_shut rfl (fun K hK=>?_)
         try simp only [Act.put,sS]
         go_simp;refine (dunit_any _).mono ?_;rintro e wY ⟨rfl,hb⟩
         try go_simp
         refine hK.out _ _ ?_;unfold Fe.I;refine ⟨_,_,_,_,_,_,_,_,_,v0,v1,v2,((iv 16777216 16777216)),v4,v5,v6,v7,b7,rfl,?_,?_⟩
         ·simp only [Act.put,sS]
         ·exact {(H.out.kept hb) with ev3:=fun _=>rfl}
        |4,hi,_=>
         obtain rfl:l4=false:=rl rfl hi;obtain rfl:l1=true:=rk rfl hi 1 .data;obtain rfl:l2=true:=rk rfl hi 2 .data;obtain rfl:l3=true:=rk rfl hi 3 .chain;clear hi hlt;obtain rfl:=h.ev1 rfl;obtain rfl:=h.ev2 rfl;obtain rfl:=h.ev3 rfl;have CK:=h.k0 rfl;have H:=Lib.hid h;clear h;refine wpOp_shut rfl (fun K hK=>?_)
         try simp only [Act.put,sS]
         go_simp;refine (do_sub w.heap.size w2.heap.size p3 q3 16777216 16777216 e8 _ CK.v CK.f).mono ?_;rintro e wY ⟨rfl,st⟩;rw [E9.out];rw [E9.out] at st;dsimp only;dsimp only at st
         try go_simp
         refine hK.out _ _ ?_;unfold Fe.I;refine ⟨_,_,_,_,_,_,_,_,_,v0,(.func (.func 65) #[.pointer (some ⟨w2.heap.size,0,none⟩)] #[]),((iv p3 q3)),((iv 16777216 16777216)),((iv p9 q9)),v5,v6,v7,b7,rfl,?_,?_⟩
         ·simp only [Act.put,sS]
         ·have h:=H.out;exact {h with g:=h.g.step st h.mc,sz:=Nat.le_trans h.sz st.size,ev4:=fun _=>rfl,u0:=h.u0.step st h.uc0,u1:=h.u1.step st h.uc1,u2:=h.u2.step st h.uc2,u3:=h.u3.step st h.uc3,u4:=h.u4.step st h.uc4,k0:=fun p0=>(nomatch p0),k1:=fun p0 p1=>CK.step st,k2:=fun p0=>(nomatch (h.qq6 p0)),qq6:=fun _=>rfl,t7:=fun p=>Nat.lt_of_lt_of_le (h.t7 p) st.size,z7:=fun p r=>(h.z7 p r).step st (Nat.ne_of_gt (Nat.lt_of_lt_of_le h.cn (h.g7 p))),s7:=fun p=>(h.s7 p).step st (Nat.ne_of_gt (Nat.lt_of_lt_of_le h.cn (h.g7 (h.o7 p))))}
        |5,hi,_=>
         obtain rfl:l5=false:=rl rfl hi;clear hi hlt;have c:=h.u2.c;have H:=Lib.hid h;clear h;refine wpOp_shut rfl (fun K hK=>?_)
         try simp only [Act.put,sS]
         go_simp;refine hK.out _ _ ?_;unfold Fe.I;refine ⟨_,_,_,_,_,_,_,_,_,v0,v1,v2,v3,v4,((iv p4 q4)),v6,v7,b7,rfl,?_,?_⟩
         ·simp only [Act.put,sS]
         ·exact {H.out with ev5:=fun _=>rfl}
        |6,hi,_=>
         obtain rfl:l6=false:=rl rfl hi;obtain rfl:l0=true:=rk rfl hi 0 .data;obtain rfl:l4=true:=rk rfl hi 4 .chain;obtain rfl:l5=true:=rk rfl hi 5 .data;clear hi hlt;obtain rfl:=h.ev0 rfl;obtain rfl:=h.ev4 rfl;obtain rfl:=h.ev5 rfl;have CK:=h.k1 rfl rfl;have H:=Lib.hid h;clear h;refine wpOp_shut rfl (fun K hK=>?_)
         try simp only [Act.put,sS]
         go_simp;refine (do_div w.heap.size w2.heap.size p9 q9 p4 q4 e9 _ CK.v CK.f).mono ?_;rintro e wY ⟨rfl,st⟩;rw [Ea.out];rw [Ea.out] at st;dsimp only;dsimp only at st
         try go_simp
         refine hK.out _ _ ?_;unfold Fe.I;refine ⟨_,_,_,_,_,_,_,_,_,(.func (.func 65) #[.pointer (some ⟨w2.heap.size,0,none⟩)] #[]),v1,v2,v3,((iv p9 q9)),((iv p4 q4)),((iv pa qa)),v7,b7,rfl,?_,?_⟩
         ·simp only [Act.put,sS]
         ·have h:=H.out;exact {h with g:=h.g.step st h.mc,sz:=Nat.le_trans h.sz st.size,ev6:=fun _=>rfl,u0:=h.u0.step st h.uc0,u1:=h.u1.step st h.uc1,u2:=h.u2.step st h.uc2,u3:=h.u3.step st h.uc3,u4:=h.u4.step st h.uc4,k0:=fun p0=>(nomatch (Eq.trans (Eq.symm (rfl:true=true)) p0)),k1:=fun p0 p1=>(nomatch p1),k2:=fun p0=>CK.step st,qq6:=fun _=>rfl,t7:=fun p=>Nat.lt_of_lt_of_le (h.t7 p) st.size,z7:=fun p r=>(h.z7 p r).step st (Nat.ne_of_gt (Nat.lt_of_lt_of_le h.cn (h.g7 p))),s7:=fun p=>(h.s7 p).step st (Nat.ne_of_gt (Nat.lt_of_lt_of_le h.cn (h.g7 (h.o7 p))))}
        |7,hi,_=>
         obtain rfl:l7=false:=rl rfl hi;clear hi hlt;have H:=Lib.hid h;clear h;refine wpOp_shut rfl (fun K hK=>?_)
         try simp only [Act.put,sS]
         go_simp;refine hK.out _ _ ?_;unfold Fe.I;refine ⟨_,_,_,_,_,_,_,_,_,v0,v1,v2,v3,v4,v5,v6,(.pointer (some ⟨w'.heap.size,0,none⟩)),w'.heap.size,rfl,?_,?_⟩
         ·simp only [Act.put,sS]
         ·have h:=H.out;have h2:=h.kept ((Below.refl _ _).alloc (Nat.le_refl _) (.cells (List.toArray [.int .i64 0,.int .i64 0]) 25));exact {h2 with ev7:=fun _=>rfl,g7:=fun _=>h.sz,t7:=fun _=>by simp,o7:=fun p=>rfl,z7:=fun _ _=>Bx.new rfl,s7:=fun p=>(nomatch (h.o7 p))}
        |8,hi,_=>
         obtain rfl:l8=false:=rl rfl hi;obtain rfl:l7=true:=rk rfl hi 7 .phase;obtain rfl:l6=true:=rk rfl hi 6 .phase;obtain rfl:l0=true:=rk rfl hi 0 .phase;obtain rfl:l1=true:=rk rfl hi 1 .phase;obtain rfl:l2=true:=rk rfl hi 2 .phase;obtain rfl:l3=true:=rk rfl hi 3 .phase;obtain rfl:l4=true:=rk rfl hi 4 .phase;obtain rfl:l5=true:=rk rfl hi 5 .phase;clear hi hlt;obtain rfl:=h.ev7 rfl;obtain rfl:=h.ev6 rfl;obtain rfl:=h.ev0 rfl;obtain rfl:=h.ev1 rfl;obtain rfl:=h.ev2 rfl;obtain rfl:=h.ev3 rfl;obtain rfl:=h.ev4 rfl;obtain rfl:=h.ev5 rfl;have bz:=h.z7 rfl rfl;have c:=bz.c;have f:=bz.f;clear bz;have H:=Lib.hid h;clear h;refine wpOp_shut rfl (fun K hK=>?_)
         try simp only [Act.put,sS]
         go_simp;refine hK.out _ _ ?_;unfold Fe.I;refine ⟨_,_,_,_,_,_,_,_,_,(.func (.func 65) #[.pointer (some ⟨w2.heap.size,0,none⟩)] #[]),(.func (.func 65) #[.pointer (some ⟨w2.heap.size,0,none⟩)] #[]),((iv p3 q3)),((iv 16777216 16777216)),((iv p9 q9)),((iv p4 q4)),((iv pa qa)),(.pointer (some ⟨b7,0,none⟩)),b7,rfl,?_,?_⟩
         ·simp only [Act.put,sS]
         ·have h:=H.out;have gb:=h.g7 rfl;have gm:=Nat.le_trans h.mn gb;exact {h with g:=((h.g.put gm).put gm),sz:=by simpa using h.sz,o7:=fun _=>rfl,z7:=fun _ p=>(nomatch p),s7:=fun _=>(((h.z7 rfl rfl).put).put),t7:=fun p=>by simpa using h.t7 p,u0:=((h.u0.set (Nat.ne_of_lt (Nat.lt_of_lt_of_le h.un0 gb))).set (Nat.ne_of_lt (Nat.lt_of_lt_of_le h.un0 gb))),u1:=((h.u1.set (Nat.ne_of_lt (Nat.lt_of_lt_of_le h.un1 gb))).set (Nat.ne_of_lt (Nat.lt_of_lt_of_le h.un1 gb))),u2:=((h.u2.set (Nat.ne_of_lt (Nat.lt_of_lt_of_le h.un2 gb))).set (Nat.ne_of_lt (Nat.lt_of_lt_of_le h.un2 gb))),u3:=((h.u3.set (Nat.ne_of_lt (Nat.lt_of_lt_of_le h.un3 gb))).set (Nat.ne_of_lt (Nat.lt_of_lt_of_le h.un3 gb))),u4:=((h.u4.set (Nat.ne_of_lt (Nat.lt_of_lt_of_le h.un4 gb))).set (Nat.ne_of_lt (Nat.lt_of_lt_of_le h.un4 gb))),k0:=fun p0=>(((h.k0 p0).set (Nat.ne_of_lt (Nat.lt_of_lt_of_le h.cn gb))).set (Nat.ne_of_lt (Nat.lt_of_lt_of_le h.cn gb))),k1:=fun p0 p1=>(((h.k1 p0 p1).set (Nat.ne_of_lt (Nat.lt_of_lt_of_le h.cn gb))).set (Nat.ne_of_lt (Nat.lt_of_lt_of_le h.cn gb))),k2:=fun p0=>(((h.k2 p0).set (Nat.ne_of_lt (Nat.lt_of_lt_of_le h.cn gb))).set (Nat.ne_of_lt (Nat.lt_of_lt_of_le h.cn gb)))}
        |i+9,_,hlt=>exact absurd hlt (by simp)
       ·intro L a' w' hI hn;obtain ⟨l0,l1,l2,l3,l4,l5,l6,l7,l8,v0,v1,v2,v3,v4,v5,v6,v7,b7,rfl,rfl,h⟩:=hI;obtain rfl:l0=true:=nr 0 rfl hn;obtain rfl:l1=true:=nr 1 rfl hn;obtain rfl:l2=true:=nr 2 rfl hn;obtain rfl:l3=true:=nr 3 rfl hn;obtain rfl:l4=true:=nr 4 rfl hn;obtain rfl:l5=true:=nr 5 rfl hn;obtain rfl:l6=true:=nr 6 rfl hn;obtain rfl:l7=true:=nr 7 rfl hn;obtain rfl:l8=true:=nr 8 rfl hn;clear hn;obtain rfl:=h.ev0 rfl;obtain rfl:=h.ev1 rfl;obtain rfl:=h.ev2 rfl;obtain rfl:=h.ev3 rfl;obtain rfl:=h.ev4 rfl;obtain rfl:=h.ev5 rfl;obtain rfl:=h.ev6 rfl;obtain rfl:=h.ev7 rfl;simp only [Act.put,sS]
        rename World=>w8
        have HA:=h.g;have Ao:=h.u0;have As:=h.u1;have Aw:=h.u2;have Ax:=h.u3;have Ay:=h.u4;have Az:=h.s7 rfl;have KA:=h.k2 rfl;have Gz:=h.g7 rfl;have z8:=h.sz;clear h;revert Az Gz;generalize b7=kz;intro Az Gz;have ltz_8:=Az.lt;have ltc_8:=KA.lt;have lto_8:=Ao.lt;have lts_8:=As.lt;have ltw_8:=Aw.lt;have ltx_8:=Ax.lt;have lty_8:=Ay.lt;have xc:=Ax.c;have yc:=Ay.c;have zc:=Az.c
        go_wp2_with fail
        refine (dir_any w2.heap.size ea ⟨p6,q6,p8,q8,pa,qa⟩ _ KA.v).mono ?_;rintro r w9 ⟨rfl,hb⟩;rw [HD.out];have HB:=HA.call hb;have OB:=Ao.kept hb;have oc:=OB.c;have of:=OB.f;have ol:=OB.lt;clear hb xc yc zc
        go_wp2_with fail
        refine bodyPost_box (b:=w.heap.size+1+1) (cs:=[.int .i64 d0,.int .i64 d1,.int .i64 d2,.int .i64 d3,.int .i64 d4,.int .i64 d5]) (v:=.tuple #[dv ⟨d0,d1,d2,d3,d4,d5⟩,.int .i64 ee]) (by
         (with_reducible repeat (first|exact OB|apply Bx.put6|refine Bx.drew ?_))) (fun X hX=>by simp [results,Tryz.results30,go_sem,hX]) rfl ⟨rfl,by
         refine Ho.below (n:=w.heap.size+1+1) (l:=[(w.heap.size+1,[.int .i64 vl,.int .i64 vh]),(w.heap.size,[.int .i64 ul,.int .i64 uh])]) ?_
         exact hoA⟩
end Go.Proofs.YtiecdgcdcpmgaaaGreat.Iv

/- The reference's calculator: roots, opposites, and what it gives back. -/
namespace Go.Proofs.YtiecdgcdcpmgaaaGreat.Iv
open Go.RowKit
def onlE (e a b:Int):R:=if e=0 then ⟨a,b,0⟩ else ⟨0,0,e⟩
set_option maxRecDepth 100000 in
set_option maxHeartbeats 4000000 in
theorem only_any (c:Nat) (e:Int) (a b:Int) (w:World) (hc:w.cell? ⟨c,0,none⟩=some (.int .i64 e)) :
  Calls Tryz.prog 44 #[.pointer (some ⟨c,0,none⟩),iv a b] w fun r w'=>r=retR (onlE e a b)∧Below w.heap.size w w':=by
 have hlt:c<w.heap.size:=World.block_lt_of_cell? w _ hc
 have q1:c<w.heap.size+1:=by omega
 have q2:c<w.heap.size+1+1:=by omega
 have n1:¬(c=w.heap.size):=by omega
 have n2:¬(c=w.heap.size+1):=by omega
 have n3:¬(w.heap.size=c):=by omega
 have n4:¬(w.heap.size+1=c):=by omega
 by_cases he:e=0
 ·subst he;rw [show onlE 0 a b=⟨a,b,0⟩ from if_pos rfl];have H0:=((Ho.nil w).bx [.int .i64 a,.int .i64 b] 25 (w.heap.size) (by simp))
  have o_0:Bx ((w.alloc (.cells (List.toArray [.int .i64 a,.int .i64 b]) 25)).alloc (.cells (List.toArray [.int .i64 0,.int .i64 0]) 25)) (w.heap.size+1) [.int .i64 0,.int .i64 0]:=by
   (repeat (first|with_reducible exact Bx.new (by simp)|with_reducible apply Bx.put6|with_reducible apply Bx.put2|with_reducible apply Bx.put1|with_reducible refine Bx.set ?_ (by omega)|with_reducible refine Bx.alc ?_ _|with_reducible refine Bx.drew ?_))
  go_enter Tryz.func44,Tryz.ntmps44;have o_0c:=o_0.c;have o_0f:=o_0.f
  go_wp2_with fail
  refine bodyPost_box (b:=w.heap.size+1) (cs:=[.int .i64 a,.int .i64 b]) (v:=.tuple #[iv a b,.int .i64 0]) (by
   (repeat (first|with_reducible exact o_0|with_reducible exact Bx.new (by simp)|with_reducible apply Bx.put6|with_reducible apply Bx.put2|with_reducible apply Bx.put1|with_reducible refine Bx.set ?_ (by omega)|with_reducible refine Bx.alc ?_ _|with_reducible refine Bx.drew ?_))) (fun X hX=>by simp [results,Tryz.results44,go_sem,hX]) rfl ⟨rfl,by
   refine Ho.below (n:=w.heap.size+1) (l:=[(w.heap.size,[.int .i64 a,.int .i64 b])]) ?_
   exact hoA⟩
 ·have he':(e == 0)=false:=by simpa using he
  have he2:(e != 0)=true:=by simpa using he
  rw [show onlE e a b=⟨0,0,e⟩ from if_neg he];have H0:=((Ho.nil w).bx [.int .i64 a,.int .i64 b] 25 (w.heap.size) (by simp))
  have o_0:Bx ((w.alloc (.cells (List.toArray [.int .i64 a,.int .i64 b]) 25)).alloc (.cells (List.toArray [.int .i64 0,.int .i64 0]) 25)) (w.heap.size+1) [.int .i64 0,.int .i64 0]:=by
   (repeat (first|with_reducible exact Bx.new (by simp)|with_reducible apply Bx.put6|with_reducible apply Bx.put2|with_reducible apply Bx.put1|with_reducible refine Bx.set ?_ (by omega)|with_reducible refine Bx.alc ?_ _|with_reducible refine Bx.drew ?_))
  go_enter Tryz.func44,Tryz.ntmps44;have o_0c:=o_0.c;have o_0f:=o_0.f
  go_wp2_with fail
  go_region
  all_goals (try go_wp2_with fail)
  all_goals refine bodyPost_box (b:=w.heap.size+1) (cs:=[.int .i64 0,.int .i64 0]) (v:=.tuple #[iv 0 0,.int .i64 e]) (by
   (repeat (first|with_reducible exact o_0|with_reducible exact Bx.new (by simp)|with_reducible apply Bx.put6|with_reducible apply Bx.put2|with_reducible apply Bx.put1|with_reducible refine Bx.set ?_ (by omega)|with_reducible refine Bx.alc ?_ _|with_reducible refine Bx.drew ?_))) (fun X hX=>by simp [results,Tryz.results44,go_sem,hX]) rfl ⟨rfl,by
   refine Ho.below (n:=w.heap.size+1) (l:=[(w.heap.size,[.int .i64 a,.int .i64 b])]) ?_
   exact hoA⟩
end Go.Proofs.YtiecdgcdcpmgaaaGreat.Iv

/- Contracts of the reference's operations with boxes: Add, Sub, Scale, Dot. -/
namespace Go.Proofs.YtiecdgcdcpmgaaaGreat.Iv
open Go.RowKit
theorem keep_dot (r s t:R):onlE (keepE (keepE (keepE (keepE (keepE 0 r.e) s.e) t.e) (addR r.lo r.hi s.lo s.hi).e) (addR (addR r.lo r.hi s.lo s.hi).lo (addR r.lo r.hi s.lo s.hi).hi t.lo t.hi).e) (addR (addR r.lo r.hi s.lo s.hi).lo (addR r.lo r.hi s.lo s.hi).hi t.lo t.hi).lo (addR (addR r.lo r.hi s.lo s.hi).lo (addR r.lo r.hi s.lo s.hi).hi t.lo t.hi).hi
  = onlyR (sumG (comb r s t).e (comb r s t).d):=by
 unfold onlyR sumG onlE keepE comb goOn
 by_cases h1:r.e=0
 ·by_cases h2:s.e=0
  ·by_cases h3:t.e=0
   ·simp [h1,h2,h3]
    by_cases h4:(addR r.lo r.hi s.lo s.hi).e=0
    ·simp [h4]
    ·simp [h4]
   ·simp [h1,h2,h3]
  ·simp [h1,h2]
 ·simp [h1]
end Go.Proofs.YtiecdgcdcpmgaaaGreat.Iv
