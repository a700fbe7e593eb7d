/- Texts PDr2. -/
import Derived.Test.YtiecdgcdcpmgaaaGreatM06
import Derived.Test.YtiecdgcdcpmgaaaGreatM03
import Derived.Test.YtiecdgcdcpmgaaaGreatM05
import Derived.Test.YtiecdgcdcpmgaaaGreatM09

/- Contracts of the small calculators of packages direction and refraction, which stop at their first error: do, number, square. -/
namespace Go.Proofs.YtiecdgcdcpmgaaaGreat.Iv
open Go.RowKit
def goOn (e:Int) (r:R):R:=if e=0 then r else ⟨0,0,e⟩
set_option maxRecDepth 100000 in
set_option maxHeartbeats 1000000 in
theorem do_add (B c:Nat) (a b x y e:Int) (w:World) (hc:w.cell? ⟨c,0,none⟩=some (.int .i64 e)) (hf:w.frozen? ⟨c,0,none⟩=false) :
  Calls Tryz.prog 65 #[.pointer (some ⟨c,0,none⟩),.func (.func 62) #[] #[],iv a b,iv x y] w fun r w'=>r = .returned (iv (goOn e (addR a b x y)).lo (goOn e (addR a b x y)).hi)∧Step B w c (goOn e (addR a b x y)).e w':=by
 have hlt:c<w.heap.size:=World.block_lt_of_cell? w _ hc
 have q1:c<w.heap.size+1:=by omega
 have q2:c<w.heap.size+1+1:=by omega
 have q3:c<w.heap.size+1+1+1:=by omega
 have nn0:¬(c=w.heap.size):=by omega
 have mm0:¬(w.heap.size=c):=by omega
 have nn1:¬(c=w.heap.size+1):=by omega
 have mm1:¬(w.heap.size+1=c):=by omega
 have nn2:¬(c=w.heap.size+1+1):=by omega
 have mm2:¬(w.heap.size+1+1=c):=by omega
 have nn3:¬(c=w.heap.size+1+1+1):=by omega
 have mm3:¬(w.heap.size+1+1+1=c):=by omega
 by_cases he:e=0
 ·subst he;rw [show goOn 0 (addR a b x y)=addR a b x y from if_pos rfl];obtain ⟨⟨p,q,f⟩,hR⟩:∃r:R,addR a b x y=r:=⟨_,rfl⟩;have HR:=Lib.hid (show retR (addR a b x y) = .returned (.tuple #[iv p q,.int .i64 f]) from by rw [hR]);rw [hR];clear hR;go_enter Tryz.func65,Tryz.ntmps65
  go_wp2_with fail
  refine (add_any a b x y _).mono ?_;rintro r w1 ⟨rfl,hb1⟩;rw [HR.out];obtain ⟨hc1,hf1⟩:=bcell hb1;have hz1:=hb1.size
  try simp at hz1
  have d3:w1.cell? ⟨w.heap.size+1+1,0,none⟩=some (.int .i64 0):=(hc1 _ _ (by simp)).trans (by simp [go_sem]);have d4:w1.cell? ⟨w.heap.size+1+1,1,none⟩=some (.int .i64 0):=(hc1 _ _ (by simp)).trans (by simp [go_sem]);have d5:w1.frozen? ⟨w.heap.size+1+1,0,none⟩=false:=(hf1 _ _ (by simp)).trans (by simp [go_sem]);have d6:w1.frozen? ⟨w.heap.size+1+1,1,none⟩=false:=(hf1 _ _ (by simp)).trans (by simp [go_sem]);have d1:w1.cell? ⟨c,0,none⟩=some (.int .i64 0):=(hc1 _ _ (by simp;omega)).trans (by simp [go_sem, *]);have d2:w1.frozen? ⟨c,0,none⟩=false:=(hf1 _ _ (by simp;omega)).trans (by simp [go_sem, *])
  have v1:c<w1.heap.size:=by omega
  have v2:¬(c=w1.heap.size):=by omega
  have v3:¬(w1.heap.size=c):=by omega
  have v4:w.heap.size+1+1<w1.heap.size:=by omega
  have v5:¬(w.heap.size+1+1=w1.heap.size):=by omega
  have v6:¬(w1.heap.size=w.heap.size+1+1):=by omega
  have v7:c<w1.heap.size+1:=by omega
  have v8:w.heap.size+1+1<w1.heap.size+1:=by omega
  have v9:¬(c=w.heap.size+1+1):=by omega
  have v10:¬(w.heap.size+1+1=c):=by omega
  go_wp2_with fail
  refine bodyPost_ret (v:=iv p q) (by simp [results,Tryz.results65,go_sem, *]) rfl ⟨rfl,?_⟩;refine ⟨by simp [go_sem, *],fun b o hb hn=>?_,fun b o hb=>?_,by simp;omega,fun h1 h2=>?_⟩
  ·have y2:=hc1 b o (by simp;omega)
   have x1:b<w.heap.size+1:=by omega
   have x2:b<w.heap.size+1+1:=by omega
   have x3:¬(b=w.heap.size):=by omega
   have x4:¬(b=w.heap.size+1):=by omega
   have x5:¬(b=w.heap.size+1+1):=by omega
   have x6:¬(w.heap.size+1+1=b):=by omega
   have x7:¬(w.heap.size+1=b):=by omega
   have hn':¬(c=b):=fun h=>hn h.symm
   have x8:b<w1.heap.size:=by omega
   have x9:¬(b=w1.heap.size):=by omega
   have x10:¬(w1.heap.size=b):=by omega
   simp [go_sem, *]
  ·have y2:=hf1 b o (by simp;omega)
   have x1:b<w.heap.size+1:=by omega
   have x2:b<w.heap.size+1+1:=by omega
   have x8:b<w1.heap.size:=by omega
   simp [go_sem, *]
  ·have y1:Below B w w1:=((((Below.refl _ _).alloc (by first|omega|(simp<;>omega)) _).alloc (by first|omega|(simp<;>omega)) _).alloc (by first|omega|(simp<;>omega)) _).trans (hb1.mono (by simp;omega))
   (repeat (first|exact y1|refine Below.setCell ?_ (by first|omega|(simp<;>omega)) _|refine Below.alloc ?_ (by first|omega|(simp<;>omega)) _))
 ·rw [show goOn e (addR a b x y)=⟨0,0,e⟩ from if_neg he]
  have he':(e == 0)=false:=by simpa using he
  go_enter Tryz.func65,Tryz.ntmps65
  go_wp2_with fail
  refine bodyPost_ret (v:=iv 0 0) (by simp [results,Tryz.results65,go_sem, *]) rfl ⟨rfl,?_⟩;refine ⟨by simp [go_sem, *],fun b o hb hn=>?_,fun b o hb=>?_,by simp;omega,fun h1 h2=>?_⟩
  ·have x1:b<w.heap.size+1:=by omega
   have x2:b<w.heap.size+1+1:=by omega
   simp [go_sem, *]
  ·have x1:b<w.heap.size+1:=by omega
   have x2:b<w.heap.size+1+1:=by omega
   simp [go_sem, *]
  ·(repeat (first|exact Below.refl _ _|refine Below.setCell ?_ (by first|omega|(simp<;>omega)) _|refine Below.alloc ?_ (by first|omega|(simp<;>omega)) _))
set_option maxRecDepth 100000 in
set_option maxHeartbeats 1000000 in
theorem num_add (B c:Nat) (a b x y e:Int) (w:World) (hc:w.cell? ⟨c,0,none⟩=some (.int .i64 e)) (hf:w.frozen? ⟨c,0,none⟩=false) :
  Calls Tryz.prog 110 #[.pointer (some ⟨c,0,none⟩),.func (.func 62) #[] #[],iv a b,iv x y] w fun r w'=>r = .returned (iv (goOn e (addR a b x y)).lo (goOn e (addR a b x y)).hi)∧Step B w c (goOn e (addR a b x y)).e w':=by
 have hlt:c<w.heap.size:=World.block_lt_of_cell? w _ hc
 have q1:c<w.heap.size+1:=by omega
 have q2:c<w.heap.size+1+1:=by omega
 have q3:c<w.heap.size+1+1+1:=by omega
 have nn0:¬(c=w.heap.size):=by omega
 have mm0:¬(w.heap.size=c):=by omega
 have nn1:¬(c=w.heap.size+1):=by omega
 have mm1:¬(w.heap.size+1=c):=by omega
 have nn2:¬(c=w.heap.size+1+1):=by omega
 have mm2:¬(w.heap.size+1+1=c):=by omega
 have nn3:¬(c=w.heap.size+1+1+1):=by omega
 have mm3:¬(w.heap.size+1+1+1=c):=by omega
 by_cases he:e=0
 ·subst he;rw [show goOn 0 (addR a b x y)=addR a b x y from if_pos rfl];obtain ⟨⟨p,q,f⟩,hR⟩:∃r:R,addR a b x y=r:=⟨_,rfl⟩;have HR:=Lib.hid (show retR (addR a b x y) = .returned (.tuple #[iv p q,.int .i64 f]) from by rw [hR]);rw [hR];clear hR;go_enter Tryz.func110,Tryz.ntmps110
  go_wp2_with fail
  refine (add_any a b x y _).mono ?_;rintro r w1 ⟨rfl,hb1⟩;rw [HR.out];obtain ⟨hc1,hf1⟩:=bcell hb1;have hz1:=hb1.size
  try simp at hz1
  have d3:w1.cell? ⟨w.heap.size+1+1,0,none⟩=some (.int .i64 0):=(hc1 _ _ (by simp)).trans (by simp [go_sem]);have d4:w1.cell? ⟨w.heap.size+1+1,1,none⟩=some (.int .i64 0):=(hc1 _ _ (by simp)).trans (by simp [go_sem]);have d5:w1.frozen? ⟨w.heap.size+1+1,0,none⟩=false:=(hf1 _ _ (by simp)).trans (by simp [go_sem]);have d6:w1.frozen? ⟨w.heap.size+1+1,1,none⟩=false:=(hf1 _ _ (by simp)).trans (by simp [go_sem]);have d1:w1.cell? ⟨c,0,none⟩=some (.int .i64 0):=(hc1 _ _ (by simp;omega)).trans (by simp [go_sem, *]);have d2:w1.frozen? ⟨c,0,none⟩=false:=(hf1 _ _ (by simp;omega)).trans (by simp [go_sem, *])
  have v1:c<w1.heap.size:=by omega
  have v2:¬(c=w1.heap.size):=by omega
  have v3:¬(w1.heap.size=c):=by omega
  have v4:w.heap.size+1+1<w1.heap.size:=by omega
  have v5:¬(w.heap.size+1+1=w1.heap.size):=by omega
  have v6:¬(w1.heap.size=w.heap.size+1+1):=by omega
  have v7:c<w1.heap.size+1:=by omega
  have v8:w.heap.size+1+1<w1.heap.size+1:=by omega
  have v9:¬(c=w.heap.size+1+1):=by omega
  have v10:¬(w.heap.size+1+1=c):=by omega
  go_wp2_with fail
  refine bodyPost_ret (v:=iv p q) (by simp [results,Tryz.results110,go_sem, *]) rfl ⟨rfl,?_⟩;refine ⟨by simp [go_sem, *],fun b o hb hn=>?_,fun b o hb=>?_,by simp;omega,fun h1 h2=>?_⟩
  ·have y2:=hc1 b o (by simp;omega)
   have x1:b<w.heap.size+1:=by omega
   have x2:b<w.heap.size+1+1:=by omega
   have x3:¬(b=w.heap.size):=by omega
   have x4:¬(b=w.heap.size+1):=by omega
   have x5:¬(b=w.heap.size+1+1):=by omega
   have x6:¬(w.heap.size+1+1=b):=by omega
   have x7:¬(w.heap.size+1=b):=by omega
   have hn':¬(c=b):=fun h=>hn h.symm
   have x8:b<w1.heap.size:=by omega
   have x9:¬(b=w1.heap.size):=by omega
   have x10:¬(w1.heap.size=b):=by omega
   simp [go_sem, *]
  ·have y2:=hf1 b o (by simp;omega)
   have x1:b<w.heap.size+1:=by omega
   have x2:b<w.heap.size+1+1:=by omega
   have x8:b<w1.heap.size:=by omega
   simp [go_sem, *]
  ·have y1:Below B w w1:=((((Below.refl _ _).alloc (by first|omega|(simp<;>omega)) _).alloc (by first|omega|(simp<;>omega)) _).alloc (by first|omega|(simp<;>omega)) _).trans (hb1.mono (by simp;omega))
   (repeat (first|exact y1|refine Below.setCell ?_ (by first|omega|(simp<;>omega)) _|refine Below.alloc ?_ (by first|omega|(simp<;>omega)) _))
 ·rw [show goOn e (addR a b x y)=⟨0,0,e⟩ from if_neg he]
  have he':(e == 0)=false:=by simpa using he
  go_enter Tryz.func110,Tryz.ntmps110
  go_wp2_with fail
  refine bodyPost_ret (v:=iv 0 0) (by simp [results,Tryz.results110,go_sem, *]) rfl ⟨rfl,?_⟩;refine ⟨by simp [go_sem, *],fun b o hb hn=>?_,fun b o hb=>?_,by simp;omega,fun h1 h2=>?_⟩
  ·have x1:b<w.heap.size+1:=by omega
   have x2:b<w.heap.size+1+1:=by omega
   simp [go_sem, *]
  ·have x1:b<w.heap.size+1:=by omega
   have x2:b<w.heap.size+1+1:=by omega
   simp [go_sem, *]
  ·(repeat (first|exact Below.refl _ _|refine Below.setCell ?_ (by first|omega|(simp<;>omega)) _|refine Below.alloc ?_ (by first|omega|(simp<;>omega)) _))
set_option maxRecDepth 100000 in
set_option maxHeartbeats 1000000 in
theorem do_sub (B c:Nat) (a b x y e:Int) (w:World) (hc:w.cell? ⟨c,0,none⟩=some (.int .i64 e)) (hf:w.frozen? ⟨c,0,none⟩=false) :
  Calls Tryz.prog 65 #[.pointer (some ⟨c,0,none⟩),.func (.func 57) #[] #[],iv a b,iv x y] w fun r w'=>r = .returned (iv (goOn e (subR a b x y)).lo (goOn e (subR a b x y)).hi)∧Step B w c (goOn e (subR a b x y)).e w':=by
 have hlt:c<w.heap.size:=World.block_lt_of_cell? w _ hc
 have q1:c<w.heap.size+1:=by omega
 have q2:c<w.heap.size+1+1:=by omega
 have q3:c<w.heap.size+1+1+1:=by omega
 have nn0:¬(c=w.heap.size):=by omega
 have mm0:¬(w.heap.size=c):=by omega
 have nn1:¬(c=w.heap.size+1):=by omega
 have mm1:¬(w.heap.size+1=c):=by omega
 have nn2:¬(c=w.heap.size+1+1):=by omega
 have mm2:¬(w.heap.size+1+1=c):=by omega
 have nn3:¬(c=w.heap.size+1+1+1):=by omega
 have mm3:¬(w.heap.size+1+1+1=c):=by omega
 by_cases he:e=0
 ·subst he;rw [show goOn 0 (subR a b x y)=subR a b x y from if_pos rfl];obtain ⟨⟨p,q,f⟩,hR⟩:∃r:R,subR a b x y=r:=⟨_,rfl⟩;have HR:=Lib.hid (show retR (subR a b x y) = .returned (.tuple #[iv p q,.int .i64 f]) from by rw [hR]);rw [hR];clear hR;go_enter Tryz.func65,Tryz.ntmps65
  go_wp2_with fail
  refine (sub_any a b x y _).mono ?_;rintro r w1 ⟨rfl,hb1⟩;rw [HR.out];obtain ⟨hc1,hf1⟩:=bcell hb1;have hz1:=hb1.size
  try simp at hz1
  have d3:w1.cell? ⟨w.heap.size+1+1,0,none⟩=some (.int .i64 0):=(hc1 _ _ (by simp)).trans (by simp [go_sem]);have d4:w1.cell? ⟨w.heap.size+1+1,1,none⟩=some (.int .i64 0):=(hc1 _ _ (by simp)).trans (by simp [go_sem]);have d5:w1.frozen? ⟨w.heap.size+1+1,0,none⟩=false:=(hf1 _ _ (by simp)).trans (by simp [go_sem]);have d6:w1.frozen? ⟨w.heap.size+1+1,1,none⟩=false:=(hf1 _ _ (by simp)).trans (by simp [go_sem]);have d1:w1.cell? ⟨c,0,none⟩=some (.int .i64 0):=(hc1 _ _ (by simp;omega)).trans (by simp [go_sem, *]);have d2:w1.frozen? ⟨c,0,none⟩=false:=(hf1 _ _ (by simp;omega)).trans (by simp [go_sem, *])
  have v1:c<w1.heap.size:=by omega
  have v2:¬(c=w1.heap.size):=by omega
  have v3:¬(w1.heap.size=c):=by omega
  have v4:w.heap.size+1+1<w1.heap.size:=by omega
  have v5:¬(w.heap.size+1+1=w1.heap.size):=by omega
  have v6:¬(w1.heap.size=w.heap.size+1+1):=by omega
  have v7:c<w1.heap.size+1:=by omega
  have v8:w.heap.size+1+1<w1.heap.size+1:=by omega
  have v9:¬(c=w.heap.size+1+1):=by omega
  have v10:¬(w.heap.size+1+1=c):=by omega
  go_wp2_with fail
  refine bodyPost_ret (v:=iv p q) (by simp [results,Tryz.results65,go_sem, *]) rfl ⟨rfl,?_⟩;refine ⟨by simp [go_sem, *],fun b o hb hn=>?_,fun b o hb=>?_,by simp;omega,fun h1 h2=>?_⟩
  ·have y2:=hc1 b o (by simp;omega)
   have x1:b<w.heap.size+1:=by omega
   have x2:b<w.heap.size+1+1:=by omega
   have x3:¬(b=w.heap.size):=by omega
   have x4:¬(b=w.heap.size+1):=by omega
   have x5:¬(b=w.heap.size+1+1):=by omega
   have x6:¬(w.heap.size+1+1=b):=by omega
   have x7:¬(w.heap.size+1=b):=by omega
   have hn':¬(c=b):=fun h=>hn h.symm
   have x8:b<w1.heap.size:=by omega
   have x9:¬(b=w1.heap.size):=by omega
   have x10:¬(w1.heap.size=b):=by omega
   simp [go_sem, *]
  ·have y2:=hf1 b o (by simp;omega)
   have x1:b<w.heap.size+1:=by omega
   have x2:b<w.heap.size+1+1:=by omega
   have x8:b<w1.heap.size:=by omega
   simp [go_sem, *]
  ·have y1:Below B w w1:=((((Below.refl _ _).alloc (by first|omega|(simp<;>omega)) _).alloc (by first|omega|(simp<;>omega)) _).alloc (by first|omega|(simp<;>omega)) _).trans (hb1.mono (by simp;omega))
   (repeat (first|exact y1|refine Below.setCell ?_ (by first|omega|(simp<;>omega)) _|refine Below.alloc ?_ (by first|omega|(simp<;>omega)) _))
 ·rw [show goOn e (subR a b x y)=⟨0,0,e⟩ from if_neg he]
  have he':(e == 0)=false:=by simpa using he
  go_enter Tryz.func65,Tryz.ntmps65
  go_wp2_with fail
  refine bodyPost_ret (v:=iv 0 0) (by simp [results,Tryz.results65,go_sem, *]) rfl ⟨rfl,?_⟩;refine ⟨by simp [go_sem, *],fun b o hb hn=>?_,fun b o hb=>?_,by simp;omega,fun h1 h2=>?_⟩
  ·have x1:b<w.heap.size+1:=by omega
   have x2:b<w.heap.size+1+1:=by omega
   simp [go_sem, *]
  ·have x1:b<w.heap.size+1:=by omega
   have x2:b<w.heap.size+1+1:=by omega
   simp [go_sem, *]
  ·(repeat (first|exact Below.refl _ _|refine Below.setCell ?_ (by first|omega|(simp<;>omega)) _|refine Below.alloc ?_ (by first|omega|(simp<;>omega)) _))
set_option maxRecDepth 100000 in
set_option maxHeartbeats 1000000 in
theorem num_sub (B c:Nat) (a b x y e:Int) (w:World) (hc:w.cell? ⟨c,0,none⟩=some (.int .i64 e)) (hf:w.frozen? ⟨c,0,none⟩=false) :
  Calls Tryz.prog 110 #[.pointer (some ⟨c,0,none⟩),.func (.func 57) #[] #[],iv a b,iv x y] w fun r w'=>r = .returned (iv (goOn e (subR a b x y)).lo (goOn e (subR a b x y)).hi)∧Step B w c (goOn e (subR a b x y)).e w':=by
 have hlt:c<w.heap.size:=World.block_lt_of_cell? w _ hc
 have q1:c<w.heap.size+1:=by omega
 have q2:c<w.heap.size+1+1:=by omega
 have q3:c<w.heap.size+1+1+1:=by omega
 have nn0:¬(c=w.heap.size):=by omega
 have mm0:¬(w.heap.size=c):=by omega
 have nn1:¬(c=w.heap.size+1):=by omega
 have mm1:¬(w.heap.size+1=c):=by omega
 have nn2:¬(c=w.heap.size+1+1):=by omega
 have mm2:¬(w.heap.size+1+1=c):=by omega
 have nn3:¬(c=w.heap.size+1+1+1):=by omega
 have mm3:¬(w.heap.size+1+1+1=c):=by omega
 by_cases he:e=0
 ·subst he;rw [show goOn 0 (subR a b x y)=subR a b x y from if_pos rfl];obtain ⟨⟨p,q,f⟩,hR⟩:∃r:R,subR a b x y=r:=⟨_,rfl⟩;have HR:=Lib.hid (show retR (subR a b x y) = .returned (.tuple #[iv p q,.int .i64 f]) from by rw [hR]);rw [hR];clear hR;go_enter Tryz.func110,Tryz.ntmps110
  go_wp2_with fail
  refine (sub_any a b x y _).mono ?_;rintro r w1 ⟨rfl,hb1⟩;rw [HR.out];obtain ⟨hc1,hf1⟩:=bcell hb1;have hz1:=hb1.size
  try simp at hz1
  have d3:w1.cell? ⟨w.heap.size+1+1,0,none⟩=some (.int .i64 0):=(hc1 _ _ (by simp)).trans (by simp [go_sem]);have d4:w1.cell? ⟨w.heap.size+1+1,1,none⟩=some (.int .i64 0):=(hc1 _ _ (by simp)).trans (by simp [go_sem]);have d5:w1.frozen? ⟨w.heap.size+1+1,0,none⟩=false:=(hf1 _ _ (by simp)).trans (by simp [go_sem]);have d6:w1.frozen? ⟨w.heap.size+1+1,1,none⟩=false:=(hf1 _ _ (by simp)).trans (by simp [go_sem]);have d1:w1.cell? ⟨c,0,none⟩=some (.int .i64 0):=(hc1 _ _ (by simp;omega)).trans (by simp [go_sem, *]);have d2:w1.frozen? ⟨c,0,none⟩=false:=(hf1 _ _ (by simp;omega)).trans (by simp [go_sem, *])
  have v1:c<w1.heap.size:=by omega
  have v2:¬(c=w1.heap.size):=by omega
  have v3:¬(w1.heap.size=c):=by omega
  have v4:w.heap.size+1+1<w1.heap.size:=by omega
  have v5:¬(w.heap.size+1+1=w1.heap.size):=by omega
  have v6:¬(w1.heap.size=w.heap.size+1+1):=by omega
  have v7:c<w1.heap.size+1:=by omega
  have v8:w.heap.size+1+1<w1.heap.size+1:=by omega
  have v9:¬(c=w.heap.size+1+1):=by omega
  have v10:¬(w.heap.size+1+1=c):=by omega
  go_wp2_with fail
  refine bodyPost_ret (v:=iv p q) (by simp [results,Tryz.results110,go_sem, *]) rfl ⟨rfl,?_⟩;refine ⟨by simp [go_sem, *],fun b o hb hn=>?_,fun b o hb=>?_,by simp;omega,fun h1 h2=>?_⟩
  ·have y2:=hc1 b o (by simp;omega)
   have x1:b<w.heap.size+1:=by omega
   have x2:b<w.heap.size+1+1:=by omega
   have x3:¬(b=w.heap.size):=by omega
   have x4:¬(b=w.heap.size+1):=by omega
   have x5:¬(b=w.heap.size+1+1):=by omega
   have x6:¬(w.heap.size+1+1=b):=by omega
   have x7:¬(w.heap.size+1=b):=by omega
   have hn':¬(c=b):=fun h=>hn h.symm
   have x8:b<w1.heap.size:=by omega
   have x9:¬(b=w1.heap.size):=by omega
   have x10:¬(w1.heap.size=b):=by omega
   simp [go_sem, *]
  ·have y2:=hf1 b o (by simp;omega)
   have x1:b<w.heap.size+1:=by omega
   have x2:b<w.heap.size+1+1:=by omega
   have x8:b<w1.heap.size:=by omega
   simp [go_sem, *]
  ·have y1:Below B w w1:=((((Below.refl _ _).alloc (by first|omega|(simp<;>omega)) _).alloc (by first|omega|(simp<;>omega)) _).alloc (by first|omega|(simp<;>omega)) _).trans (hb1.mono (by simp;omega))
   (repeat (first|exact y1|refine Below.setCell ?_ (by first|omega|(simp<;>omega)) _|refine Below.alloc ?_ (by first|omega|(simp<;>omega)) _))
 ·rw [show goOn e (subR a b x y)=⟨0,0,e⟩ from if_neg he]
  have he':(e == 0)=false:=by simpa using he
  go_enter Tryz.func110,Tryz.ntmps110
  go_wp2_with fail
  refine bodyPost_ret (v:=iv 0 0) (by simp [results,Tryz.results110,go_sem, *]) rfl ⟨rfl,?_⟩;refine ⟨by simp [go_sem, *],fun b o hb hn=>?_,fun b o hb=>?_,by simp;omega,fun h1 h2=>?_⟩
  ·have x1:b<w.heap.size+1:=by omega
   have x2:b<w.heap.size+1+1:=by omega
   simp [go_sem, *]
  ·have x1:b<w.heap.size+1:=by omega
   have x2:b<w.heap.size+1+1:=by omega
   simp [go_sem, *]
  ·(repeat (first|exact Below.refl _ _|refine Below.setCell ?_ (by first|omega|(simp<;>omega)) _|refine Below.alloc ?_ (by first|omega|(simp<;>omega)) _))
set_option maxRecDepth 100000 in
set_option maxHeartbeats 1000000 in
theorem do_mul (B c:Nat) (a b x y e:Int) (w:World) (hc:w.cell? ⟨c,0,none⟩=some (.int .i64 e)) (hf:w.frozen? ⟨c,0,none⟩=false) :
  Calls Tryz.prog 65 #[.pointer (some ⟨c,0,none⟩),.func (.func 61) #[] #[],iv a b,iv x y] w fun r w'=>r = .returned (iv (goOn e (mulR a b x y)).lo (goOn e (mulR a b x y)).hi)∧Step B w c (goOn e (mulR a b x y)).e w':=by
 have hlt:c<w.heap.size:=World.block_lt_of_cell? w _ hc
 have q1:c<w.heap.size+1:=by omega
 have q2:c<w.heap.size+1+1:=by omega
 have q3:c<w.heap.size+1+1+1:=by omega
 have nn0:¬(c=w.heap.size):=by omega
 have mm0:¬(w.heap.size=c):=by omega
 have nn1:¬(c=w.heap.size+1):=by omega
 have mm1:¬(w.heap.size+1=c):=by omega
 have nn2:¬(c=w.heap.size+1+1):=by omega
 have mm2:¬(w.heap.size+1+1=c):=by omega
 have nn3:¬(c=w.heap.size+1+1+1):=by omega
 have mm3:¬(w.heap.size+1+1+1=c):=by omega
 by_cases he:e=0
 ·subst he;rw [show goOn 0 (mulR a b x y)=mulR a b x y from if_pos rfl];obtain ⟨⟨p,q,f⟩,hR⟩:∃r:R,mulR a b x y=r:=⟨_,rfl⟩;have HR:=Lib.hid (show retR (mulR a b x y) = .returned (.tuple #[iv p q,.int .i64 f]) from by rw [hR]);rw [hR];clear hR;go_enter Tryz.func65,Tryz.ntmps65
  go_wp2_with fail
  refine (mul_any a b x y _).mono ?_;rintro r w1 ⟨rfl,hb1⟩;rw [HR.out];obtain ⟨hc1,hf1⟩:=bcell hb1;have hz1:=hb1.size
  try simp at hz1
  have d3:w1.cell? ⟨w.heap.size+1+1,0,none⟩=some (.int .i64 0):=(hc1 _ _ (by simp)).trans (by simp [go_sem]);have d4:w1.cell? ⟨w.heap.size+1+1,1,none⟩=some (.int .i64 0):=(hc1 _ _ (by simp)).trans (by simp [go_sem]);have d5:w1.frozen? ⟨w.heap.size+1+1,0,none⟩=false:=(hf1 _ _ (by simp)).trans (by simp [go_sem]);have d6:w1.frozen? ⟨w.heap.size+1+1,1,none⟩=false:=(hf1 _ _ (by simp)).trans (by simp [go_sem]);have d1:w1.cell? ⟨c,0,none⟩=some (.int .i64 0):=(hc1 _ _ (by simp;omega)).trans (by simp [go_sem, *]);have d2:w1.frozen? ⟨c,0,none⟩=false:=(hf1 _ _ (by simp;omega)).trans (by simp [go_sem, *])
  have v1:c<w1.heap.size:=by omega
  have v2:¬(c=w1.heap.size):=by omega
  have v3:¬(w1.heap.size=c):=by omega
  have v4:w.heap.size+1+1<w1.heap.size:=by omega
  have v5:¬(w.heap.size+1+1=w1.heap.size):=by omega
  have v6:¬(w1.heap.size=w.heap.size+1+1):=by omega
  have v7:c<w1.heap.size+1:=by omega
  have v8:w.heap.size+1+1<w1.heap.size+1:=by omega
  have v9:¬(c=w.heap.size+1+1):=by omega
  have v10:¬(w.heap.size+1+1=c):=by omega
  go_wp2_with fail
  refine bodyPost_ret (v:=iv p q) (by simp [results,Tryz.results65,go_sem, *]) rfl ⟨rfl,?_⟩;refine ⟨by simp [go_sem, *],fun b o hb hn=>?_,fun b o hb=>?_,by simp;omega,fun h1 h2=>?_⟩
  ·have y2:=hc1 b o (by simp;omega)
   have x1:b<w.heap.size+1:=by omega
   have x2:b<w.heap.size+1+1:=by omega
   have x3:¬(b=w.heap.size):=by omega
   have x4:¬(b=w.heap.size+1):=by omega
   have x5:¬(b=w.heap.size+1+1):=by omega
   have x6:¬(w.heap.size+1+1=b):=by omega
   have x7:¬(w.heap.size+1=b):=by omega
   have hn':¬(c=b):=fun h=>hn h.symm
   have x8:b<w1.heap.size:=by omega
   have x9:¬(b=w1.heap.size):=by omega
   have x10:¬(w1.heap.size=b):=by omega
   simp [go_sem, *]
  ·have y2:=hf1 b o (by simp;omega)
   have x1:b<w.heap.size+1:=by omega
   have x2:b<w.heap.size+1+1:=by omega
   have x8:b<w1.heap.size:=by omega
   simp [go_sem, *]
  ·have y1:Below B w w1:=((((Below.refl _ _).alloc (by first|omega|(simp<;>omega)) _).alloc (by first|omega|(simp<;>omega)) _).alloc (by first|omega|(simp<;>omega)) _).trans (hb1.mono (by simp;omega))
   (repeat (first|exact y1|refine Below.setCell ?_ (by first|omega|(simp<;>omega)) _|refine Below.alloc ?_ (by first|omega|(simp<;>omega)) _))
 ·rw [show goOn e (mulR a b x y)=⟨0,0,e⟩ from if_neg he]
  have he':(e == 0)=false:=by simpa using he
  go_enter Tryz.func65,Tryz.ntmps65
  go_wp2_with fail
  refine bodyPost_ret (v:=iv 0 0) (by simp [results,Tryz.results65,go_sem, *]) rfl ⟨rfl,?_⟩;refine ⟨by simp [go_sem, *],fun b o hb hn=>?_,fun b o hb=>?_,by simp;omega,fun h1 h2=>?_⟩
  ·have x1:b<w.heap.size+1:=by omega
   have x2:b<w.heap.size+1+1:=by omega
   simp [go_sem, *]
  ·have x1:b<w.heap.size+1:=by omega
   have x2:b<w.heap.size+1+1:=by omega
   simp [go_sem, *]
  ·(repeat (first|exact Below.refl _ _|refine Below.setCell ?_ (by first|omega|(simp<;>omega)) _|refine Below.alloc ?_ (by first|omega|(simp<;>omega)) _))
set_option maxRecDepth 100000 in
set_option maxHeartbeats 1000000 in
theorem num_mul (B c:Nat) (a b x y e:Int) (w:World) (hc:w.cell? ⟨c,0,none⟩=some (.int .i64 e)) (hf:w.frozen? ⟨c,0,none⟩=false) :
  Calls Tryz.prog 110 #[.pointer (some ⟨c,0,none⟩),.func (.func 61) #[] #[],iv a b,iv x y] w fun r w'=>r = .returned (iv (goOn e (mulR a b x y)).lo (goOn e (mulR a b x y)).hi)∧Step B w c (goOn e (mulR a b x y)).e w':=by
 have hlt:c<w.heap.size:=World.block_lt_of_cell? w _ hc
 have q1:c<w.heap.size+1:=by omega
 have q2:c<w.heap.size+1+1:=by omega
 have q3:c<w.heap.size+1+1+1:=by omega
 have nn0:¬(c=w.heap.size):=by omega
 have mm0:¬(w.heap.size=c):=by omega
 have nn1:¬(c=w.heap.size+1):=by omega
 have mm1:¬(w.heap.size+1=c):=by omega
 have nn2:¬(c=w.heap.size+1+1):=by omega
 have mm2:¬(w.heap.size+1+1=c):=by omega
 have nn3:¬(c=w.heap.size+1+1+1):=by omega
 have mm3:¬(w.heap.size+1+1+1=c):=by omega
 by_cases he:e=0
 ·subst he;rw [show goOn 0 (mulR a b x y)=mulR a b x y from if_pos rfl];obtain ⟨⟨p,q,f⟩,hR⟩:∃r:R,mulR a b x y=r:=⟨_,rfl⟩;have HR:=Lib.hid (show retR (mulR a b x y) = .returned (.tuple #[iv p q,.int .i64 f]) from by rw [hR]);rw [hR];clear hR;go_enter Tryz.func110,Tryz.ntmps110
  go_wp2_with fail
  refine (mul_any a b x y _).mono ?_;rintro r w1 ⟨rfl,hb1⟩;rw [HR.out];obtain ⟨hc1,hf1⟩:=bcell hb1;have hz1:=hb1.size
  try simp at hz1
  have d3:w1.cell? ⟨w.heap.size+1+1,0,none⟩=some (.int .i64 0):=(hc1 _ _ (by simp)).trans (by simp [go_sem]);have d4:w1.cell? ⟨w.heap.size+1+1,1,none⟩=some (.int .i64 0):=(hc1 _ _ (by simp)).trans (by simp [go_sem]);have d5:w1.frozen? ⟨w.heap.size+1+1,0,none⟩=false:=(hf1 _ _ (by simp)).trans (by simp [go_sem]);have d6:w1.frozen? ⟨w.heap.size+1+1,1,none⟩=false:=(hf1 _ _ (by simp)).trans (by simp [go_sem]);have d1:w1.cell? ⟨c,0,none⟩=some (.int .i64 0):=(hc1 _ _ (by simp;omega)).trans (by simp [go_sem, *]);have d2:w1.frozen? ⟨c,0,none⟩=false:=(hf1 _ _ (by simp;omega)).trans (by simp [go_sem, *])
  have v1:c<w1.heap.size:=by omega
  have v2:¬(c=w1.heap.size):=by omega
  have v3:¬(w1.heap.size=c):=by omega
  have v4:w.heap.size+1+1<w1.heap.size:=by omega
  have v5:¬(w.heap.size+1+1=w1.heap.size):=by omega
  have v6:¬(w1.heap.size=w.heap.size+1+1):=by omega
  have v7:c<w1.heap.size+1:=by omega
  have v8:w.heap.size+1+1<w1.heap.size+1:=by omega
  have v9:¬(c=w.heap.size+1+1):=by omega
  have v10:¬(w.heap.size+1+1=c):=by omega
  go_wp2_with fail
  refine bodyPost_ret (v:=iv p q) (by simp [results,Tryz.results110,go_sem, *]) rfl ⟨rfl,?_⟩;refine ⟨by simp [go_sem, *],fun b o hb hn=>?_,fun b o hb=>?_,by simp;omega,fun h1 h2=>?_⟩
  ·have y2:=hc1 b o (by simp;omega)
   have x1:b<w.heap.size+1:=by omega
   have x2:b<w.heap.size+1+1:=by omega
   have x3:¬(b=w.heap.size):=by omega
   have x4:¬(b=w.heap.size+1):=by omega
   have x5:¬(b=w.heap.size+1+1):=by omega
   have x6:¬(w.heap.size+1+1=b):=by omega
   have x7:¬(w.heap.size+1=b):=by omega
   have hn':¬(c=b):=fun h=>hn h.symm
   have x8:b<w1.heap.size:=by omega
   have x9:¬(b=w1.heap.size):=by omega
   have x10:¬(w1.heap.size=b):=by omega
   simp [go_sem, *]
  ·have y2:=hf1 b o (by simp;omega)
   have x1:b<w.heap.size+1:=by omega
   have x2:b<w.heap.size+1+1:=by omega
   have x8:b<w1.heap.size:=by omega
   simp [go_sem, *]
  ·have y1:Below B w w1:=((((Below.refl _ _).alloc (by first|omega|(simp<;>omega)) _).alloc (by first|omega|(simp<;>omega)) _).alloc (by first|omega|(simp<;>omega)) _).trans (hb1.mono (by simp;omega))
   (repeat (first|exact y1|refine Below.setCell ?_ (by first|omega|(simp<;>omega)) _|refine Below.alloc ?_ (by first|omega|(simp<;>omega)) _))
 ·rw [show goOn e (mulR a b x y)=⟨0,0,e⟩ from if_neg he]
  have he':(e == 0)=false:=by simpa using he
  go_enter Tryz.func110,Tryz.ntmps110
  go_wp2_with fail
  refine bodyPost_ret (v:=iv 0 0) (by simp [results,Tryz.results110,go_sem, *]) rfl ⟨rfl,?_⟩;refine ⟨by simp [go_sem, *],fun b o hb hn=>?_,fun b o hb=>?_,by simp;omega,fun h1 h2=>?_⟩
  ·have x1:b<w.heap.size+1:=by omega
   have x2:b<w.heap.size+1+1:=by omega
   simp [go_sem, *]
  ·have x1:b<w.heap.size+1:=by omega
   have x2:b<w.heap.size+1+1:=by omega
   simp [go_sem, *]
  ·(repeat (first|exact Below.refl _ _|refine Below.setCell ?_ (by first|omega|(simp<;>omega)) _|refine Below.alloc ?_ (by first|omega|(simp<;>omega)) _))
set_option maxRecDepth 100000 in
set_option maxHeartbeats 1000000 in
theorem rsq_any (B c:Nat) (a b e:Int) (w:World) (hc:w.cell? ⟨c,0,none⟩=some (.int .i64 e)) (hf:w.frozen? ⟨c,0,none⟩=false) :
  Calls Tryz.prog 121 #[.pointer (some ⟨c,0,none⟩),iv a b] w fun r w'=>r = .returned (iv (goOn e (sqR a b)).lo (goOn e (sqR a b)).hi)∧Step B w c (goOn e (sqR a b)).e w':=by
 have hlt:c<w.heap.size:=World.block_lt_of_cell? w _ hc
 have q1:c<w.heap.size+1:=by omega
 have q2:c<w.heap.size+1+1:=by omega
 have q3:c<w.heap.size+1+1+1:=by omega
 have nn0:¬(c=w.heap.size):=by omega
 have mm0:¬(w.heap.size=c):=by omega
 have nn1:¬(c=w.heap.size+1):=by omega
 have mm1:¬(w.heap.size+1=c):=by omega
 have nn2:¬(c=w.heap.size+1+1):=by omega
 have mm2:¬(w.heap.size+1+1=c):=by omega
 have nn3:¬(c=w.heap.size+1+1+1):=by omega
 have mm3:¬(w.heap.size+1+1+1=c):=by omega
 by_cases he:e=0
 ·subst he;rw [show goOn 0 (sqR a b)=sqR a b from if_pos rfl];obtain ⟨⟨p,q,f⟩,hR⟩:∃r:R,sqR a b=r:=⟨_,rfl⟩;have HR:=Lib.hid (show retR (sqR a b) = .returned (.tuple #[iv p q,.int .i64 f]) from by rw [hR]);rw [hR];clear hR;go_enter Tryz.func121,Tryz.ntmps121
  go_wp2_with fail
  refine (square_any a b _).mono ?_;rintro r w1 ⟨rfl,hb1⟩;rw [HR.out];obtain ⟨hc1,hf1⟩:=bcell hb1;have hz1:=hb1.size
  try simp at hz1
  have d3:w1.cell? ⟨w.heap.size+1,0,none⟩=some (.int .i64 0):=(hc1 _ _ (by simp)).trans (by simp [go_sem]);have d4:w1.cell? ⟨w.heap.size+1,1,none⟩=some (.int .i64 0):=(hc1 _ _ (by simp)).trans (by simp [go_sem]);have d5:w1.frozen? ⟨w.heap.size+1,0,none⟩=false:=(hf1 _ _ (by simp)).trans (by simp [go_sem]);have d6:w1.frozen? ⟨w.heap.size+1,1,none⟩=false:=(hf1 _ _ (by simp)).trans (by simp [go_sem]);have d1:w1.cell? ⟨c,0,none⟩=some (.int .i64 0):=(hc1 _ _ (by simp;omega)).trans (by simp [go_sem, *]);have d2:w1.frozen? ⟨c,0,none⟩=false:=(hf1 _ _ (by simp;omega)).trans (by simp [go_sem, *])
  have v1:c<w1.heap.size:=by omega
  have v2:¬(c=w1.heap.size):=by omega
  have v3:¬(w1.heap.size=c):=by omega
  have v4:w.heap.size+1<w1.heap.size:=by omega
  have v5:¬(w.heap.size+1=w1.heap.size):=by omega
  have v6:¬(w1.heap.size=w.heap.size+1):=by omega
  have v7:c<w1.heap.size+1:=by omega
  have v8:w.heap.size+1<w1.heap.size+1:=by omega
  have v9:¬(c=w.heap.size+1):=by omega
  have v10:¬(w.heap.size+1=c):=by omega
  go_wp2_with fail
  refine bodyPost_ret (v:=iv p q) (by simp [results,Tryz.results121,go_sem, *]) rfl ⟨rfl,?_⟩;refine ⟨by simp [go_sem, *],fun b o hb hn=>?_,fun b o hb=>?_,by simp;omega,fun h1 h2=>?_⟩
  ·have y2:=hc1 b o (by simp;omega)
   have x1:b<w.heap.size+1:=by omega
   have x2:b<w.heap.size+1+1:=by omega
   have x3:¬(b=w.heap.size):=by omega
   have x4:¬(b=w.heap.size+1):=by omega
   have x5:¬(b=w.heap.size+1+1):=by omega
   have x6:¬(w.heap.size+1+1=b):=by omega
   have x7:¬(w.heap.size+1=b):=by omega
   have hn':¬(c=b):=fun h=>hn h.symm
   have x8:b<w1.heap.size:=by omega
   have x9:¬(b=w1.heap.size):=by omega
   have x10:¬(w1.heap.size=b):=by omega
   simp [go_sem, *]
  ·have y2:=hf1 b o (by simp;omega)
   have x1:b<w.heap.size+1:=by omega
   have x2:b<w.heap.size+1+1:=by omega
   have x8:b<w1.heap.size:=by omega
   simp [go_sem, *]
  ·have y1:Below B w w1:=(((Below.refl _ _).alloc (by first|omega|(simp<;>omega)) _).alloc (by first|omega|(simp<;>omega)) _).trans (hb1.mono (by simp;omega))
   (repeat (first|exact y1|refine Below.setCell ?_ (by first|omega|(simp<;>omega)) _|refine Below.alloc ?_ (by first|omega|(simp<;>omega)) _))
 ·rw [show goOn e (sqR a b)=⟨0,0,e⟩ from if_neg he]
  have he':(e == 0)=false:=by simpa using he
  go_enter Tryz.func121,Tryz.ntmps121
  go_wp2_with fail
  refine bodyPost_ret (v:=iv 0 0) (by simp [results,Tryz.results121,go_sem, *]) rfl ⟨rfl,?_⟩;refine ⟨by simp [go_sem, *],fun b o hb hn=>?_,fun b o hb=>?_,by simp;omega,fun h1 h2=>?_⟩
  ·have x1:b<w.heap.size+1:=by omega
   have x2:b<w.heap.size+1+1:=by omega
   simp [go_sem, *]
  ·have x1:b<w.heap.size+1:=by omega
   have x2:b<w.heap.size+1+1:=by omega
   simp [go_sem, *]
  ·(repeat (first|exact Below.refl _ _|refine Below.setCell ?_ (by first|omega|(simp<;>omega)) _|refine Below.alloc ?_ (by first|omega|(simp<;>omega)) _))
end Go.Proofs.YtiecdgcdcpmgaaaGreat.Iv
