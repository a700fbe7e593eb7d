/- Texts PDr0, PCb1, PWk, PRk0, PDr1, PFr1, PFr2, PFr3, PFr4. -/
import Derived.Test.YtiecdgcdcpmgaaaGreatM03
import Derived.Test.YtiecdgcdcpmgaaaGreatM05
import Derived.Laws.OwnMore
import Derived.Deep.AppendLies
import Derived.Outline
import Derived.RegionTactic
import Derived.Deep.QuietTactic
import Derived.BigQuiet
import Derived.Test.YtiecdgcdcpmgaaaGreatM04
import Derived.Test.YtiecdgcdcpmgaaaGreatM01
import Derived.Deep.RegionHeld3
import Derived.Deep.RegionWith

/- A result, and what is made of it: bind. -/
namespace Go.Proofs.YtiecdgcdcpmgaaaGreat.Iv
open Go.RowKit
def bind (r:R) (f:Int→Int→R):R:=if r.e=0 then f r.lo r.hi else ⟨0,0,r.e⟩
theorem bind_ok {r:R} {f:Int→Int→R} (h:r.e=0):bind r f=f r.lo r.hi:=if_pos h
theorem bind_err {r:R} {f:Int→Int→R} (h:¬r.e=0):bind r f=⟨0,0,r.e⟩:=if_neg h
end Go.Proofs.YtiecdgcdcpmgaaaGreat.Iv

/- The same contracts of the reference's calculator as in Ca1, at a seat without package fresnel. -/
namespace Go.Proofs.YtiecdgcdcpmgaaaGreat.Iv
open Go.RowKit
def keepE (e f:Int):Int:=if e=0 then f else e
structure Step (B:Nat) (w:World) (c:Nat) (E:Int) (w':World):Prop where
 cell:w'.cell? ⟨c,0,none⟩=some (.int .i64 E)
 other:∀b o,b<w.heap.size→¬(b=c)→w'.cell? ⟨b,o,none⟩=w.cell? ⟨b,o,none⟩
 frozen:∀b o,b<w.heap.size→w'.frozen? ⟨b,o,none⟩=w.frozen? ⟨b,o,none⟩
 size:w.heap.size≤w'.heap.size
 below:B≤c→B≤w.heap.size→Below B w w'
set_option maxRecDepth 100000 in
theorem kept_any (B c:Nat) (a b e f:Int) (w:World) (hc:w.cell? ⟨c,0,none⟩=some (.int .i64 e)) (hf:w.frozen? ⟨c,0,none⟩=false) :
  Calls Tryz.prog 82 #[.pointer (some ⟨c,0,none⟩),iv a b,.int .i64 f] w fun r w'=>r = .returned (iv a b)∧Step B w c (keepE e f) w':=by
 have hlt:c<w.heap.size:=World.block_lt_of_cell? w _ hc
 have n1:¬(c=w.heap.size):=by omega
 have n2:¬(c=w.heap.size+1):=by omega
 have n3:¬(w.heap.size=c):=by omega
 have n4:¬(w.heap.size+1=c):=by omega
 have n5:c<w.heap.size+1:=by omega
 by_cases he:e=0
 ·subst he;rw [show keepE 0 f=f from if_pos rfl];go_enter Tryz.func82,Tryz.ntmps82
  go_wp2_with fail
  refine bodyPost_ret (v:=iv a b) (by simp [results,Tryz.results82,go_sem, *]) rfl ⟨rfl,?_⟩;refine ⟨by simp [go_sem, *],fun b o hb hn=>?_,fun b o hb=>?_,by simp;omega,fun h1 h2=>?_⟩
  ·have m1:b<w.heap.size+1:=by omega
   simp [go_sem, *]
  ·have m1:b<w.heap.size+1:=by omega
   simp [go_sem, *]
  ·exact (((Below.refl _ _).setCell h1 _).alloc (by simp;omega) _).alloc (by simp;omega) _
 ·rw [show keepE e f=e from if_neg he]
  have he':(e == 0)=false:=by simpa using he
  go_enter Tryz.func82,Tryz.ntmps82
  go_wp2_with fail
  refine bodyPost_ret (v:=iv a b) (by simp [results,Tryz.results82,go_sem, *]) rfl ⟨rfl,?_⟩;refine ⟨by simp [go_sem, *],fun b o hb hn=>?_,fun b o hb=>?_,by simp;omega,fun h1 h2=>?_⟩
  ·have m1:b<w.heap.size+1:=by omega
   simp [go_sem, *]
  ·have m1:b<w.heap.size+1:=by omega
   simp [go_sem, *]
  ·exact ((Below.refl _ _).alloc h2 _).alloc (by simp;omega) _
set_option maxRecDepth 100000 in
set_option maxHeartbeats 1000000 in
theorem cmul_any (B c:Nat) (a b x y e:Int) (w:World) (hc:w.cell? ⟨c,0,none⟩=some (.int .i64 e)) (hf:w.frozen? ⟨c,0,none⟩=false) :
  Calls Tryz.prog 43 #[.pointer (some ⟨c,0,none⟩),iv a b,iv x y] w fun r w'=>r = .returned (iv (mulR a b x y).lo (mulR a b x y).hi)∧Step B w c (keepE e (mulR a b x y).e) w':=by
 have hlt:c<w.heap.size:=World.block_lt_of_cell? w _ hc;obtain ⟨⟨p,q,f⟩,hR⟩:∃r:R,mulR a b x y=r:=⟨_,rfl⟩;have HR:=Lib.hid (show retR (mulR a b x y) = .returned (.tuple #[iv p q,.int .i64 f]) from by rw [hR]);rw [hR];clear hR
 have q1:c<w.heap.size+1:=by omega
 have q2:c<w.heap.size+1+1:=by omega
 have q3:c<w.heap.size+1+1+1:=by omega
 have nn0:¬(c=w.heap.size):=by omega
 have mm0:¬(w.heap.size=c):=by omega
 have nn1:¬(c=w.heap.size+1):=by omega
 have mm1:¬(w.heap.size+1=c):=by omega
 have nn2:¬(c=w.heap.size+1+1):=by omega
 have mm2:¬(w.heap.size+1+1=c):=by omega
 have nn3:¬(c=w.heap.size+1+1+1):=by omega
 have mm3:¬(w.heap.size+1+1+1=c):=by omega
 go_enter Tryz.func43,Tryz.ntmps43
 go_wp2_with fail
 refine (rmul_any a b x y _).mono ?_;rintro r w1 ⟨rfl,hb1⟩;rw [HR.out];obtain ⟨hc1,hf1⟩:=bcell hb1;have hz1:=hb1.size
 try simp at hz1
 have d1:w1.cell? ⟨c,0,none⟩=some (.int .i64 e):=(hc1 _ _ (by simp;omega)).trans (by simp [go_sem, *]);have d2:w1.frozen? ⟨c,0,none⟩=false:=(hf1 _ _ (by simp;omega)).trans (by simp [go_sem, *]);have d3:w1.cell? ⟨w.heap.size+1+1,0,none⟩=some (.int .i64 0):=(hc1 _ _ (by simp)).trans (by simp [go_sem]);have d4:w1.cell? ⟨w.heap.size+1+1,1,none⟩=some (.int .i64 0):=(hc1 _ _ (by simp)).trans (by simp [go_sem]);have d5:w1.frozen? ⟨w.heap.size+1+1,0,none⟩=false:=(hf1 _ _ (by simp)).trans (by simp [go_sem]);have d6:w1.frozen? ⟨w.heap.size+1+1,1,none⟩=false:=(hf1 _ _ (by simp)).trans (by simp [go_sem])
 go_wp2_with fail
 refine (kept_any B c p q e f w1 d1 d2).mono ?_;rintro r w2 ⟨rfl,st⟩;have g3:=(st.other (w.heap.size+1+1) 0 (by omega) (by omega)).trans d3;have g4:=(st.other (w.heap.size+1+1) 1 (by omega) (by omega)).trans d4;have g5:=(st.frozen (w.heap.size+1+1) 0 (by omega)).trans d5;have g6:=(st.frozen (w.heap.size+1+1) 1 (by omega)).trans d6;have sz:=st.size;have ce:=st.cell;have ST:=Lib.hid st;clear st
 go_wp2_with fail
 refine bodyPost_ret (v:=iv p q) (by simp [results,Tryz.results43,go_sem, *]) rfl ⟨rfl,?_⟩;refine ⟨by simp [go_sem, *],fun b o hb hn=>?_,fun b o hb=>?_,by simp;omega,fun h1 h2=>?_⟩
 ·have x1:b<w.heap.size+1+1:=by omega
  have y1:=ST.out.other b o (by omega) hn;have y2:=hc1 b o (by simp;omega);simp [go_sem,y1,y2,x1,hb]
 ·have y1:=ST.out.frozen b o (by omega);have y2:=hf1 b o (by simp;omega)
  have x1:b<w.heap.size+1+1:=by omega
  simp [go_sem,y1,y2,x1,hb]
 ·have y1:=ST.out.below h1 (by omega);exact (((((((Below.refl _ _).alloc (by first|omega|(simp<;>omega)) _).alloc (by first|omega|(simp<;>omega)) _).alloc (by first|omega|(simp<;>omega)) _).trans (hb1.mono (by simp;omega))).trans y1).setCell (by simp;omega) _).setCell (by simp;omega) _
set_option maxRecDepth 100000 in
set_option maxHeartbeats 1000000 in
theorem cadd_any (B c:Nat) (a b x y e:Int) (w:World) (hc:w.cell? ⟨c,0,none⟩=some (.int .i64 e)) (hf:w.frozen? ⟨c,0,none⟩=false) :
  Calls Tryz.prog 45 #[.pointer (some ⟨c,0,none⟩),iv a b,iv x y] w fun r w'=>r = .returned (iv (addR a b x y).lo (addR a b x y).hi)∧Step B w c (keepE e (addR a b x y).e) w':=by
 have hlt:c<w.heap.size:=World.block_lt_of_cell? w _ hc;obtain ⟨⟨p,q,f⟩,hR⟩:∃r:R,addR a b x y=r:=⟨_,rfl⟩;have HR:=Lib.hid (show retR (addR a b x y) = .returned (.tuple #[iv p q,.int .i64 f]) from by rw [hR]);rw [hR];clear hR
 have q1:c<w.heap.size+1:=by omega
 have q2:c<w.heap.size+1+1:=by omega
 have q3:c<w.heap.size+1+1+1:=by omega
 have nn0:¬(c=w.heap.size):=by omega
 have mm0:¬(w.heap.size=c):=by omega
 have nn1:¬(c=w.heap.size+1):=by omega
 have mm1:¬(w.heap.size+1=c):=by omega
 have nn2:¬(c=w.heap.size+1+1):=by omega
 have mm2:¬(w.heap.size+1+1=c):=by omega
 have nn3:¬(c=w.heap.size+1+1+1):=by omega
 have mm3:¬(w.heap.size+1+1+1=c):=by omega
 go_enter Tryz.func45,Tryz.ntmps45
 go_wp2_with fail
 refine (radd_any a b x y _).mono ?_;rintro r w1 ⟨rfl,hb1⟩;rw [HR.out];obtain ⟨hc1,hf1⟩:=bcell hb1;have hz1:=hb1.size
 try simp at hz1
 have d1:w1.cell? ⟨c,0,none⟩=some (.int .i64 e):=(hc1 _ _ (by simp;omega)).trans (by simp [go_sem, *]);have d2:w1.frozen? ⟨c,0,none⟩=false:=(hf1 _ _ (by simp;omega)).trans (by simp [go_sem, *]);have d3:w1.cell? ⟨w.heap.size+1+1,0,none⟩=some (.int .i64 0):=(hc1 _ _ (by simp)).trans (by simp [go_sem]);have d4:w1.cell? ⟨w.heap.size+1+1,1,none⟩=some (.int .i64 0):=(hc1 _ _ (by simp)).trans (by simp [go_sem]);have d5:w1.frozen? ⟨w.heap.size+1+1,0,none⟩=false:=(hf1 _ _ (by simp)).trans (by simp [go_sem]);have d6:w1.frozen? ⟨w.heap.size+1+1,1,none⟩=false:=(hf1 _ _ (by simp)).trans (by simp [go_sem])
 go_wp2_with fail
 refine (kept_any B c p q e f w1 d1 d2).mono ?_;rintro r w2 ⟨rfl,st⟩;have g3:=(st.other (w.heap.size+1+1) 0 (by omega) (by omega)).trans d3;have g4:=(st.other (w.heap.size+1+1) 1 (by omega) (by omega)).trans d4;have g5:=(st.frozen (w.heap.size+1+1) 0 (by omega)).trans d5;have g6:=(st.frozen (w.heap.size+1+1) 1 (by omega)).trans d6;have sz:=st.size;have ce:=st.cell;have ST:=Lib.hid st;clear st
 go_wp2_with fail
 refine bodyPost_ret (v:=iv p q) (by simp [results,Tryz.results45,go_sem, *]) rfl ⟨rfl,?_⟩;refine ⟨by simp [go_sem, *],fun b o hb hn=>?_,fun b o hb=>?_,by simp;omega,fun h1 h2=>?_⟩
 ·have x1:b<w.heap.size+1+1:=by omega
  have y1:=ST.out.other b o (by omega) hn;have y2:=hc1 b o (by simp;omega);simp [go_sem,y1,y2,x1,hb]
 ·have y1:=ST.out.frozen b o (by omega);have y2:=hf1 b o (by simp;omega)
  have x1:b<w.heap.size+1+1:=by omega
  simp [go_sem,y1,y2,x1,hb]
 ·have y1:=ST.out.below h1 (by omega);exact (((((((Below.refl _ _).alloc (by first|omega|(simp<;>omega)) _).alloc (by first|omega|(simp<;>omega)) _).alloc (by first|omega|(simp<;>omega)) _).trans (hb1.mono (by simp;omega))).trans y1).setCell (by simp;omega) _).setCell (by simp;omega) _
end Go.Proofs.YtiecdgcdcpmgaaaGreat.Iv

/- What a walk carries, over the steps of a calculation: laws for worlds as the walk writes them. -/
namespace Go.Proofs.YtiecdgcdcpmgaaaGreat.Iv
open Go.RowKit
theorem Bx.put2 {W:World} {b:Nat} {p q u v:Value} (h:Bx W b [p,q]):Bx ((W.setCell ⟨b,0,none⟩ u).setCell ⟨b,1,none⟩ v) b [u,v]:=h.put.put
theorem Bx.put6 {W:World} {b:Nat} {p q r s t u p' q' r' s' t' u':Value} (h:Bx W b [p,q,r,s,t,u]) :
  Bx ((((((W.setCell ⟨b,0,none⟩ p').setCell ⟨b,1,none⟩ q').setCell ⟨b,2,none⟩ r').setCell ⟨b,3,none⟩ s').setCell ⟨b,4,none⟩ t').setCell ⟨b,5,none⟩ u') b [p',q',r',s',t',u']:=h.put.put.put.put.put.put
theorem Bx.put1 {W:World} {b:Nat} {p u:Value} (h:Bx W b [p]):Bx (W.setCell ⟨b,0,none⟩ u) b [u]:=h.put
theorem bodyPost_box {P:Program} {fn:Func} {R:Ending→World→Prop} {a:Act} {w:World} {v:Value} {b:Nat} {cs:List Value} (hB:Bx w b cs)
  (hr:∀X:World,(∀j,X.cell? ⟨b,j,none⟩=cs[j]?)→(results fn a.tmps).run P X = .ok v X) (hd:a.defers = []) (hR:R (.returned v) w):bodyPost P fn R .ret a w:=⟨hd,v,hr w hB.c,hR⟩
structure Ce (W:World) (c:Nat) (e:Int):Prop where
 lt:c<W.heap.size
 v:W.cell? ⟨c,0,none⟩=some (.int .i64 e)
 f:W.frozen? ⟨c,0,none⟩=false
theorem Bx.ce {W:World} {b:Nat} {e:Int} (h:Bx W b [.int .i64 e]):Ce W b e:=⟨h.lt,h.c 0,h.f 0⟩
theorem Ce.kept {W W':World} {c:Nat} {e:Int} (h:Ce W c e) (hb:Below W.heap.size W W'):Ce W' c e:=
 ⟨Nat.lt_of_lt_of_le h.lt hb.size,(hb.cell (p:=⟨c,0,none⟩) h.lt).trans h.v,(hb.frozen (p:=⟨c,0,none⟩) h.lt).trans h.f⟩
theorem Ce.set {W:World} {b c i:Nat} {u:Value} {e:Int} (h:Ce W b e) (ne:¬(b=c)):Ce (W.setCell ⟨c,i,none⟩ u) b e:=
 ⟨by simpa using h.lt,(World.cell?_setCell_other _ _ _ _ (fun x=>ne (by injection x with x;exact x.symm))).trans h.v,(World.frozen?_setCell _ _ _ _).trans h.f⟩
theorem Ce.put {W:World} {c:Nat} {e E:Int} (h:Ce W c e):Ce (W.setCell ⟨c,0,none⟩ (.int .i64 E)) c E:=
 ⟨by simpa using h.lt,World.cell?_setCell_same _ _ _ h.v,(World.frozen?_setCell _ _ _ _).trans h.f⟩
theorem Ce.alc {W:World} {c:Nat} {e:Int} (h:Ce W c e) (o:Obj):Ce (W.alloc o) c e:=h.kept ((Below.refl _ _).alloc (Nat.le_refl _) o)
theorem Ce.drew {W:World} {c:Nat} {e:Int} (h:Ce W c e):Ce W.drew c e:=h.kept (Below.refl _ _).drew
theorem Ce.step {B:Nat} {W W':World} {c:Nat} {e E:Int} (h:Ce W c e) (st:Step B W c E W'):Ce W' c E:=
 ⟨Nat.lt_of_lt_of_le h.lt st.size,st.cell,(st.frozen _ _ h.lt).trans h.f⟩
theorem Bx.step {B:Nat} {W W':World} {b c:Nat} {E:Int} {cs:List Value} (h:Bx W b cs) (st:Step B W c E W') (ne:¬(b=c)):Bx W' b cs:=
 ⟨Nat.lt_of_lt_of_le h.lt st.size,fun j=>(st.other _ _ h.lt ne).trans (h.c j),fun j=>(st.frozen _ _ h.lt).trans (h.f j)⟩
theorem Rd.step {B:Nat} {W W':World} {b c:Nat} {E:Int} {cs:List Value} (h:Rd W b cs) (st:Step B W c E W') (ne:¬(b=c)):Rd W' b cs:=
 ⟨Nat.lt_of_lt_of_le h.lt st.size,fun j=>(st.other _ _ h.lt ne).trans (h.c j)⟩
theorem Ho.step {w0 W W':World} {n c:Nat} {E:Int} {l:List (Nat × List Value)} (h:Ho w0 W n l) (st:Step w0.heap.size W c E W') (g:n≤c):Ho w0 W' n l:=
 ⟨h.below.trans (st.below (Nat.le_trans h.base g) h.below.size),h.base,Nat.le_trans h.size st.size,fun p hp=>⟨(h.rd p hp).1,(h.rd p hp).2.step st (Nat.ne_of_lt (Nat.lt_of_lt_of_le (h.rd p hp).1 g))⟩⟩
theorem Step.beg {B:Nat} {w:World} {c:Nat} {e:Int} (hc:w.cell? ⟨c,0,none⟩=some (.int .i64 e)):Step B w c e w:=
 ⟨hc,fun _ _ _ _=>rfl,fun _ _ _=>rfl,Nat.le_refl _,fun _ _=>Below.refl _ _⟩
theorem Step.lt {B:Nat} {w W:World} {c:Nat} {e:Int} (st:Step B w c e W):c<W.heap.size:=World.block_lt_of_cell? W _ st.cell
theorem Step.kall {B:Nat} {w W W':World} {c:Nat} {e:Int} (st:Step B w c e W) (hb:Below W.heap.size W W'):Step B w c e W':=
 ⟨(hb.cell (p:=⟨c,0,none⟩) st.lt).trans st.cell,fun b o h n=>(hb.cell (p:=⟨b,o,none⟩) (Nat.lt_of_lt_of_le h st.size)).trans (st.other b o h n),
  fun b o h=>(hb.frozen (p:=⟨b,o,none⟩) (Nat.lt_of_lt_of_le h st.size)).trans (st.frozen b o h),Nat.le_trans st.size hb.size,
  fun h1 h2=>(st.below h1 h2).trans (hb.mono (Nat.le_trans h2 st.size))⟩
theorem Step.alk {B:Nat} {w W:World} {c:Nat} {e:Int} (st:Step B w c e W) (o:Obj):Step B w c e (W.alloc o):=st.kall ((Below.refl _ _).alloc (Nat.le_refl _) o)
theorem Step.drow {B:Nat} {w W:World} {c:Nat} {e:Int} (st:Step B w c e W):Step B w c e W.drew:=st.kall (Below.refl _ _).drew
theorem Step.owns {B:Nat} {w W:World} {c d i:Nat} {e:Int} {u:Value} (st:Step B w c e W) (g:w.heap.size≤d) (ne:¬(c=d)):Step B w c e (W.setCell ⟨d,i,none⟩ u):=
 ⟨(World.cell?_setCell_other _ _ _ _ (fun x=>ne (by injection x with x;exact x.symm))).trans st.cell,
  fun b o h n=>(World.cell?_setCell_other _ _ _ _ (fun x=>absurd (show d=b by injection x) (Nat.ne_of_gt (Nat.lt_of_lt_of_le h g)))).trans (st.other b o h n),
  fun b o h=>(World.frozen?_setCell _ _ _ _).trans (st.frozen b o h),by simpa using st.size,fun h1 h2=>(st.below h1 h2).setCell (Nat.le_trans h2 g) _⟩
theorem Step.putc {B:Nat} {w W:World} {c:Nat} {e E:Int} (st:Step B w c e W):Step B w c E (W.setCell ⟨c,0,none⟩ (.int .i64 E)):=
 ⟨World.cell?_setCell_same _ _ _ st.cell,
  fun b o h n=>(World.cell?_setCell_other _ _ _ _ (fun x=>n (by injection x with x;exact x.symm))).trans (st.other b o h n),
  fun b o h=>(World.frozen?_setCell _ _ _ _).trans (st.frozen b o h),by simpa using st.size,fun h1 h2=>(st.below h1 h2).setCell h1 _⟩
theorem Step.and {B:Nat} {w W W':World} {c:Nat} {e E:Int} (st:Step B w c e W) (s2:Step B W c E W'):Step B w c E W':=
 ⟨s2.cell,fun b o h n=>(s2.other b o (Nat.lt_of_lt_of_le h st.size) n).trans (st.other b o h n),fun b o h=>(s2.frozen b o (Nat.lt_of_lt_of_le h st.size)).trans (st.frozen b o h),
  Nat.le_trans st.size s2.size,fun h1 h2=>(st.below h1 h2).trans (s2.below h1 (Nat.le_trans h2 st.size))⟩
end Go.Proofs.YtiecdgcdcpmgaaaGreat.Iv

/- Short names for the steps of a region that draws its order, and for blocks that are apart. -/
namespace Go.Proofs.YtiecdgcdcpmgaaaGreat.Iv
open Go.RowKit
theorem rl {ops:Array Oper} {md:Region.Mode} {i:Nat} {L:Array Bool} {o:Oper} (ho:ops[i]? = some o) (h:i∈Region.ready md ops L):L.getD i true=false:=(ready_op ho h).1
theorem rk {ops:Array Oper} {md:Region.Mode} {i:Nat} {L:Array Bool} {o:Oper} (ho:ops[i]? = some o) (h:i∈Region.ready md ops L) (n:Nat) (g:Ground) (hm:({on:=n,ground:=g} : Edge)∈o.after:=by simp) (hb:Region.binds md {on:=n,ground:=g} = true:=by rfl):L.getD n false=true:=(ready_op ho h).2 _ hm hb
theorem nr {ops:Array Oper} {md:Region.Mode} {L:Array Bool} (i:Nat) {o:Oper} (ho:ops[i]? = some o) (hn:Region.ready md ops L = []) (h:∀e∈o.after,Region.binds md e=true→L.getD e.on false=true:=by simp [Region.binds]):L.getD i true=true:=not_ready ho hn h
theorem sS:(∀(xs:List Value) (i:Nat) (a:Value),xs.toArray.setIfInBounds i a=(xs.set i a).toArray)∧(∀(x:Value) (xs:List Value) (a:Value),(x::xs).set 0 a=a::xs)∧(∀(x:Value) (xs:List Value) (i:Nat) (a:Value),(x::xs).set (i+1) a=x::xs.set i a):=
 ⟨fun _ _ _=>List.setIfInBounds_toArray ..,fun _ _ _=>rfl,fun _ _ _ _=>rfl⟩
theorem ai {p q:Prop} (h:p) (k:q):p∧q:=⟨h,k⟩
theorem zq (a b:Nat) (h:a<b:=by omega):¬a=b∧¬b=a∧a<b∧a<b+1:=by omega
theorem zp (a b:Nat) (h:¬a=b:=by omega):¬a=b∧¬b=a:=by omega
theorem zl (a b:Nat) (h:a<b:=by omega):a<b∧a<b+1:=by omega
theorem hoA {w0 W:World} {n:Nat} {l:List (Nat × List Value)} (h:Ho w0 W n l:=by with_reducible repeat (first|assumption|refine Ho.alc ?_ _|refine Ho.drew ?_|refine Ho.put ?_ (by omega))):Ho w0 W n l:=h
theorem bxB {W:World} {b:Nat} {cs:List Value} (h:Bx W b cs:=by with_reducible repeat (first|assumption|refine Bx.alc ?_ _|refine Bx.drew ?_|refine Bx.set ?_ (by omega))):Bx W b cs:=h
theorem bxA {W:World} {b:Nat} {cs:List Value} (h:Bx W b cs:=by repeat (first|with_reducible assumption|(with_reducible refine Bx.new ?_;(· (simp;done)))|with_reducible apply Bx.put6|with_reducible apply Bx.put2|with_reducible apply Bx.put1|with_reducible refine Bx.set ?_ (by omega)|with_reducible refine Bx.alc ?_ _|with_reducible refine Bx.drew ?_)):Bx W b cs:=h
theorem hoK {w0 V W W':World} {n:Nat} {l:List (Nat × List Value)} (_:Ho w0 V n l) (hb:Below W.heap.size W W') (h:Ho w0 W n l:=by with_reducible repeat (first|assumption|refine Ho.alc ?_ _|refine Ho.drew ?_|refine Ho.put ?_ (by omega))):Ho w0 W' n l:=h.call hb
theorem bxK {V W W':World} {b:Nat} {cs:List Value} (_:Bx V b cs) (hb:Below W.heap.size W W') (h:Bx W b cs:=by with_reducible repeat (first|assumption|refine Bx.alc ?_ _|refine Bx.drew ?_|refine Bx.set ?_ (by omega))):Bx W' b cs:=h.kept hb
end Go.Proofs.YtiecdgcdcpmgaaaGreat.Iv

/- Contracts of Neg, Inside and Sign of intervals, the program's and the reference's, at a seat without their other functions. -/
namespace Go.Proofs.YtiecdgcdcpmgaaaGreat.Iv
open Go.RowKit
theorem neg_any (a b:Int) (w:World) :
  Calls Tryz.prog 103 #[iv a b] w fun e w'=>e=retR (negR a b)∧Below w.heap.size w w':=by
 by_cases h1:vB a b=true
 ·have e1:negR a b=⟨-b,-a,0⟩:=if_pos h1;rw [e1];obtain ⟨_,_,_⟩:=vB_iff.1 h1;have i1:IntKind.i64.wrap (-b) = -b:=IntWalk.i64_in _ (by omega);have i2:IntKind.i64.wrap (-a) = -a:=IntWalk.i64_in _ (by omega);clear e1;go_enter Tryz.func103,Tryz.ntmps103
  go_wp2_with (first|(go_at_call 64;refine (valid_any _ _ _).mono ?_;rintro e w1 ⟨rfl,rfl⟩))
  exact bodyPost_ret (v:=.tuple #[iv (-b) (-a),.int .i64 0]) (by simp [results,Tryz.results103,go_sem]) rfl ⟨rfl,(by repeat (first|exact Below.refl _ _|refine Below.drew ?_|refine below_drewN ?_ _|refine Below.setCell ?_ (by first|omega|(simp<;>omega)) _|refine Below.alloc ?_ (by first|omega|(simp<;>omega)) _))⟩
 ·have h1':vB a b=false:=by simpa using h1
  have e1:negR a b=⟨0,0,1⟩:=if_neg h1;rw [e1];clear h1 e1;go_enter Tryz.func103,Tryz.ntmps103
  go_wp2_with (first|(go_at_call 64;refine (valid_any _ _ _).mono ?_;rintro e w1 ⟨rfl,rfl⟩))
  exact bodyPost_ret (v:=.tuple #[iv 0 0,.int .i64 1]) (by simp [results,Tryz.results103,go_sem]) rfl ⟨rfl,(by repeat (first|exact Below.refl _ _|refine Below.drew ?_|refine below_drewN ?_ _|refine Below.setCell ?_ (by first|omega|(simp<;>omega)) _|refine Below.alloc ?_ (by first|omega|(simp<;>omega)) _))⟩
def sgn (a b:Int):Int:=if vB a b=true then (if 0<a then 1 else if b<0 then -1 else 0) else 0
theorem sign_any (a b:Int) (w:World) :
  Calls Tryz.prog 73 #[iv a b] w fun e w'=>e = .returned (.int .i64 (sgn a b))∧Below w.heap.size w w':=by
 cases h1:vB a b
 ·rw [show sgn a b=0 from if_neg (by rw [h1];decide)];go_enter Tryz.func73,Tryz.ntmps73
  go_wp2_with (go_at_call 64;refine (valid_any _ _ _).mono ?_;rintro e w1 ⟨rfl,rfl⟩)
  all_goals go_ret
  all_goals exact ⟨rfl,(by repeat (first|exact Below.refl _ _|refine Below.drew ?_|refine below_drewN ?_ _|refine Below.setCell ?_ (by first|omega|(simp<;>omega)) _|refine Below.alloc ?_ (by first|omega|(simp<;>omega)) _))⟩
 ·rw [show sgn a b=(if 0<a then 1 else if b<0 then -1 else 0) from if_pos h1];go_enter Tryz.func73,Tryz.ntmps73
  go_wp2_with (go_at_call 64;refine (valid_any _ _ _).mono ?_;rintro e w1 ⟨rfl,rfl⟩)
  all_goals go_ret
  all_goals refine ⟨ret_int ?_,(by repeat (first|exact Below.refl _ _|refine Below.drew ?_|refine below_drewN ?_ _|refine Below.setCell ?_ (by first|omega|(simp<;>omega)) _|refine Below.alloc ?_ (by first|omega|(simp<;>omega)) _))⟩
  all_goals (repeat' split)<;>first|rfl|omega
end Go.Proofs.YtiecdgcdcpmgaaaGreat.Iv

/- Contracts of the program's functions on surfaces: what package fresnel returns, in words of plain functions. -/
namespace Go.Proofs.YtiecdgcdcpmgaaaGreat.Ivf
open Go.Proofs.YtiecdgcdcpmgaaaGreat.Iv
open Go.RowKit
def cutI (n:Int):Int:=min (max n 0) 16777216
theorem info_int:(Tryz.prog.info? 3).map (fun i=>(i.zero,i.size,i.bytes))=some (some (.int .i64 0),1,8):=by kernel_rfl
def cutL (L:List Int):List Int:=L.map cutI
def vals (L:List Int):List Value:=L.map fun x:Int=>Value.int .i64 x
theorem cutL_take (L:List Int) (k:Nat) (h:k<L.length):cutL (L.take (k+1))=cutL (L.take k) ++ [cutI (L[k]?.getD 0)]:=by
 unfold cutL;rw [List.take_succ_eq_append_getElem h,List.map_append,List.getElem?_eq_getElem h];rfl
theorem one_new (w:World) (v:Value) (t:TypeId):∀j u,[v][j]? = some u→(w.alloc (.cells #[v] t)).cell? ((⟨w.heap.size,0,none⟩:Addr).add j)=some u:=by
 intro j u h
 match j,h with
 |0,h=>simp at h;subst h;simp [Addr.add,World.cell?_alloc_at]
theorem one_int (k:IntKind) (x:Int):∀u∈[Value.int k x],u.oneCell'=true:=by
 intro u h;simp at h;subst h;rfl
theorem vals_snoc (L:List Int) (x:Int):vals (L ++ [x])=vals L ++ [.int .i64 x]:=by simp [vals]
theorem ints2 {w:World} {g:Nat} (x y:Int) (hg:g=w.heap.size):IntsAt (w.alloc (.cells #[.int .i64 x,.int .i64 y] 3)) (some ⟨g,0,none⟩) [x,y]:=by
 subst hg;intro _;refine ⟨_,_,rfl,by simp,fun i hi=>?_⟩
 have h:i=0∨i=1:=by simp at hi;omega
 rcases h with rfl|rfl<;>simp [World.cell?_alloc_at]
theorem add0 (g n:Nat):(⟨g,0,none⟩:Addr).add n=⟨g,n,none⟩:=by unfold Addr.add;split<;>simp_all
def CutPost (n:Nat) (L:List Int) (w:World) (e:Ending) (w':World):Prop:=
 Below w.heap.size w w'∧∃v,e = .returned v∧w'.ownsRow w.heap.size 3 1 v n (vals (cutL L))
theorem cutEnds_any (ao:Option Addr) (n cap:Nat) (L:List Int) (w:World) (hn:n=L.length) (hm:n≤20) (hL:IntsAt w ao L) :
  Calls Tryz.prog 129 #[.slice ao n cap] w (CutPost n L w):=by
 subst hn;obtain ⟨i0,hi,hz0,hz1,hz2⟩:=info_parts info_int;go_enter Tryz.func129,Tryz.ntmps129
 go_wp2
 go_loopw [3,9] (fun v i wr=>∃k:Nat,k≤L.length∧i = .int .i64 k∧wr.ownsRow w.heap.size 3 1 v k (vals (cutL (L.take k)))∧Below w.heap.size w wr) (fun _ i _=>L.length - (intOf i).toNat)
 case atStart=>exact ⟨0,Nat.zero_le _,rfl,⟨rfl,.inr ⟨w.heap.size,0,#[],rfl,Nat.le_refl _,heap_alloc_new _ _,Nat.le_refl _,Nat.zero_le _,rfl,rfl⟩⟩,(Below.refl _ _).alloc (Nat.le_refl _) _⟩
 case round=>
  obtain ⟨k,hk,rfl,hown,hbel⟩:=hrel;have hsz:=hbel.size
  by_cases hlt:k<L.length
  ·obtain ⟨b,off,rfl,hb1,hc⟩:=hL (by omega);have g0:=(hbel.cell (by exact hb1)).trans (hc k hlt);have HT:=Lib.hid (cutL_take L k hlt);obtain ⟨z,hz⟩:∃z,z=L[k]?.getD 0:=⟨_,rfl⟩;rw [←hz] at g0 HT;clear hz
   by_cases z1:z<0
   ·have HZ:=Lib.hid (show cutI z=0 by unfold cutI;omega)
    go_wp2_with (at_builtin;refine wpList_append_own _ rfl _ _ 43 rfl w.heap.size 3 i0 (.int .i64 0) 1 8 Tryz.underlying43 hi hz0 hz1 hz2 rfl (by decide) _ _ _ rfl (hown.alloc _) ⟨wr.heap.size,0,none⟩ 1 1 [.int .i64 0] rfl rfl (one_new _ _ _) (one_int _ _) (by unfold maxLen;omega) (by omega) (by simp;omega) ?_)
    intro v' w1 hown' hgrow _
    have hb2:Below w.heap.size w w1:=by
     refine Below.grown (hbel.alloc hbel.size _) hgrow ?_ ?_
     ·simp;omega
     ·intro q hq;have:=(hown.lt q hq).1;omega
    clear hgrow hown g0
    go_wp2
    go_roundw
    case rel=>exact ⟨k+1,by omega,by go_num,by rw [HT.out,HZ.out,vals_snoc];exact hown',hb2⟩
    case measure=>simp [intOf];omega
   ·by_cases z2:16777216<z
    ·have HZ:=Lib.hid (show cutI z=16777216 by unfold cutI;omega)
     go_wp2_with (at_builtin;refine wpList_append_own _ rfl _ _ 43 rfl w.heap.size 3 i0 (.int .i64 0) 1 8 Tryz.underlying43 hi hz0 hz1 hz2 rfl (by decide) _ _ _ rfl (hown.alloc _) ⟨wr.heap.size,0,none⟩ 1 1 [.int .i64 16777216] rfl rfl (one_new _ _ _) (one_int _ _) (by unfold maxLen;omega) (by omega) (by simp;omega) ?_)
     intro v' w1 hown' hgrow _
     have hb2:Below w.heap.size w w1:=by
      refine Below.grown (hbel.alloc hbel.size _) hgrow ?_ ?_
      ·simp;omega
      ·intro q hq;have:=(hown.lt q hq).1;omega
     clear hgrow hown g0
     go_wp2
     go_roundw
     case rel=>exact ⟨k+1,by omega,by go_num,by rw [HT.out,HZ.out,vals_snoc];exact hown',hb2⟩
     case measure=>simp [intOf];omega
    ·have HZ:=Lib.hid (show cutI z=z by unfold cutI;omega)
     have z3:0≤z:=by omega
     have z4:z≤16777216:=by omega
     clear z1 z2
     go_wp2_with (at_builtin;refine wpList_append_own _ rfl _ _ 43 rfl w.heap.size 3 i0 (.int .i64 0) 1 8 Tryz.underlying43 hi hz0 hz1 hz2 rfl (by decide) _ _ _ rfl (hown.alloc _) ⟨wr.heap.size,0,none⟩ 1 1 [.int .i64 z] rfl rfl (one_new _ _ _) (one_int _ _) (by unfold maxLen;omega) (by omega) (by simp;omega) ?_)
     intro v' w1 hown' hgrow _
     have hb2:Below w.heap.size w w1:=by
      refine Below.grown (hbel.alloc hbel.size _) hgrow ?_ ?_
      ·simp;omega
      ·intro q hq;have:=(hown.lt q hq).1;omega
     clear hgrow hown g0
     go_wp2
     go_roundw
     case rel=>exact ⟨k+1,by omega,by go_num,by rw [HT.out,HZ.out,vals_snoc];exact hown',hb2⟩
     case measure=>simp [intOf];omega
  ·obtain rfl:k=L.length:=by omega
   go_wp2_with fail
   go_ret
   exact ⟨hbel,_,rfl,by rw [List.take_length] at hown;exact hown⟩
theorem cut_any (a b:Int) (w:World) :
  Calls Tryz.prog 126 #[iv a b] w fun e w'=>e = .returned (iv (cutI a) (cutI b))∧Below w.heap.size w w':=by
 go_enter Tryz.func126,Tryz.ntmps126
 go_wp2_with fail
 refine (cutEnds_any _ 2 2 [a,b] _ rfl (by decide) (ints2 a b (by simp))).mono ?_;rintro e w1 ⟨hb1,v,rfl,hown⟩;obtain ⟨g,cap,rfl,hg,hlt⟩:=hown.form (by simp);have c0:=hown.cells (g:=g) rfl 0 (.int .i64 (cutI a)) rfl;have c1:=hown.cells (g:=g) rfl 1 (.int .i64 (cutI b)) rfl;rw [add0] at c0 c1;obtain ⟨hc1,hf1⟩:=bcell hb1
 have hz1:w.heap.size+2<w1.heap.size:=by have:=hb1.size;simp at this;omega
 have hg':w.heap.size+2<g:=by simp at hg;omega
 have hw1:Below w.heap.size w w1:=Below.trans (by repeat (first|exact Below.refl _ _|refine Below.alloc ?_ (by simp<;>omega) _)) (hb1.mono (by simp;omega));clear hown hb1
 go_wp2
 go_region
 all_goals go_wp2
 exact bodyPost_ret (v:=iv (cutI a) (cutI b)) (by simp [results,Tryz.results126,go_sem,hc1]) rfl ⟨rfl,((hw1.setCell (by simp) _).setCell (by simp) _).drew⟩
end Go.Proofs.YtiecdgcdcpmgaaaGreat.Ivf

/- Contracts of the program's functions on surfaces: contrast of package fresnel returns what the plain function says. -/
namespace Go.Proofs.YtiecdgcdcpmgaaaGreat.Ivf
open Go.Proofs.YtiecdgcdcpmgaaaGreat.Iv
open Go.RowKit
def bind (r:R) (f:Int→Int→R):R:=if r.e=0 then f r.lo r.hi else ⟨0,0,r.e⟩
theorem bind_ok {r:R} {f:Int→Int→R} (h:r.e=0):bind r f=f r.lo r.hi:=if_pos h
theorem bind_err {r:R} {f:Int→Int→R} (h:¬r.e=0):bind r f=⟨0,0,r.e⟩:=if_neg h
def contrastR (a b c d:Int):R:=bind (subR a b c d) fun s t=>bind (addR a b c d) fun u v=>bind (divR s t u v) fun x y=>bind (sqR x y) fun p q=>⟨cutI p,cutI q,0⟩
set_option maxRecDepth 100000 in
set_option maxHeartbeats 1000000 in
theorem contrast_any (a b c d:Int) (w:World) :
  Calls Tryz.prog 134 #[iv a b,iv c d] w fun e w'=>e=retR (contrastR a b c d)∧Below w.heap.size w w':=by
 go_enter Tryz.func134,Tryz.ntmps134
 go_wp2_with fail
 refine (sub_any a b c d _).mono ?_;rintro e w1 ⟨rfl,hb1⟩;obtain ⟨hc1,hf1⟩:=bcell hb1;have hz1:=hb1.size
 try simp at hz1
 have hs1_0:w.heap.size<w1.heap.size:=by omega
 have hs1_1:w.heap.size+1<w1.heap.size:=by omega
 have hs1_2:w.heap.size+1+1<w1.heap.size:=by omega
 have hw1:Below w.heap.size w w1:=Below.trans (by repeat (first|exact Below.refl _ _|refine Below.drew ?_|refine Below.setCell ?_ (by first|omega|(simp<;>omega)) _|refine Below.alloc ?_ (by first|omega|(simp<;>omega)) _)) (hb1.mono (by first|omega|(simp<;>omega)));clear hb1 hz1;obtain ⟨S,eS⟩:∃S,S=subR a b c d:=⟨_,rfl⟩;rw [←eS];have HS:=Lib.hid eS;clear eS
 by_cases hS:S.e=0
 ·have KS:=Lib.hid hS
  go_wp2_with fail
  refine (add_any a b c d _).mono ?_;rintro e w2 ⟨rfl,hb2⟩;obtain ⟨hc2,hf2⟩:=bcell hb2;have hz2:=hb2.size
  try simp at hz2
  have hs2_0:w.heap.size<w2.heap.size:=by omega
  have hs2_1:w.heap.size+1<w2.heap.size:=by omega
  have hs2_2:w.heap.size+1+1<w2.heap.size:=by omega
  have hs2_3:w1.heap.size<w2.heap.size:=by omega
  have hw2:Below w.heap.size w w2:=Below.trans (by repeat (first|exact hw1|refine Below.drew ?_|refine Below.setCell ?_ (by first|omega|(simp<;>omega)) _|refine Below.alloc ?_ (by first|omega|(simp<;>omega)) _)) (hb2.mono (by first|omega|(simp<;>omega)));clear hb2 hz2;obtain ⟨T,eT⟩:∃T,T=addR a b c d:=⟨_,rfl⟩;rw [←eT];have HT:=Lib.hid eT;clear eT
  by_cases hT:T.e=0
  ·have KT:=Lib.hid hT
   go_wp2_with fail
   refine (div_any S.lo S.hi T.lo T.hi _).mono ?_;rintro e w3 ⟨rfl,hb3⟩;obtain ⟨hc3,hf3⟩:=bcell hb3;have hz3:=hb3.size
   try simp at hz3
   have hs3_0:w.heap.size<w3.heap.size:=by omega
   have hs3_1:w.heap.size+1<w3.heap.size:=by omega
   have hs3_2:w.heap.size+1+1<w3.heap.size:=by omega
   have hs3_3:w1.heap.size<w3.heap.size:=by omega
   have hs3_4:w2.heap.size<w3.heap.size:=by omega
   have hw3:Below w.heap.size w w3:=Below.trans (by repeat (first|exact hw2|refine Below.drew ?_|refine Below.setCell ?_ (by first|omega|(simp<;>omega)) _|refine Below.alloc ?_ (by first|omega|(simp<;>omega)) _)) (hb3.mono (by first|omega|(simp<;>omega)));clear hb3 hz3;obtain ⟨Q,eQ⟩:∃Q,Q=divR S.lo S.hi T.lo T.hi:=⟨_,rfl⟩;rw [←eQ];have HQ:=Lib.hid eQ;clear eQ
   by_cases hQ:Q.e=0
   ·have KQ:=Lib.hid hQ
    go_wp2_with fail
    refine (square_any Q.lo Q.hi _).mono ?_;rintro e w4 ⟨rfl,hb4⟩;obtain ⟨hc4,hf4⟩:=bcell hb4;have hz4:=hb4.size
    try simp at hz4
    have hs4_0:w.heap.size<w4.heap.size:=by omega
    have hs4_1:w.heap.size+1<w4.heap.size:=by omega
    have hs4_2:w.heap.size+1+1<w4.heap.size:=by omega
    have hs4_3:w1.heap.size<w4.heap.size:=by omega
    have hs4_4:w2.heap.size<w4.heap.size:=by omega
    have hs4_5:w3.heap.size<w4.heap.size:=by omega
    have hw4:Below w.heap.size w w4:=Below.trans (by repeat (first|exact hw3|refine Below.drew ?_|refine Below.setCell ?_ (by first|omega|(simp<;>omega)) _|refine Below.alloc ?_ (by first|omega|(simp<;>omega)) _)) (hb4.mono (by first|omega|(simp<;>omega)));clear hb4 hz4;obtain ⟨P,eP⟩:∃P,P=sqR Q.lo Q.hi:=⟨_,rfl⟩;rw [←eP];have HP:=Lib.hid eP;clear eP
    by_cases hP:P.e=0
    ·have KP:=Lib.hid hP
     go_wp2_with fail
     refine (cut_any P.lo P.hi _).mono ?_;rintro e w5 ⟨rfl,hb5⟩;obtain ⟨hc5,hf5⟩:=bcell hb5;have hz5:=hb5.size
     try simp at hz5
     have hs5_0:w.heap.size<w5.heap.size:=by omega
     have hs5_1:w.heap.size+1<w5.heap.size:=by omega
     have hs5_2:w.heap.size+1+1<w5.heap.size:=by omega
     have hs5_3:w1.heap.size<w5.heap.size:=by omega
     have hs5_4:w2.heap.size<w5.heap.size:=by omega
     have hs5_5:w3.heap.size<w5.heap.size:=by omega
     have hs5_6:w4.heap.size<w5.heap.size:=by omega
     have hw5:Below w.heap.size w w5:=Below.trans (by repeat (first|exact hw4|refine Below.drew ?_|refine Below.setCell ?_ (by first|omega|(simp<;>omega)) _|refine Below.alloc ?_ (by first|omega|(simp<;>omega)) _)) (hb5.mono (by first|omega|(simp<;>omega)));clear hb5 hz5
     go_wp2_with fail
     exact bodyPost_ret (v:=.tuple #[iv (cutI P.lo) (cutI P.hi),.int .i64 0]) (by simp [results,Tryz.results134,go_sem, *]) rfl ⟨by rw [contrastR,←HS.out,bind_ok KS.out,←HT.out,bind_ok KT.out,←HQ.out,bind_ok KQ.out,←HP.out,bind_ok KP.out],by repeat (first|exact hw5|refine Below.drew ?_|refine Below.setCell ?_ (by first|omega|(simp<;>omega)) _|refine Below.alloc ?_ (by first|omega|(simp<;>omega)) _)⟩
    ·have KP:=Lib.hid hP
     go_wp2_with fail
     exact bodyPost_ret (v:=.tuple #[iv 0 0,.int .i64 P.e]) (by simp [results,Tryz.results134,go_sem, *]) rfl ⟨by rw [contrastR,←HS.out,bind_ok KS.out,←HT.out,bind_ok KT.out,←HQ.out,bind_ok KQ.out,←HP.out,bind_err KP.out],by repeat (first|exact hw4|refine Below.drew ?_|refine Below.setCell ?_ (by first|omega|(simp<;>omega)) _|refine Below.alloc ?_ (by first|omega|(simp<;>omega)) _)⟩
   ·have KQ:=Lib.hid hQ
    go_wp2_with fail
    exact bodyPost_ret (v:=.tuple #[iv 0 0,.int .i64 Q.e]) (by simp [results,Tryz.results134,go_sem, *]) rfl ⟨by rw [contrastR,←HS.out,bind_ok KS.out,←HT.out,bind_ok KT.out,←HQ.out,bind_err KQ.out],by repeat (first|exact hw3|refine Below.drew ?_|refine Below.setCell ?_ (by first|omega|(simp<;>omega)) _|refine Below.alloc ?_ (by first|omega|(simp<;>omega)) _)⟩
  ·have KT:=Lib.hid hT
   go_wp2_with fail
   exact bodyPost_ret (v:=.tuple #[iv 0 0,.int .i64 T.e]) (by simp [results,Tryz.results134,go_sem, *]) rfl ⟨by rw [contrastR,←HS.out,bind_ok KS.out,←HT.out,bind_err KT.out],by repeat (first|exact hw2|refine Below.drew ?_|refine Below.setCell ?_ (by first|omega|(simp<;>omega)) _|refine Below.alloc ?_ (by first|omega|(simp<;>omega)) _)⟩
 ·have KS:=Lib.hid hS
  go_wp2_with fail
  exact bodyPost_ret (v:=.tuple #[iv 0 0,.int .i64 S.e]) (by simp [results,Tryz.results134,go_sem, *]) rfl ⟨by rw [contrastR,←HS.out,bind_err KS.out],by repeat (first|exact hw1|refine Below.drew ?_|refine Below.setCell ?_ (by first|omega|(simp<;>omega)) _|refine Below.alloc ?_ (by first|omega|(simp<;>omega)) _)⟩
end Go.Proofs.YtiecdgcdcpmgaaaGreat.Ivf

/- Contracts of the program's functions on surfaces: Valid, both polarizations, Reflectance, Transmittance and Straight of package fresnel return what the plain functions say. -/
namespace Go.Proofs.YtiecdgcdcpmgaaaGreat.Ivf
open Go.Proofs.YtiecdgcdcpmgaaaGreat.Iv
open Go.RowKit
def winB (a b l h:Int):Bool:=decide (vB a b=true∧l*16777216≤a∧b≤h*16777216)
theorem win_any (a b l h:Int) (w:World) (h1:0≤l) (h2:l≤10) (h3:0≤h) (h4:h≤10) :
  Calls Tryz.prog 135 #[iv a b,.int .i64 l,.int .i64 h] w fun e w'=>e = .returned (.bool (winB a b l h))∧Below w.heap.size w w':=by
 by_cases v:vB a b=true
 ·go_enter Tryz.func135,Tryz.ntmps135
  go_wp2_with (first|(go_at_call 64;refine (valid_any _ _ _).mono ?_;rintro e w1 ⟨rfl,rfl⟩))
  all_goals go_ret
  all_goals refine ⟨ret_bool ?_,by repeat (first|exact Below.refl _ _|refine Below.drew ?_|refine Below.setCell ?_ (by first|omega|(simp<;>omega)) _|refine Below.alloc ?_ (by first|omega|(simp<;>omega)) _)⟩
  all_goals (simp only [winB];first|(rw [decide_eq_decide];simp only [v,true_and];omega)|(symm;rw [decide_eq_false_iff_not];simp only [v,true_and];omega))
 ·have v':vB a b=false:=by simpa using v
  go_enter Tryz.func135,Tryz.ntmps135
  go_wp2_with (first|(go_at_call 64;refine (valid_any _ _ _).mono ?_;rintro e w1 ⟨rfl,rfl⟩))
  all_goals go_ret
  all_goals refine ⟨ret_bool ?_,by repeat (first|exact Below.refl _ _|refine Below.drew ?_|refine Below.setCell ?_ (by first|omega|(simp<;>omega)) _|refine Below.alloc ?_ (by first|omega|(simp<;>omega)) _)⟩
  all_goals simp [winB,v']
structure Sf where
 bl:Int
 bh:Int
 al:Int
 ah:Int
 fl:Int
 fh:Int
 tl:Int
 th:Int
abbrev sv (s:Sf):Value:=.agg #[.int .i64 s.bl,.int .i64 s.bh,.int .i64 s.al,.int .i64 s.ah,.int .i64 s.fl,.int .i64 s.fh,.int .i64 s.tl,.int .i64 s.th]
def sfB (s:Sf):Bool:=winB s.bl s.bh 0 1 && (winB s.al s.ah 0 1 && (winB s.fl s.fh 1 4 && winB s.tl s.th 1 4))
set_option maxRecDepth 100000 in
theorem sf_any (s:Sf) (w:World) :
  Calls Tryz.prog 133 #[sv s] w fun e w'=>e = .returned (.bool (sfB s))∧Below w.heap.size w w':=by
 go_enter Tryz.func133,Tryz.ntmps133
 go_wp2_with fail
 refine (win_any s.bl s.bh 0 1 _ (by decide) (by decide) (by decide) (by decide)).mono ?_;rintro e w1 ⟨rfl,hb1⟩;obtain ⟨hc1,hf1⟩:=bcell hb1;have hz1:=hb1.size
 try simp at hz1
 have hs1_0:w.heap.size<w1.heap.size:=by omega
 have hw1:Below w.heap.size w w1:=Below.trans (by repeat (first|exact Below.refl _ _|refine Below.drew ?_|refine Below.setCell ?_ (by first|omega|(simp<;>omega)) _|refine Below.alloc ?_ (by first|omega|(simp<;>omega)) _)) (hb1.mono (by first|omega|(simp<;>omega)));clear hb1 hz1;cases V1:winB s.bl s.bh 0 1
 ·go_wp2_with fail
  go_ret
  exact ⟨ret_bool (by simp [sfB,V1]),by repeat (first|exact hw1|refine Below.drew ?_|refine Below.setCell ?_ (by first|omega|(simp<;>omega)) _|refine Below.alloc ?_ (by first|omega|(simp<;>omega)) _)⟩
 ·skip
  go_wp2_with fail
  refine (win_any s.al s.ah 0 1 _ (by decide) (by decide) (by decide) (by decide)).mono ?_;rintro e w2 ⟨rfl,hb2⟩;obtain ⟨hc2,hf2⟩:=bcell hb2;have hz2:=hb2.size
  try simp at hz2
  have hs2_0:w.heap.size<w2.heap.size:=by omega
  have hw2:Below w.heap.size w w2:=Below.trans (by repeat (first|exact hw1|refine Below.drew ?_|refine Below.setCell ?_ (by first|omega|(simp<;>omega)) _|refine Below.alloc ?_ (by first|omega|(simp<;>omega)) _)) (hb2.mono (by first|omega|(simp<;>omega)));clear hb2 hz2;cases V2:winB s.al s.ah 0 1
  ·go_wp2_with fail
   go_ret
   exact ⟨ret_bool (by simp [sfB,V1,V2]),by repeat (first|exact hw2|refine Below.drew ?_|refine Below.setCell ?_ (by first|omega|(simp<;>omega)) _|refine Below.alloc ?_ (by first|omega|(simp<;>omega)) _)⟩
  ·skip
   go_wp2_with fail
   refine (win_any s.fl s.fh 1 4 _ (by decide) (by decide) (by decide) (by decide)).mono ?_;rintro e w3 ⟨rfl,hb3⟩;obtain ⟨hc3,hf3⟩:=bcell hb3;have hz3:=hb3.size
   try simp at hz3
   have hs3_0:w.heap.size<w3.heap.size:=by omega
   have hw3:Below w.heap.size w w3:=Below.trans (by repeat (first|exact hw2|refine Below.drew ?_|refine Below.setCell ?_ (by first|omega|(simp<;>omega)) _|refine Below.alloc ?_ (by first|omega|(simp<;>omega)) _)) (hb3.mono (by first|omega|(simp<;>omega)));clear hb3 hz3;cases V3:winB s.fl s.fh 1 4
   ·go_wp2_with fail
    go_ret
    exact ⟨ret_bool (by simp [sfB,V1,V2,V3]),by repeat (first|exact hw3|refine Below.drew ?_|refine Below.setCell ?_ (by first|omega|(simp<;>omega)) _|refine Below.alloc ?_ (by first|omega|(simp<;>omega)) _)⟩
   ·skip
    go_wp2_with fail
    refine (win_any s.tl s.th 1 4 _ (by decide) (by decide) (by decide) (by decide)).mono ?_;rintro e w4 ⟨rfl,hb4⟩;obtain ⟨hc4,hf4⟩:=bcell hb4;have hz4:=hb4.size
    try simp at hz4
    have hs4_0:w.heap.size<w4.heap.size:=by omega
    have hw4:Below w.heap.size w w4:=Below.trans (by repeat (first|exact hw3|refine Below.drew ?_|refine Below.setCell ?_ (by first|omega|(simp<;>omega)) _|refine Below.alloc ?_ (by first|omega|(simp<;>omega)) _)) (hb4.mono (by first|omega|(simp<;>omega)));clear hb4 hz4;cases V4:winB s.tl s.th 1 4
    ·go_wp2_with fail
     go_ret
     exact ⟨ret_bool (by simp [sfB,V1,V2,V3,V4]),by repeat (first|exact hw4|refine Below.drew ?_|refine Below.setCell ?_ (by first|omega|(simp<;>omega)) _|refine Below.alloc ?_ (by first|omega|(simp<;>omega)) _)⟩
    ·go_wp2_with fail
     go_ret
     exact ⟨ret_bool (by simp [sfB,V1,V2,V3,V4]),by repeat (first|exact hw4|refine Below.drew ?_|refine Below.setCell ?_ (by first|omega|(simp<;>omega)) _|refine Below.alloc ?_ (by first|omega|(simp<;>omega)) _)⟩
end Go.Proofs.YtiecdgcdcpmgaaaGreat.Ivf

/- Contracts of the program's functions on surfaces: both polarizations, Reflectance and Transmittance of package fresnel return what the plain functions say. -/
namespace Go.Proofs.YtiecdgcdcpmgaaaGreat.Ivf
open Go.Proofs.YtiecdgcdcpmgaaaGreat.Iv
open Go.RowKit
def polR (s:Sf) (a b c d:Int):R:=if sfB s=true then bind (mulR s.fl s.fh a b) fun p q=>bind (mulR s.tl s.th c d) fun u v=>contrastR p q u v else ⟨0,0,1⟩
theorem polR_ok {s:Sf} {a b c d:Int} (h:sfB s=true):polR s a b c d=bind (mulR s.fl s.fh a b) fun p q=>bind (mulR s.tl s.th c d) fun u v=>contrastR p q u v:=if_pos h
theorem polR_no {s:Sf} {a b c d:Int} (h:sfB s=false):polR s a b c d=⟨0,0,1⟩:=if_neg (by simp [h])
def SurfAt (w:World) (B:Nat) (s:Sf):Prop:=
 w.cell? ⟨B,0,none⟩=some (.int .i64 s.bl)∧w.cell? ⟨B,1,none⟩=some (.int .i64 s.bh)∧w.cell? ⟨B,2,none⟩=some (.int .i64 s.al)∧w.cell? ⟨B,3,none⟩=some (.int .i64 s.ah) ∧
 w.cell? ⟨B,4,none⟩=some (.int .i64 s.fl)∧w.cell? ⟨B,5,none⟩=some (.int .i64 s.fh)∧w.cell? ⟨B,6,none⟩=some (.int .i64 s.tl)∧w.cell? ⟨B,7,none⟩=some (.int .i64 s.th)
abbrev surfCells (s:Sf):Array Value:=#[.int .i64 s.bl,.int .i64 s.bh,.int .i64 s.al,.int .i64 s.ah,.int .i64 s.fl,.int .i64 s.fh,.int .i64 s.tl,.int .i64 s.th]
theorem polz_any (s:Sf) (w:World) :
  Calls Tryz.prog 128 #[sv s] w fun e w'=>e = .returned (.func (.func 132) #[] #[.pointer (some ⟨w.heap.size,0,none⟩)])∧w.alloc (.cells (surfCells s) 154)=w':=by
 go_enter Tryz.func128,Tryz.ntmps128
 go_wp2
 go_ret
 exact ⟨rfl,rfl⟩
set_option maxRecDepth 100000 in
set_option maxHeartbeats 1000000 in
theorem pol_any (s:Sf) (a b c d:Int) (B:Nat) (w:World) (hB:B<w.heap.size) (hS:SurfAt w B s) :
  Calls Tryz.prog 132 #[iv a b,iv c d,.pointer (some ⟨B,0,none⟩)] w fun e w'=>e=retR (polR s a b c d)∧Below w.heap.size w w':=by
 obtain ⟨s0,s1,s2,s3,s4,s5,s6,s7⟩:=hS
 have hB1:B<w.heap.size+1:=by omega
 have hB2:B<w.heap.size+1+1:=by omega
 go_enter Tryz.func132,Tryz.ntmps132
 go_wp2_with fail
 refine (sf_any s _).mono ?_;rintro e w1 ⟨rfl,hb1⟩;obtain ⟨hc1,hf1⟩:=bcell hb1;have hz1:=hb1.size
 try simp at hz1
 have hs1_0:B<w1.heap.size:=by omega
 have hs1_1:w.heap.size<w1.heap.size:=by omega
 have hs1_2:w.heap.size+1<w1.heap.size:=by omega
 have hs1_3:w.heap.size+1+1<w1.heap.size:=by omega
 have hw1:Below w.heap.size w w1:=Below.trans (by repeat (first|exact Below.refl _ _|refine Below.drew ?_|refine Below.setCell ?_ (by first|omega|(simp<;>omega)) _|refine Below.alloc ?_ (by first|omega|(simp<;>omega)) _)) (hb1.mono (by first|omega|(simp<;>omega)));clear hb1 hz1;cases hV:sfB s
 ·have KV:=Lib.hid (polR_no (a:=a) (b:=b) (c:=c) (d:=d) hV)
  go_wp2_with fail
  exact bodyPost_ret (v:=.tuple #[iv 0 0,.int .i64 1]) (by simp [results,Tryz.results132,go_sem, *]) rfl ⟨by rw [KV.out],by repeat (first|exact hw1|refine Below.drew ?_|refine Below.setCell ?_ (by first|omega|(simp<;>omega)) _|refine Below.alloc ?_ (by first|omega|(simp<;>omega)) _)⟩
 ·have KV:=Lib.hid (polR_ok (a:=a) (b:=b) (c:=c) (d:=d) hV)
  go_wp2_with fail
  refine (mul_any s.fl s.fh a b _).mono ?_;rintro e w2 ⟨rfl,hb2⟩;obtain ⟨hc2,hf2⟩:=bcell hb2;have hz2:=hb2.size
  try simp at hz2
  have hs2_0:B<w2.heap.size:=by omega
  have hs2_1:w.heap.size<w2.heap.size:=by omega
  have hs2_2:w.heap.size+1<w2.heap.size:=by omega
  have hs2_3:w.heap.size+1+1<w2.heap.size:=by omega
  have hw2:Below w.heap.size w w2:=Below.trans (by repeat (first|exact hw1|refine Below.drew ?_|refine Below.setCell ?_ (by first|omega|(simp<;>omega)) _|refine Below.alloc ?_ (by first|omega|(simp<;>omega)) _)) (hb2.mono (by first|omega|(simp<;>omega)));clear hb2 hz2;obtain ⟨P,eP⟩:∃P,P=mulR s.fl s.fh a b:=⟨_,rfl⟩;rw [←eP];have HP:=Lib.hid eP;clear eP
  by_cases hP:P.e=0
  ·have KP:=Lib.hid hP
   go_wp2_with fail
   refine (mul_any s.tl s.th c d _).mono ?_;rintro e w3 ⟨rfl,hb3⟩;obtain ⟨hc3,hf3⟩:=bcell hb3;have hz3:=hb3.size
   try simp at hz3
   have hs3_0:B<w3.heap.size:=by omega
   have hs3_1:w.heap.size<w3.heap.size:=by omega
   have hs3_2:w.heap.size+1<w3.heap.size:=by omega
   have hs3_3:w.heap.size+1+1<w3.heap.size:=by omega
   have hs3_4:w2.heap.size<w3.heap.size:=by omega
   have hw3:Below w.heap.size w w3:=Below.trans (by repeat (first|exact hw2|refine Below.drew ?_|refine Below.setCell ?_ (by first|omega|(simp<;>omega)) _|refine Below.alloc ?_ (by first|omega|(simp<;>omega)) _)) (hb3.mono (by first|omega|(simp<;>omega)));clear hb3 hz3;obtain ⟨Q,eQ⟩:∃Q,Q=mulR s.tl s.th c d:=⟨_,rfl⟩;rw [←eQ];have HQ:=Lib.hid eQ;clear eQ
   by_cases hQ:Q.e=0
   ·have KQ:=Lib.hid hQ
    go_wp2_with fail
    refine (contrast_any P.lo P.hi Q.lo Q.hi _).mono ?_;rintro e w4 ⟨rfl,hb4⟩;obtain ⟨hc4,hf4⟩:=bcell hb4;have hz4:=hb4.size
    try simp at hz4
    have hs4_0:B<w4.heap.size:=by omega
    have hs4_1:w.heap.size<w4.heap.size:=by omega
    have hs4_2:w.heap.size+1<w4.heap.size:=by omega
    have hs4_3:w.heap.size+1+1<w4.heap.size:=by omega
    have hs4_4:w2.heap.size<w4.heap.size:=by omega
    have hs4_5:w3.heap.size<w4.heap.size:=by omega
    have hw4:Below w.heap.size w w4:=Below.trans (by repeat (first|exact hw3|refine Below.drew ?_|refine Below.setCell ?_ (by first|omega|(simp<;>omega)) _|refine Below.alloc ?_ (by first|omega|(simp<;>omega)) _)) (hb4.mono (by first|omega|(simp<;>omega)));clear hb4 hz4
    go_wp2_with fail
    exact bodyPost_ret (v:=.tuple #[.agg #[.int .i64 (contrastR P.lo P.hi Q.lo Q.hi).lo,.int .i64 (contrastR P.lo P.hi Q.lo Q.hi).hi],.int .i64 (contrastR P.lo P.hi Q.lo Q.hi).e]) (by simp [results,Tryz.results132,go_sem, *]) rfl ⟨by rw [KV.out,←HP.out,bind_ok KP.out,←HQ.out,bind_ok KQ.out],by repeat (first|exact hw4|refine Below.drew ?_|refine Below.setCell ?_ (by first|omega|(simp<;>omega)) _|refine Below.alloc ?_ (by first|omega|(simp<;>omega)) _)⟩
   ·have KQ:=Lib.hid hQ
    go_wp2_with fail
    exact bodyPost_ret (v:=.tuple #[iv 0 0,.int .i64 Q.e]) (by simp [results,Tryz.results132,go_sem, *]) rfl ⟨by rw [KV.out,←HP.out,bind_ok KP.out,←HQ.out,bind_err KQ.out],by repeat (first|exact hw3|refine Below.drew ?_|refine Below.setCell ?_ (by first|omega|(simp<;>omega)) _|refine Below.alloc ?_ (by first|omega|(simp<;>omega)) _)⟩
  ·have KP:=Lib.hid hP
   go_wp2_with fail
   exact bodyPost_ret (v:=.tuple #[iv 0 0,.int .i64 P.e]) (by simp [results,Tryz.results132,go_sem, *]) rfl ⟨by rw [KV.out,←HP.out,bind_err KP.out],by repeat (first|exact hw2|refine Below.drew ?_|refine Below.setCell ?_ (by first|omega|(simp<;>omega)) _|refine Below.alloc ?_ (by first|omega|(simp<;>omega)) _)⟩
def perpR (s:Sf):R:=polR s s.bl s.bh s.al s.ah
def parR (s:Sf):R:=polR s s.al s.ah s.bl s.bh
set_option maxRecDepth 100000 in
set_option maxHeartbeats 1000000 in
theorem perp_any (s:Sf) (w:World) :
  Calls Tryz.prog 124 #[sv s] w fun e w'=>e=retR (perpR s)∧Below w.heap.size w w':=by
 go_enter Tryz.func124,Tryz.ntmps124
 go_wp2_with fail
 go_region_held3 (fun w'=>w'.cell? ⟨w.heap.size,0,none⟩=some (.int .i64 s.bl)∧w'.cell? ⟨w.heap.size,1,none⟩=some (.int .i64 s.bh)∧w'.cell? ⟨w.heap.size,2,none⟩=some (.int .i64 s.al)∧w'.cell? ⟨w.heap.size,3,none⟩=some (.int .i64 s.ah)∧w'.cell? ⟨w.heap.size,4,none⟩=some (.int .i64 s.fl)∧w'.cell? ⟨w.heap.size,5,none⟩=some (.int .i64 s.fh)∧w'.cell? ⟨w.heap.size,6,none⟩=some (.int .i64 s.tl)∧w'.cell? ⟨w.heap.size,7,none⟩=some (.int .i64 s.th)) (first|(simp [go_sem,World.cell?_alloc_past];done)|(simp [go_sem,World.cell?_alloc_past,hcx];done))
  (first
   |(go_at_call 128;refine (polz_any s _).mono ?_;rintro e w' ⟨rfl,rfl⟩)
   |(go_at_call 132;refine (pol_any s s.bl s.bh s.al s.ah (w.heap.size+1+1) _ (by simp) (by simp [SurfAt,World.cell?_alloc_at])).mono ?_;rintro e w' ⟨rfl,hb⟩;obtain ⟨hcx,hfx⟩:=bcell hb;have hsx:=hb.size;simp at hsx;have hs0:w.heap.size<w'.heap.size:=(by omega);have hs1:w.heap.size+1<w'.heap.size:=(by omega);have hwx:Below w.heap.size w w':=Below.trans (by repeat (first|exact Below.refl _ _|refine Below.drew ?_|refine Below.alloc ?_ (by first|omega|(simp<;>omega)) _)) (hb.mono (by first|omega|(simp<;>omega)));clear hb hsx))
 go_wp2
 exact bodyPost_ret (v:=.tuple #[.agg #[.int .i64 (perpR s).lo,.int .i64 (perpR s).hi],.int .i64 (perpR s).e]) (by simp [results,Tryz.results124,go_sem,perpR, *]) rfl ⟨rfl,by repeat (first|exact hwx|refine Below.drew ?_|refine Below.setCell ?_ (by first|omega|(simp<;>omega)) _)⟩
set_option maxRecDepth 100000 in
set_option maxHeartbeats 1000000 in
theorem par_any (s:Sf) (w:World) :
  Calls Tryz.prog 125 #[sv s] w fun e w'=>e=retR (parR s)∧Below w.heap.size w w':=by
 go_enter Tryz.func125,Tryz.ntmps125
 go_wp2_with fail
 go_region_held3 (fun w'=>w'.cell? ⟨w.heap.size,0,none⟩=some (.int .i64 s.bl)∧w'.cell? ⟨w.heap.size,1,none⟩=some (.int .i64 s.bh)∧w'.cell? ⟨w.heap.size,2,none⟩=some (.int .i64 s.al)∧w'.cell? ⟨w.heap.size,3,none⟩=some (.int .i64 s.ah)∧w'.cell? ⟨w.heap.size,4,none⟩=some (.int .i64 s.fl)∧w'.cell? ⟨w.heap.size,5,none⟩=some (.int .i64 s.fh)∧w'.cell? ⟨w.heap.size,6,none⟩=some (.int .i64 s.tl)∧w'.cell? ⟨w.heap.size,7,none⟩=some (.int .i64 s.th)) (first|(simp [go_sem,World.cell?_alloc_past];done)|(simp [go_sem,World.cell?_alloc_past,hcx];done))
  (first
   |(go_at_call 128;refine (polz_any s _).mono ?_;rintro e w' ⟨rfl,rfl⟩)
   |(go_at_call 132;refine (pol_any s s.al s.ah s.bl s.bh (w.heap.size+1+1) _ (by simp) (by simp [SurfAt,World.cell?_alloc_at])).mono ?_;rintro e w' ⟨rfl,hb⟩;obtain ⟨hcx,hfx⟩:=bcell hb;have hsx:=hb.size;simp at hsx;have hs0:w.heap.size<w'.heap.size:=(by omega);have hs1:w.heap.size+1<w'.heap.size:=(by omega);have hwx:Below w.heap.size w w':=Below.trans (by repeat (first|exact Below.refl _ _|refine Below.drew ?_|refine Below.alloc ?_ (by first|omega|(simp<;>omega)) _)) (hb.mono (by first|omega|(simp<;>omega)));clear hb hsx))
 go_wp2
 exact bodyPost_ret (v:=.tuple #[.agg #[.int .i64 (parR s).lo,.int .i64 (parR s).hi],.int .i64 (parR s).e]) (by simp [results,Tryz.results125,go_sem,parR, *]) rfl ⟨rfl,by repeat (first|exact hwx|refine Below.drew ?_|refine Below.setCell ?_ (by first|omega|(simp<;>omega)) _)⟩
def reflR (s:Sf):R:=bind (perpR s) fun a b=>bind (parR s) fun c d=>bind (addR a b c d) fun p q=>bind (mulR p q 8388608 8388608) fun u v=>⟨cutI u,cutI v,0⟩
def transR (s:Sf):R:=bind (reflR s) fun a b=>subR 16777216 16777216 a b
set_option maxRecDepth 100000 in
set_option maxHeartbeats 1000000 in
theorem refl_any (s:Sf) (w:World) :
  Calls Tryz.prog 119 #[sv s] w fun e w'=>e=retR (reflR s)∧Below w.heap.size w w':=by
 go_enter Tryz.func119,Tryz.ntmps119
 go_wp2_with fail
 refine (perp_any s _).mono ?_;rintro e w1 ⟨rfl,hb1⟩;obtain ⟨hc1,hf1⟩:=bcell hb1;have hz1:=hb1.size
 try simp at hz1
 have hs1_0:w.heap.size<w1.heap.size:=by omega
 have hs1_1:w.heap.size+1<w1.heap.size:=by omega
 have hw1:Below w.heap.size w w1:=Below.trans (by repeat (first|exact Below.refl _ _|refine Below.drew ?_|refine Below.setCell ?_ (by first|omega|(simp<;>omega)) _|refine Below.alloc ?_ (by first|omega|(simp<;>omega)) _)) (hb1.mono (by first|omega|(simp<;>omega)));clear hb1 hz1;obtain ⟨P,eP⟩:∃P,P=perpR s:=⟨_,rfl⟩;rw [←eP];have HP:=Lib.hid eP;clear eP
 by_cases hP:P.e=0
 ·have KP:=Lib.hid hP
  go_wp2_with fail
  refine (par_any s _).mono ?_;rintro e w2 ⟨rfl,hb2⟩;obtain ⟨hc2,hf2⟩:=bcell hb2;have hz2:=hb2.size
  try simp at hz2
  have hs2_0:w.heap.size<w2.heap.size:=by omega
  have hs2_1:w.heap.size+1<w2.heap.size:=by omega
  have hs2_2:w1.heap.size<w2.heap.size:=by omega
  have hw2:Below w.heap.size w w2:=Below.trans (by repeat (first|exact hw1|refine Below.drew ?_|refine Below.setCell ?_ (by first|omega|(simp<;>omega)) _|refine Below.alloc ?_ (by first|omega|(simp<;>omega)) _)) (hb2.mono (by first|omega|(simp<;>omega)));clear hb2 hz2;obtain ⟨Q,eQ⟩:∃Q,Q=parR s:=⟨_,rfl⟩;rw [←eQ];have HQ:=Lib.hid eQ;clear eQ
  by_cases hQ:Q.e=0
  ·have KQ:=Lib.hid hQ
   go_wp2_with fail
   refine (add_any P.lo P.hi Q.lo Q.hi _).mono ?_;rintro e w3 ⟨rfl,hb3⟩;obtain ⟨hc3,hf3⟩:=bcell hb3;have hz3:=hb3.size
   try simp at hz3
   have hs3_0:w.heap.size<w3.heap.size:=by omega
   have hs3_1:w.heap.size+1<w3.heap.size:=by omega
   have hs3_2:w1.heap.size<w3.heap.size:=by omega
   have hs3_3:w2.heap.size<w3.heap.size:=by omega
   have hw3:Below w.heap.size w w3:=Below.trans (by repeat (first|exact hw2|refine Below.drew ?_|refine Below.setCell ?_ (by first|omega|(simp<;>omega)) _|refine Below.alloc ?_ (by first|omega|(simp<;>omega)) _)) (hb3.mono (by first|omega|(simp<;>omega)));clear hb3 hz3;obtain ⟨T,eT⟩:∃T,T=addR P.lo P.hi Q.lo Q.hi:=⟨_,rfl⟩;rw [←eT];have HT:=Lib.hid eT;clear eT
   by_cases hT:T.e=0
   ·have KT:=Lib.hid hT
    go_wp2_with fail
    refine (mul_any T.lo T.hi 8388608 8388608 _).mono ?_;rintro e w4 ⟨rfl,hb4⟩;obtain ⟨hc4,hf4⟩:=bcell hb4;have hz4:=hb4.size
    try simp at hz4
    have hs4_0:w.heap.size<w4.heap.size:=by omega
    have hs4_1:w.heap.size+1<w4.heap.size:=by omega
    have hs4_2:w1.heap.size<w4.heap.size:=by omega
    have hs4_3:w2.heap.size<w4.heap.size:=by omega
    have hs4_4:w3.heap.size<w4.heap.size:=by omega
    have hw4:Below w.heap.size w w4:=Below.trans (by repeat (first|exact hw3|refine Below.drew ?_|refine Below.setCell ?_ (by first|omega|(simp<;>omega)) _|refine Below.alloc ?_ (by first|omega|(simp<;>omega)) _)) (hb4.mono (by first|omega|(simp<;>omega)));clear hb4 hz4;obtain ⟨U,eU⟩:∃U,U=mulR T.lo T.hi 8388608 8388608:=⟨_,rfl⟩;rw [←eU];have HU:=Lib.hid eU;clear eU
    by_cases hU:U.e=0
    ·have KU:=Lib.hid hU
     go_wp2_with fail
     refine (cut_any U.lo U.hi _).mono ?_;rintro e w5 ⟨rfl,hb5⟩;obtain ⟨hc5,hf5⟩:=bcell hb5;have hz5:=hb5.size
     try simp at hz5
     have hs5_0:w.heap.size<w5.heap.size:=by omega
     have hs5_1:w.heap.size+1<w5.heap.size:=by omega
     have hs5_2:w1.heap.size<w5.heap.size:=by omega
     have hs5_3:w2.heap.size<w5.heap.size:=by omega
     have hs5_4:w3.heap.size<w5.heap.size:=by omega
     have hs5_5:w4.heap.size<w5.heap.size:=by omega
     have hw5:Below w.heap.size w w5:=Below.trans (by repeat (first|exact hw4|refine Below.drew ?_|refine Below.setCell ?_ (by first|omega|(simp<;>omega)) _|refine Below.alloc ?_ (by first|omega|(simp<;>omega)) _)) (hb5.mono (by first|omega|(simp<;>omega)));clear hb5 hz5
     go_wp2_with fail
     exact bodyPost_ret (v:=.tuple #[iv (cutI U.lo) (cutI U.hi),.int .i64 0]) (by simp [results,Tryz.results119,go_sem, *]) rfl ⟨by rw [reflR,←HP.out,bind_ok KP.out,←HQ.out,bind_ok KQ.out,←HT.out,bind_ok KT.out,←HU.out,bind_ok KU.out],by repeat (first|exact hw5|refine Below.drew ?_|refine Below.setCell ?_ (by first|omega|(simp<;>omega)) _|refine Below.alloc ?_ (by first|omega|(simp<;>omega)) _)⟩
    ·have KU:=Lib.hid hU
     go_wp2_with fail
     exact bodyPost_ret (v:=.tuple #[iv 0 0,.int .i64 U.e]) (by simp [results,Tryz.results119,go_sem, *]) rfl ⟨by rw [reflR,←HP.out,bind_ok KP.out,←HQ.out,bind_ok KQ.out,←HT.out,bind_ok KT.out,←HU.out,bind_err KU.out],by repeat (first|exact hw4|refine Below.drew ?_|refine Below.setCell ?_ (by first|omega|(simp<;>omega)) _|refine Below.alloc ?_ (by first|omega|(simp<;>omega)) _)⟩
   ·have KT:=Lib.hid hT
    go_wp2_with fail
    exact bodyPost_ret (v:=.tuple #[iv 0 0,.int .i64 T.e]) (by simp [results,Tryz.results119,go_sem, *]) rfl ⟨by rw [reflR,←HP.out,bind_ok KP.out,←HQ.out,bind_ok KQ.out,←HT.out,bind_err KT.out],by repeat (first|exact hw3|refine Below.drew ?_|refine Below.setCell ?_ (by first|omega|(simp<;>omega)) _|refine Below.alloc ?_ (by first|omega|(simp<;>omega)) _)⟩
  ·have KQ:=Lib.hid hQ
   go_wp2_with fail
   exact bodyPost_ret (v:=.tuple #[iv 0 0,.int .i64 Q.e]) (by simp [results,Tryz.results119,go_sem, *]) rfl ⟨by rw [reflR,←HP.out,bind_ok KP.out,←HQ.out,bind_err KQ.out],by repeat (first|exact hw2|refine Below.drew ?_|refine Below.setCell ?_ (by first|omega|(simp<;>omega)) _|refine Below.alloc ?_ (by first|omega|(simp<;>omega)) _)⟩
 ·have KP:=Lib.hid hP
  go_wp2_with fail
  exact bodyPost_ret (v:=.tuple #[iv 0 0,.int .i64 P.e]) (by simp [results,Tryz.results119,go_sem, *]) rfl ⟨by rw [reflR,←HP.out,bind_err KP.out],by repeat (first|exact hw1|refine Below.drew ?_|refine Below.setCell ?_ (by first|omega|(simp<;>omega)) _|refine Below.alloc ?_ (by first|omega|(simp<;>omega)) _)⟩
set_option maxRecDepth 100000 in
set_option maxHeartbeats 1000000 in
theorem trans_any (s:Sf) (w:World) :
  Calls Tryz.prog 104 #[sv s] w fun e w'=>e=retR (transR s)∧Below w.heap.size w w':=by
 go_enter Tryz.func104,Tryz.ntmps104
 go_wp2_with fail
 refine (refl_any s _).mono ?_;rintro e w1 ⟨rfl,hb1⟩;obtain ⟨hc1,hf1⟩:=bcell hb1;have hz1:=hb1.size
 try simp at hz1
 have hs1_0:w.heap.size<w1.heap.size:=by omega
 have hs1_1:w.heap.size+1<w1.heap.size:=by omega
 have hw1:Below w.heap.size w w1:=Below.trans (by repeat (first|exact Below.refl _ _|refine Below.drew ?_|refine Below.setCell ?_ (by first|omega|(simp<;>omega)) _|refine Below.alloc ?_ (by first|omega|(simp<;>omega)) _)) (hb1.mono (by first|omega|(simp<;>omega)));clear hb1 hz1;obtain ⟨P,eP⟩:∃P,P=reflR s:=⟨_,rfl⟩;rw [←eP];have HP:=Lib.hid eP;clear eP
 by_cases hP:P.e=0
 ·have KP:=Lib.hid hP
  go_wp2_with fail
  refine (sub_any 16777216 16777216 P.lo P.hi _).mono ?_;rintro e w2 ⟨rfl,hb2⟩;obtain ⟨hc2,hf2⟩:=bcell hb2;have hz2:=hb2.size
  try simp at hz2
  have hs2_0:w.heap.size<w2.heap.size:=by omega
  have hs2_1:w.heap.size+1<w2.heap.size:=by omega
  have hs2_2:w1.heap.size<w2.heap.size:=by omega
  have hw2:Below w.heap.size w w2:=Below.trans (by repeat (first|exact hw1|refine Below.drew ?_|refine Below.setCell ?_ (by first|omega|(simp<;>omega)) _|refine Below.alloc ?_ (by first|omega|(simp<;>omega)) _)) (hb2.mono (by first|omega|(simp<;>omega)));clear hb2 hz2
  go_wp2_with fail
  exact bodyPost_ret (v:=.tuple #[.agg #[.int .i64 (subR 16777216 16777216 P.lo P.hi).lo,.int .i64 (subR 16777216 16777216 P.lo P.hi).hi],.int .i64 (subR 16777216 16777216 P.lo P.hi).e]) (by simp [results,Tryz.results104,go_sem, *]) rfl ⟨by rw [transR,←HP.out,bind_ok KP.out],by repeat (first|exact hw2|refine Below.drew ?_|refine Below.setCell ?_ (by first|omega|(simp<;>omega)) _|refine Below.alloc ?_ (by first|omega|(simp<;>omega)) _)⟩
 ·have KP:=Lib.hid hP
  go_wp2_with fail
  exact bodyPost_ret (v:=.tuple #[iv 0 0,.int .i64 P.e]) (by simp [results,Tryz.results104,go_sem, *]) rfl ⟨by rw [transR,←HP.out,bind_err KP.out],by repeat (first|exact hw1|refine Below.drew ?_|refine Below.setCell ?_ (by first|omega|(simp<;>omega)) _|refine Below.alloc ?_ (by first|omega|(simp<;>omega)) _)⟩
end Go.Proofs.YtiecdgcdcpmgaaaGreat.Ivf
