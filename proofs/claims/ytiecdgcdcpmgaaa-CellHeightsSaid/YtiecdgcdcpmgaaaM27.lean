/- Texts PCr2. -/
import Derived.Test.YtiecdgcdcpmgaaaM06
import Derived.Test.YtiecdgcdcpmgaaaM14
import Derived.Test.YtiecdgcdcpmgaaaM17

/- Contracts of refine.Split and its closure. -/
namespace Go.Proofs.Ytiecdgcdcpmgaaa.Iv
open Go.RowKit
attribute [local go_sem] Oper.semAt_some idx4_0 idx4_1 idx4_2 idx4_3
theorem bodyPost_boxes {P:Program} {fn:Func} {R:Ending→World→Prop} {a:Act} {w:World} {v:Value} {b c:Nat} {cs ds:List Value} (hB:Bx w b cs) (hC:Bx w c ds)
  (hr:∀X:World,(∀j,X.cell? ⟨b,j,none⟩=cs[j]?)→(∀j,X.cell? ⟨c,j,none⟩=ds[j]?)→(results fn a.tmps).run P X = .ok v X) (hd:a.defers = []) (hR:R (.returned v) w):bodyPost P fn R .ret a w:=⟨hd,v,hr w hB.c hC.c,hR⟩
theorem Ho.putx {w0 W:World} {n:Nat} {l:List (Nat × List Value)} {d i:Nat} {u:Value} (h:Ho w0 W n l) (g:w0.heap.size≤d) (ne:∀p∈l,¬(p.1=d)):Ho w0 (W.setCell ⟨d,i,none⟩ u) n l:=
 ⟨h.below.setCell g _,h.base,by simpa using h.size,fun p hp=>⟨(h.rd p hp).1,(h.rd p hp).2.set (ne p hp)⟩⟩
def putC (c:CV) (k:Int) (lo hi:Int):CV:=
 if k=0 then {c with a:=lo,b:=hi} else if k=1 then {c with c:=lo,d:=hi} else if k=2 then {c with p:=lo,q:=hi} else {c with r:=lo,s:=hi}
def getC (c:CV) (k:Int):Int × Int:=if k=0 then (c.a,c.b) else if k=1 then (c.c,c.d) else if k=2 then (c.p,c.q) else (c.r,c.s)
def zC:CV:=⟨0,0,0,0,0,0,0,0,0⟩
structure H2 where
 a:CV
 b:CV
 e:Int
def halvesR (c:CV):H2:=
 if (axisR c).2=0 then ⟨putC c (axisR c).1 (splitR (getC c (axisR c).1).1 (getC c (axisR c).1).2).a (splitR (getC c (axisR c).1).1 (getC c (axisR c).1).2).b,putC c (axisR c).1 (splitR (getC c (axisR c).1).1 (getC c (axisR c).1).2).c (splitR (getC c (axisR c).1).1 (getC c (axisR c).1).2).d,0⟩ else ⟨zC,zC,(axisR c).2⟩
theorem Bx.put9 {W:World} {b:Nat} {p0 p1 p2 p3 p4 p5 p6 p7 p8 u0 u1 u2 u3 u4 u5 u6 u7 u8:Value} (h:Bx W b [p0,p1,p2,p3,p4,p5,p6,p7,p8]):Bx (((((((((W.setCell ⟨b,0,none⟩ u0).setCell ⟨b,1,none⟩ u1).setCell ⟨b,2,none⟩ u2).setCell ⟨b,3,none⟩ u3).setCell ⟨b,4,none⟩ u4).setCell ⟨b,5,none⟩ u5).setCell ⟨b,6,none⟩ u6).setCell ⟨b,7,none⟩ u7).setCell ⟨b,8,none⟩ u8) b [u0,u1,u2,u3,u4,u5,u6,u7,u8]:=h.put.put.put.put.put.put.put.put.put
set_option maxRecDepth 100000 in
set_option maxHeartbeats 8000000 in
theorem split1_any {lb ab cb:Nat} {c:CV} {k lo hi:Int} (w:World) (hk:k=0∨k=1∨k=2∨k=3) (hl:Rd w lb [.int .i64 c.a,.int .i64 c.b,.int .i64 c.c,.int .i64 c.d,.int .i64 c.p,.int .i64 c.q,.int .i64 c.r,.int .i64 c.s]) (ha:Rd w ab [.int .i64 k]) (hc:Rd w cb [.int .i64 c.f,.int .i64 c.a,.int .i64 c.b,.int .i64 c.c,.int .i64 c.d,.int .i64 c.p,.int .i64 c.q,.int .i64 c.r,.int .i64 c.s]) :
  Calls Try.prog 48 #[iv lo hi,.pointer (some ⟨lb,0,none⟩),.pointer (some ⟨ab,0,none⟩),.pointer (some ⟨cb,0,none⟩)] w fun e w'=>e = .returned (cellv (putC c k lo hi))∧Below w.heap.size w w':=by
 have ll:=hl.lt;have la:=ha.lt;have lc:=hc.lt;rcases hk with rfl|rfl|rfl|rfl
 ·have H0:=((Ho.nil w).bx [.int .i64 lo,.int .i64 hi] 25 (w.heap.size) (by simp))
  have o_0:Bx ((w.alloc (.cells (List.toArray [.int .i64 lo,.int .i64 hi]) 25)).alloc (.cells (List.toArray [.int .i64 0,.int .i64 0,.int .i64 0,.int .i64 0,.int .i64 0,.int .i64 0,.int .i64 0,.int .i64 0,.int .i64 0]) 29)) (w.heap.size+1) [.int .i64 0,.int .i64 0,.int .i64 0,.int .i64 0,.int .i64 0,.int .i64 0,.int .i64 0,.int .i64 0,.int .i64 0]:=by
   (repeat (first|(with_reducible refine Bx.new ?_;(· (simp;done)))|with_reducible apply Bx.put9|with_reducible apply Bx.put6|with_reducible apply Bx.put2|with_reducible apply Bx.put1|with_reducible refine Bx.set ?_ (by omega)|with_reducible refine Bx.alc ?_ _|with_reducible refine Bx.drew ?_))
  have L0:Rd ((w.alloc (.cells (List.toArray [.int .i64 lo,.int .i64 hi]) 25)).alloc (.cells (List.toArray [.int .i64 0,.int .i64 0,.int .i64 0,.int .i64 0,.int .i64 0,.int .i64 0,.int .i64 0,.int .i64 0,.int .i64 0]) 29)) lb [.int .i64 c.a,.int .i64 c.b,.int .i64 c.c,.int .i64 c.d,.int .i64 c.p,.int .i64 c.q,.int .i64 c.r,.int .i64 c.s]:=(hl.alc _).alc _;have A0:Rd ((w.alloc (.cells (List.toArray [.int .i64 lo,.int .i64 hi]) 25)).alloc (.cells (List.toArray [.int .i64 0,.int .i64 0,.int .i64 0,.int .i64 0,.int .i64 0,.int .i64 0,.int .i64 0,.int .i64 0,.int .i64 0]) 29)) ab [.int .i64 0]:=(ha.alc _).alc _;have K0:Rd ((w.alloc (.cells (List.toArray [.int .i64 lo,.int .i64 hi]) 25)).alloc (.cells (List.toArray [.int .i64 0,.int .i64 0,.int .i64 0,.int .i64 0,.int .i64 0,.int .i64 0,.int .i64 0,.int .i64 0,.int .i64 0]) 29)) cb [.int .i64 c.f,.int .i64 c.a,.int .i64 c.b,.int .i64 c.c,.int .i64 c.d,.int .i64 c.p,.int .i64 c.q,.int .i64 c.r,.int .i64 c.s]:=(hc.alc _).alc _;go_enter Try.func48,Try.ntmps48;have o_0c:=o_0.c;have o_0f:=o_0.f;have l0:=L0.c;have a0:=A0.c;have k0:=K0.c
  have qlb0:¬(lb=w.heap.size):=by omega
  have qlb1:¬(lb=w.heap.size+1):=by omega
  have qlb2:¬(lb=w.heap.size+1+1):=by omega
  have qab0:¬(ab=w.heap.size):=by omega
  have qab1:¬(ab=w.heap.size+1):=by omega
  have qab2:¬(ab=w.heap.size+1+1):=by omega
  have qcb0:¬(cb=w.heap.size):=by omega
  have qcb1:¬(cb=w.heap.size+1):=by omega
  have qcb2:¬(cb=w.heap.size+1+1):=by omega
  have rlb0:¬(w.heap.size=lb):=by omega
  have rlb1:¬(w.heap.size+1=lb):=by omega
  have rlb2:¬(w.heap.size+1+1=lb):=by omega
  have rab0:¬(w.heap.size=ab):=by omega
  have rab1:¬(w.heap.size+1=ab):=by omega
  have rab2:¬(w.heap.size+1+1=ab):=by omega
  have rcb0:¬(w.heap.size=cb):=by omega
  have rcb1:¬(w.heap.size+1=cb):=by omega
  have rcb2:¬(w.heap.size+1+1=cb):=by omega
  have tlb0:lb<w.heap.size:=by omega
  have tlb1:lb<w.heap.size+1:=by omega
  have tlb2:lb<w.heap.size+1+1:=by omega
  have tab0:ab<w.heap.size:=by omega
  have tab1:ab<w.heap.size+1:=by omega
  have tab2:ab<w.heap.size+1+1:=by omega
  have tcb0:cb<w.heap.size:=by omega
  have tcb1:cb<w.heap.size+1:=by omega
  have tcb2:cb<w.heap.size+1+1:=by omega
  go_wp2_with fail
  refine bodyPost_box (b:=w.heap.size+1) (cs:=[.int .i64 c.f,.int .i64 lo,.int .i64 hi,.int .i64 c.c,.int .i64 c.d,.int .i64 c.p,.int .i64 c.q,.int .i64 c.r,.int .i64 c.s]) (v:=.agg #[.int .i64 c.f,.int .i64 lo,.int .i64 hi,.int .i64 c.c,.int .i64 c.d,.int .i64 c.p,.int .i64 c.q,.int .i64 c.r,.int .i64 c.s]) (by
   (repeat (first|with_reducible exact o_0|(with_reducible refine Bx.new ?_;(· (simp;done)))|with_reducible apply Bx.put9|with_reducible apply Bx.put6|with_reducible apply Bx.put2|with_reducible apply Bx.put1|with_reducible refine Bx.set ?_ (by omega)|with_reducible refine Bx.alc ?_ _|with_reducible refine Bx.drew ?_))) (fun X hX=>by simp [results,Try.results48,go_sem,hX]) rfl ⟨rfl,by
   refine Ho.below (n:=w.heap.size+1) (l:=[(w.heap.size,[.int .i64 lo,.int .i64 hi])]) ?_
   exact hoA⟩
 ·have H0:=((Ho.nil w).bx [.int .i64 lo,.int .i64 hi] 25 (w.heap.size) (by simp))
  have o_0:Bx ((w.alloc (.cells (List.toArray [.int .i64 lo,.int .i64 hi]) 25)).alloc (.cells (List.toArray [.int .i64 0,.int .i64 0,.int .i64 0,.int .i64 0,.int .i64 0,.int .i64 0,.int .i64 0,.int .i64 0,.int .i64 0]) 29)) (w.heap.size+1) [.int .i64 0,.int .i64 0,.int .i64 0,.int .i64 0,.int .i64 0,.int .i64 0,.int .i64 0,.int .i64 0,.int .i64 0]:=by
   (repeat (first|(with_reducible refine Bx.new ?_;(· (simp;done)))|with_reducible apply Bx.put9|with_reducible apply Bx.put6|with_reducible apply Bx.put2|with_reducible apply Bx.put1|with_reducible refine Bx.set ?_ (by omega)|with_reducible refine Bx.alc ?_ _|with_reducible refine Bx.drew ?_))
  have L0:Rd ((w.alloc (.cells (List.toArray [.int .i64 lo,.int .i64 hi]) 25)).alloc (.cells (List.toArray [.int .i64 0,.int .i64 0,.int .i64 0,.int .i64 0,.int .i64 0,.int .i64 0,.int .i64 0,.int .i64 0,.int .i64 0]) 29)) lb [.int .i64 c.a,.int .i64 c.b,.int .i64 c.c,.int .i64 c.d,.int .i64 c.p,.int .i64 c.q,.int .i64 c.r,.int .i64 c.s]:=(hl.alc _).alc _;have A0:Rd ((w.alloc (.cells (List.toArray [.int .i64 lo,.int .i64 hi]) 25)).alloc (.cells (List.toArray [.int .i64 0,.int .i64 0,.int .i64 0,.int .i64 0,.int .i64 0,.int .i64 0,.int .i64 0,.int .i64 0,.int .i64 0]) 29)) ab [.int .i64 1]:=(ha.alc _).alc _;have K0:Rd ((w.alloc (.cells (List.toArray [.int .i64 lo,.int .i64 hi]) 25)).alloc (.cells (List.toArray [.int .i64 0,.int .i64 0,.int .i64 0,.int .i64 0,.int .i64 0,.int .i64 0,.int .i64 0,.int .i64 0,.int .i64 0]) 29)) cb [.int .i64 c.f,.int .i64 c.a,.int .i64 c.b,.int .i64 c.c,.int .i64 c.d,.int .i64 c.p,.int .i64 c.q,.int .i64 c.r,.int .i64 c.s]:=(hc.alc _).alc _;go_enter Try.func48,Try.ntmps48;have o_0c:=o_0.c;have o_0f:=o_0.f;have l0:=L0.c;have a0:=A0.c;have k0:=K0.c
  have qlb0:¬(lb=w.heap.size):=by omega
  have qlb1:¬(lb=w.heap.size+1):=by omega
  have qlb2:¬(lb=w.heap.size+1+1):=by omega
  have qab0:¬(ab=w.heap.size):=by omega
  have qab1:¬(ab=w.heap.size+1):=by omega
  have qab2:¬(ab=w.heap.size+1+1):=by omega
  have qcb0:¬(cb=w.heap.size):=by omega
  have qcb1:¬(cb=w.heap.size+1):=by omega
  have qcb2:¬(cb=w.heap.size+1+1):=by omega
  have rlb0:¬(w.heap.size=lb):=by omega
  have rlb1:¬(w.heap.size+1=lb):=by omega
  have rlb2:¬(w.heap.size+1+1=lb):=by omega
  have rab0:¬(w.heap.size=ab):=by omega
  have rab1:¬(w.heap.size+1=ab):=by omega
  have rab2:¬(w.heap.size+1+1=ab):=by omega
  have rcb0:¬(w.heap.size=cb):=by omega
  have rcb1:¬(w.heap.size+1=cb):=by omega
  have rcb2:¬(w.heap.size+1+1=cb):=by omega
  have tlb0:lb<w.heap.size:=by omega
  have tlb1:lb<w.heap.size+1:=by omega
  have tlb2:lb<w.heap.size+1+1:=by omega
  have tab0:ab<w.heap.size:=by omega
  have tab1:ab<w.heap.size+1:=by omega
  have tab2:ab<w.heap.size+1+1:=by omega
  have tcb0:cb<w.heap.size:=by omega
  have tcb1:cb<w.heap.size+1:=by omega
  have tcb2:cb<w.heap.size+1+1:=by omega
  go_wp2_with fail
  refine bodyPost_box (b:=w.heap.size+1) (cs:=[.int .i64 c.f,.int .i64 c.a,.int .i64 c.b,.int .i64 lo,.int .i64 hi,.int .i64 c.p,.int .i64 c.q,.int .i64 c.r,.int .i64 c.s]) (v:=.agg #[.int .i64 c.f,.int .i64 c.a,.int .i64 c.b,.int .i64 lo,.int .i64 hi,.int .i64 c.p,.int .i64 c.q,.int .i64 c.r,.int .i64 c.s]) (by
   (repeat (first|with_reducible exact o_0|(with_reducible refine Bx.new ?_;(· (simp;done)))|with_reducible apply Bx.put9|with_reducible apply Bx.put6|with_reducible apply Bx.put2|with_reducible apply Bx.put1|with_reducible refine Bx.set ?_ (by omega)|with_reducible refine Bx.alc ?_ _|with_reducible refine Bx.drew ?_))) (fun X hX=>by simp [results,Try.results48,go_sem,hX]) rfl ⟨rfl,by
   refine Ho.below (n:=w.heap.size+1) (l:=[(w.heap.size,[.int .i64 lo,.int .i64 hi])]) ?_
   exact hoA⟩
 ·have H0:=((Ho.nil w).bx [.int .i64 lo,.int .i64 hi] 25 (w.heap.size) (by simp))
  have o_0:Bx ((w.alloc (.cells (List.toArray [.int .i64 lo,.int .i64 hi]) 25)).alloc (.cells (List.toArray [.int .i64 0,.int .i64 0,.int .i64 0,.int .i64 0,.int .i64 0,.int .i64 0,.int .i64 0,.int .i64 0,.int .i64 0]) 29)) (w.heap.size+1) [.int .i64 0,.int .i64 0,.int .i64 0,.int .i64 0,.int .i64 0,.int .i64 0,.int .i64 0,.int .i64 0,.int .i64 0]:=by
   (repeat (first|(with_reducible refine Bx.new ?_;(· (simp;done)))|with_reducible apply Bx.put9|with_reducible apply Bx.put6|with_reducible apply Bx.put2|with_reducible apply Bx.put1|with_reducible refine Bx.set ?_ (by omega)|with_reducible refine Bx.alc ?_ _|with_reducible refine Bx.drew ?_))
  have L0:Rd ((w.alloc (.cells (List.toArray [.int .i64 lo,.int .i64 hi]) 25)).alloc (.cells (List.toArray [.int .i64 0,.int .i64 0,.int .i64 0,.int .i64 0,.int .i64 0,.int .i64 0,.int .i64 0,.int .i64 0,.int .i64 0]) 29)) lb [.int .i64 c.a,.int .i64 c.b,.int .i64 c.c,.int .i64 c.d,.int .i64 c.p,.int .i64 c.q,.int .i64 c.r,.int .i64 c.s]:=(hl.alc _).alc _;have A0:Rd ((w.alloc (.cells (List.toArray [.int .i64 lo,.int .i64 hi]) 25)).alloc (.cells (List.toArray [.int .i64 0,.int .i64 0,.int .i64 0,.int .i64 0,.int .i64 0,.int .i64 0,.int .i64 0,.int .i64 0,.int .i64 0]) 29)) ab [.int .i64 2]:=(ha.alc _).alc _;have K0:Rd ((w.alloc (.cells (List.toArray [.int .i64 lo,.int .i64 hi]) 25)).alloc (.cells (List.toArray [.int .i64 0,.int .i64 0,.int .i64 0,.int .i64 0,.int .i64 0,.int .i64 0,.int .i64 0,.int .i64 0,.int .i64 0]) 29)) cb [.int .i64 c.f,.int .i64 c.a,.int .i64 c.b,.int .i64 c.c,.int .i64 c.d,.int .i64 c.p,.int .i64 c.q,.int .i64 c.r,.int .i64 c.s]:=(hc.alc _).alc _;go_enter Try.func48,Try.ntmps48;have o_0c:=o_0.c;have o_0f:=o_0.f;have l0:=L0.c;have a0:=A0.c;have k0:=K0.c
  have qlb0:¬(lb=w.heap.size):=by omega
  have qlb1:¬(lb=w.heap.size+1):=by omega
  have qlb2:¬(lb=w.heap.size+1+1):=by omega
  have qab0:¬(ab=w.heap.size):=by omega
  have qab1:¬(ab=w.heap.size+1):=by omega
  have qab2:¬(ab=w.heap.size+1+1):=by omega
  have qcb0:¬(cb=w.heap.size):=by omega
  have qcb1:¬(cb=w.heap.size+1):=by omega
  have qcb2:¬(cb=w.heap.size+1+1):=by omega
  have rlb0:¬(w.heap.size=lb):=by omega
  have rlb1:¬(w.heap.size+1=lb):=by omega
  have rlb2:¬(w.heap.size+1+1=lb):=by omega
  have rab0:¬(w.heap.size=ab):=by omega
  have rab1:¬(w.heap.size+1=ab):=by omega
  have rab2:¬(w.heap.size+1+1=ab):=by omega
  have rcb0:¬(w.heap.size=cb):=by omega
  have rcb1:¬(w.heap.size+1=cb):=by omega
  have rcb2:¬(w.heap.size+1+1=cb):=by omega
  have tlb0:lb<w.heap.size:=by omega
  have tlb1:lb<w.heap.size+1:=by omega
  have tlb2:lb<w.heap.size+1+1:=by omega
  have tab0:ab<w.heap.size:=by omega
  have tab1:ab<w.heap.size+1:=by omega
  have tab2:ab<w.heap.size+1+1:=by omega
  have tcb0:cb<w.heap.size:=by omega
  have tcb1:cb<w.heap.size+1:=by omega
  have tcb2:cb<w.heap.size+1+1:=by omega
  go_wp2_with fail
  refine bodyPost_box (b:=w.heap.size+1) (cs:=[.int .i64 c.f,.int .i64 c.a,.int .i64 c.b,.int .i64 c.c,.int .i64 c.d,.int .i64 lo,.int .i64 hi,.int .i64 c.r,.int .i64 c.s]) (v:=.agg #[.int .i64 c.f,.int .i64 c.a,.int .i64 c.b,.int .i64 c.c,.int .i64 c.d,.int .i64 lo,.int .i64 hi,.int .i64 c.r,.int .i64 c.s]) (by
   (repeat (first|with_reducible exact o_0|(with_reducible refine Bx.new ?_;(· (simp;done)))|with_reducible apply Bx.put9|with_reducible apply Bx.put6|with_reducible apply Bx.put2|with_reducible apply Bx.put1|with_reducible refine Bx.set ?_ (by omega)|with_reducible refine Bx.alc ?_ _|with_reducible refine Bx.drew ?_))) (fun X hX=>by simp [results,Try.results48,go_sem,hX]) rfl ⟨rfl,by
   refine Ho.below (n:=w.heap.size+1) (l:=[(w.heap.size,[.int .i64 lo,.int .i64 hi])]) ?_
   exact hoA⟩
 ·have H0:=((Ho.nil w).bx [.int .i64 lo,.int .i64 hi] 25 (w.heap.size) (by simp))
  have o_0:Bx ((w.alloc (.cells (List.toArray [.int .i64 lo,.int .i64 hi]) 25)).alloc (.cells (List.toArray [.int .i64 0,.int .i64 0,.int .i64 0,.int .i64 0,.int .i64 0,.int .i64 0,.int .i64 0,.int .i64 0,.int .i64 0]) 29)) (w.heap.size+1) [.int .i64 0,.int .i64 0,.int .i64 0,.int .i64 0,.int .i64 0,.int .i64 0,.int .i64 0,.int .i64 0,.int .i64 0]:=by
   (repeat (first|(with_reducible refine Bx.new ?_;(· (simp;done)))|with_reducible apply Bx.put9|with_reducible apply Bx.put6|with_reducible apply Bx.put2|with_reducible apply Bx.put1|with_reducible refine Bx.set ?_ (by omega)|with_reducible refine Bx.alc ?_ _|with_reducible refine Bx.drew ?_))
  have L0:Rd ((w.alloc (.cells (List.toArray [.int .i64 lo,.int .i64 hi]) 25)).alloc (.cells (List.toArray [.int .i64 0,.int .i64 0,.int .i64 0,.int .i64 0,.int .i64 0,.int .i64 0,.int .i64 0,.int .i64 0,.int .i64 0]) 29)) lb [.int .i64 c.a,.int .i64 c.b,.int .i64 c.c,.int .i64 c.d,.int .i64 c.p,.int .i64 c.q,.int .i64 c.r,.int .i64 c.s]:=(hl.alc _).alc _;have A0:Rd ((w.alloc (.cells (List.toArray [.int .i64 lo,.int .i64 hi]) 25)).alloc (.cells (List.toArray [.int .i64 0,.int .i64 0,.int .i64 0,.int .i64 0,.int .i64 0,.int .i64 0,.int .i64 0,.int .i64 0,.int .i64 0]) 29)) ab [.int .i64 3]:=(ha.alc _).alc _;have K0:Rd ((w.alloc (.cells (List.toArray [.int .i64 lo,.int .i64 hi]) 25)).alloc (.cells (List.toArray [.int .i64 0,.int .i64 0,.int .i64 0,.int .i64 0,.int .i64 0,.int .i64 0,.int .i64 0,.int .i64 0,.int .i64 0]) 29)) cb [.int .i64 c.f,.int .i64 c.a,.int .i64 c.b,.int .i64 c.c,.int .i64 c.d,.int .i64 c.p,.int .i64 c.q,.int .i64 c.r,.int .i64 c.s]:=(hc.alc _).alc _;go_enter Try.func48,Try.ntmps48;have o_0c:=o_0.c;have o_0f:=o_0.f;have l0:=L0.c;have a0:=A0.c;have k0:=K0.c
  have qlb0:¬(lb=w.heap.size):=by omega
  have qlb1:¬(lb=w.heap.size+1):=by omega
  have qlb2:¬(lb=w.heap.size+1+1):=by omega
  have qab0:¬(ab=w.heap.size):=by omega
  have qab1:¬(ab=w.heap.size+1):=by omega
  have qab2:¬(ab=w.heap.size+1+1):=by omega
  have qcb0:¬(cb=w.heap.size):=by omega
  have qcb1:¬(cb=w.heap.size+1):=by omega
  have qcb2:¬(cb=w.heap.size+1+1):=by omega
  have rlb0:¬(w.heap.size=lb):=by omega
  have rlb1:¬(w.heap.size+1=lb):=by omega
  have rlb2:¬(w.heap.size+1+1=lb):=by omega
  have rab0:¬(w.heap.size=ab):=by omega
  have rab1:¬(w.heap.size+1=ab):=by omega
  have rab2:¬(w.heap.size+1+1=ab):=by omega
  have rcb0:¬(w.heap.size=cb):=by omega
  have rcb1:¬(w.heap.size+1=cb):=by omega
  have rcb2:¬(w.heap.size+1+1=cb):=by omega
  have tlb0:lb<w.heap.size:=by omega
  have tlb1:lb<w.heap.size+1:=by omega
  have tlb2:lb<w.heap.size+1+1:=by omega
  have tab0:ab<w.heap.size:=by omega
  have tab1:ab<w.heap.size+1:=by omega
  have tab2:ab<w.heap.size+1+1:=by omega
  have tcb0:cb<w.heap.size:=by omega
  have tcb1:cb<w.heap.size+1:=by omega
  have tcb2:cb<w.heap.size+1+1:=by omega
  go_wp2_with fail
  refine bodyPost_box (b:=w.heap.size+1) (cs:=[.int .i64 c.f,.int .i64 c.a,.int .i64 c.b,.int .i64 c.c,.int .i64 c.d,.int .i64 c.p,.int .i64 c.q,.int .i64 lo,.int .i64 hi]) (v:=.agg #[.int .i64 c.f,.int .i64 c.a,.int .i64 c.b,.int .i64 c.c,.int .i64 c.d,.int .i64 c.p,.int .i64 c.q,.int .i64 lo,.int .i64 hi]) (by
   (repeat (first|with_reducible exact o_0|(with_reducible refine Bx.new ?_;(· (simp;done)))|with_reducible apply Bx.put9|with_reducible apply Bx.put6|with_reducible apply Bx.put2|with_reducible apply Bx.put1|with_reducible refine Bx.set ?_ (by omega)|with_reducible refine Bx.alc ?_ _|with_reducible refine Bx.drew ?_))) (fun X hX=>by simp [results,Try.results48,go_sem,hX]) rfl ⟨rfl,by
   refine Ho.below (n:=w.heap.size+1) (l:=[(w.heap.size,[.int .i64 lo,.int .i64 hi])]) ?_
   exact hoA⟩
theorem axisL_in:∀(l:List (Int × Int)) (i a w:Int),(axisL i l a w).2=0→(axisL i l a w).1=a∨(i≤(axisL i l a w).1∧(axisL i l a w).1<i+l.length)
 | [],i,a,w,h=>by
  unfold axisL at h ⊢;split at h
  ·cases h
  ·rename_i hw;rw [if_neg hw];exact .inl rfl
 |x::l,i,a,w,h=>by
  unfold axisL at h ⊢;split at h
  ·rename_i h1;rw [if_pos h1];split at h
   ·rename_i h2;rw [if_pos h2];rcases axisL_in l (i+1) i _ h with h3|h3
    ·rw [h3];exact .inr ⟨by omega,by simp only [List.length_cons];omega⟩
    ·exact .inr ⟨by omega,by simp only [List.length_cons];omega⟩
   ·rename_i h2;rw [if_neg h2];rcases axisL_in l (i+1) a w h with h3|h3
    ·exact .inl h3
    ·exact .inr ⟨by omega,by simp only [List.length_cons];omega⟩
  ·cases h
theorem axis_in {c:CV} (h:(axisR c).2=0):(axisR c).1=0∨(axisR c).1=1∨(axisR c).1=2∨(axisR c).1=3:=by
 rcases axisL_in (quad c) 0 0 (-1) h with h1|h1
 ·exact .inl h1
 ·have:(axisR c).1<0+4:=h1.2;have h2:(0:Int)≤(axisR c).1:=h1.1;omega
structure Sp0 (b0 kb lb xb yb a0 o1 n0:Nat) (c:CV) (s1 s2 s3 s4:Int) (w0 w:World) (l0 l1 l2 l3 l4 l5 l6 l7 l8:Bool) (v0 v1 v2 v3 v4 v5 v8:Value):Prop where
 g:Ho w0 w n0 [(yb,[.int .i64 s3,.int .i64 s4]),(xb,[.int .i64 s1,.int .i64 s2]),(lb,[.int .i64 c.a,.int .i64 c.b,.int .i64 c.c,.int .i64 c.d,.int .i64 c.p,.int .i64 c.q,.int .i64 c.r,.int .i64 c.s]),(kb,[.int .i64 0]),(b0,[.int .i64 c.f,.int .i64 c.a,.int .i64 c.b,.int .i64 c.c,.int .i64 c.d,.int .i64 c.p,.int .i64 c.q,.int .i64 c.r,.int .i64 c.s])]
 sz:n0≤w.heap.size
 mn:n0≤n0
 u0:l6=false→Bx w a0 [.int .i64 0,.int .i64 0,.int .i64 0,.int .i64 0,.int .i64 0,.int .i64 0,.int .i64 0,.int .i64 0,.int .i64 0]
 us0:l6=true→Bx w a0 [.int .i64 c.f,.int .i64 s1,.int .i64 s2,.int .i64 c.c,.int .i64 c.d,.int .i64 c.p,.int .i64 c.q,.int .i64 c.r,.int .i64 c.s]
 un0:a0<n0
 um0:w0.heap.size≤a0
 uq0:∀p∈([(yb,[.int .i64 s3,.int .i64 s4]),(xb,[.int .i64 s1,.int .i64 s2]),(lb,[.int .i64 c.a,.int .i64 c.b,.int .i64 c.c,.int .i64 c.d,.int .i64 c.p,.int .i64 c.q,.int .i64 c.r,.int .i64 c.s]),(kb,[.int .i64 0]),(b0,[.int .i64 c.f,.int .i64 c.a,.int .i64 c.b,.int .i64 c.c,.int .i64 c.d,.int .i64 c.p,.int .i64 c.q,.int .i64 c.r,.int .i64 c.s])]:List (Nat × List Value)),¬(p.1=a0)
 une0_1:¬(o1=a0)
 u1:l7=false→Bx w o1 [.int .i64 0,.int .i64 0,.int .i64 0,.int .i64 0,.int .i64 0,.int .i64 0,.int .i64 0,.int .i64 0,.int .i64 0]
 us1:l7=true→Bx w o1 [.int .i64 c.f,.int .i64 s3,.int .i64 s4,.int .i64 c.c,.int .i64 c.d,.int .i64 c.p,.int .i64 c.q,.int .i64 c.r,.int .i64 c.s]
 un1:o1<n0
 um1:w0.heap.size≤o1
 uq1:∀p∈([(yb,[.int .i64 s3,.int .i64 s4]),(xb,[.int .i64 s1,.int .i64 s2]),(lb,[.int .i64 c.a,.int .i64 c.b,.int .i64 c.c,.int .i64 c.d,.int .i64 c.p,.int .i64 c.q,.int .i64 c.r,.int .i64 c.s]),(kb,[.int .i64 0]),(b0,[.int .i64 c.f,.int .i64 c.a,.int .i64 c.b,.int .i64 c.c,.int .i64 c.d,.int .i64 c.p,.int .i64 c.q,.int .i64 c.r,.int .i64 c.s])]:List (Nat × List Value)),¬(p.1=o1)
 une1_0:¬(a0=o1)
 ev0:l0=true→v0 = .func (.func 48) #[] #[.pointer (some ⟨lb,0,none⟩),.pointer (some ⟨kb,0,none⟩),.pointer (some ⟨b0,0,none⟩)]
 ev1:l1=true→v1=(iv s1 s2)
 ev2:l2=true→v2 = .agg #[.int .i64 c.f,.int .i64 s1,.int .i64 s2,.int .i64 c.c,.int .i64 c.d,.int .i64 c.p,.int .i64 c.q,.int .i64 c.r,.int .i64 c.s]
 ev3:l3=true→v3 = .func (.func 48) #[] #[.pointer (some ⟨lb,0,none⟩),.pointer (some ⟨kb,0,none⟩),.pointer (some ⟨b0,0,none⟩)]
 ev4:l4=true→v4=(iv s3 s4)
 ev5:l5=true→v5 = .agg #[.int .i64 c.f,.int .i64 s3,.int .i64 s4,.int .i64 c.c,.int .i64 c.d,.int .i64 c.p,.int .i64 c.q,.int .i64 c.r,.int .i64 c.s]
 ev8:l8=true→v8 = .int .i64 0
theorem Sp0.kept {b0 kb lb xb yb a0 o1 n0:Nat} {c:CV} {s1 s2 s3 s4:Int} {w0 w:World} {l0 l1 l2 l3 l4 l5 l6 l7 l8:Bool} {v0 v1 v2 v3 v4 v5 v8:Value} {w':World} (h:Sp0 b0 kb lb xb yb a0 o1 n0 c s1 s2 s3 s4 w0 w l0 l1 l2 l3 l4 l5 l6 l7 l8 v0 v1 v2 v3 v4 v5 v8) (hb:Below w.heap.size w w'):Sp0 b0 kb lb xb yb a0 o1 n0 c s1 s2 s3 s4 w0 w' l0 l1 l2 l3 l4 l5 l6 l7 l8 v0 v1 v2 v3 v4 v5 v8:=
 {h with g:=h.g.call hb,sz:=Nat.le_trans h.sz hb.size,u0:=fun p=>(h.u0 p).kept hb,us0:=fun p=>(h.us0 p).kept hb,u1:=fun p=>(h.u1 p).kept hb,us1:=fun p=>(h.us1 p).kept hb}
def Sp0.I (b0 kb lb xb yb a0 o1 n0:Nat) (c:CV) (s1 s2 s3 s4:Int) (w0:World):Act→Array Bool→Act→World→Prop:=fun aO LX aX w=>∃(l0 l1 l2 l3 l4 l5 l6 l7 l8:Bool) (v0 v1 v2 v3 v4 v5 v8:Value),LX=#[l0,l1,l2,l3,l4,l5,l6,l7,l8]∧aX=(((((((aO.put (some 32) v0).put (some 33) v1).put (some 34) v2).put (some 35) v3).put (some 36) v4).put (some 37) v5).put (some 4) v8)∧Sp0 b0 kb lb xb yb a0 o1 n0 c s1 s2 s3 s4 w0 w l0 l1 l2 l3 l4 l5 l6 l7 l8 v0 v1 v2 v3 v4 v5 v8
structure Sp1 (b0 kb lb xb yb a0 o1 n0:Nat) (c:CV) (s1 s2 s3 s4:Int) (w0 w:World) (l0 l1 l2 l3 l4 l5 l6 l7 l8:Bool) (v0 v1 v2 v3 v4 v5 v8:Value):Prop where
 g:Ho w0 w n0 [(yb,[.int .i64 s3,.int .i64 s4]),(xb,[.int .i64 s1,.int .i64 s2]),(lb,[.int .i64 c.a,.int .i64 c.b,.int .i64 c.c,.int .i64 c.d,.int .i64 c.p,.int .i64 c.q,.int .i64 c.r,.int .i64 c.s]),(kb,[.int .i64 1]),(b0,[.int .i64 c.f,.int .i64 c.a,.int .i64 c.b,.int .i64 c.c,.int .i64 c.d,.int .i64 c.p,.int .i64 c.q,.int .i64 c.r,.int .i64 c.s])]
 sz:n0≤w.heap.size
 mn:n0≤n0
 u0:l6=false→Bx w a0 [.int .i64 0,.int .i64 0,.int .i64 0,.int .i64 0,.int .i64 0,.int .i64 0,.int .i64 0,.int .i64 0,.int .i64 0]
 us0:l6=true→Bx w a0 [.int .i64 c.f,.int .i64 c.a,.int .i64 c.b,.int .i64 s1,.int .i64 s2,.int .i64 c.p,.int .i64 c.q,.int .i64 c.r,.int .i64 c.s]
 un0:a0<n0
 um0:w0.heap.size≤a0
 uq0:∀p∈([(yb,[.int .i64 s3,.int .i64 s4]),(xb,[.int .i64 s1,.int .i64 s2]),(lb,[.int .i64 c.a,.int .i64 c.b,.int .i64 c.c,.int .i64 c.d,.int .i64 c.p,.int .i64 c.q,.int .i64 c.r,.int .i64 c.s]),(kb,[.int .i64 1]),(b0,[.int .i64 c.f,.int .i64 c.a,.int .i64 c.b,.int .i64 c.c,.int .i64 c.d,.int .i64 c.p,.int .i64 c.q,.int .i64 c.r,.int .i64 c.s])]:List (Nat × List Value)),¬(p.1=a0)
 une0_1:¬(o1=a0)
 u1:l7=false→Bx w o1 [.int .i64 0,.int .i64 0,.int .i64 0,.int .i64 0,.int .i64 0,.int .i64 0,.int .i64 0,.int .i64 0,.int .i64 0]
 us1:l7=true→Bx w o1 [.int .i64 c.f,.int .i64 c.a,.int .i64 c.b,.int .i64 s3,.int .i64 s4,.int .i64 c.p,.int .i64 c.q,.int .i64 c.r,.int .i64 c.s]
 un1:o1<n0
 um1:w0.heap.size≤o1
 uq1:∀p∈([(yb,[.int .i64 s3,.int .i64 s4]),(xb,[.int .i64 s1,.int .i64 s2]),(lb,[.int .i64 c.a,.int .i64 c.b,.int .i64 c.c,.int .i64 c.d,.int .i64 c.p,.int .i64 c.q,.int .i64 c.r,.int .i64 c.s]),(kb,[.int .i64 1]),(b0,[.int .i64 c.f,.int .i64 c.a,.int .i64 c.b,.int .i64 c.c,.int .i64 c.d,.int .i64 c.p,.int .i64 c.q,.int .i64 c.r,.int .i64 c.s])]:List (Nat × List Value)),¬(p.1=o1)
 une1_0:¬(a0=o1)
 ev0:l0=true→v0 = .func (.func 48) #[] #[.pointer (some ⟨lb,0,none⟩),.pointer (some ⟨kb,0,none⟩),.pointer (some ⟨b0,0,none⟩)]
 ev1:l1=true→v1=(iv s1 s2)
 ev2:l2=true→v2 = .agg #[.int .i64 c.f,.int .i64 c.a,.int .i64 c.b,.int .i64 s1,.int .i64 s2,.int .i64 c.p,.int .i64 c.q,.int .i64 c.r,.int .i64 c.s]
 ev3:l3=true→v3 = .func (.func 48) #[] #[.pointer (some ⟨lb,0,none⟩),.pointer (some ⟨kb,0,none⟩),.pointer (some ⟨b0,0,none⟩)]
 ev4:l4=true→v4=(iv s3 s4)
 ev5:l5=true→v5 = .agg #[.int .i64 c.f,.int .i64 c.a,.int .i64 c.b,.int .i64 s3,.int .i64 s4,.int .i64 c.p,.int .i64 c.q,.int .i64 c.r,.int .i64 c.s]
 ev8:l8=true→v8 = .int .i64 0
theorem Sp1.kept {b0 kb lb xb yb a0 o1 n0:Nat} {c:CV} {s1 s2 s3 s4:Int} {w0 w:World} {l0 l1 l2 l3 l4 l5 l6 l7 l8:Bool} {v0 v1 v2 v3 v4 v5 v8:Value} {w':World} (h:Sp1 b0 kb lb xb yb a0 o1 n0 c s1 s2 s3 s4 w0 w l0 l1 l2 l3 l4 l5 l6 l7 l8 v0 v1 v2 v3 v4 v5 v8) (hb:Below w.heap.size w w'):Sp1 b0 kb lb xb yb a0 o1 n0 c s1 s2 s3 s4 w0 w' l0 l1 l2 l3 l4 l5 l6 l7 l8 v0 v1 v2 v3 v4 v5 v8:=
 {h with g:=h.g.call hb,sz:=Nat.le_trans h.sz hb.size,u0:=fun p=>(h.u0 p).kept hb,us0:=fun p=>(h.us0 p).kept hb,u1:=fun p=>(h.u1 p).kept hb,us1:=fun p=>(h.us1 p).kept hb}
def Sp1.I (b0 kb lb xb yb a0 o1 n0:Nat) (c:CV) (s1 s2 s3 s4:Int) (w0:World):Act→Array Bool→Act→World→Prop:=fun aO LX aX w=>∃(l0 l1 l2 l3 l4 l5 l6 l7 l8:Bool) (v0 v1 v2 v3 v4 v5 v8:Value),LX=#[l0,l1,l2,l3,l4,l5,l6,l7,l8]∧aX=(((((((aO.put (some 32) v0).put (some 33) v1).put (some 34) v2).put (some 35) v3).put (some 36) v4).put (some 37) v5).put (some 4) v8)∧Sp1 b0 kb lb xb yb a0 o1 n0 c s1 s2 s3 s4 w0 w l0 l1 l2 l3 l4 l5 l6 l7 l8 v0 v1 v2 v3 v4 v5 v8
structure Sp2 (b0 kb lb xb yb a0 o1 n0:Nat) (c:CV) (s1 s2 s3 s4:Int) (w0 w:World) (l0 l1 l2 l3 l4 l5 l6 l7 l8:Bool) (v0 v1 v2 v3 v4 v5 v8:Value):Prop where
 g:Ho w0 w n0 [(yb,[.int .i64 s3,.int .i64 s4]),(xb,[.int .i64 s1,.int .i64 s2]),(lb,[.int .i64 c.a,.int .i64 c.b,.int .i64 c.c,.int .i64 c.d,.int .i64 c.p,.int .i64 c.q,.int .i64 c.r,.int .i64 c.s]),(kb,[.int .i64 2]),(b0,[.int .i64 c.f,.int .i64 c.a,.int .i64 c.b,.int .i64 c.c,.int .i64 c.d,.int .i64 c.p,.int .i64 c.q,.int .i64 c.r,.int .i64 c.s])]
 sz:n0≤w.heap.size
 mn:n0≤n0
 u0:l6=false→Bx w a0 [.int .i64 0,.int .i64 0,.int .i64 0,.int .i64 0,.int .i64 0,.int .i64 0,.int .i64 0,.int .i64 0,.int .i64 0]
 us0:l6=true→Bx w a0 [.int .i64 c.f,.int .i64 c.a,.int .i64 c.b,.int .i64 c.c,.int .i64 c.d,.int .i64 s1,.int .i64 s2,.int .i64 c.r,.int .i64 c.s]
 un0:a0<n0
 um0:w0.heap.size≤a0
 uq0:∀p∈([(yb,[.int .i64 s3,.int .i64 s4]),(xb,[.int .i64 s1,.int .i64 s2]),(lb,[.int .i64 c.a,.int .i64 c.b,.int .i64 c.c,.int .i64 c.d,.int .i64 c.p,.int .i64 c.q,.int .i64 c.r,.int .i64 c.s]),(kb,[.int .i64 2]),(b0,[.int .i64 c.f,.int .i64 c.a,.int .i64 c.b,.int .i64 c.c,.int .i64 c.d,.int .i64 c.p,.int .i64 c.q,.int .i64 c.r,.int .i64 c.s])]:List (Nat × List Value)),¬(p.1=a0)
 une0_1:¬(o1=a0)
 u1:l7=false→Bx w o1 [.int .i64 0,.int .i64 0,.int .i64 0,.int .i64 0,.int .i64 0,.int .i64 0,.int .i64 0,.int .i64 0,.int .i64 0]
 us1:l7=true→Bx w o1 [.int .i64 c.f,.int .i64 c.a,.int .i64 c.b,.int .i64 c.c,.int .i64 c.d,.int .i64 s3,.int .i64 s4,.int .i64 c.r,.int .i64 c.s]
 un1:o1<n0
 um1:w0.heap.size≤o1
 uq1:∀p∈([(yb,[.int .i64 s3,.int .i64 s4]),(xb,[.int .i64 s1,.int .i64 s2]),(lb,[.int .i64 c.a,.int .i64 c.b,.int .i64 c.c,.int .i64 c.d,.int .i64 c.p,.int .i64 c.q,.int .i64 c.r,.int .i64 c.s]),(kb,[.int .i64 2]),(b0,[.int .i64 c.f,.int .i64 c.a,.int .i64 c.b,.int .i64 c.c,.int .i64 c.d,.int .i64 c.p,.int .i64 c.q,.int .i64 c.r,.int .i64 c.s])]:List (Nat × List Value)),¬(p.1=o1)
 une1_0:¬(a0=o1)
 ev0:l0=true→v0 = .func (.func 48) #[] #[.pointer (some ⟨lb,0,none⟩),.pointer (some ⟨kb,0,none⟩),.pointer (some ⟨b0,0,none⟩)]
 ev1:l1=true→v1=(iv s1 s2)
 ev2:l2=true→v2 = .agg #[.int .i64 c.f,.int .i64 c.a,.int .i64 c.b,.int .i64 c.c,.int .i64 c.d,.int .i64 s1,.int .i64 s2,.int .i64 c.r,.int .i64 c.s]
 ev3:l3=true→v3 = .func (.func 48) #[] #[.pointer (some ⟨lb,0,none⟩),.pointer (some ⟨kb,0,none⟩),.pointer (some ⟨b0,0,none⟩)]
 ev4:l4=true→v4=(iv s3 s4)
 ev5:l5=true→v5 = .agg #[.int .i64 c.f,.int .i64 c.a,.int .i64 c.b,.int .i64 c.c,.int .i64 c.d,.int .i64 s3,.int .i64 s4,.int .i64 c.r,.int .i64 c.s]
 ev8:l8=true→v8 = .int .i64 0
theorem Sp2.kept {b0 kb lb xb yb a0 o1 n0:Nat} {c:CV} {s1 s2 s3 s4:Int} {w0 w:World} {l0 l1 l2 l3 l4 l5 l6 l7 l8:Bool} {v0 v1 v2 v3 v4 v5 v8:Value} {w':World} (h:Sp2 b0 kb lb xb yb a0 o1 n0 c s1 s2 s3 s4 w0 w l0 l1 l2 l3 l4 l5 l6 l7 l8 v0 v1 v2 v3 v4 v5 v8) (hb:Below w.heap.size w w'):Sp2 b0 kb lb xb yb a0 o1 n0 c s1 s2 s3 s4 w0 w' l0 l1 l2 l3 l4 l5 l6 l7 l8 v0 v1 v2 v3 v4 v5 v8:=
 {h with g:=h.g.call hb,sz:=Nat.le_trans h.sz hb.size,u0:=fun p=>(h.u0 p).kept hb,us0:=fun p=>(h.us0 p).kept hb,u1:=fun p=>(h.u1 p).kept hb,us1:=fun p=>(h.us1 p).kept hb}
def Sp2.I (b0 kb lb xb yb a0 o1 n0:Nat) (c:CV) (s1 s2 s3 s4:Int) (w0:World):Act→Array Bool→Act→World→Prop:=fun aO LX aX w=>∃(l0 l1 l2 l3 l4 l5 l6 l7 l8:Bool) (v0 v1 v2 v3 v4 v5 v8:Value),LX=#[l0,l1,l2,l3,l4,l5,l6,l7,l8]∧aX=(((((((aO.put (some 32) v0).put (some 33) v1).put (some 34) v2).put (some 35) v3).put (some 36) v4).put (some 37) v5).put (some 4) v8)∧Sp2 b0 kb lb xb yb a0 o1 n0 c s1 s2 s3 s4 w0 w l0 l1 l2 l3 l4 l5 l6 l7 l8 v0 v1 v2 v3 v4 v5 v8
structure Sp3 (b0 kb lb xb yb a0 o1 n0:Nat) (c:CV) (s1 s2 s3 s4:Int) (w0 w:World) (l0 l1 l2 l3 l4 l5 l6 l7 l8:Bool) (v0 v1 v2 v3 v4 v5 v8:Value):Prop where
 g:Ho w0 w n0 [(yb,[.int .i64 s3,.int .i64 s4]),(xb,[.int .i64 s1,.int .i64 s2]),(lb,[.int .i64 c.a,.int .i64 c.b,.int .i64 c.c,.int .i64 c.d,.int .i64 c.p,.int .i64 c.q,.int .i64 c.r,.int .i64 c.s]),(kb,[.int .i64 3]),(b0,[.int .i64 c.f,.int .i64 c.a,.int .i64 c.b,.int .i64 c.c,.int .i64 c.d,.int .i64 c.p,.int .i64 c.q,.int .i64 c.r,.int .i64 c.s])]
 sz:n0≤w.heap.size
 mn:n0≤n0
 u0:l6=false→Bx w a0 [.int .i64 0,.int .i64 0,.int .i64 0,.int .i64 0,.int .i64 0,.int .i64 0,.int .i64 0,.int .i64 0,.int .i64 0]
 us0:l6=true→Bx w a0 [.int .i64 c.f,.int .i64 c.a,.int .i64 c.b,.int .i64 c.c,.int .i64 c.d,.int .i64 c.p,.int .i64 c.q,.int .i64 s1,.int .i64 s2]
 un0:a0<n0
 um0:w0.heap.size≤a0
 uq0:∀p∈([(yb,[.int .i64 s3,.int .i64 s4]),(xb,[.int .i64 s1,.int .i64 s2]),(lb,[.int .i64 c.a,.int .i64 c.b,.int .i64 c.c,.int .i64 c.d,.int .i64 c.p,.int .i64 c.q,.int .i64 c.r,.int .i64 c.s]),(kb,[.int .i64 3]),(b0,[.int .i64 c.f,.int .i64 c.a,.int .i64 c.b,.int .i64 c.c,.int .i64 c.d,.int .i64 c.p,.int .i64 c.q,.int .i64 c.r,.int .i64 c.s])]:List (Nat × List Value)),¬(p.1=a0)
 une0_1:¬(o1=a0)
 u1:l7=false→Bx w o1 [.int .i64 0,.int .i64 0,.int .i64 0,.int .i64 0,.int .i64 0,.int .i64 0,.int .i64 0,.int .i64 0,.int .i64 0]
 us1:l7=true→Bx w o1 [.int .i64 c.f,.int .i64 c.a,.int .i64 c.b,.int .i64 c.c,.int .i64 c.d,.int .i64 c.p,.int .i64 c.q,.int .i64 s3,.int .i64 s4]
 un1:o1<n0
 um1:w0.heap.size≤o1
 uq1:∀p∈([(yb,[.int .i64 s3,.int .i64 s4]),(xb,[.int .i64 s1,.int .i64 s2]),(lb,[.int .i64 c.a,.int .i64 c.b,.int .i64 c.c,.int .i64 c.d,.int .i64 c.p,.int .i64 c.q,.int .i64 c.r,.int .i64 c.s]),(kb,[.int .i64 3]),(b0,[.int .i64 c.f,.int .i64 c.a,.int .i64 c.b,.int .i64 c.c,.int .i64 c.d,.int .i64 c.p,.int .i64 c.q,.int .i64 c.r,.int .i64 c.s])]:List (Nat × List Value)),¬(p.1=o1)
 une1_0:¬(a0=o1)
 ev0:l0=true→v0 = .func (.func 48) #[] #[.pointer (some ⟨lb,0,none⟩),.pointer (some ⟨kb,0,none⟩),.pointer (some ⟨b0,0,none⟩)]
 ev1:l1=true→v1=(iv s1 s2)
 ev2:l2=true→v2 = .agg #[.int .i64 c.f,.int .i64 c.a,.int .i64 c.b,.int .i64 c.c,.int .i64 c.d,.int .i64 c.p,.int .i64 c.q,.int .i64 s1,.int .i64 s2]
 ev3:l3=true→v3 = .func (.func 48) #[] #[.pointer (some ⟨lb,0,none⟩),.pointer (some ⟨kb,0,none⟩),.pointer (some ⟨b0,0,none⟩)]
 ev4:l4=true→v4=(iv s3 s4)
 ev5:l5=true→v5 = .agg #[.int .i64 c.f,.int .i64 c.a,.int .i64 c.b,.int .i64 c.c,.int .i64 c.d,.int .i64 c.p,.int .i64 c.q,.int .i64 s3,.int .i64 s4]
 ev8:l8=true→v8 = .int .i64 0
theorem Sp3.kept {b0 kb lb xb yb a0 o1 n0:Nat} {c:CV} {s1 s2 s3 s4:Int} {w0 w:World} {l0 l1 l2 l3 l4 l5 l6 l7 l8:Bool} {v0 v1 v2 v3 v4 v5 v8:Value} {w':World} (h:Sp3 b0 kb lb xb yb a0 o1 n0 c s1 s2 s3 s4 w0 w l0 l1 l2 l3 l4 l5 l6 l7 l8 v0 v1 v2 v3 v4 v5 v8) (hb:Below w.heap.size w w'):Sp3 b0 kb lb xb yb a0 o1 n0 c s1 s2 s3 s4 w0 w' l0 l1 l2 l3 l4 l5 l6 l7 l8 v0 v1 v2 v3 v4 v5 v8:=
 {h with g:=h.g.call hb,sz:=Nat.le_trans h.sz hb.size,u0:=fun p=>(h.u0 p).kept hb,us0:=fun p=>(h.us0 p).kept hb,u1:=fun p=>(h.u1 p).kept hb,us1:=fun p=>(h.us1 p).kept hb}
def Sp3.I (b0 kb lb xb yb a0 o1 n0:Nat) (c:CV) (s1 s2 s3 s4:Int) (w0:World):Act→Array Bool→Act→World→Prop:=fun aO LX aX w=>∃(l0 l1 l2 l3 l4 l5 l6 l7 l8:Bool) (v0 v1 v2 v3 v4 v5 v8:Value),LX=#[l0,l1,l2,l3,l4,l5,l6,l7,l8]∧aX=(((((((aO.put (some 32) v0).put (some 33) v1).put (some 34) v2).put (some 35) v3).put (some 36) v4).put (some 37) v5).put (some 4) v8)∧Sp3 b0 kb lb xb yb a0 o1 n0 c s1 s2 s3 s4 w0 w l0 l1 l2 l3 l4 l5 l6 l7 l8 v0 v1 v2 v3 v4 v5 v8
set_option maxRecDepth 100000 in
set_option maxHeartbeats 16000000 in
theorem halves_any (c:CV) (w:World):Calls Try.prog 22 #[cellv c] w fun e w'=>e = .returned (.tuple #[cellv (halvesR c).a,cellv (halvesR c).b,.int .i64 (halvesR c).e])∧Below w.heap.size w w':=by
 obtain ⟨⟨x,e1⟩,h1⟩:∃r:Int × Int,axisR c=r:=⟨_,rfl⟩;have HI:=Lib.hid (show e1=0→x=0∨x=1∨x=2∨x=3 from fun h=>by have:=axis_in (c:=c);rw [h1] at this;exact this h);have HR:=Lib.hid (show halvesR c=if e1=0 then ⟨putC c x (splitR (getC c x).1 (getC c x).2).a (splitR (getC c x).1 (getC c x).2).b,putC c x (splitR (getC c x).1 (getC c x).2).c (splitR (getC c x).1 (getC c x).2).d,0⟩ else ⟨zC,zC,e1⟩ from by unfold halvesR;rw [h1]);have X1:=Lib.hid h1;clear h1;unfold cellv
 by_cases he1:e1=0
 ·subst he1;rcases HI.out rfl with rfl|rfl|rfl|rfl
  ·obtain ⟨⟨s1,s2,s3,s4,s5⟩,h2⟩:∃r:R2,splitR c.a c.b=r:=⟨_,rfl⟩;have HR2:=Lib.hid (show halvesR c=⟨putC c 0 s1 s2,putC c 0 s3 s4,0⟩ from by rw [HR.out,if_pos rfl];show H2.mk (putC c 0 (splitR c.a c.b).a (splitR c.a c.b).b) (putC c 0 (splitR c.a c.b).c (splitR c.a c.b).d) 0=_;rw [h2]);have X2:=Lib.hid h2;clear h2;have H0:=((Ho.nil w).bx [.int .i64 c.f,.int .i64 c.a,.int .i64 c.b,.int .i64 c.c,.int .i64 c.d,.int .i64 c.p,.int .i64 c.q,.int .i64 c.r,.int .i64 c.s] 29 (w.heap.size) (by simp));have a_0:Bx (((w.alloc (.cells (List.toArray [.int .i64 c.f,.int .i64 c.a,.int .i64 c.b,.int .i64 c.c,.int .i64 c.d,.int .i64 c.p,.int .i64 c.q,.int .i64 c.r,.int .i64 c.s]) 29)).alloc (.cells (List.toArray [.int .i64 0,.int .i64 0,.int .i64 0,.int .i64 0,.int .i64 0,.int .i64 0,.int .i64 0,.int .i64 0,.int .i64 0]) 29)).alloc (.cells (List.toArray [.int .i64 0,.int .i64 0,.int .i64 0,.int .i64 0,.int .i64 0,.int .i64 0,.int .i64 0,.int .i64 0,.int .i64 0]) 29)) (w.heap.size+1) [.int .i64 0,.int .i64 0,.int .i64 0,.int .i64 0,.int .i64 0,.int .i64 0,.int .i64 0,.int .i64 0,.int .i64 0]:=bxA;have b_0:Bx (((w.alloc (.cells (List.toArray [.int .i64 c.f,.int .i64 c.a,.int .i64 c.b,.int .i64 c.c,.int .i64 c.d,.int .i64 c.p,.int .i64 c.q,.int .i64 c.r,.int .i64 c.s]) 29)).alloc (.cells (List.toArray [.int .i64 0,.int .i64 0,.int .i64 0,.int .i64 0,.int .i64 0,.int .i64 0,.int .i64 0,.int .i64 0,.int .i64 0]) 29)).alloc (.cells (List.toArray [.int .i64 0,.int .i64 0,.int .i64 0,.int .i64 0,.int .i64 0,.int .i64 0,.int .i64 0,.int .i64 0,.int .i64 0]) 29)) (w.heap.size+1+1) [.int .i64 0,.int .i64 0,.int .i64 0,.int .i64 0,.int .i64 0,.int .i64 0,.int .i64 0,.int .i64 0,.int .i64 0]:=bxA;go_enter Try.func22,Try.ntmps22;have a_0c:=a_0.c;have a_0f:=a_0.f;have b_0c:=b_0.c;have b_0f:=b_0.f;have zx0:=zp (w.heap.size+1) (w.heap.size+1+1)
   go_wp2_with fail
   refine (axis_any c _).mono ?_;rintro r w1 ⟨rfl,hb⟩;rw [X1.out];dsimp only;have H1:Ho w w1 (w.heap.size+1) [(w.heap.size,[.int .i64 c.f,.int .i64 c.a,.int .i64 c.b,.int .i64 c.c,.int .i64 c.d,.int .i64 c.p,.int .i64 c.q,.int .i64 c.r,.int .i64 c.s])]:=Ho.call hoA hb;have a_1:=bxK a_0 hb;have b_1:=bxK b_0 hb;clear a_0c a_0f b_0c b_0f zx0;have hs1:=H1.size;have hz1:=hb.size
   (try simp at hz1)
   clear hb;have h0_1:=(H1.at 0 rfl).c;have a_1c:=a_1.c;have a_1f:=a_1.f;have a_1l:=a_1.lt;have b_1c:=b_1.c;have b_1f:=b_1.f;have b_1l:=b_1.lt;have zx1:=ai (zq (w.heap.size+1) (w1.heap.size))<|ai (zq (w.heap.size+1+1) (w1.heap.size))<|ai (zq (w.heap.size) (w1.heap.size))<|ai (zp (w.heap.size+1) (w.heap.size+1+1))<|ai (zp (w.heap.size+1) (w.heap.size))<|zp (w.heap.size+1+1) (w.heap.size)
   go_wp2_with fail
   refine (rints_any c _).mono ?_;rintro r w2 ⟨rfl,hb⟩;have H2:Ho w w2 (w.heap.size+1) [(w.heap.size,[.int .i64 c.f,.int .i64 c.a,.int .i64 c.b,.int .i64 c.c,.int .i64 c.d,.int .i64 c.p,.int .i64 c.q,.int .i64 c.r,.int .i64 c.s])]:=Ho.call hoA hb;have a_2:=bxK a_1 hb;have b_2:=bxK b_1 hb;have k_2:Bx w2 (w1.heap.size) [.int .i64 0]:=Bx.kept bxA hb;clear h0_1 a_1c a_1f b_1c b_1f zx1;have hs2:=H2.size;have hz2:=hb.size
   (try simp at hz2)
   clear hb;have h0_2:=(H2.at 0 rfl).c;have a_2c:=a_2.c;have a_2f:=a_2.f;have a_2l:=a_2.lt;have b_2c:=b_2.c;have b_2f:=b_2.f;have b_2l:=b_2.lt;have k_2c:=k_2.c;have k_2f:=k_2.f;have k_2l:=k_2.lt;have zx2:=ai (zq (w.heap.size+1) (w2.heap.size))<|ai (zq (w.heap.size+1+1) (w2.heap.size))<|ai (zq (w1.heap.size) (w2.heap.size))<|ai (zq (w.heap.size) (w2.heap.size))<|ai (zp (w.heap.size+1) (w.heap.size+1+1))<|ai (zp (w.heap.size+1) (w1.heap.size))<|ai (zp (w.heap.size+1) (w.heap.size))<|ai (zp (w.heap.size+1+1) (w1.heap.size))<|ai (zp (w.heap.size+1+1) (w.heap.size))<|zp (w1.heap.size) (w.heap.size);unfold int4
   go_wp2_with fail
   refine (split_any c.a c.b _).mono ?_;rintro r w3 ⟨rfl,hb⟩;rw [X2.out];unfold retR2;dsimp only;have H3:Ho w w3 (w.heap.size+1) [(w.heap.size,[.int .i64 c.f,.int .i64 c.a,.int .i64 c.b,.int .i64 c.c,.int .i64 c.d,.int .i64 c.p,.int .i64 c.q,.int .i64 c.r,.int .i64 c.s])]:=Ho.call hoA hb;have a_3:=bxK a_2 hb;have b_3:=bxK b_2 hb;have k_3:=bxK k_2 hb;have l_3:Bx w3 (w2.heap.size) [.int .i64 c.a,.int .i64 c.b,.int .i64 c.c,.int .i64 c.d,.int .i64 c.p,.int .i64 c.q,.int .i64 c.r,.int .i64 c.s]:=Bx.kept bxA hb;clear h0_2 a_2c a_2f b_2c b_2f k_2c k_2f zx2;have hs3:=H3.size;have hz3:=hb.size
   (try simp at hz3)
   clear hb;have h0_3:=(H3.at 0 rfl).c;have a_3c:=a_3.c;have a_3f:=a_3.f;have a_3l:=a_3.lt;have b_3c:=b_3.c;have b_3f:=b_3.f;have b_3l:=b_3.lt;have k_3c:=k_3.c;have k_3f:=k_3.f;have k_3l:=k_3.lt;have l_3c:=l_3.c;have l_3f:=l_3.f;have l_3l:=l_3.lt;have zx3:=ai (zp (w.heap.size+1) (w3.heap.size))<|ai (zp (w.heap.size+1) (w3.heap.size+1))<|ai (zl (w.heap.size+1) (w3.heap.size))<|ai (by omega:w.heap.size+1<w3.heap.size+1+1)<|ai (zp (w.heap.size+1+1) (w3.heap.size))<|ai (zp (w.heap.size+1+1) (w3.heap.size+1))<|ai (zl (w.heap.size+1+1) (w3.heap.size))<|ai (by omega:w.heap.size+1+1<w3.heap.size+1+1)<|ai (zp (w1.heap.size) (w3.heap.size))<|ai (zp (w1.heap.size) (w3.heap.size+1))<|ai (zl (w1.heap.size) (w3.heap.size))<|ai (by omega:w1.heap.size<w3.heap.size+1+1)<|ai (zp (w2.heap.size) (w3.heap.size))<|ai (zp (w2.heap.size) (w3.heap.size+1))<|ai (zl (w2.heap.size) (w3.heap.size))<|ai (by omega:w2.heap.size<w3.heap.size+1+1)<|ai (zp (w.heap.size) (w3.heap.size))<|ai (zp (w.heap.size) (w3.heap.size+1))<|ai (zl (w.heap.size) (w3.heap.size))<|ai (by omega:w.heap.size<w3.heap.size+1+1)<|ai (zp (w.heap.size+1) (w.heap.size+1+1))<|ai (zp (w.heap.size+1) (w1.heap.size))<|ai (zp (w.heap.size+1) (w2.heap.size))<|ai (zp (w.heap.size+1) (w.heap.size))<|ai (zp (w.heap.size+1+1) (w1.heap.size))<|ai (zp (w.heap.size+1+1) (w2.heap.size))<|ai (zp (w.heap.size+1+1) (w.heap.size))<|ai (zp (w1.heap.size) (w2.heap.size))<|ai (zp (w1.heap.size) (w.heap.size))<|zp (w2.heap.size) (w.heap.size)
   go_upto_region 7 with fail
   have HA:Ho w ((w3.alloc (.cells (List.toArray [.int .i64 s1,.int .i64 s2]) 25)).alloc (.cells (List.toArray [.int .i64 s3,.int .i64 s4]) 25)) (w.heap.size+1) [(w.heap.size,[.int .i64 c.f,.int .i64 c.a,.int .i64 c.b,.int .i64 c.c,.int .i64 c.d,.int .i64 c.p,.int .i64 c.q,.int .i64 c.r,.int .i64 c.s])]:=hoA;have aA:Bx ((w3.alloc (.cells (List.toArray [.int .i64 s1,.int .i64 s2]) 25)).alloc (.cells (List.toArray [.int .i64 s3,.int .i64 s4]) 25)) (w.heap.size+1) [.int .i64 0,.int .i64 0,.int .i64 0,.int .i64 0,.int .i64 0,.int .i64 0,.int .i64 0,.int .i64 0,.int .i64 0]:=bxB;have bA:Bx ((w3.alloc (.cells (List.toArray [.int .i64 s1,.int .i64 s2]) 25)).alloc (.cells (List.toArray [.int .i64 s3,.int .i64 s4]) 25)) (w.heap.size+1+1) [.int .i64 0,.int .i64 0,.int .i64 0,.int .i64 0,.int .i64 0,.int .i64 0,.int .i64 0,.int .i64 0,.int .i64 0]:=bxB;have kA:Bx ((w3.alloc (.cells (List.toArray [.int .i64 s1,.int .i64 s2]) 25)).alloc (.cells (List.toArray [.int .i64 s3,.int .i64 s4]) 25)) w1.heap.size [.int .i64 0]:=bxB;have lA:Bx ((w3.alloc (.cells (List.toArray [.int .i64 s1,.int .i64 s2]) 25)).alloc (.cells (List.toArray [.int .i64 s3,.int .i64 s4]) 25)) w2.heap.size [.int .i64 c.a,.int .i64 c.b,.int .i64 c.c,.int .i64 c.d,.int .i64 c.p,.int .i64 c.q,.int .i64 c.r,.int .i64 c.s]:=bxB;have xA:Bx ((w3.alloc (.cells (List.toArray [.int .i64 s1,.int .i64 s2]) 25)).alloc (.cells (List.toArray [.int .i64 s3,.int .i64 s4]) 25)) w3.heap.size [.int .i64 s1,.int .i64 s2]:=bxA;have yA:Bx ((w3.alloc (.cells (List.toArray [.int .i64 s1,.int .i64 s2]) 25)).alloc (.cells (List.toArray [.int .i64 s3,.int .i64 s4]) 25)) (w3.heap.size+1) [.int .i64 s3,.int .i64 s4]:=bxA;clear h0_3 a_3c a_3f b_3c b_3f k_3c k_3f l_3c l_3f zx3
   have hs4:((w3.alloc (.cells (List.toArray [.int .i64 s1,.int .i64 s2]) 25)).alloc (.cells (List.toArray [.int .i64 s3,.int .i64 s4]) 25)).heap.size=w3.heap.size+1+1:=by simp
   revert HA aA bA kA lA xA yA hs4;generalize ((w3.alloc (.cells (List.toArray [.int .i64 s1,.int .i64 s2]) 25)).alloc (.cells (List.toArray [.int .i64 s3,.int .i64 s4]) 25))=w4;intro HA aA bA kA lA xA yA hs4;have HG:=(((HA.cons kA.rd).cons lA.rd).cons xA.rd).cons yA.rd;have al:=aA.lt;have bl:=bA.lt;clear HA kA lA xA yA H3 a_3 b_3 k_3 l_3;refine region_sets (Sp0.I w.heap.size w1.heap.size w2.heap.size w3.heap.size (w3.heap.size+1) (w.heap.size+1) (w.heap.size+1+1) w4.heap.size c s1 s2 s3 s4 w) (by kernel_rfl) ?_ ?_ ?_
   ·refine ⟨false,false,false,false,false,false,false,false,false,undef,undef,undef,undef,undef,undef,(.int .i64 0),rfl,by simp only [Act.put,sS],?_⟩;constructor
    ·(with_reducible repeat (first|exact HG|refine Ho.alc ?_ _|refine Ho.drew ?_))
    ·(first|(simp;done)|(simp;omega))
    ·(omega)
    ·(intro _;(with_reducible repeat (first|exact aA|refine Bx.alc ?_ _|refine Bx.drew ?_|refine Bx.set ?_ (by omega))))
    ·(intro h;cases h)
    ·(omega)
    ·(omega)
    ·(intro p hp;simp only [List.mem_cons,List.not_mem_nil,or_false] at hp;rcases hp with rfl|rfl|rfl|rfl|rfl<;>(dsimp only;omega))
    ·(omega)
    ·(intro _;(with_reducible repeat (first|exact bA|refine Bx.alc ?_ _|refine Bx.drew ?_|refine Bx.set ?_ (by omega))))
    ·(intro h;cases h)
    ·(omega)
    ·(omega)
    ·(intro p hp;simp only [List.mem_cons,List.not_mem_nil,or_false] at hp;rcases hp with rfl|rfl|rfl|rfl|rfl<;>(dsimp only;omega))
    ·(omega)
    all_goals (intro h;cases h)
   ·intro L a' w' hI i hi;obtain ⟨l0,l1,l2,l3,l4,l5,l6,l7,l8,v0,v1,v2,v3,v4,v5,v8,rfl,rfl,h⟩:=hI;have hlt:=ready_lt hi
    match i,hi,hlt with
    |0,hi,_=>
     obtain rfl:l0=false:=rl rfl hi;clear hi hlt;have H:=Lib.hid h;clear h;refine wpOp_shut rfl (fun K hK=>?_)
     try simp only [Act.put,sS]
     go_simp;refine hK.out _ _ ?_;unfold Sp0.I;refine ⟨_,_,_,_,_,_,_,_,_,(.func (.func 48) #[] #[.pointer (some ⟨w2.heap.size,0,none⟩),.pointer (some ⟨w1.heap.size,0,none⟩),.pointer (some ⟨w.heap.size,0,none⟩)]),v1,v2,v3,v4,v5,v8,rfl,?_,?_⟩
     ·simp only [Act.put,sS]
     ·exact {H.out with ev0:=fun _=>rfl}
    |1,hi,_=>
     obtain rfl:l1=false:=rl rfl hi;clear hi hlt;have c:=(h.g.at 1 rfl).c;have H:=Lib.hid h;clear h;refine wpOp_shut rfl (fun K hK=>?_)
     try simp only [Act.put,sS]
     go_simp;refine hK.out _ _ ?_;unfold Sp0.I;refine ⟨_,_,_,_,_,_,_,_,_,v0,((iv s1 s2)),v2,v3,v4,v5,v8,rfl,?_,?_⟩
     ·simp only [Act.put,sS]
     ·exact {H.out with ev1:=fun _=>rfl}
    |2,hi,_=>
     obtain rfl:l2=false:=rl rfl hi;obtain rfl:l0=true:=rk rfl hi 0 .data;obtain rfl:l1=true:=rk rfl hi 1 .data;clear hi hlt;obtain rfl:=h.ev0 rfl;obtain rfl:=h.ev1 rfl;have H:=Lib.hid h;clear h;refine wpOp_shut rfl (fun K hK=>?_)
     try simp only [Act.put,sS]
     go_simp;refine (split1_any (lb:=w2.heap.size) (ab:=w1.heap.size) (cb:=w.heap.size) (c:=c) (k:=0) (lo:=s1) (hi:=s2) _ (by decide) (H.out.g.at 2 rfl) (H.out.g.at 3 rfl) (H.out.g.at 4 rfl)).mono ?_;rintro e wY ⟨rfl,hb⟩;rw [show cellv (putC c 0 s1 s2) = .agg #[.int .i64 c.f,.int .i64 s1,.int .i64 s2,.int .i64 c.c,.int .i64 c.d,.int .i64 c.p,.int .i64 c.q,.int .i64 c.r,.int .i64 c.s] from rfl]
     try go_simp
     refine hK.out _ _ ?_;unfold Sp0.I;refine ⟨_,_,_,_,_,_,_,_,_,(.func (.func 48) #[] #[.pointer (some ⟨w2.heap.size,0,none⟩),.pointer (some ⟨w1.heap.size,0,none⟩),.pointer (some ⟨w.heap.size,0,none⟩)]),((iv s1 s2)),(.agg #[.int .i64 c.f,.int .i64 s1,.int .i64 s2,.int .i64 c.c,.int .i64 c.d,.int .i64 c.p,.int .i64 c.q,.int .i64 c.r,.int .i64 c.s]),v3,v4,v5,v8,rfl,?_,?_⟩
     ·simp only [Act.put,sS]
     ·exact {(H.out.kept hb) with ev2:=fun _=>rfl}
    |3,hi,_=>
     obtain rfl:l3=false:=rl rfl hi;clear hi hlt;have H:=Lib.hid h;clear h;refine wpOp_shut rfl (fun K hK=>?_)
     try simp only [Act.put,sS]
     go_simp;refine hK.out _ _ ?_;unfold Sp0.I;refine ⟨_,_,_,_,_,_,_,_,_,v0,v1,v2,(.func (.func 48) #[] #[.pointer (some ⟨w2.heap.size,0,none⟩),.pointer (some ⟨w1.heap.size,0,none⟩),.pointer (some ⟨w.heap.size,0,none⟩)]),v4,v5,v8,rfl,?_,?_⟩
     ·simp only [Act.put,sS]
     ·exact {H.out with ev3:=fun _=>rfl}
    |4,hi,_=>
     obtain rfl:l4=false:=rl rfl hi;clear hi hlt;have c:=(h.g.at 0 rfl).c;have H:=Lib.hid h;clear h;refine wpOp_shut rfl (fun K hK=>?_)
     try simp only [Act.put,sS]
     go_simp;refine hK.out _ _ ?_;unfold Sp0.I;refine ⟨_,_,_,_,_,_,_,_,_,v0,v1,v2,v3,((iv s3 s4)),v5,v8,rfl,?_,?_⟩
     ·simp only [Act.put,sS]
     ·exact {H.out with ev4:=fun _=>rfl}
    |5,hi,_=>
     obtain rfl:l5=false:=rl rfl hi;obtain rfl:l3=true:=rk rfl hi 3 .data;obtain rfl:l4=true:=rk rfl hi 4 .data;obtain rfl:l2=true:=rk rfl hi 2 .chain;clear hi hlt;obtain rfl:=h.ev3 rfl;obtain rfl:=h.ev4 rfl;obtain rfl:=h.ev2 rfl;have H:=Lib.hid h;clear h;refine wpOp_shut rfl (fun K hK=>?_)
     try simp only [Act.put,sS]
     go_simp;refine (split1_any (lb:=w2.heap.size) (ab:=w1.heap.size) (cb:=w.heap.size) (c:=c) (k:=0) (lo:=s3) (hi:=s4) _ (by decide) (H.out.g.at 2 rfl) (H.out.g.at 3 rfl) (H.out.g.at 4 rfl)).mono ?_;rintro e wY ⟨rfl,hb⟩;rw [show cellv (putC c 0 s3 s4) = .agg #[.int .i64 c.f,.int .i64 s3,.int .i64 s4,.int .i64 c.c,.int .i64 c.d,.int .i64 c.p,.int .i64 c.q,.int .i64 c.r,.int .i64 c.s] from rfl]
     try go_simp
     refine hK.out _ _ ?_;unfold Sp0.I;refine ⟨_,_,_,_,_,_,_,_,_,v0,v1,(.agg #[.int .i64 c.f,.int .i64 s1,.int .i64 s2,.int .i64 c.c,.int .i64 c.d,.int .i64 c.p,.int .i64 c.q,.int .i64 c.r,.int .i64 c.s]),(.func (.func 48) #[] #[.pointer (some ⟨w2.heap.size,0,none⟩),.pointer (some ⟨w1.heap.size,0,none⟩),.pointer (some ⟨w.heap.size,0,none⟩)]),((iv s3 s4)),(.agg #[.int .i64 c.f,.int .i64 s3,.int .i64 s4,.int .i64 c.c,.int .i64 c.d,.int .i64 c.p,.int .i64 c.q,.int .i64 c.r,.int .i64 c.s]),v8,rfl,?_,?_⟩
     ·simp only [Act.put,sS]
     ·exact {(H.out.kept hb) with ev5:=fun _=>rfl}
    |6,hi,_=>
     obtain rfl:l6=false:=rl rfl hi;obtain rfl:l2=true:=rk rfl hi 2 .phase;obtain rfl:l5=true:=rk rfl hi 5 .chain;obtain rfl:l0=true:=rk rfl hi 0 .phase;obtain rfl:l1=true:=rk rfl hi 1 .phase;clear hi hlt;obtain rfl:=h.ev2 rfl;obtain rfl:=h.ev5 rfl;obtain rfl:=h.ev0 rfl;obtain rfl:=h.ev1 rfl;have bz:=h.u0 rfl;have cW:=bz.c;have fW:=bz.f;clear bz;have H:=Lib.hid h;clear h;refine wpOp_shut rfl (fun K hK=>?_)
     try simp only [Act.put,sS]
     go_simp;refine hK.out _ _ ?_;unfold Sp0.I;refine ⟨_,_,_,_,_,_,_,_,_,(.func (.func 48) #[] #[.pointer (some ⟨w2.heap.size,0,none⟩),.pointer (some ⟨w1.heap.size,0,none⟩),.pointer (some ⟨w.heap.size,0,none⟩)]),((iv s1 s2)),(.agg #[.int .i64 c.f,.int .i64 s1,.int .i64 s2,.int .i64 c.c,.int .i64 c.d,.int .i64 c.p,.int .i64 c.q,.int .i64 c.r,.int .i64 c.s]),v3,v4,(.agg #[.int .i64 c.f,.int .i64 s3,.int .i64 s4,.int .i64 c.c,.int .i64 c.d,.int .i64 c.p,.int .i64 c.q,.int .i64 c.r,.int .i64 c.s]),v8,rfl,?_,?_⟩
     ·simp only [Act.put,sS]
     ·have h:=H.out;exact {h with g:=(((((((((h.g.putx h.um0 h.uq0).putx h.um0 h.uq0).putx h.um0 h.uq0).putx h.um0 h.uq0).putx h.um0 h.uq0).putx h.um0 h.uq0).putx h.um0 h.uq0).putx h.um0 h.uq0).putx h.um0 h.uq0),sz:=by simpa using h.sz,u0:=fun p=>(nomatch p),us0:=fun _=>((((((((((h.u0 rfl).put).put).put).put).put).put).put).put).put),u1:=fun p=>((((((((((h.u1 p).set h.une0_1).set h.une0_1).set h.une0_1).set h.une0_1).set h.une0_1).set h.une0_1).set h.une0_1).set h.une0_1).set h.une0_1),us1:=fun p=>((((((((((h.us1 p).set h.une0_1).set h.une0_1).set h.une0_1).set h.une0_1).set h.une0_1).set h.une0_1).set h.une0_1).set h.une0_1).set h.une0_1)}
    |7,hi,_=>
     obtain rfl:l7=false:=rl rfl hi;obtain rfl:l5=true:=rk rfl hi 5 .phase;obtain rfl:l6=true:=rk rfl hi 6 .phase;obtain rfl:l0=true:=rk rfl hi 0 .phase;obtain rfl:l1=true:=rk rfl hi 1 .phase;obtain rfl:l2=true:=rk rfl hi 2 .phase;obtain rfl:l3=true:=rk rfl hi 3 .phase;obtain rfl:l4=true:=rk rfl hi 4 .phase;clear hi hlt;obtain rfl:=h.ev5 rfl;obtain rfl:=h.ev0 rfl;obtain rfl:=h.ev1 rfl;obtain rfl:=h.ev2 rfl;obtain rfl:=h.ev3 rfl;obtain rfl:=h.ev4 rfl;have bz:=h.u1 rfl;have cW:=bz.c;have fW:=bz.f;clear bz;have H:=Lib.hid h;clear h;refine wpOp_shut rfl (fun K hK=>?_)
     try simp only [Act.put,sS]
     go_simp;refine hK.out _ _ ?_;unfold Sp0.I;refine ⟨_,_,_,_,_,_,_,_,_,(.func (.func 48) #[] #[.pointer (some ⟨w2.heap.size,0,none⟩),.pointer (some ⟨w1.heap.size,0,none⟩),.pointer (some ⟨w.heap.size,0,none⟩)]),((iv s1 s2)),(.agg #[.int .i64 c.f,.int .i64 s1,.int .i64 s2,.int .i64 c.c,.int .i64 c.d,.int .i64 c.p,.int .i64 c.q,.int .i64 c.r,.int .i64 c.s]),(.func (.func 48) #[] #[.pointer (some ⟨w2.heap.size,0,none⟩),.pointer (some ⟨w1.heap.size,0,none⟩),.pointer (some ⟨w.heap.size,0,none⟩)]),((iv s3 s4)),(.agg #[.int .i64 c.f,.int .i64 s3,.int .i64 s4,.int .i64 c.c,.int .i64 c.d,.int .i64 c.p,.int .i64 c.q,.int .i64 c.r,.int .i64 c.s]),v8,rfl,?_,?_⟩
     ·simp only [Act.put,sS]
     ·have h:=H.out;exact {h with g:=(((((((((h.g.putx h.um1 h.uq1).putx h.um1 h.uq1).putx h.um1 h.uq1).putx h.um1 h.uq1).putx h.um1 h.uq1).putx h.um1 h.uq1).putx h.um1 h.uq1).putx h.um1 h.uq1).putx h.um1 h.uq1),sz:=by simpa using h.sz,u1:=fun p=>(nomatch p),us1:=fun _=>((((((((((h.u1 rfl).put).put).put).put).put).put).put).put).put),u0:=fun p=>((((((((((h.u0 p).set h.une1_0).set h.une1_0).set h.une1_0).set h.une1_0).set h.une1_0).set h.une1_0).set h.une1_0).set h.une1_0).set h.une1_0),us0:=fun p=>((((((((((h.us0 p).set h.une1_0).set h.une1_0).set h.une1_0).set h.une1_0).set h.une1_0).set h.une1_0).set h.une1_0).set h.une1_0).set h.une1_0)}
    |8,hi,_=>
     obtain rfl:l8=false:=rl rfl hi;obtain rfl:l7=true:=rk rfl hi 7 .phase;obtain rfl:l0=true:=rk rfl hi 0 .phase;obtain rfl:l1=true:=rk rfl hi 1 .phase;obtain rfl:l2=true:=rk rfl hi 2 .phase;obtain rfl:l3=true:=rk rfl hi 3 .phase;obtain rfl:l4=true:=rk rfl hi 4 .phase;obtain rfl:l5=true:=rk rfl hi 5 .phase;obtain rfl:l6=true:=rk rfl hi 6 .phase;clear hi hlt;obtain rfl:=h.ev0 rfl;obtain rfl:=h.ev1 rfl;obtain rfl:=h.ev2 rfl;obtain rfl:=h.ev3 rfl;obtain rfl:=h.ev4 rfl;obtain rfl:=h.ev5 rfl;have H:=Lib.hid h;clear h;refine wpOp_shut rfl (fun K hK=>?_)
     try simp only [Act.put,sS]
     go_simp;refine hK.out _ _ ?_;unfold Sp0.I;refine ⟨_,_,_,_,_,_,_,_,_,(.func (.func 48) #[] #[.pointer (some ⟨w2.heap.size,0,none⟩),.pointer (some ⟨w1.heap.size,0,none⟩),.pointer (some ⟨w.heap.size,0,none⟩)]),((iv s1 s2)),(.agg #[.int .i64 c.f,.int .i64 s1,.int .i64 s2,.int .i64 c.c,.int .i64 c.d,.int .i64 c.p,.int .i64 c.q,.int .i64 c.r,.int .i64 c.s]),(.func (.func 48) #[] #[.pointer (some ⟨w2.heap.size,0,none⟩),.pointer (some ⟨w1.heap.size,0,none⟩),.pointer (some ⟨w.heap.size,0,none⟩)]),((iv s3 s4)),(.agg #[.int .i64 c.f,.int .i64 s3,.int .i64 s4,.int .i64 c.c,.int .i64 c.d,.int .i64 c.p,.int .i64 c.q,.int .i64 c.r,.int .i64 c.s]),(.int .i64 0),rfl,?_,?_⟩
     ·simp only [Act.put,sS]
     ·exact {H.out with ev8:=fun _=>rfl}
    |i+9,_,hlt=>exact absurd hlt (by simp)
   ·intro L a' w' hI hn;obtain ⟨l0,l1,l2,l3,l4,l5,l6,l7,l8,v0,v1,v2,v3,v4,v5,v8,rfl,rfl,h⟩:=hI;obtain rfl:l0=true:=nr 0 rfl hn;obtain rfl:l1=true:=nr 1 rfl hn;obtain rfl:l2=true:=nr 2 rfl hn;obtain rfl:l3=true:=nr 3 rfl hn;obtain rfl:l4=true:=nr 4 rfl hn;obtain rfl:l5=true:=nr 5 rfl hn;obtain rfl:l6=true:=nr 6 rfl hn;obtain rfl:l7=true:=nr 7 rfl hn;obtain rfl:l8=true:=nr 8 rfl hn;clear hn;obtain rfl:=h.ev0 rfl;obtain rfl:=h.ev1 rfl;obtain rfl:=h.ev2 rfl;obtain rfl:=h.ev3 rfl;obtain rfl:=h.ev4 rfl;obtain rfl:=h.ev5 rfl;obtain rfl:=h.ev8 rfl;simp only [Act.put,sS]
    rename World=>w5
    have HB:=h.g;have aB:=h.us0 rfl;have bB:=h.us1 rfl;clear h
    go_wp2_with fail
    refine bodyPost_boxes (b:=w.heap.size+1) (c:=w.heap.size+1+1) (cs:=[.int .i64 c.f,.int .i64 s1,.int .i64 s2,.int .i64 c.c,.int .i64 c.d,.int .i64 c.p,.int .i64 c.q,.int .i64 c.r,.int .i64 c.s]) (ds:=[.int .i64 c.f,.int .i64 s3,.int .i64 s4,.int .i64 c.c,.int .i64 c.d,.int .i64 c.p,.int .i64 c.q,.int .i64 c.r,.int .i64 c.s]) (v:=.tuple #[.agg #[.int .i64 c.f,.int .i64 s1,.int .i64 s2,.int .i64 c.c,.int .i64 c.d,.int .i64 c.p,.int .i64 c.q,.int .i64 c.r,.int .i64 c.s],.agg #[.int .i64 c.f,.int .i64 s3,.int .i64 s4,.int .i64 c.c,.int .i64 c.d,.int .i64 c.p,.int .i64 c.q,.int .i64 c.r,.int .i64 c.s],.int .i64 0]) aB bB (fun X hX hY=>by simp [results,Try.results22,go_sem,hX,hY]) rfl ⟨by rw [HR2.out];rfl,HB.below⟩
  ·obtain ⟨⟨s1,s2,s3,s4,s5⟩,h2⟩:∃r:R2,splitR c.c c.d=r:=⟨_,rfl⟩;have HR2:=Lib.hid (show halvesR c=⟨putC c 1 s1 s2,putC c 1 s3 s4,0⟩ from by rw [HR.out,if_pos rfl];show H2.mk (putC c 1 (splitR c.c c.d).a (splitR c.c c.d).b) (putC c 1 (splitR c.c c.d).c (splitR c.c c.d).d) 0=_;rw [h2]);have X2:=Lib.hid h2;clear h2;have H0:=((Ho.nil w).bx [.int .i64 c.f,.int .i64 c.a,.int .i64 c.b,.int .i64 c.c,.int .i64 c.d,.int .i64 c.p,.int .i64 c.q,.int .i64 c.r,.int .i64 c.s] 29 (w.heap.size) (by simp));have a_0:Bx (((w.alloc (.cells (List.toArray [.int .i64 c.f,.int .i64 c.a,.int .i64 c.b,.int .i64 c.c,.int .i64 c.d,.int .i64 c.p,.int .i64 c.q,.int .i64 c.r,.int .i64 c.s]) 29)).alloc (.cells (List.toArray [.int .i64 0,.int .i64 0,.int .i64 0,.int .i64 0,.int .i64 0,.int .i64 0,.int .i64 0,.int .i64 0,.int .i64 0]) 29)).alloc (.cells (List.toArray [.int .i64 0,.int .i64 0,.int .i64 0,.int .i64 0,.int .i64 0,.int .i64 0,.int .i64 0,.int .i64 0,.int .i64 0]) 29)) (w.heap.size+1) [.int .i64 0,.int .i64 0,.int .i64 0,.int .i64 0,.int .i64 0,.int .i64 0,.int .i64 0,.int .i64 0,.int .i64 0]:=bxA;have b_0:Bx (((w.alloc (.cells (List.toArray [.int .i64 c.f,.int .i64 c.a,.int .i64 c.b,.int .i64 c.c,.int .i64 c.d,.int .i64 c.p,.int .i64 c.q,.int .i64 c.r,.int .i64 c.s]) 29)).alloc (.cells (List.toArray [.int .i64 0,.int .i64 0,.int .i64 0,.int .i64 0,.int .i64 0,.int .i64 0,.int .i64 0,.int .i64 0,.int .i64 0]) 29)).alloc (.cells (List.toArray [.int .i64 0,.int .i64 0,.int .i64 0,.int .i64 0,.int .i64 0,.int .i64 0,.int .i64 0,.int .i64 0,.int .i64 0]) 29)) (w.heap.size+1+1) [.int .i64 0,.int .i64 0,.int .i64 0,.int .i64 0,.int .i64 0,.int .i64 0,.int .i64 0,.int .i64 0,.int .i64 0]:=bxA;go_enter Try.func22,Try.ntmps22;have a_0c:=a_0.c;have a_0f:=a_0.f;have b_0c:=b_0.c;have b_0f:=b_0.f;have zx0:=zp (w.heap.size+1) (w.heap.size+1+1)
   go_wp2_with fail
   refine (axis_any c _).mono ?_;rintro r w1 ⟨rfl,hb⟩;rw [X1.out];dsimp only;have H1:Ho w w1 (w.heap.size+1) [(w.heap.size,[.int .i64 c.f,.int .i64 c.a,.int .i64 c.b,.int .i64 c.c,.int .i64 c.d,.int .i64 c.p,.int .i64 c.q,.int .i64 c.r,.int .i64 c.s])]:=Ho.call hoA hb;have a_1:=bxK a_0 hb;have b_1:=bxK b_0 hb;clear a_0c a_0f b_0c b_0f zx0;have hs1:=H1.size;have hz1:=hb.size
   (try simp at hz1)
   clear hb;have h0_1:=(H1.at 0 rfl).c;have a_1c:=a_1.c;have a_1f:=a_1.f;have a_1l:=a_1.lt;have b_1c:=b_1.c;have b_1f:=b_1.f;have b_1l:=b_1.lt;have zx1:=ai (zq (w.heap.size+1) (w1.heap.size))<|ai (zq (w.heap.size+1+1) (w1.heap.size))<|ai (zq (w.heap.size) (w1.heap.size))<|ai (zp (w.heap.size+1) (w.heap.size+1+1))<|ai (zp (w.heap.size+1) (w.heap.size))<|zp (w.heap.size+1+1) (w.heap.size)
   go_wp2_with fail
   refine (rints_any c _).mono ?_;rintro r w2 ⟨rfl,hb⟩;have H2:Ho w w2 (w.heap.size+1) [(w.heap.size,[.int .i64 c.f,.int .i64 c.a,.int .i64 c.b,.int .i64 c.c,.int .i64 c.d,.int .i64 c.p,.int .i64 c.q,.int .i64 c.r,.int .i64 c.s])]:=Ho.call hoA hb;have a_2:=bxK a_1 hb;have b_2:=bxK b_1 hb;have k_2:Bx w2 (w1.heap.size) [.int .i64 1]:=Bx.kept bxA hb;clear h0_1 a_1c a_1f b_1c b_1f zx1;have hs2:=H2.size;have hz2:=hb.size
   (try simp at hz2)
   clear hb;have h0_2:=(H2.at 0 rfl).c;have a_2c:=a_2.c;have a_2f:=a_2.f;have a_2l:=a_2.lt;have b_2c:=b_2.c;have b_2f:=b_2.f;have b_2l:=b_2.lt;have k_2c:=k_2.c;have k_2f:=k_2.f;have k_2l:=k_2.lt;have zx2:=ai (zq (w.heap.size+1) (w2.heap.size))<|ai (zq (w.heap.size+1+1) (w2.heap.size))<|ai (zq (w1.heap.size) (w2.heap.size))<|ai (zq (w.heap.size) (w2.heap.size))<|ai (zp (w.heap.size+1) (w.heap.size+1+1))<|ai (zp (w.heap.size+1) (w1.heap.size))<|ai (zp (w.heap.size+1) (w.heap.size))<|ai (zp (w.heap.size+1+1) (w1.heap.size))<|ai (zp (w.heap.size+1+1) (w.heap.size))<|zp (w1.heap.size) (w.heap.size);unfold int4
   go_wp2_with fail
   refine (split_any c.c c.d _).mono ?_;rintro r w3 ⟨rfl,hb⟩;rw [X2.out];unfold retR2;dsimp only;have H3:Ho w w3 (w.heap.size+1) [(w.heap.size,[.int .i64 c.f,.int .i64 c.a,.int .i64 c.b,.int .i64 c.c,.int .i64 c.d,.int .i64 c.p,.int .i64 c.q,.int .i64 c.r,.int .i64 c.s])]:=Ho.call hoA hb;have a_3:=bxK a_2 hb;have b_3:=bxK b_2 hb;have k_3:=bxK k_2 hb;have l_3:Bx w3 (w2.heap.size) [.int .i64 c.a,.int .i64 c.b,.int .i64 c.c,.int .i64 c.d,.int .i64 c.p,.int .i64 c.q,.int .i64 c.r,.int .i64 c.s]:=Bx.kept bxA hb;clear h0_2 a_2c a_2f b_2c b_2f k_2c k_2f zx2;have hs3:=H3.size;have hz3:=hb.size
   (try simp at hz3)
   clear hb;have h0_3:=(H3.at 0 rfl).c;have a_3c:=a_3.c;have a_3f:=a_3.f;have a_3l:=a_3.lt;have b_3c:=b_3.c;have b_3f:=b_3.f;have b_3l:=b_3.lt;have k_3c:=k_3.c;have k_3f:=k_3.f;have k_3l:=k_3.lt;have l_3c:=l_3.c;have l_3f:=l_3.f;have l_3l:=l_3.lt;have zx3:=ai (zp (w.heap.size+1) (w3.heap.size))<|ai (zp (w.heap.size+1) (w3.heap.size+1))<|ai (zl (w.heap.size+1) (w3.heap.size))<|ai (by omega:w.heap.size+1<w3.heap.size+1+1)<|ai (zp (w.heap.size+1+1) (w3.heap.size))<|ai (zp (w.heap.size+1+1) (w3.heap.size+1))<|ai (zl (w.heap.size+1+1) (w3.heap.size))<|ai (by omega:w.heap.size+1+1<w3.heap.size+1+1)<|ai (zp (w1.heap.size) (w3.heap.size))<|ai (zp (w1.heap.size) (w3.heap.size+1))<|ai (zl (w1.heap.size) (w3.heap.size))<|ai (by omega:w1.heap.size<w3.heap.size+1+1)<|ai (zp (w2.heap.size) (w3.heap.size))<|ai (zp (w2.heap.size) (w3.heap.size+1))<|ai (zl (w2.heap.size) (w3.heap.size))<|ai (by omega:w2.heap.size<w3.heap.size+1+1)<|ai (zp (w.heap.size) (w3.heap.size))<|ai (zp (w.heap.size) (w3.heap.size+1))<|ai (zl (w.heap.size) (w3.heap.size))<|ai (by omega:w.heap.size<w3.heap.size+1+1)<|ai (zp (w.heap.size+1) (w.heap.size+1+1))<|ai (zp (w.heap.size+1) (w1.heap.size))<|ai (zp (w.heap.size+1) (w2.heap.size))<|ai (zp (w.heap.size+1) (w.heap.size))<|ai (zp (w.heap.size+1+1) (w1.heap.size))<|ai (zp (w.heap.size+1+1) (w2.heap.size))<|ai (zp (w.heap.size+1+1) (w.heap.size))<|ai (zp (w1.heap.size) (w2.heap.size))<|ai (zp (w1.heap.size) (w.heap.size))<|zp (w2.heap.size) (w.heap.size)
   go_upto_region 7 with fail
   have HA:Ho w ((w3.alloc (.cells (List.toArray [.int .i64 s1,.int .i64 s2]) 25)).alloc (.cells (List.toArray [.int .i64 s3,.int .i64 s4]) 25)) (w.heap.size+1) [(w.heap.size,[.int .i64 c.f,.int .i64 c.a,.int .i64 c.b,.int .i64 c.c,.int .i64 c.d,.int .i64 c.p,.int .i64 c.q,.int .i64 c.r,.int .i64 c.s])]:=hoA;have aA:Bx ((w3.alloc (.cells (List.toArray [.int .i64 s1,.int .i64 s2]) 25)).alloc (.cells (List.toArray [.int .i64 s3,.int .i64 s4]) 25)) (w.heap.size+1) [.int .i64 0,.int .i64 0,.int .i64 0,.int .i64 0,.int .i64 0,.int .i64 0,.int .i64 0,.int .i64 0,.int .i64 0]:=bxB;have bA:Bx ((w3.alloc (.cells (List.toArray [.int .i64 s1,.int .i64 s2]) 25)).alloc (.cells (List.toArray [.int .i64 s3,.int .i64 s4]) 25)) (w.heap.size+1+1) [.int .i64 0,.int .i64 0,.int .i64 0,.int .i64 0,.int .i64 0,.int .i64 0,.int .i64 0,.int .i64 0,.int .i64 0]:=bxB;have kA:Bx ((w3.alloc (.cells (List.toArray [.int .i64 s1,.int .i64 s2]) 25)).alloc (.cells (List.toArray [.int .i64 s3,.int .i64 s4]) 25)) w1.heap.size [.int .i64 1]:=bxB;have lA:Bx ((w3.alloc (.cells (List.toArray [.int .i64 s1,.int .i64 s2]) 25)).alloc (.cells (List.toArray [.int .i64 s3,.int .i64 s4]) 25)) w2.heap.size [.int .i64 c.a,.int .i64 c.b,.int .i64 c.c,.int .i64 c.d,.int .i64 c.p,.int .i64 c.q,.int .i64 c.r,.int .i64 c.s]:=bxB;have xA:Bx ((w3.alloc (.cells (List.toArray [.int .i64 s1,.int .i64 s2]) 25)).alloc (.cells (List.toArray [.int .i64 s3,.int .i64 s4]) 25)) w3.heap.size [.int .i64 s1,.int .i64 s2]:=bxA;have yA:Bx ((w3.alloc (.cells (List.toArray [.int .i64 s1,.int .i64 s2]) 25)).alloc (.cells (List.toArray [.int .i64 s3,.int .i64 s4]) 25)) (w3.heap.size+1) [.int .i64 s3,.int .i64 s4]:=bxA;clear h0_3 a_3c a_3f b_3c b_3f k_3c k_3f l_3c l_3f zx3
   have hs4:((w3.alloc (.cells (List.toArray [.int .i64 s1,.int .i64 s2]) 25)).alloc (.cells (List.toArray [.int .i64 s3,.int .i64 s4]) 25)).heap.size=w3.heap.size+1+1:=by simp
   revert HA aA bA kA lA xA yA hs4;generalize ((w3.alloc (.cells (List.toArray [.int .i64 s1,.int .i64 s2]) 25)).alloc (.cells (List.toArray [.int .i64 s3,.int .i64 s4]) 25))=w4;intro HA aA bA kA lA xA yA hs4;have HG:=(((HA.cons kA.rd).cons lA.rd).cons xA.rd).cons yA.rd;have al:=aA.lt;have bl:=bA.lt;clear HA kA lA xA yA H3 a_3 b_3 k_3 l_3;refine region_sets (Sp1.I w.heap.size w1.heap.size w2.heap.size w3.heap.size (w3.heap.size+1) (w.heap.size+1) (w.heap.size+1+1) w4.heap.size c s1 s2 s3 s4 w) (by kernel_rfl) ?_ ?_ ?_
   ·refine ⟨false,false,false,false,false,false,false,false,false,undef,undef,undef,undef,undef,undef,(.int .i64 0),rfl,by simp only [Act.put,sS],?_⟩;constructor
    ·(with_reducible repeat (first|exact HG|refine Ho.alc ?_ _|refine Ho.drew ?_))
    ·(first|(simp;done)|(simp;omega))
    ·(omega)
    ·(intro _;(with_reducible repeat (first|exact aA|refine Bx.alc ?_ _|refine Bx.drew ?_|refine Bx.set ?_ (by omega))))
    ·(intro h;cases h)
    ·(omega)
    ·(omega)
    ·(intro p hp;simp only [List.mem_cons,List.not_mem_nil,or_false] at hp;rcases hp with rfl|rfl|rfl|rfl|rfl<;>(dsimp only;omega))
    ·(omega)
    ·(intro _;(with_reducible repeat (first|exact bA|refine Bx.alc ?_ _|refine Bx.drew ?_|refine Bx.set ?_ (by omega))))
    ·(intro h;cases h)
    ·(omega)
    ·(omega)
    ·(intro p hp;simp only [List.mem_cons,List.not_mem_nil,or_false] at hp;rcases hp with rfl|rfl|rfl|rfl|rfl<;>(dsimp only;omega))
    ·(omega)
    all_goals (intro h;cases h)
   ·intro L a' w' hI i hi;obtain ⟨l0,l1,l2,l3,l4,l5,l6,l7,l8,v0,v1,v2,v3,v4,v5,v8,rfl,rfl,h⟩:=hI;have hlt:=ready_lt hi
    match i,hi,hlt with
    |0,hi,_=>
     obtain rfl:l0=false:=rl rfl hi;clear hi hlt;have H:=Lib.hid h;clear h;refine wpOp_shut rfl (fun K hK=>?_)
     try simp only [Act.put,sS]
     go_simp;refine hK.out _ _ ?_;unfold Sp1.I;refine ⟨_,_,_,_,_,_,_,_,_,(.func (.func 48) #[] #[.pointer (some ⟨w2.heap.size,0,none⟩),.pointer (some ⟨w1.heap.size,0,none⟩),.pointer (some ⟨w.heap.size,0,none⟩)]),v1,v2,v3,v4,v5,v8,rfl,?_,?_⟩
     ·simp only [Act.put,sS]
     ·exact {H.out with ev0:=fun _=>rfl}
    |1,hi,_=>
     obtain rfl:l1=false:=rl rfl hi;clear hi hlt;have c:=(h.g.at 1 rfl).c;have H:=Lib.hid h;clear h;refine wpOp_shut rfl (fun K hK=>?_)
     try simp only [Act.put,sS]
     go_simp;refine hK.out _ _ ?_;unfold Sp1.I;refine ⟨_,_,_,_,_,_,_,_,_,v0,((iv s1 s2)),v2,v3,v4,v5,v8,rfl,?_,?_⟩
     ·simp only [Act.put,sS]
     ·exact {H.out with ev1:=fun _=>rfl}
    |2,hi,_=>
     obtain rfl:l2=false:=rl rfl hi;obtain rfl:l0=true:=rk rfl hi 0 .data;obtain rfl:l1=true:=rk rfl hi 1 .data;clear hi hlt;obtain rfl:=h.ev0 rfl;obtain rfl:=h.ev1 rfl;have H:=Lib.hid h;clear h;refine wpOp_shut rfl (fun K hK=>?_)
     try simp only [Act.put,sS]
     go_simp;refine (split1_any (lb:=w2.heap.size) (ab:=w1.heap.size) (cb:=w.heap.size) (c:=c) (k:=1) (lo:=s1) (hi:=s2) _ (by decide) (H.out.g.at 2 rfl) (H.out.g.at 3 rfl) (H.out.g.at 4 rfl)).mono ?_;rintro e wY ⟨rfl,hb⟩;rw [show cellv (putC c 1 s1 s2) = .agg #[.int .i64 c.f,.int .i64 c.a,.int .i64 c.b,.int .i64 s1,.int .i64 s2,.int .i64 c.p,.int .i64 c.q,.int .i64 c.r,.int .i64 c.s] from rfl]
     try go_simp
     refine hK.out _ _ ?_;unfold Sp1.I;refine ⟨_,_,_,_,_,_,_,_,_,(.func (.func 48) #[] #[.pointer (some ⟨w2.heap.size,0,none⟩),.pointer (some ⟨w1.heap.size,0,none⟩),.pointer (some ⟨w.heap.size,0,none⟩)]),((iv s1 s2)),(.agg #[.int .i64 c.f,.int .i64 c.a,.int .i64 c.b,.int .i64 s1,.int .i64 s2,.int .i64 c.p,.int .i64 c.q,.int .i64 c.r,.int .i64 c.s]),v3,v4,v5,v8,rfl,?_,?_⟩
     ·simp only [Act.put,sS]
     ·exact {(H.out.kept hb) with ev2:=fun _=>rfl}
    |3,hi,_=>
     obtain rfl:l3=false:=rl rfl hi;clear hi hlt;have H:=Lib.hid h;clear h;refine wpOp_shut rfl (fun K hK=>?_)
     try simp only [Act.put,sS]
     go_simp;refine hK.out _ _ ?_;unfold Sp1.I;refine ⟨_,_,_,_,_,_,_,_,_,v0,v1,v2,(.func (.func 48) #[] #[.pointer (some ⟨w2.heap.size,0,none⟩),.pointer (some ⟨w1.heap.size,0,none⟩),.pointer (some ⟨w.heap.size,0,none⟩)]),v4,v5,v8,rfl,?_,?_⟩
     ·simp only [Act.put,sS]
     ·exact {H.out with ev3:=fun _=>rfl}
    |4,hi,_=>
     obtain rfl:l4=false:=rl rfl hi;clear hi hlt;have c:=(h.g.at 0 rfl).c;have H:=Lib.hid h;clear h;refine wpOp_shut rfl (fun K hK=>?_)
     try simp only [Act.put,sS]
     go_simp;refine hK.out _ _ ?_;unfold Sp1.I;refine ⟨_,_,_,_,_,_,_,_,_,v0,v1,v2,v3,((iv s3 s4)),v5,v8,rfl,?_,?_⟩
     ·simp only [Act.put,sS]
     ·exact {H.out with ev4:=fun _=>rfl}
    |5,hi,_=>
     obtain rfl:l5=false:=rl rfl hi;obtain rfl:l3=true:=rk rfl hi 3 .data;obtain rfl:l4=true:=rk rfl hi 4 .data;obtain rfl:l2=true:=rk rfl hi 2 .chain;clear hi hlt;obtain rfl:=h.ev3 rfl;obtain rfl:=h.ev4 rfl;obtain rfl:=h.ev2 rfl;have H:=Lib.hid h;clear h;refine wpOp_shut rfl (fun K hK=>?_)
     try simp only [Act.put,sS]
     go_simp;refine (split1_any (lb:=w2.heap.size) (ab:=w1.heap.size) (cb:=w.heap.size) (c:=c) (k:=1) (lo:=s3) (hi:=s4) _ (by decide) (H.out.g.at 2 rfl) (H.out.g.at 3 rfl) (H.out.g.at 4 rfl)).mono ?_;rintro e wY ⟨rfl,hb⟩;rw [show cellv (putC c 1 s3 s4) = .agg #[.int .i64 c.f,.int .i64 c.a,.int .i64 c.b,.int .i64 s3,.int .i64 s4,.int .i64 c.p,.int .i64 c.q,.int .i64 c.r,.int .i64 c.s] from rfl]
     try go_simp
     refine hK.out _ _ ?_;unfold Sp1.I;refine ⟨_,_,_,_,_,_,_,_,_,v0,v1,(.agg #[.int .i64 c.f,.int .i64 c.a,.int .i64 c.b,.int .i64 s1,.int .i64 s2,.int .i64 c.p,.int .i64 c.q,.int .i64 c.r,.int .i64 c.s]),(.func (.func 48) #[] #[.pointer (some ⟨w2.heap.size,0,none⟩),.pointer (some ⟨w1.heap.size,0,none⟩),.pointer (some ⟨w.heap.size,0,none⟩)]),((iv s3 s4)),(.agg #[.int .i64 c.f,.int .i64 c.a,.int .i64 c.b,.int .i64 s3,.int .i64 s4,.int .i64 c.p,.int .i64 c.q,.int .i64 c.r,.int .i64 c.s]),v8,rfl,?_,?_⟩
     ·simp only [Act.put,sS]
     ·exact {(H.out.kept hb) with ev5:=fun _=>rfl}
    |6,hi,_=>
     obtain rfl:l6=false:=rl rfl hi;obtain rfl:l2=true:=rk rfl hi 2 .phase;obtain rfl:l5=true:=rk rfl hi 5 .chain;obtain rfl:l0=true:=rk rfl hi 0 .phase;obtain rfl:l1=true:=rk rfl hi 1 .phase;clear hi hlt;obtain rfl:=h.ev2 rfl;obtain rfl:=h.ev5 rfl;obtain rfl:=h.ev0 rfl;obtain rfl:=h.ev1 rfl;have bz:=h.u0 rfl;have cW:=bz.c;have fW:=bz.f;clear bz;have H:=Lib.hid h;clear h;refine wpOp_shut rfl (fun K hK=>?_)
     try simp only [Act.put,sS]
     go_simp;refine hK.out _ _ ?_;unfold Sp1.I;refine ⟨_,_,_,_,_,_,_,_,_,(.func (.func 48) #[] #[.pointer (some ⟨w2.heap.size,0,none⟩),.pointer (some ⟨w1.heap.size,0,none⟩),.pointer (some ⟨w.heap.size,0,none⟩)]),((iv s1 s2)),(.agg #[.int .i64 c.f,.int .i64 c.a,.int .i64 c.b,.int .i64 s1,.int .i64 s2,.int .i64 c.p,.int .i64 c.q,.int .i64 c.r,.int .i64 c.s]),v3,v4,(.agg #[.int .i64 c.f,.int .i64 c.a,.int .i64 c.b,.int .i64 s3,.int .i64 s4,.int .i64 c.p,.int .i64 c.q,.int .i64 c.r,.int .i64 c.s]),v8,rfl,?_,?_⟩
     ·simp only [Act.put,sS]
     ·have h:=H.out;exact {h with g:=(((((((((h.g.putx h.um0 h.uq0).putx h.um0 h.uq0).putx h.um0 h.uq0).putx h.um0 h.uq0).putx h.um0 h.uq0).putx h.um0 h.uq0).putx h.um0 h.uq0).putx h.um0 h.uq0).putx h.um0 h.uq0),sz:=by simpa using h.sz,u0:=fun p=>(nomatch p),us0:=fun _=>((((((((((h.u0 rfl).put).put).put).put).put).put).put).put).put),u1:=fun p=>((((((((((h.u1 p).set h.une0_1).set h.une0_1).set h.une0_1).set h.une0_1).set h.une0_1).set h.une0_1).set h.une0_1).set h.une0_1).set h.une0_1),us1:=fun p=>((((((((((h.us1 p).set h.une0_1).set h.une0_1).set h.une0_1).set h.une0_1).set h.une0_1).set h.une0_1).set h.une0_1).set h.une0_1).set h.une0_1)}
    |7,hi,_=>
     obtain rfl:l7=false:=rl rfl hi;obtain rfl:l5=true:=rk rfl hi 5 .phase;obtain rfl:l6=true:=rk rfl hi 6 .phase;obtain rfl:l0=true:=rk rfl hi 0 .phase;obtain rfl:l1=true:=rk rfl hi 1 .phase;obtain rfl:l2=true:=rk rfl hi 2 .phase;obtain rfl:l3=true:=rk rfl hi 3 .phase;obtain rfl:l4=true:=rk rfl hi 4 .phase;clear hi hlt;obtain rfl:=h.ev5 rfl;obtain rfl:=h.ev0 rfl;obtain rfl:=h.ev1 rfl;obtain rfl:=h.ev2 rfl;obtain rfl:=h.ev3 rfl;obtain rfl:=h.ev4 rfl;have bz:=h.u1 rfl;have cW:=bz.c;have fW:=bz.f;clear bz;have H:=Lib.hid h;clear h;refine wpOp_shut rfl (fun K hK=>?_)
     try simp only [Act.put,sS]
     go_simp;refine hK.out _ _ ?_;unfold Sp1.I;refine ⟨_,_,_,_,_,_,_,_,_,(.func (.func 48) #[] #[.pointer (some ⟨w2.heap.size,0,none⟩),.pointer (some ⟨w1.heap.size,0,none⟩),.pointer (some ⟨w.heap.size,0,none⟩)]),((iv s1 s2)),(.agg #[.int .i64 c.f,.int .i64 c.a,.int .i64 c.b,.int .i64 s1,.int .i64 s2,.int .i64 c.p,.int .i64 c.q,.int .i64 c.r,.int .i64 c.s]),(.func (.func 48) #[] #[.pointer (some ⟨w2.heap.size,0,none⟩),.pointer (some ⟨w1.heap.size,0,none⟩),.pointer (some ⟨w.heap.size,0,none⟩)]),((iv s3 s4)),(.agg #[.int .i64 c.f,.int .i64 c.a,.int .i64 c.b,.int .i64 s3,.int .i64 s4,.int .i64 c.p,.int .i64 c.q,.int .i64 c.r,.int .i64 c.s]),v8,rfl,?_,?_⟩
     ·simp only [Act.put,sS]
     ·have h:=H.out;exact {h with g:=(((((((((h.g.putx h.um1 h.uq1).putx h.um1 h.uq1).putx h.um1 h.uq1).putx h.um1 h.uq1).putx h.um1 h.uq1).putx h.um1 h.uq1).putx h.um1 h.uq1).putx h.um1 h.uq1).putx h.um1 h.uq1),sz:=by simpa using h.sz,u1:=fun p=>(nomatch p),us1:=fun _=>((((((((((h.u1 rfl).put).put).put).put).put).put).put).put).put),u0:=fun p=>((((((((((h.u0 p).set h.une1_0).set h.une1_0).set h.une1_0).set h.une1_0).set h.une1_0).set h.une1_0).set h.une1_0).set h.une1_0).set h.une1_0),us0:=fun p=>((((((((((h.us0 p).set h.une1_0).set h.une1_0).set h.une1_0).set h.une1_0).set h.une1_0).set h.une1_0).set h.une1_0).set h.une1_0).set h.une1_0)}
    |8,hi,_=>
     obtain rfl:l8=false:=rl rfl hi;obtain rfl:l7=true:=rk rfl hi 7 .phase;obtain rfl:l0=true:=rk rfl hi 0 .phase;obtain rfl:l1=true:=rk rfl hi 1 .phase;obtain rfl:l2=true:=rk rfl hi 2 .phase;obtain rfl:l3=true:=rk rfl hi 3 .phase;obtain rfl:l4=true:=rk rfl hi 4 .phase;obtain rfl:l5=true:=rk rfl hi 5 .phase;obtain rfl:l6=true:=rk rfl hi 6 .phase;clear hi hlt;obtain rfl:=h.ev0 rfl;obtain rfl:=h.ev1 rfl;obtain rfl:=h.ev2 rfl;obtain rfl:=h.ev3 rfl;obtain rfl:=h.ev4 rfl;obtain rfl:=h.ev5 rfl;have H:=Lib.hid h;clear h;refine wpOp_shut rfl (fun K hK=>?_)
     try simp only [Act.put,sS]
     go_simp;refine hK.out _ _ ?_;unfold Sp1.I;refine ⟨_,_,_,_,_,_,_,_,_,(.func (.func 48) #[] #[.pointer (some ⟨w2.heap.size,0,none⟩),.pointer (some ⟨w1.heap.size,0,none⟩),.pointer (some ⟨w.heap.size,0,none⟩)]),((iv s1 s2)),(.agg #[.int .i64 c.f,.int .i64 c.a,.int .i64 c.b,.int .i64 s1,.int .i64 s2,.int .i64 c.p,.int .i64 c.q,.int .i64 c.r,.int .i64 c.s]),(.func (.func 48) #[] #[.pointer (some ⟨w2.heap.size,0,none⟩),.pointer (some ⟨w1.heap.size,0,none⟩),.pointer (some ⟨w.heap.size,0,none⟩)]),((iv s3 s4)),(.agg #[.int .i64 c.f,.int .i64 c.a,.int .i64 c.b,.int .i64 s3,.int .i64 s4,.int .i64 c.p,.int .i64 c.q,.int .i64 c.r,.int .i64 c.s]),(.int .i64 0),rfl,?_,?_⟩
     ·simp only [Act.put,sS]
     ·exact {H.out with ev8:=fun _=>rfl}
    |i+9,_,hlt=>exact absurd hlt (by simp)
   ·intro L a' w' hI hn;obtain ⟨l0,l1,l2,l3,l4,l5,l6,l7,l8,v0,v1,v2,v3,v4,v5,v8,rfl,rfl,h⟩:=hI;obtain rfl:l0=true:=nr 0 rfl hn;obtain rfl:l1=true:=nr 1 rfl hn;obtain rfl:l2=true:=nr 2 rfl hn;obtain rfl:l3=true:=nr 3 rfl hn;obtain rfl:l4=true:=nr 4 rfl hn;obtain rfl:l5=true:=nr 5 rfl hn;obtain rfl:l6=true:=nr 6 rfl hn;obtain rfl:l7=true:=nr 7 rfl hn;obtain rfl:l8=true:=nr 8 rfl hn;clear hn;obtain rfl:=h.ev0 rfl;obtain rfl:=h.ev1 rfl;obtain rfl:=h.ev2 rfl;obtain rfl:=h.ev3 rfl;obtain rfl:=h.ev4 rfl;obtain rfl:=h.ev5 rfl;obtain rfl:=h.ev8 rfl;simp only [Act.put,sS]
    rename World=>w5
    have HB:=h.g;have aB:=h.us0 rfl;have bB:=h.us1 rfl;clear h
    go_wp2_with fail
    refine bodyPost_boxes (b:=w.heap.size+1) (c:=w.heap.size+1+1) (cs:=[.int .i64 c.f,.int .i64 c.a,.int .i64 c.b,.int .i64 s1,.int .i64 s2,.int .i64 c.p,.int .i64 c.q,.int .i64 c.r,.int .i64 c.s]) (ds:=[.int .i64 c.f,.int .i64 c.a,.int .i64 c.b,.int .i64 s3,.int .i64 s4,.int .i64 c.p,.int .i64 c.q,.int .i64 c.r,.int .i64 c.s]) (v:=.tuple #[.agg #[.int .i64 c.f,.int .i64 c.a,.int .i64 c.b,.int .i64 s1,.int .i64 s2,.int .i64 c.p,.int .i64 c.q,.int .i64 c.r,.int .i64 c.s],.agg #[.int .i64 c.f,.int .i64 c.a,.int .i64 c.b,.int .i64 s3,.int .i64 s4,.int .i64 c.p,.int .i64 c.q,.int .i64 c.r,.int .i64 c.s],.int .i64 0]) aB bB (fun X hX hY=>by simp [results,Try.results22,go_sem,hX,hY]) rfl ⟨by rw [HR2.out];rfl,HB.below⟩
  ·obtain ⟨⟨s1,s2,s3,s4,s5⟩,h2⟩:∃r:R2,splitR c.p c.q=r:=⟨_,rfl⟩;have HR2:=Lib.hid (show halvesR c=⟨putC c 2 s1 s2,putC c 2 s3 s4,0⟩ from by rw [HR.out,if_pos rfl];show H2.mk (putC c 2 (splitR c.p c.q).a (splitR c.p c.q).b) (putC c 2 (splitR c.p c.q).c (splitR c.p c.q).d) 0=_;rw [h2]);have X2:=Lib.hid h2;clear h2;have H0:=((Ho.nil w).bx [.int .i64 c.f,.int .i64 c.a,.int .i64 c.b,.int .i64 c.c,.int .i64 c.d,.int .i64 c.p,.int .i64 c.q,.int .i64 c.r,.int .i64 c.s] 29 (w.heap.size) (by simp));have a_0:Bx (((w.alloc (.cells (List.toArray [.int .i64 c.f,.int .i64 c.a,.int .i64 c.b,.int .i64 c.c,.int .i64 c.d,.int .i64 c.p,.int .i64 c.q,.int .i64 c.r,.int .i64 c.s]) 29)).alloc (.cells (List.toArray [.int .i64 0,.int .i64 0,.int .i64 0,.int .i64 0,.int .i64 0,.int .i64 0,.int .i64 0,.int .i64 0,.int .i64 0]) 29)).alloc (.cells (List.toArray [.int .i64 0,.int .i64 0,.int .i64 0,.int .i64 0,.int .i64 0,.int .i64 0,.int .i64 0,.int .i64 0,.int .i64 0]) 29)) (w.heap.size+1) [.int .i64 0,.int .i64 0,.int .i64 0,.int .i64 0,.int .i64 0,.int .i64 0,.int .i64 0,.int .i64 0,.int .i64 0]:=bxA;have b_0:Bx (((w.alloc (.cells (List.toArray [.int .i64 c.f,.int .i64 c.a,.int .i64 c.b,.int .i64 c.c,.int .i64 c.d,.int .i64 c.p,.int .i64 c.q,.int .i64 c.r,.int .i64 c.s]) 29)).alloc (.cells (List.toArray [.int .i64 0,.int .i64 0,.int .i64 0,.int .i64 0,.int .i64 0,.int .i64 0,.int .i64 0,.int .i64 0,.int .i64 0]) 29)).alloc (.cells (List.toArray [.int .i64 0,.int .i64 0,.int .i64 0,.int .i64 0,.int .i64 0,.int .i64 0,.int .i64 0,.int .i64 0,.int .i64 0]) 29)) (w.heap.size+1+1) [.int .i64 0,.int .i64 0,.int .i64 0,.int .i64 0,.int .i64 0,.int .i64 0,.int .i64 0,.int .i64 0,.int .i64 0]:=bxA;go_enter Try.func22,Try.ntmps22;have a_0c:=a_0.c;have a_0f:=a_0.f;have b_0c:=b_0.c;have b_0f:=b_0.f;have zx0:=zp (w.heap.size+1) (w.heap.size+1+1)
   go_wp2_with fail
   refine (axis_any c _).mono ?_;rintro r w1 ⟨rfl,hb⟩;rw [X1.out];dsimp only;have H1:Ho w w1 (w.heap.size+1) [(w.heap.size,[.int .i64 c.f,.int .i64 c.a,.int .i64 c.b,.int .i64 c.c,.int .i64 c.d,.int .i64 c.p,.int .i64 c.q,.int .i64 c.r,.int .i64 c.s])]:=Ho.call hoA hb;have a_1:=bxK a_0 hb;have b_1:=bxK b_0 hb;clear a_0c a_0f b_0c b_0f zx0;have hs1:=H1.size;have hz1:=hb.size
   (try simp at hz1)
   clear hb;have h0_1:=(H1.at 0 rfl).c;have a_1c:=a_1.c;have a_1f:=a_1.f;have a_1l:=a_1.lt;have b_1c:=b_1.c;have b_1f:=b_1.f;have b_1l:=b_1.lt;have zx1:=ai (zq (w.heap.size+1) (w1.heap.size))<|ai (zq (w.heap.size+1+1) (w1.heap.size))<|ai (zq (w.heap.size) (w1.heap.size))<|ai (zp (w.heap.size+1) (w.heap.size+1+1))<|ai (zp (w.heap.size+1) (w.heap.size))<|zp (w.heap.size+1+1) (w.heap.size)
   go_wp2_with fail
   refine (rints_any c _).mono ?_;rintro r w2 ⟨rfl,hb⟩;have H2:Ho w w2 (w.heap.size+1) [(w.heap.size,[.int .i64 c.f,.int .i64 c.a,.int .i64 c.b,.int .i64 c.c,.int .i64 c.d,.int .i64 c.p,.int .i64 c.q,.int .i64 c.r,.int .i64 c.s])]:=Ho.call hoA hb;have a_2:=bxK a_1 hb;have b_2:=bxK b_1 hb;have k_2:Bx w2 (w1.heap.size) [.int .i64 2]:=Bx.kept bxA hb;clear h0_1 a_1c a_1f b_1c b_1f zx1;have hs2:=H2.size;have hz2:=hb.size
   (try simp at hz2)
   clear hb;have h0_2:=(H2.at 0 rfl).c;have a_2c:=a_2.c;have a_2f:=a_2.f;have a_2l:=a_2.lt;have b_2c:=b_2.c;have b_2f:=b_2.f;have b_2l:=b_2.lt;have k_2c:=k_2.c;have k_2f:=k_2.f;have k_2l:=k_2.lt;have zx2:=ai (zq (w.heap.size+1) (w2.heap.size))<|ai (zq (w.heap.size+1+1) (w2.heap.size))<|ai (zq (w1.heap.size) (w2.heap.size))<|ai (zq (w.heap.size) (w2.heap.size))<|ai (zp (w.heap.size+1) (w.heap.size+1+1))<|ai (zp (w.heap.size+1) (w1.heap.size))<|ai (zp (w.heap.size+1) (w.heap.size))<|ai (zp (w.heap.size+1+1) (w1.heap.size))<|ai (zp (w.heap.size+1+1) (w.heap.size))<|zp (w1.heap.size) (w.heap.size);unfold int4
   go_wp2_with fail
   refine (split_any c.p c.q _).mono ?_;rintro r w3 ⟨rfl,hb⟩;rw [X2.out];unfold retR2;dsimp only;have H3:Ho w w3 (w.heap.size+1) [(w.heap.size,[.int .i64 c.f,.int .i64 c.a,.int .i64 c.b,.int .i64 c.c,.int .i64 c.d,.int .i64 c.p,.int .i64 c.q,.int .i64 c.r,.int .i64 c.s])]:=Ho.call hoA hb;have a_3:=bxK a_2 hb;have b_3:=bxK b_2 hb;have k_3:=bxK k_2 hb;have l_3:Bx w3 (w2.heap.size) [.int .i64 c.a,.int .i64 c.b,.int .i64 c.c,.int .i64 c.d,.int .i64 c.p,.int .i64 c.q,.int .i64 c.r,.int .i64 c.s]:=Bx.kept bxA hb;clear h0_2 a_2c a_2f b_2c b_2f k_2c k_2f zx2;have hs3:=H3.size;have hz3:=hb.size
   (try simp at hz3)
   clear hb;have h0_3:=(H3.at 0 rfl).c;have a_3c:=a_3.c;have a_3f:=a_3.f;have a_3l:=a_3.lt;have b_3c:=b_3.c;have b_3f:=b_3.f;have b_3l:=b_3.lt;have k_3c:=k_3.c;have k_3f:=k_3.f;have k_3l:=k_3.lt;have l_3c:=l_3.c;have l_3f:=l_3.f;have l_3l:=l_3.lt;have zx3:=ai (zp (w.heap.size+1) (w3.heap.size))<|ai (zp (w.heap.size+1) (w3.heap.size+1))<|ai (zl (w.heap.size+1) (w3.heap.size))<|ai (by omega:w.heap.size+1<w3.heap.size+1+1)<|ai (zp (w.heap.size+1+1) (w3.heap.size))<|ai (zp (w.heap.size+1+1) (w3.heap.size+1))<|ai (zl (w.heap.size+1+1) (w3.heap.size))<|ai (by omega:w.heap.size+1+1<w3.heap.size+1+1)<|ai (zp (w1.heap.size) (w3.heap.size))<|ai (zp (w1.heap.size) (w3.heap.size+1))<|ai (zl (w1.heap.size) (w3.heap.size))<|ai (by omega:w1.heap.size<w3.heap.size+1+1)<|ai (zp (w2.heap.size) (w3.heap.size))<|ai (zp (w2.heap.size) (w3.heap.size+1))<|ai (zl (w2.heap.size) (w3.heap.size))<|ai (by omega:w2.heap.size<w3.heap.size+1+1)<|ai (zp (w.heap.size) (w3.heap.size))<|ai (zp (w.heap.size) (w3.heap.size+1))<|ai (zl (w.heap.size) (w3.heap.size))<|ai (by omega:w.heap.size<w3.heap.size+1+1)<|ai (zp (w.heap.size+1) (w.heap.size+1+1))<|ai (zp (w.heap.size+1) (w1.heap.size))<|ai (zp (w.heap.size+1) (w2.heap.size))<|ai (zp (w.heap.size+1) (w.heap.size))<|ai (zp (w.heap.size+1+1) (w1.heap.size))<|ai (zp (w.heap.size+1+1) (w2.heap.size))<|ai (zp (w.heap.size+1+1) (w.heap.size))<|ai (zp (w1.heap.size) (w2.heap.size))<|ai (zp (w1.heap.size) (w.heap.size))<|zp (w2.heap.size) (w.heap.size)
   go_upto_region 7 with fail
   have HA:Ho w ((w3.alloc (.cells (List.toArray [.int .i64 s1,.int .i64 s2]) 25)).alloc (.cells (List.toArray [.int .i64 s3,.int .i64 s4]) 25)) (w.heap.size+1) [(w.heap.size,[.int .i64 c.f,.int .i64 c.a,.int .i64 c.b,.int .i64 c.c,.int .i64 c.d,.int .i64 c.p,.int .i64 c.q,.int .i64 c.r,.int .i64 c.s])]:=hoA;have aA:Bx ((w3.alloc (.cells (List.toArray [.int .i64 s1,.int .i64 s2]) 25)).alloc (.cells (List.toArray [.int .i64 s3,.int .i64 s4]) 25)) (w.heap.size+1) [.int .i64 0,.int .i64 0,.int .i64 0,.int .i64 0,.int .i64 0,.int .i64 0,.int .i64 0,.int .i64 0,.int .i64 0]:=bxB;have bA:Bx ((w3.alloc (.cells (List.toArray [.int .i64 s1,.int .i64 s2]) 25)).alloc (.cells (List.toArray [.int .i64 s3,.int .i64 s4]) 25)) (w.heap.size+1+1) [.int .i64 0,.int .i64 0,.int .i64 0,.int .i64 0,.int .i64 0,.int .i64 0,.int .i64 0,.int .i64 0,.int .i64 0]:=bxB;have kA:Bx ((w3.alloc (.cells (List.toArray [.int .i64 s1,.int .i64 s2]) 25)).alloc (.cells (List.toArray [.int .i64 s3,.int .i64 s4]) 25)) w1.heap.size [.int .i64 2]:=bxB;have lA:Bx ((w3.alloc (.cells (List.toArray [.int .i64 s1,.int .i64 s2]) 25)).alloc (.cells (List.toArray [.int .i64 s3,.int .i64 s4]) 25)) w2.heap.size [.int .i64 c.a,.int .i64 c.b,.int .i64 c.c,.int .i64 c.d,.int .i64 c.p,.int .i64 c.q,.int .i64 c.r,.int .i64 c.s]:=bxB;have xA:Bx ((w3.alloc (.cells (List.toArray [.int .i64 s1,.int .i64 s2]) 25)).alloc (.cells (List.toArray [.int .i64 s3,.int .i64 s4]) 25)) w3.heap.size [.int .i64 s1,.int .i64 s2]:=bxA;have yA:Bx ((w3.alloc (.cells (List.toArray [.int .i64 s1,.int .i64 s2]) 25)).alloc (.cells (List.toArray [.int .i64 s3,.int .i64 s4]) 25)) (w3.heap.size+1) [.int .i64 s3,.int .i64 s4]:=bxA;clear h0_3 a_3c a_3f b_3c b_3f k_3c k_3f l_3c l_3f zx3
   have hs4:((w3.alloc (.cells (List.toArray [.int .i64 s1,.int .i64 s2]) 25)).alloc (.cells (List.toArray [.int .i64 s3,.int .i64 s4]) 25)).heap.size=w3.heap.size+1+1:=by simp
   revert HA aA bA kA lA xA yA hs4;generalize ((w3.alloc (.cells (List.toArray [.int .i64 s1,.int .i64 s2]) 25)).alloc (.cells (List.toArray [.int .i64 s3,.int .i64 s4]) 25))=w4;intro HA aA bA kA lA xA yA hs4;have HG:=(((HA.cons kA.rd).cons lA.rd).cons xA.rd).cons yA.rd;have al:=aA.lt;have bl:=bA.lt;clear HA kA lA xA yA H3 a_3 b_3 k_3 l_3;refine region_sets (Sp2.I w.heap.size w1.heap.size w2.heap.size w3.heap.size (w3.heap.size+1) (w.heap.size+1) (w.heap.size+1+1) w4.heap.size c s1 s2 s3 s4 w) (by kernel_rfl) ?_ ?_ ?_
   ·refine ⟨false,false,false,false,false,false,false,false,false,undef,undef,undef,undef,undef,undef,(.int .i64 0),rfl,by simp only [Act.put,sS],?_⟩;constructor
    ·(with_reducible repeat (first|exact HG|refine Ho.alc ?_ _|refine Ho.drew ?_))
    ·(first|(simp;done)|(simp;omega))
    ·(omega)
    ·(intro _;(with_reducible repeat (first|exact aA|refine Bx.alc ?_ _|refine Bx.drew ?_|refine Bx.set ?_ (by omega))))
    ·(intro h;cases h)
    ·(omega)
    ·(omega)
    ·(intro p hp;simp only [List.mem_cons,List.not_mem_nil,or_false] at hp;rcases hp with rfl|rfl|rfl|rfl|rfl<;>(dsimp only;omega))
    ·(omega)
    ·(intro _;(with_reducible repeat (first|exact bA|refine Bx.alc ?_ _|refine Bx.drew ?_|refine Bx.set ?_ (by omega))))
    ·(intro h;cases h)
    ·(omega)
    ·(omega)
    ·(intro p hp;simp only [List.mem_cons,List.not_mem_nil,or_false] at hp;rcases hp with rfl|rfl|rfl|rfl|rfl<;>(dsimp only;omega))
    ·(omega)
    all_goals (intro h;cases h)
   ·intro L a' w' hI i hi;obtain ⟨l0,l1,l2,l3,l4,l5,l6,l7,l8,v0,v1,v2,v3,v4,v5,v8,rfl,rfl,h⟩:=hI;have hlt:=ready_lt hi
    match i,hi,hlt with
    |0,hi,_=>
     obtain rfl:l0=false:=rl rfl hi;clear hi hlt;have H:=Lib.hid h;clear h;refine wpOp_shut rfl (fun K hK=>?_)
     try simp only [Act.put,sS]
     go_simp;refine hK.out _ _ ?_;unfold Sp2.I;refine ⟨_,_,_,_,_,_,_,_,_,(.func (.func 48) #[] #[.pointer (some ⟨w2.heap.size,0,none⟩),.pointer (some ⟨w1.heap.size,0,none⟩),.pointer (some ⟨w.heap.size,0,none⟩)]),v1,v2,v3,v4,v5,v8,rfl,?_,?_⟩
     ·simp only [Act.put,sS]
     ·exact {H.out with ev0:=fun _=>rfl}
    |1,hi,_=>
     obtain rfl:l1=false:=rl rfl hi;clear hi hlt;have c:=(h.g.at 1 rfl).c;have H:=Lib.hid h;clear h;refine wpOp_shut rfl (fun K hK=>?_)
     try simp only [Act.put,sS]
     go_simp;refine hK.out _ _ ?_;unfold Sp2.I;refine ⟨_,_,_,_,_,_,_,_,_,v0,((iv s1 s2)),v2,v3,v4,v5,v8,rfl,?_,?_⟩
     ·simp only [Act.put,sS]
     ·exact {H.out with ev1:=fun _=>rfl}
    |2,hi,_=>
     obtain rfl:l2=false:=rl rfl hi;obtain rfl:l0=true:=rk rfl hi 0 .data;obtain rfl:l1=true:=rk rfl hi 1 .data;clear hi hlt;obtain rfl:=h.ev0 rfl;obtain rfl:=h.ev1 rfl;have H:=Lib.hid h;clear h;refine wpOp_shut rfl (fun K hK=>?_)
     try simp only [Act.put,sS]
     go_simp;refine (split1_any (lb:=w2.heap.size) (ab:=w1.heap.size) (cb:=w.heap.size) (c:=c) (k:=2) (lo:=s1) (hi:=s2) _ (by decide) (H.out.g.at 2 rfl) (H.out.g.at 3 rfl) (H.out.g.at 4 rfl)).mono ?_;rintro e wY ⟨rfl,hb⟩;rw [show cellv (putC c 2 s1 s2) = .agg #[.int .i64 c.f,.int .i64 c.a,.int .i64 c.b,.int .i64 c.c,.int .i64 c.d,.int .i64 s1,.int .i64 s2,.int .i64 c.r,.int .i64 c.s] from rfl]
     try go_simp
     refine hK.out _ _ ?_;unfold Sp2.I;refine ⟨_,_,_,_,_,_,_,_,_,(.func (.func 48) #[] #[.pointer (some ⟨w2.heap.size,0,none⟩),.pointer (some ⟨w1.heap.size,0,none⟩),.pointer (some ⟨w.heap.size,0,none⟩)]),((iv s1 s2)),(.agg #[.int .i64 c.f,.int .i64 c.a,.int .i64 c.b,.int .i64 c.c,.int .i64 c.d,.int .i64 s1,.int .i64 s2,.int .i64 c.r,.int .i64 c.s]),v3,v4,v5,v8,rfl,?_,?_⟩
     ·simp only [Act.put,sS]
     ·exact {(H.out.kept hb) with ev2:=fun _=>rfl}
    |3,hi,_=>
     obtain rfl:l3=false:=rl rfl hi;clear hi hlt;have H:=Lib.hid h;clear h;refine wpOp_shut rfl (fun K hK=>?_)
     try simp only [Act.put,sS]
     go_simp;refine hK.out _ _ ?_;unfold Sp2.I;refine ⟨_,_,_,_,_,_,_,_,_,v0,v1,v2,(.func (.func 48) #[] #[.pointer (some ⟨w2.heap.size,0,none⟩),.pointer (some ⟨w1.heap.size,0,none⟩),.pointer (some ⟨w.heap.size,0,none⟩)]),v4,v5,v8,rfl,?_,?_⟩
     ·simp only [Act.put,sS]
     ·exact {H.out with ev3:=fun _=>rfl}
    |4,hi,_=>
     obtain rfl:l4=false:=rl rfl hi;clear hi hlt;have c:=(h.g.at 0 rfl).c;have H:=Lib.hid h;clear h;refine wpOp_shut rfl (fun K hK=>?_)
     try simp only [Act.put,sS]
     go_simp;refine hK.out _ _ ?_;unfold Sp2.I;refine ⟨_,_,_,_,_,_,_,_,_,v0,v1,v2,v3,((iv s3 s4)),v5,v8,rfl,?_,?_⟩
     ·simp only [Act.put,sS]
     ·exact {H.out with ev4:=fun _=>rfl}
    |5,hi,_=>
     obtain rfl:l5=false:=rl rfl hi;obtain rfl:l3=true:=rk rfl hi 3 .data;obtain rfl:l4=true:=rk rfl hi 4 .data;obtain rfl:l2=true:=rk rfl hi 2 .chain;clear hi hlt;obtain rfl:=h.ev3 rfl;obtain rfl:=h.ev4 rfl;obtain rfl:=h.ev2 rfl;have H:=Lib.hid h;clear h;refine wpOp_shut rfl (fun K hK=>?_)
     try simp only [Act.put,sS]
     go_simp;refine (split1_any (lb:=w2.heap.size) (ab:=w1.heap.size) (cb:=w.heap.size) (c:=c) (k:=2) (lo:=s3) (hi:=s4) _ (by decide) (H.out.g.at 2 rfl) (H.out.g.at 3 rfl) (H.out.g.at 4 rfl)).mono ?_;rintro e wY ⟨rfl,hb⟩;rw [show cellv (putC c 2 s3 s4) = .agg #[.int .i64 c.f,.int .i64 c.a,.int .i64 c.b,.int .i64 c.c,.int .i64 c.d,.int .i64 s3,.int .i64 s4,.int .i64 c.r,.int .i64 c.s] from rfl]
     try go_simp
     refine hK.out _ _ ?_;unfold Sp2.I;refine ⟨_,_,_,_,_,_,_,_,_,v0,v1,(.agg #[.int .i64 c.f,.int .i64 c.a,.int .i64 c.b,.int .i64 c.c,.int .i64 c.d,.int .i64 s1,.int .i64 s2,.int .i64 c.r,.int .i64 c.s]),(.func (.func 48) #[] #[.pointer (some ⟨w2.heap.size,0,none⟩),.pointer (some ⟨w1.heap.size,0,none⟩),.pointer (some ⟨w.heap.size,0,none⟩)]),((iv s3 s4)),(.agg #[.int .i64 c.f,.int .i64 c.a,.int .i64 c.b,.int .i64 c.c,.int .i64 c.d,.int .i64 s3,.int .i64 s4,.int .i64 c.r,.int .i64 c.s]),v8,rfl,?_,?_⟩
     ·simp only [Act.put,sS]
     ·exact {(H.out.kept hb) with ev5:=fun _=>rfl}
    |6,hi,_=>
     obtain rfl:l6=false:=rl rfl hi;obtain rfl:l2=true:=rk rfl hi 2 .phase;obtain rfl:l5=true:=rk rfl hi 5 .chain;obtain rfl:l0=true:=rk rfl hi 0 .phase;obtain rfl:l1=true:=rk rfl hi 1 .phase;clear hi hlt;obtain rfl:=h.ev2 rfl;obtain rfl:=h.ev5 rfl;obtain rfl:=h.ev0 rfl;obtain rfl:=h.ev1 rfl;have bz:=h.u0 rfl;have cW:=bz.c;have fW:=bz.f;clear bz;have H:=Lib.hid h;clear h;refine wpOp_shut rfl (fun K hK=>?_)
     try simp only [Act.put,sS]
     go_simp;refine hK.out _ _ ?_;unfold Sp2.I;refine ⟨_,_,_,_,_,_,_,_,_,(.func (.func 48) #[] #[.pointer (some ⟨w2.heap.size,0,none⟩),.pointer (some ⟨w1.heap.size,0,none⟩),.pointer (some ⟨w.heap.size,0,none⟩)]),((iv s1 s2)),(.agg #[.int .i64 c.f,.int .i64 c.a,.int .i64 c.b,.int .i64 c.c,.int .i64 c.d,.int .i64 s1,.int .i64 s2,.int .i64 c.r,.int .i64 c.s]),v3,v4,(.agg #[.int .i64 c.f,.int .i64 c.a,.int .i64 c.b,.int .i64 c.c,.int .i64 c.d,.int .i64 s3,.int .i64 s4,.int .i64 c.r,.int .i64 c.s]),v8,rfl,?_,?_⟩
     ·simp only [Act.put,sS]
     ·have h:=H.out;exact {h with g:=(((((((((h.g.putx h.um0 h.uq0).putx h.um0 h.uq0).putx h.um0 h.uq0).putx h.um0 h.uq0).putx h.um0 h.uq0).putx h.um0 h.uq0).putx h.um0 h.uq0).putx h.um0 h.uq0).putx h.um0 h.uq0),sz:=by simpa using h.sz,u0:=fun p=>(nomatch p),us0:=fun _=>((((((((((h.u0 rfl).put).put).put).put).put).put).put).put).put),u1:=fun p=>((((((((((h.u1 p).set h.une0_1).set h.une0_1).set h.une0_1).set h.une0_1).set h.une0_1).set h.une0_1).set h.une0_1).set h.une0_1).set h.une0_1),us1:=fun p=>((((((((((h.us1 p).set h.une0_1).set h.une0_1).set h.une0_1).set h.une0_1).set h.une0_1).set h.une0_1).set h.une0_1).set h.une0_1).set h.une0_1)}
    |7,hi,_=>
     obtain rfl:l7=false:=rl rfl hi;obtain rfl:l5=true:=rk rfl hi 5 .phase;obtain rfl:l6=true:=rk rfl hi 6 .phase;obtain rfl:l0=true:=rk rfl hi 0 .phase;obtain rfl:l1=true:=rk rfl hi 1 .phase;obtain rfl:l2=true:=rk rfl hi 2 .phase;obtain rfl:l3=true:=rk rfl hi 3 .phase;obtain rfl:l4=true:=rk rfl hi 4 .phase;clear hi hlt;obtain rfl:=h.ev5 rfl;obtain rfl:=h.ev0 rfl;obtain rfl:=h.ev1 rfl;obtain rfl:=h.ev2 rfl;obtain rfl:=h.ev3 rfl;obtain rfl:=h.ev4 rfl;have bz:=h.u1 rfl;have cW:=bz.c;have fW:=bz.f;clear bz;have H:=Lib.hid h;clear h;refine wpOp_shut rfl (fun K hK=>?_)
     try simp only [Act.put,sS]
     go_simp;refine hK.out _ _ ?_;unfold Sp2.I;refine ⟨_,_,_,_,_,_,_,_,_,(.func (.func 48) #[] #[.pointer (some ⟨w2.heap.size,0,none⟩),.pointer (some ⟨w1.heap.size,0,none⟩),.pointer (some ⟨w.heap.size,0,none⟩)]),((iv s1 s2)),(.agg #[.int .i64 c.f,.int .i64 c.a,.int .i64 c.b,.int .i64 c.c,.int .i64 c.d,.int .i64 s1,.int .i64 s2,.int .i64 c.r,.int .i64 c.s]),(.func (.func 48) #[] #[.pointer (some ⟨w2.heap.size,0,none⟩),.pointer (some ⟨w1.heap.size,0,none⟩),.pointer (some ⟨w.heap.size,0,none⟩)]),((iv s3 s4)),(.agg #[.int .i64 c.f,.int .i64 c.a,.int .i64 c.b,.int .i64 c.c,.int .i64 c.d,.int .i64 s3,.int .i64 s4,.int .i64 c.r,.int .i64 c.s]),v8,rfl,?_,?_⟩
     ·simp only [Act.put,sS]
     ·have h:=H.out;exact {h with g:=(((((((((h.g.putx h.um1 h.uq1).putx h.um1 h.uq1).putx h.um1 h.uq1).putx h.um1 h.uq1).putx h.um1 h.uq1).putx h.um1 h.uq1).putx h.um1 h.uq1).putx h.um1 h.uq1).putx h.um1 h.uq1),sz:=by simpa using h.sz,u1:=fun p=>(nomatch p),us1:=fun _=>((((((((((h.u1 rfl).put).put).put).put).put).put).put).put).put),u0:=fun p=>((((((((((h.u0 p).set h.une1_0).set h.une1_0).set h.une1_0).set h.une1_0).set h.une1_0).set h.une1_0).set h.une1_0).set h.une1_0).set h.une1_0),us0:=fun p=>((((((((((h.us0 p).set h.une1_0).set h.une1_0).set h.une1_0).set h.une1_0).set h.une1_0).set h.une1_0).set h.une1_0).set h.une1_0).set h.une1_0)}
    |8,hi,_=>
     obtain rfl:l8=false:=rl rfl hi;obtain rfl:l7=true:=rk rfl hi 7 .phase;obtain rfl:l0=true:=rk rfl hi 0 .phase;obtain rfl:l1=true:=rk rfl hi 1 .phase;obtain rfl:l2=true:=rk rfl hi 2 .phase;obtain rfl:l3=true:=rk rfl hi 3 .phase;obtain rfl:l4=true:=rk rfl hi 4 .phase;obtain rfl:l5=true:=rk rfl hi 5 .phase;obtain rfl:l6=true:=rk rfl hi 6 .phase;clear hi hlt;obtain rfl:=h.ev0 rfl;obtain rfl:=h.ev1 rfl;obtain rfl:=h.ev2 rfl;obtain rfl:=h.ev3 rfl;obtain rfl:=h.ev4 rfl;obtain rfl:=h.ev5 rfl;have H:=Lib.hid h;clear h;refine wpOp_shut rfl (fun K hK=>?_)
     try simp only [Act.put,sS]
     go_simp;refine hK.out _ _ ?_;unfold Sp2.I;refine ⟨_,_,_,_,_,_,_,_,_,(.func (.func 48) #[] #[.pointer (some ⟨w2.heap.size,0,none⟩),.pointer (some ⟨w1.heap.size,0,none⟩),.pointer (some ⟨w.heap.size,0,none⟩)]),((iv s1 s2)),(.agg #[.int .i64 c.f,.int .i64 c.a,.int .i64 c.b,.int .i64 c.c,.int .i64 c.d,.int .i64 s1,.int .i64 s2,.int .i64 c.r,.int .i64 c.s]),(.func (.func 48) #[] #[.pointer (some ⟨w2.heap.size,0,none⟩),.pointer (some ⟨w1.heap.size,0,none⟩),.pointer (some ⟨w.heap.size,0,none⟩)]),((iv s3 s4)),(.agg #[.int .i64 c.f,.int .i64 c.a,.int .i64 c.b,.int .i64 c.c,.int .i64 c.d,.int .i64 s3,.int .i64 s4,.int .i64 c.r,.int .i64 c.s]),(.int .i64 0),rfl,?_,?_⟩
     ·simp only [Act.put,sS]
     ·exact {H.out with ev8:=fun _=>rfl}
    |i+9,_,hlt=>exact absurd hlt (by simp)
   ·intro L a' w' hI hn;obtain ⟨l0,l1,l2,l3,l4,l5,l6,l7,l8,v0,v1,v2,v3,v4,v5,v8,rfl,rfl,h⟩:=hI;obtain rfl:l0=true:=nr 0 rfl hn;obtain rfl:l1=true:=nr 1 rfl hn;obtain rfl:l2=true:=nr 2 rfl hn;obtain rfl:l3=true:=nr 3 rfl hn;obtain rfl:l4=true:=nr 4 rfl hn;obtain rfl:l5=true:=nr 5 rfl hn;obtain rfl:l6=true:=nr 6 rfl hn;obtain rfl:l7=true:=nr 7 rfl hn;obtain rfl:l8=true:=nr 8 rfl hn;clear hn;obtain rfl:=h.ev0 rfl;obtain rfl:=h.ev1 rfl;obtain rfl:=h.ev2 rfl;obtain rfl:=h.ev3 rfl;obtain rfl:=h.ev4 rfl;obtain rfl:=h.ev5 rfl;obtain rfl:=h.ev8 rfl;simp only [Act.put,sS]
    rename World=>w5
    have HB:=h.g;have aB:=h.us0 rfl;have bB:=h.us1 rfl;clear h
    go_wp2_with fail
    refine bodyPost_boxes (b:=w.heap.size+1) (c:=w.heap.size+1+1) (cs:=[.int .i64 c.f,.int .i64 c.a,.int .i64 c.b,.int .i64 c.c,.int .i64 c.d,.int .i64 s1,.int .i64 s2,.int .i64 c.r,.int .i64 c.s]) (ds:=[.int .i64 c.f,.int .i64 c.a,.int .i64 c.b,.int .i64 c.c,.int .i64 c.d,.int .i64 s3,.int .i64 s4,.int .i64 c.r,.int .i64 c.s]) (v:=.tuple #[.agg #[.int .i64 c.f,.int .i64 c.a,.int .i64 c.b,.int .i64 c.c,.int .i64 c.d,.int .i64 s1,.int .i64 s2,.int .i64 c.r,.int .i64 c.s],.agg #[.int .i64 c.f,.int .i64 c.a,.int .i64 c.b,.int .i64 c.c,.int .i64 c.d,.int .i64 s3,.int .i64 s4,.int .i64 c.r,.int .i64 c.s],.int .i64 0]) aB bB (fun X hX hY=>by simp [results,Try.results22,go_sem,hX,hY]) rfl ⟨by rw [HR2.out];rfl,HB.below⟩
  ·obtain ⟨⟨s1,s2,s3,s4,s5⟩,h2⟩:∃r:R2,splitR c.r c.s=r:=⟨_,rfl⟩;have HR2:=Lib.hid (show halvesR c=⟨putC c 3 s1 s2,putC c 3 s3 s4,0⟩ from by rw [HR.out,if_pos rfl];show H2.mk (putC c 3 (splitR c.r c.s).a (splitR c.r c.s).b) (putC c 3 (splitR c.r c.s).c (splitR c.r c.s).d) 0=_;rw [h2]);have X2:=Lib.hid h2;clear h2;have H0:=((Ho.nil w).bx [.int .i64 c.f,.int .i64 c.a,.int .i64 c.b,.int .i64 c.c,.int .i64 c.d,.int .i64 c.p,.int .i64 c.q,.int .i64 c.r,.int .i64 c.s] 29 (w.heap.size) (by simp));have a_0:Bx (((w.alloc (.cells (List.toArray [.int .i64 c.f,.int .i64 c.a,.int .i64 c.b,.int .i64 c.c,.int .i64 c.d,.int .i64 c.p,.int .i64 c.q,.int .i64 c.r,.int .i64 c.s]) 29)).alloc (.cells (List.toArray [.int .i64 0,.int .i64 0,.int .i64 0,.int .i64 0,.int .i64 0,.int .i64 0,.int .i64 0,.int .i64 0,.int .i64 0]) 29)).alloc (.cells (List.toArray [.int .i64 0,.int .i64 0,.int .i64 0,.int .i64 0,.int .i64 0,.int .i64 0,.int .i64 0,.int .i64 0,.int .i64 0]) 29)) (w.heap.size+1) [.int .i64 0,.int .i64 0,.int .i64 0,.int .i64 0,.int .i64 0,.int .i64 0,.int .i64 0,.int .i64 0,.int .i64 0]:=bxA;have b_0:Bx (((w.alloc (.cells (List.toArray [.int .i64 c.f,.int .i64 c.a,.int .i64 c.b,.int .i64 c.c,.int .i64 c.d,.int .i64 c.p,.int .i64 c.q,.int .i64 c.r,.int .i64 c.s]) 29)).alloc (.cells (List.toArray [.int .i64 0,.int .i64 0,.int .i64 0,.int .i64 0,.int .i64 0,.int .i64 0,.int .i64 0,.int .i64 0,.int .i64 0]) 29)).alloc (.cells (List.toArray [.int .i64 0,.int .i64 0,.int .i64 0,.int .i64 0,.int .i64 0,.int .i64 0,.int .i64 0,.int .i64 0,.int .i64 0]) 29)) (w.heap.size+1+1) [.int .i64 0,.int .i64 0,.int .i64 0,.int .i64 0,.int .i64 0,.int .i64 0,.int .i64 0,.int .i64 0,.int .i64 0]:=bxA;go_enter Try.func22,Try.ntmps22;have a_0c:=a_0.c;have a_0f:=a_0.f;have b_0c:=b_0.c;have b_0f:=b_0.f;have zx0:=zp (w.heap.size+1) (w.heap.size+1+1)
   go_wp2_with fail
   refine (axis_any c _).mono ?_;rintro r w1 ⟨rfl,hb⟩;rw [X1.out];dsimp only;have H1:Ho w w1 (w.heap.size+1) [(w.heap.size,[.int .i64 c.f,.int .i64 c.a,.int .i64 c.b,.int .i64 c.c,.int .i64 c.d,.int .i64 c.p,.int .i64 c.q,.int .i64 c.r,.int .i64 c.s])]:=Ho.call hoA hb;have a_1:=bxK a_0 hb;have b_1:=bxK b_0 hb;clear a_0c a_0f b_0c b_0f zx0;have hs1:=H1.size;have hz1:=hb.size
   (try simp at hz1)
   clear hb;have h0_1:=(H1.at 0 rfl).c;have a_1c:=a_1.c;have a_1f:=a_1.f;have a_1l:=a_1.lt;have b_1c:=b_1.c;have b_1f:=b_1.f;have b_1l:=b_1.lt;have zx1:=ai (zq (w.heap.size+1) (w1.heap.size))<|ai (zq (w.heap.size+1+1) (w1.heap.size))<|ai (zq (w.heap.size) (w1.heap.size))<|ai (zp (w.heap.size+1) (w.heap.size+1+1))<|ai (zp (w.heap.size+1) (w.heap.size))<|zp (w.heap.size+1+1) (w.heap.size)
   go_wp2_with fail
   refine (rints_any c _).mono ?_;rintro r w2 ⟨rfl,hb⟩;have H2:Ho w w2 (w.heap.size+1) [(w.heap.size,[.int .i64 c.f,.int .i64 c.a,.int .i64 c.b,.int .i64 c.c,.int .i64 c.d,.int .i64 c.p,.int .i64 c.q,.int .i64 c.r,.int .i64 c.s])]:=Ho.call hoA hb;have a_2:=bxK a_1 hb;have b_2:=bxK b_1 hb;have k_2:Bx w2 (w1.heap.size) [.int .i64 3]:=Bx.kept bxA hb;clear h0_1 a_1c a_1f b_1c b_1f zx1;have hs2:=H2.size;have hz2:=hb.size
   (try simp at hz2)
   clear hb;have h0_2:=(H2.at 0 rfl).c;have a_2c:=a_2.c;have a_2f:=a_2.f;have a_2l:=a_2.lt;have b_2c:=b_2.c;have b_2f:=b_2.f;have b_2l:=b_2.lt;have k_2c:=k_2.c;have k_2f:=k_2.f;have k_2l:=k_2.lt;have zx2:=ai (zq (w.heap.size+1) (w2.heap.size))<|ai (zq (w.heap.size+1+1) (w2.heap.size))<|ai (zq (w1.heap.size) (w2.heap.size))<|ai (zq (w.heap.size) (w2.heap.size))<|ai (zp (w.heap.size+1) (w.heap.size+1+1))<|ai (zp (w.heap.size+1) (w1.heap.size))<|ai (zp (w.heap.size+1) (w.heap.size))<|ai (zp (w.heap.size+1+1) (w1.heap.size))<|ai (zp (w.heap.size+1+1) (w.heap.size))<|zp (w1.heap.size) (w.heap.size);unfold int4
   go_wp2_with fail
   refine (split_any c.r c.s _).mono ?_;rintro r w3 ⟨rfl,hb⟩;rw [X2.out];unfold retR2;dsimp only;have H3:Ho w w3 (w.heap.size+1) [(w.heap.size,[.int .i64 c.f,.int .i64 c.a,.int .i64 c.b,.int .i64 c.c,.int .i64 c.d,.int .i64 c.p,.int .i64 c.q,.int .i64 c.r,.int .i64 c.s])]:=Ho.call hoA hb;have a_3:=bxK a_2 hb;have b_3:=bxK b_2 hb;have k_3:=bxK k_2 hb;have l_3:Bx w3 (w2.heap.size) [.int .i64 c.a,.int .i64 c.b,.int .i64 c.c,.int .i64 c.d,.int .i64 c.p,.int .i64 c.q,.int .i64 c.r,.int .i64 c.s]:=Bx.kept bxA hb;clear h0_2 a_2c a_2f b_2c b_2f k_2c k_2f zx2;have hs3:=H3.size;have hz3:=hb.size
   (try simp at hz3)
   clear hb;have h0_3:=(H3.at 0 rfl).c;have a_3c:=a_3.c;have a_3f:=a_3.f;have a_3l:=a_3.lt;have b_3c:=b_3.c;have b_3f:=b_3.f;have b_3l:=b_3.lt;have k_3c:=k_3.c;have k_3f:=k_3.f;have k_3l:=k_3.lt;have l_3c:=l_3.c;have l_3f:=l_3.f;have l_3l:=l_3.lt;have zx3:=ai (zp (w.heap.size+1) (w3.heap.size))<|ai (zp (w.heap.size+1) (w3.heap.size+1))<|ai (zl (w.heap.size+1) (w3.heap.size))<|ai (by omega:w.heap.size+1<w3.heap.size+1+1)<|ai (zp (w.heap.size+1+1) (w3.heap.size))<|ai (zp (w.heap.size+1+1) (w3.heap.size+1))<|ai (zl (w.heap.size+1+1) (w3.heap.size))<|ai (by omega:w.heap.size+1+1<w3.heap.size+1+1)<|ai (zp (w1.heap.size) (w3.heap.size))<|ai (zp (w1.heap.size) (w3.heap.size+1))<|ai (zl (w1.heap.size) (w3.heap.size))<|ai (by omega:w1.heap.size<w3.heap.size+1+1)<|ai (zp (w2.heap.size) (w3.heap.size))<|ai (zp (w2.heap.size) (w3.heap.size+1))<|ai (zl (w2.heap.size) (w3.heap.size))<|ai (by omega:w2.heap.size<w3.heap.size+1+1)<|ai (zp (w.heap.size) (w3.heap.size))<|ai (zp (w.heap.size) (w3.heap.size+1))<|ai (zl (w.heap.size) (w3.heap.size))<|ai (by omega:w.heap.size<w3.heap.size+1+1)<|ai (zp (w.heap.size+1) (w.heap.size+1+1))<|ai (zp (w.heap.size+1) (w1.heap.size))<|ai (zp (w.heap.size+1) (w2.heap.size))<|ai (zp (w.heap.size+1) (w.heap.size))<|ai (zp (w.heap.size+1+1) (w1.heap.size))<|ai (zp (w.heap.size+1+1) (w2.heap.size))<|ai (zp (w.heap.size+1+1) (w.heap.size))<|ai (zp (w1.heap.size) (w2.heap.size))<|ai (zp (w1.heap.size) (w.heap.size))<|zp (w2.heap.size) (w.heap.size)
   go_upto_region 7 with fail
   have HA:Ho w ((w3.alloc (.cells (List.toArray [.int .i64 s1,.int .i64 s2]) 25)).alloc (.cells (List.toArray [.int .i64 s3,.int .i64 s4]) 25)) (w.heap.size+1) [(w.heap.size,[.int .i64 c.f,.int .i64 c.a,.int .i64 c.b,.int .i64 c.c,.int .i64 c.d,.int .i64 c.p,.int .i64 c.q,.int .i64 c.r,.int .i64 c.s])]:=hoA;have aA:Bx ((w3.alloc (.cells (List.toArray [.int .i64 s1,.int .i64 s2]) 25)).alloc (.cells (List.toArray [.int .i64 s3,.int .i64 s4]) 25)) (w.heap.size+1) [.int .i64 0,.int .i64 0,.int .i64 0,.int .i64 0,.int .i64 0,.int .i64 0,.int .i64 0,.int .i64 0,.int .i64 0]:=bxB;have bA:Bx ((w3.alloc (.cells (List.toArray [.int .i64 s1,.int .i64 s2]) 25)).alloc (.cells (List.toArray [.int .i64 s3,.int .i64 s4]) 25)) (w.heap.size+1+1) [.int .i64 0,.int .i64 0,.int .i64 0,.int .i64 0,.int .i64 0,.int .i64 0,.int .i64 0,.int .i64 0,.int .i64 0]:=bxB;have kA:Bx ((w3.alloc (.cells (List.toArray [.int .i64 s1,.int .i64 s2]) 25)).alloc (.cells (List.toArray [.int .i64 s3,.int .i64 s4]) 25)) w1.heap.size [.int .i64 3]:=bxB;have lA:Bx ((w3.alloc (.cells (List.toArray [.int .i64 s1,.int .i64 s2]) 25)).alloc (.cells (List.toArray [.int .i64 s3,.int .i64 s4]) 25)) w2.heap.size [.int .i64 c.a,.int .i64 c.b,.int .i64 c.c,.int .i64 c.d,.int .i64 c.p,.int .i64 c.q,.int .i64 c.r,.int .i64 c.s]:=bxB;have xA:Bx ((w3.alloc (.cells (List.toArray [.int .i64 s1,.int .i64 s2]) 25)).alloc (.cells (List.toArray [.int .i64 s3,.int .i64 s4]) 25)) w3.heap.size [.int .i64 s1,.int .i64 s2]:=bxA;have yA:Bx ((w3.alloc (.cells (List.toArray [.int .i64 s1,.int .i64 s2]) 25)).alloc (.cells (List.toArray [.int .i64 s3,.int .i64 s4]) 25)) (w3.heap.size+1) [.int .i64 s3,.int .i64 s4]:=bxA;clear h0_3 a_3c a_3f b_3c b_3f k_3c k_3f l_3c l_3f zx3
   have hs4:((w3.alloc (.cells (List.toArray [.int .i64 s1,.int .i64 s2]) 25)).alloc (.cells (List.toArray [.int .i64 s3,.int .i64 s4]) 25)).heap.size=w3.heap.size+1+1:=by simp
   revert HA aA bA kA lA xA yA hs4;generalize ((w3.alloc (.cells (List.toArray [.int .i64 s1,.int .i64 s2]) 25)).alloc (.cells (List.toArray [.int .i64 s3,.int .i64 s4]) 25))=w4;intro HA aA bA kA lA xA yA hs4;have HG:=(((HA.cons kA.rd).cons lA.rd).cons xA.rd).cons yA.rd;have al:=aA.lt;have bl:=bA.lt;clear HA kA lA xA yA H3 a_3 b_3 k_3 l_3;refine region_sets (Sp3.I w.heap.size w1.heap.size w2.heap.size w3.heap.size (w3.heap.size+1) (w.heap.size+1) (w.heap.size+1+1) w4.heap.size c s1 s2 s3 s4 w) (by kernel_rfl) ?_ ?_ ?_
   ·refine ⟨false,false,false,false,false,false,false,false,false,undef,undef,undef,undef,undef,undef,(.int .i64 0),rfl,by simp only [Act.put,sS],?_⟩;constructor
    ·(with_reducible repeat (first|exact HG|refine Ho.alc ?_ _|refine Ho.drew ?_))
    ·(first|(simp;done)|(simp;omega))
    ·(omega)
    ·(intro _;(with_reducible repeat (first|exact aA|refine Bx.alc ?_ _|refine Bx.drew ?_|refine Bx.set ?_ (by omega))))
    ·(intro h;cases h)
    ·(omega)
    ·(omega)
    ·(intro p hp;simp only [List.mem_cons,List.not_mem_nil,or_false] at hp;rcases hp with rfl|rfl|rfl|rfl|rfl<;>(dsimp only;omega))
    ·(omega)
    ·(intro _;(with_reducible repeat (first|exact bA|refine Bx.alc ?_ _|refine Bx.drew ?_|refine Bx.set ?_ (by omega))))
    ·(intro h;cases h)
    ·(omega)
    ·(omega)
    ·(intro p hp;simp only [List.mem_cons,List.not_mem_nil,or_false] at hp;rcases hp with rfl|rfl|rfl|rfl|rfl<;>(dsimp only;omega))
    ·(omega)
    all_goals (intro h;cases h)
   ·intro L a' w' hI i hi;obtain ⟨l0,l1,l2,l3,l4,l5,l6,l7,l8,v0,v1,v2,v3,v4,v5,v8,rfl,rfl,h⟩:=hI;have hlt:=ready_lt hi
    match i,hi,hlt with
    |0,hi,_=>
     obtain rfl:l0=false:=rl rfl hi;clear hi hlt;have H:=Lib.hid h;clear h;refine wpOp_shut rfl (fun K hK=>?_)
     try simp only [Act.put,sS]
     go_simp;refine hK.out _ _ ?_;unfold Sp3.I;refine ⟨_,_,_,_,_,_,_,_,_,(.func (.func 48) #[] #[.pointer (some ⟨w2.heap.size,0,none⟩),.pointer (some ⟨w1.heap.size,0,none⟩),.pointer (some ⟨w.heap.size,0,none⟩)]),v1,v2,v3,v4,v5,v8,rfl,?_,?_⟩
     ·simp only [Act.put,sS]
     ·exact {H.out with ev0:=fun _=>rfl}
    |1,hi,_=>
     obtain rfl:l1=false:=rl rfl hi;clear hi hlt;have c:=(h.g.at 1 rfl).c;have H:=Lib.hid h;clear h;refine wpOp_shut rfl (fun K hK=>?_)
     try simp only [Act.put,sS]
     go_simp;refine hK.out _ _ ?_;unfold Sp3.I;refine ⟨_,_,_,_,_,_,_,_,_,v0,((iv s1 s2)),v2,v3,v4,v5,v8,rfl,?_,?_⟩
     ·simp only [Act.put,sS]
     ·exact {H.out with ev1:=fun _=>rfl}
    |2,hi,_=>
     obtain rfl:l2=false:=rl rfl hi;obtain rfl:l0=true:=rk rfl hi 0 .data;obtain rfl:l1=true:=rk rfl hi 1 .data;clear hi hlt;obtain rfl:=h.ev0 rfl;obtain rfl:=h.ev1 rfl;have H:=Lib.hid h;clear h;refine wpOp_shut rfl (fun K hK=>?_)
     try simp only [Act.put,sS]
     go_simp;refine (split1_any (lb:=w2.heap.size) (ab:=w1.heap.size) (cb:=w.heap.size) (c:=c) (k:=3) (lo:=s1) (hi:=s2) _ (by decide) (H.out.g.at 2 rfl) (H.out.g.at 3 rfl) (H.out.g.at 4 rfl)).mono ?_;rintro e wY ⟨rfl,hb⟩;rw [show cellv (putC c 3 s1 s2) = .agg #[.int .i64 c.f,.int .i64 c.a,.int .i64 c.b,.int .i64 c.c,.int .i64 c.d,.int .i64 c.p,.int .i64 c.q,.int .i64 s1,.int .i64 s2] from rfl]
     try go_simp
     refine hK.out _ _ ?_;unfold Sp3.I;refine ⟨_,_,_,_,_,_,_,_,_,(.func (.func 48) #[] #[.pointer (some ⟨w2.heap.size,0,none⟩),.pointer (some ⟨w1.heap.size,0,none⟩),.pointer (some ⟨w.heap.size,0,none⟩)]),((iv s1 s2)),(.agg #[.int .i64 c.f,.int .i64 c.a,.int .i64 c.b,.int .i64 c.c,.int .i64 c.d,.int .i64 c.p,.int .i64 c.q,.int .i64 s1,.int .i64 s2]),v3,v4,v5,v8,rfl,?_,?_⟩
     ·simp only [Act.put,sS]
     ·exact {(H.out.kept hb) with ev2:=fun _=>rfl}
    |3,hi,_=>
     obtain rfl:l3=false:=rl rfl hi;clear hi hlt;have H:=Lib.hid h;clear h;refine wpOp_shut rfl (fun K hK=>?_)
     try simp only [Act.put,sS]
     go_simp;refine hK.out _ _ ?_;unfold Sp3.I;refine ⟨_,_,_,_,_,_,_,_,_,v0,v1,v2,(.func (.func 48) #[] #[.pointer (some ⟨w2.heap.size,0,none⟩),.pointer (some ⟨w1.heap.size,0,none⟩),.pointer (some ⟨w.heap.size,0,none⟩)]),v4,v5,v8,rfl,?_,?_⟩
     ·simp only [Act.put,sS]
     ·exact {H.out with ev3:=fun _=>rfl}
    |4,hi,_=>
     obtain rfl:l4=false:=rl rfl hi;clear hi hlt;have c:=(h.g.at 0 rfl).c;have H:=Lib.hid h;clear h;refine wpOp_shut rfl (fun K hK=>?_)
     try simp only [Act.put,sS]
     go_simp;refine hK.out _ _ ?_;unfold Sp3.I;refine ⟨_,_,_,_,_,_,_,_,_,v0,v1,v2,v3,((iv s3 s4)),v5,v8,rfl,?_,?_⟩
     ·simp only [Act.put,sS]
     ·exact {H.out with ev4:=fun _=>rfl}
    |5,hi,_=>
     obtain rfl:l5=false:=rl rfl hi;obtain rfl:l3=true:=rk rfl hi 3 .data;obtain rfl:l4=true:=rk rfl hi 4 .data;obtain rfl:l2=true:=rk rfl hi 2 .chain;clear hi hlt;obtain rfl:=h.ev3 rfl;obtain rfl:=h.ev4 rfl;obtain rfl:=h.ev2 rfl;have H:=Lib.hid h;clear h;refine wpOp_shut rfl (fun K hK=>?_)
     try simp only [Act.put,sS]
     go_simp;refine (split1_any (lb:=w2.heap.size) (ab:=w1.heap.size) (cb:=w.heap.size) (c:=c) (k:=3) (lo:=s3) (hi:=s4) _ (by decide) (H.out.g.at 2 rfl) (H.out.g.at 3 rfl) (H.out.g.at 4 rfl)).mono ?_;rintro e wY ⟨rfl,hb⟩;rw [show cellv (putC c 3 s3 s4) = .agg #[.int .i64 c.f,.int .i64 c.a,.int .i64 c.b,.int .i64 c.c,.int .i64 c.d,.int .i64 c.p,.int .i64 c.q,.int .i64 s3,.int .i64 s4] from rfl]
     try go_simp
     refine hK.out _ _ ?_;unfold Sp3.I;refine ⟨_,_,_,_,_,_,_,_,_,v0,v1,(.agg #[.int .i64 c.f,.int .i64 c.a,.int .i64 c.b,.int .i64 c.c,.int .i64 c.d,.int .i64 c.p,.int .i64 c.q,.int .i64 s1,.int .i64 s2]),(.func (.func 48) #[] #[.pointer (some ⟨w2.heap.size,0,none⟩),.pointer (some ⟨w1.heap.size,0,none⟩),.pointer (some ⟨w.heap.size,0,none⟩)]),((iv s3 s4)),(.agg #[.int .i64 c.f,.int .i64 c.a,.int .i64 c.b,.int .i64 c.c,.int .i64 c.d,.int .i64 c.p,.int .i64 c.q,.int .i64 s3,.int .i64 s4]),v8,rfl,?_,?_⟩
     ·simp only [Act.put,sS]
     ·exact {(H.out.kept hb) with ev5:=fun _=>rfl}
    |6,hi,_=>
     obtain rfl:l6=false:=rl rfl hi;obtain rfl:l2=true:=rk rfl hi 2 .phase;obtain rfl:l5=true:=rk rfl hi 5 .chain;obtain rfl:l0=true:=rk rfl hi 0 .phase;obtain rfl:l1=true:=rk rfl hi 1 .phase;clear hi hlt;obtain rfl:=h.ev2 rfl;obtain rfl:=h.ev5 rfl;obtain rfl:=h.ev0 rfl;obtain rfl:=h.ev1 rfl;have bz:=h.u0 rfl;have cW:=bz.c;have fW:=bz.f;clear bz;have H:=Lib.hid h;clear h;refine wpOp_shut rfl (fun K hK=>?_)
     try simp only [Act.put,sS]
     go_simp;refine hK.out _ _ ?_;unfold Sp3.I;refine ⟨_,_,_,_,_,_,_,_,_,(.func (.func 48) #[] #[.pointer (some ⟨w2.heap.size,0,none⟩),.pointer (some ⟨w1.heap.size,0,none⟩),.pointer (some ⟨w.heap.size,0,none⟩)]),((iv s1 s2)),(.agg #[.int .i64 c.f,.int .i64 c.a,.int .i64 c.b,.int .i64 c.c,.int .i64 c.d,.int .i64 c.p,.int .i64 c.q,.int .i64 s1,.int .i64 s2]),v3,v4,(.agg #[.int .i64 c.f,.int .i64 c.a,.int .i64 c.b,.int .i64 c.c,.int .i64 c.d,.int .i64 c.p,.int .i64 c.q,.int .i64 s3,.int .i64 s4]),v8,rfl,?_,?_⟩
     ·simp only [Act.put,sS]
     ·have h:=H.out;exact {h with g:=(((((((((h.g.putx h.um0 h.uq0).putx h.um0 h.uq0).putx h.um0 h.uq0).putx h.um0 h.uq0).putx h.um0 h.uq0).putx h.um0 h.uq0).putx h.um0 h.uq0).putx h.um0 h.uq0).putx h.um0 h.uq0),sz:=by simpa using h.sz,u0:=fun p=>(nomatch p),us0:=fun _=>((((((((((h.u0 rfl).put).put).put).put).put).put).put).put).put),u1:=fun p=>((((((((((h.u1 p).set h.une0_1).set h.une0_1).set h.une0_1).set h.une0_1).set h.une0_1).set h.une0_1).set h.une0_1).set h.une0_1).set h.une0_1),us1:=fun p=>((((((((((h.us1 p).set h.une0_1).set h.une0_1).set h.une0_1).set h.une0_1).set h.une0_1).set h.une0_1).set h.une0_1).set h.une0_1).set h.une0_1)}
    |7,hi,_=>
     obtain rfl:l7=false:=rl rfl hi;obtain rfl:l5=true:=rk rfl hi 5 .phase;obtain rfl:l6=true:=rk rfl hi 6 .phase;obtain rfl:l0=true:=rk rfl hi 0 .phase;obtain rfl:l1=true:=rk rfl hi 1 .phase;obtain rfl:l2=true:=rk rfl hi 2 .phase;obtain rfl:l3=true:=rk rfl hi 3 .phase;obtain rfl:l4=true:=rk rfl hi 4 .phase;clear hi hlt;obtain rfl:=h.ev5 rfl;obtain rfl:=h.ev0 rfl;obtain rfl:=h.ev1 rfl;obtain rfl:=h.ev2 rfl;obtain rfl:=h.ev3 rfl;obtain rfl:=h.ev4 rfl;have bz:=h.u1 rfl;have cW:=bz.c;have fW:=bz.f;clear bz;have H:=Lib.hid h;clear h;refine wpOp_shut rfl (fun K hK=>?_)
     try simp only [Act.put,sS]
     go_simp;refine hK.out _ _ ?_;unfold Sp3.I;refine ⟨_,_,_,_,_,_,_,_,_,(.func (.func 48) #[] #[.pointer (some ⟨w2.heap.size,0,none⟩),.pointer (some ⟨w1.heap.size,0,none⟩),.pointer (some ⟨w.heap.size,0,none⟩)]),((iv s1 s2)),(.agg #[.int .i64 c.f,.int .i64 c.a,.int .i64 c.b,.int .i64 c.c,.int .i64 c.d,.int .i64 c.p,.int .i64 c.q,.int .i64 s1,.int .i64 s2]),(.func (.func 48) #[] #[.pointer (some ⟨w2.heap.size,0,none⟩),.pointer (some ⟨w1.heap.size,0,none⟩),.pointer (some ⟨w.heap.size,0,none⟩)]),((iv s3 s4)),(.agg #[.int .i64 c.f,.int .i64 c.a,.int .i64 c.b,.int .i64 c.c,.int .i64 c.d,.int .i64 c.p,.int .i64 c.q,.int .i64 s3,.int .i64 s4]),v8,rfl,?_,?_⟩
     ·simp only [Act.put,sS]
     ·have h:=H.out;exact {h with g:=(((((((((h.g.putx h.um1 h.uq1).putx h.um1 h.uq1).putx h.um1 h.uq1).putx h.um1 h.uq1).putx h.um1 h.uq1).putx h.um1 h.uq1).putx h.um1 h.uq1).putx h.um1 h.uq1).putx h.um1 h.uq1),sz:=by simpa using h.sz,u1:=fun p=>(nomatch p),us1:=fun _=>((((((((((h.u1 rfl).put).put).put).put).put).put).put).put).put),u0:=fun p=>((((((((((h.u0 p).set h.une1_0).set h.une1_0).set h.une1_0).set h.une1_0).set h.une1_0).set h.une1_0).set h.une1_0).set h.une1_0).set h.une1_0),us0:=fun p=>((((((((((h.us0 p).set h.une1_0).set h.une1_0).set h.une1_0).set h.une1_0).set h.une1_0).set h.une1_0).set h.une1_0).set h.une1_0).set h.une1_0)}
    |8,hi,_=>
     obtain rfl:l8=false:=rl rfl hi;obtain rfl:l7=true:=rk rfl hi 7 .phase;obtain rfl:l0=true:=rk rfl hi 0 .phase;obtain rfl:l1=true:=rk rfl hi 1 .phase;obtain rfl:l2=true:=rk rfl hi 2 .phase;obtain rfl:l3=true:=rk rfl hi 3 .phase;obtain rfl:l4=true:=rk rfl hi 4 .phase;obtain rfl:l5=true:=rk rfl hi 5 .phase;obtain rfl:l6=true:=rk rfl hi 6 .phase;clear hi hlt;obtain rfl:=h.ev0 rfl;obtain rfl:=h.ev1 rfl;obtain rfl:=h.ev2 rfl;obtain rfl:=h.ev3 rfl;obtain rfl:=h.ev4 rfl;obtain rfl:=h.ev5 rfl;have H:=Lib.hid h;clear h;refine wpOp_shut rfl (fun K hK=>?_)
     try simp only [Act.put,sS]
     go_simp;refine hK.out _ _ ?_;unfold Sp3.I;refine ⟨_,_,_,_,_,_,_,_,_,(.func (.func 48) #[] #[.pointer (some ⟨w2.heap.size,0,none⟩),.pointer (some ⟨w1.heap.size,0,none⟩),.pointer (some ⟨w.heap.size,0,none⟩)]),((iv s1 s2)),(.agg #[.int .i64 c.f,.int .i64 c.a,.int .i64 c.b,.int .i64 c.c,.int .i64 c.d,.int .i64 c.p,.int .i64 c.q,.int .i64 s1,.int .i64 s2]),(.func (.func 48) #[] #[.pointer (some ⟨w2.heap.size,0,none⟩),.pointer (some ⟨w1.heap.size,0,none⟩),.pointer (some ⟨w.heap.size,0,none⟩)]),((iv s3 s4)),(.agg #[.int .i64 c.f,.int .i64 c.a,.int .i64 c.b,.int .i64 c.c,.int .i64 c.d,.int .i64 c.p,.int .i64 c.q,.int .i64 s3,.int .i64 s4]),(.int .i64 0),rfl,?_,?_⟩
     ·simp only [Act.put,sS]
     ·exact {H.out with ev8:=fun _=>rfl}
    |i+9,_,hlt=>exact absurd hlt (by simp)
   ·intro L a' w' hI hn;obtain ⟨l0,l1,l2,l3,l4,l5,l6,l7,l8,v0,v1,v2,v3,v4,v5,v8,rfl,rfl,h⟩:=hI;obtain rfl:l0=true:=nr 0 rfl hn;obtain rfl:l1=true:=nr 1 rfl hn;obtain rfl:l2=true:=nr 2 rfl hn;obtain rfl:l3=true:=nr 3 rfl hn;obtain rfl:l4=true:=nr 4 rfl hn;obtain rfl:l5=true:=nr 5 rfl hn;obtain rfl:l6=true:=nr 6 rfl hn;obtain rfl:l7=true:=nr 7 rfl hn;obtain rfl:l8=true:=nr 8 rfl hn;clear hn;obtain rfl:=h.ev0 rfl;obtain rfl:=h.ev1 rfl;obtain rfl:=h.ev2 rfl;obtain rfl:=h.ev3 rfl;obtain rfl:=h.ev4 rfl;obtain rfl:=h.ev5 rfl;obtain rfl:=h.ev8 rfl;simp only [Act.put,sS]
    rename World=>w5
    have HB:=h.g;have aB:=h.us0 rfl;have bB:=h.us1 rfl;clear h
    go_wp2_with fail
    refine bodyPost_boxes (b:=w.heap.size+1) (c:=w.heap.size+1+1) (cs:=[.int .i64 c.f,.int .i64 c.a,.int .i64 c.b,.int .i64 c.c,.int .i64 c.d,.int .i64 c.p,.int .i64 c.q,.int .i64 s1,.int .i64 s2]) (ds:=[.int .i64 c.f,.int .i64 c.a,.int .i64 c.b,.int .i64 c.c,.int .i64 c.d,.int .i64 c.p,.int .i64 c.q,.int .i64 s3,.int .i64 s4]) (v:=.tuple #[.agg #[.int .i64 c.f,.int .i64 c.a,.int .i64 c.b,.int .i64 c.c,.int .i64 c.d,.int .i64 c.p,.int .i64 c.q,.int .i64 s1,.int .i64 s2],.agg #[.int .i64 c.f,.int .i64 c.a,.int .i64 c.b,.int .i64 c.c,.int .i64 c.d,.int .i64 c.p,.int .i64 c.q,.int .i64 s3,.int .i64 s4],.int .i64 0]) aB bB (fun X hX hY=>by simp [results,Try.results22,go_sem,hX,hY]) rfl ⟨by rw [HR2.out];rfl,HB.below⟩
 ·have ne1:(e1 != 0)=true:=by simpa using he1
  have H0:=((Ho.nil w).bx [.int .i64 c.f,.int .i64 c.a,.int .i64 c.b,.int .i64 c.c,.int .i64 c.d,.int .i64 c.p,.int .i64 c.q,.int .i64 c.r,.int .i64 c.s] 29 (w.heap.size) (by simp));have a_0:Bx (((w.alloc (.cells (List.toArray [.int .i64 c.f,.int .i64 c.a,.int .i64 c.b,.int .i64 c.c,.int .i64 c.d,.int .i64 c.p,.int .i64 c.q,.int .i64 c.r,.int .i64 c.s]) 29)).alloc (.cells (List.toArray [.int .i64 0,.int .i64 0,.int .i64 0,.int .i64 0,.int .i64 0,.int .i64 0,.int .i64 0,.int .i64 0,.int .i64 0]) 29)).alloc (.cells (List.toArray [.int .i64 0,.int .i64 0,.int .i64 0,.int .i64 0,.int .i64 0,.int .i64 0,.int .i64 0,.int .i64 0,.int .i64 0]) 29)) (w.heap.size+1) [.int .i64 0,.int .i64 0,.int .i64 0,.int .i64 0,.int .i64 0,.int .i64 0,.int .i64 0,.int .i64 0,.int .i64 0]:=bxA;have b_0:Bx (((w.alloc (.cells (List.toArray [.int .i64 c.f,.int .i64 c.a,.int .i64 c.b,.int .i64 c.c,.int .i64 c.d,.int .i64 c.p,.int .i64 c.q,.int .i64 c.r,.int .i64 c.s]) 29)).alloc (.cells (List.toArray [.int .i64 0,.int .i64 0,.int .i64 0,.int .i64 0,.int .i64 0,.int .i64 0,.int .i64 0,.int .i64 0,.int .i64 0]) 29)).alloc (.cells (List.toArray [.int .i64 0,.int .i64 0,.int .i64 0,.int .i64 0,.int .i64 0,.int .i64 0,.int .i64 0,.int .i64 0,.int .i64 0]) 29)) (w.heap.size+1+1) [.int .i64 0,.int .i64 0,.int .i64 0,.int .i64 0,.int .i64 0,.int .i64 0,.int .i64 0,.int .i64 0,.int .i64 0]:=bxA;go_enter Try.func22,Try.ntmps22;have a_0c:=a_0.c;have a_0f:=a_0.f;have b_0c:=b_0.c;have b_0f:=b_0.f;have zx0:=zp (w.heap.size+1) (w.heap.size+1+1)
  go_wp2_with fail
  refine (axis_any c _).mono ?_;rintro r w1 ⟨rfl,hb⟩;rw [X1.out];dsimp only;have H1:Ho w w1 (w.heap.size+1) [(w.heap.size,[.int .i64 c.f,.int .i64 c.a,.int .i64 c.b,.int .i64 c.c,.int .i64 c.d,.int .i64 c.p,.int .i64 c.q,.int .i64 c.r,.int .i64 c.s])]:=Ho.call hoA hb;have a_1:=bxK a_0 hb;have b_1:=bxK b_0 hb;clear a_0c a_0f b_0c b_0f zx0;have hs1:=H1.size;have hz1:=hb.size
  (try simp at hz1)
  clear hb;have h0_1:=(H1.at 0 rfl).c;have a_1c:=a_1.c;have a_1f:=a_1.f;have a_1l:=a_1.lt;have b_1c:=b_1.c;have b_1f:=b_1.f;have b_1l:=b_1.lt;have zx1:=ai (zq (w.heap.size+1) (w1.heap.size))<|ai (zq (w.heap.size+1+1) (w1.heap.size))<|ai (zq (w.heap.size) (w1.heap.size))<|ai (zp (w.heap.size+1) (w.heap.size+1+1))<|ai (zp (w.heap.size+1) (w.heap.size))<|zp (w.heap.size+1+1) (w.heap.size)
  go_wp2_with fail
  refine bodyPost_boxes (b:=w.heap.size+1) (c:=w.heap.size+1+1) (cs:=[.int .i64 0,.int .i64 0,.int .i64 0,.int .i64 0,.int .i64 0,.int .i64 0,.int .i64 0,.int .i64 0,.int .i64 0]) (ds:=[.int .i64 0,.int .i64 0,.int .i64 0,.int .i64 0,.int .i64 0,.int .i64 0,.int .i64 0,.int .i64 0,.int .i64 0]) (v:=.tuple #[.agg #[.int .i64 0,.int .i64 0,.int .i64 0,.int .i64 0,.int .i64 0,.int .i64 0,.int .i64 0,.int .i64 0,.int .i64 0],.agg #[.int .i64 0,.int .i64 0,.int .i64 0,.int .i64 0,.int .i64 0,.int .i64 0,.int .i64 0,.int .i64 0,.int .i64 0],.int .i64 e1]) (by
   (repeat (first|with_reducible exact a_1|(with_reducible refine Bx.new ?_;(· (simp;done)))|with_reducible apply Bx.put9|with_reducible apply Bx.put2|with_reducible refine Bx.set ?_ (by omega)|with_reducible refine Bx.alc ?_ _|with_reducible refine Bx.drew ?_))) (by
   (repeat (first|with_reducible exact b_1|(with_reducible refine Bx.new ?_;(· (simp;done)))|with_reducible apply Bx.put9|with_reducible apply Bx.put2|with_reducible refine Bx.set ?_ (by omega)|with_reducible refine Bx.alc ?_ _|with_reducible refine Bx.drew ?_))) (fun X hX hY=>by simp [results,Try.results22,go_sem,hX,hY]) rfl ⟨by rw [HR.out,if_neg he1];rfl,by
   refine Ho.below (n:=w.heap.size+1) (l:=[(w.heap.size,[.int .i64 c.f,.int .i64 c.a,.int .i64 c.b,.int .i64 c.c,.int .i64 c.d,.int .i64 c.p,.int .i64 c.q,.int .i64 c.r,.int .i64 c.s])]) ?_
   exact hoA⟩
end Go.Proofs.Ytiecdgcdcpmgaaa.Iv
