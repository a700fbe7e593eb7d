/- Texts PCr2. -/
import Derived.Test.YtiecdgcdcpmgaaaGreatM06
import Derived.Test.YtiecdgcdcpmgaaaGreatM14
import Derived.Test.YtiecdgcdcpmgaaaGreatM17

/- Contracts of refine.Split and its closure. -/
namespace Go.Proofs.YtiecdgcdcpmgaaaGreat.Iv
open Go.RowKit
attribute [local go_sem] Oper.semAt_some idx4_0 idx4_1 idx4_2 idx4_3
theorem bodyPost_boxes {P:Program} {fn:Func} {R:Ending→World→Prop} {a:Act} {w:World} {v:Value} {b c:Nat} {cs ds:List Value} (hB:Bx w b cs) (hC:Bx w c ds)
  (hr:∀X:World,(∀j,X.cell? ⟨b,j,none⟩=cs[j]?)→(∀j,X.cell? ⟨c,j,none⟩=ds[j]?)→(results fn a.tmps).run P X = .ok v X) (hd:a.defers = []) (hR:R (.returned v) w):bodyPost P fn R .ret a w:=⟨hd,v,hr w hB.c hC.c,hR⟩
theorem Ho.putx {w0 W:World} {n:Nat} {l:List (Nat × List Value)} {d i:Nat} {u:Value} (h:Ho w0 W n l) (g:w0.heap.size≤d) (ne:∀p∈l,¬(p.1=d)):Ho w0 (W.setCell ⟨d,i,none⟩ u) n l:=
 ⟨h.below.setCell g _,h.base,by simpa using h.size,fun p hp=>⟨(h.rd p hp).1,(h.rd p hp).2.set (ne p hp)⟩⟩
structure H2 where
 a:CV
 b:CV
 e:Int
theorem Bx.put9 {W:World} {b:Nat} {p0 p1 p2 p3 p4 p5 p6 p7 p8 u0 u1 u2 u3 u4 u5 u6 u7 u8:Value} (h:Bx W b [p0,p1,p2,p3,p4,p5,p6,p7,p8]):Bx (((((((((W.setCell ⟨b,0,none⟩ u0).setCell ⟨b,1,none⟩ u1).setCell ⟨b,2,none⟩ u2).setCell ⟨b,3,none⟩ u3).setCell ⟨b,4,none⟩ u4).setCell ⟨b,5,none⟩ u5).setCell ⟨b,6,none⟩ u6).setCell ⟨b,7,none⟩ u7).setCell ⟨b,8,none⟩ u8) b [u0,u1,u2,u3,u4,u5,u6,u7,u8]:=h.put.put.put.put.put.put.put.put.put
structure Sp0 (b0 kb lb xb yb a0 o1 n0:Nat) (c:CV) (s1 s2 s3 s4:Int) (w0 w:World) (l0 l1 l2 l3 l4 l5 l6 l7 l8:Bool) (v0 v1 v2 v3 v4 v5 v8:Value):Prop where
 g:Ho w0 w n0 [(yb,[.int .i64 s3,.int .i64 s4]),(xb,[.int .i64 s1,.int .i64 s2]),(lb,[.int .i64 c.a,.int .i64 c.b,.int .i64 c.c,.int .i64 c.d,.int .i64 c.p,.int .i64 c.q,.int .i64 c.r,.int .i64 c.s]),(kb,[.int .i64 0]),(b0,[.int .i64 c.f,.int .i64 c.a,.int .i64 c.b,.int .i64 c.c,.int .i64 c.d,.int .i64 c.p,.int .i64 c.q,.int .i64 c.r,.int .i64 c.s])]
 sz:n0≤w.heap.size
 mn:n0≤n0
 u0:l6=false→Bx w a0 [.int .i64 0,.int .i64 0,.int .i64 0,.int .i64 0,.int .i64 0,.int .i64 0,.int .i64 0,.int .i64 0,.int .i64 0]
 us0:l6=true→Bx w a0 [.int .i64 c.f,.int .i64 s1,.int .i64 s2,.int .i64 c.c,.int .i64 c.d,.int .i64 c.p,.int .i64 c.q,.int .i64 c.r,.int .i64 c.s]
 un0:a0<n0
 um0:w0.heap.size≤a0
 uq0:∀p∈([(yb,[.int .i64 s3,.int .i64 s4]),(xb,[.int .i64 s1,.int .i64 s2]),(lb,[.int .i64 c.a,.int .i64 c.b,.int .i64 c.c,.int .i64 c.d,.int .i64 c.p,.int .i64 c.q,.int .i64 c.r,.int .i64 c.s]),(kb,[.int .i64 0]),(b0,[.int .i64 c.f,.int .i64 c.a,.int .i64 c.b,.int .i64 c.c,.int .i64 c.d,.int .i64 c.p,.int .i64 c.q,.int .i64 c.r,.int .i64 c.s])]:List (Nat × List Value)),¬(p.1=a0)
 une0_1:¬(o1=a0)
 u1:l7=false→Bx w o1 [.int .i64 0,.int .i64 0,.int .i64 0,.int .i64 0,.int .i64 0,.int .i64 0,.int .i64 0,.int .i64 0,.int .i64 0]
 us1:l7=true→Bx w o1 [.int .i64 c.f,.int .i64 s3,.int .i64 s4,.int .i64 c.c,.int .i64 c.d,.int .i64 c.p,.int .i64 c.q,.int .i64 c.r,.int .i64 c.s]
 un1:o1<n0
 um1:w0.heap.size≤o1
 uq1:∀p∈([(yb,[.int .i64 s3,.int .i64 s4]),(xb,[.int .i64 s1,.int .i64 s2]),(lb,[.int .i64 c.a,.int .i64 c.b,.int .i64 c.c,.int .i64 c.d,.int .i64 c.p,.int .i64 c.q,.int .i64 c.r,.int .i64 c.s]),(kb,[.int .i64 0]),(b0,[.int .i64 c.f,.int .i64 c.a,.int .i64 c.b,.int .i64 c.c,.int .i64 c.d,.int .i64 c.p,.int .i64 c.q,.int .i64 c.r,.int .i64 c.s])]:List (Nat × List Value)),¬(p.1=o1)
 une1_0:¬(a0=o1)
 ev0:l0=true→v0 = .func (.func 90) #[] #[.pointer (some ⟨lb,0,none⟩),.pointer (some ⟨kb,0,none⟩),.pointer (some ⟨b0,0,none⟩)]
 ev1:l1=true→v1=(iv s1 s2)
 ev2:l2=true→v2 = .agg #[.int .i64 c.f,.int .i64 s1,.int .i64 s2,.int .i64 c.c,.int .i64 c.d,.int .i64 c.p,.int .i64 c.q,.int .i64 c.r,.int .i64 c.s]
 ev3:l3=true→v3 = .func (.func 90) #[] #[.pointer (some ⟨lb,0,none⟩),.pointer (some ⟨kb,0,none⟩),.pointer (some ⟨b0,0,none⟩)]
 ev4:l4=true→v4=(iv s3 s4)
 ev5:l5=true→v5 = .agg #[.int .i64 c.f,.int .i64 s3,.int .i64 s4,.int .i64 c.c,.int .i64 c.d,.int .i64 c.p,.int .i64 c.q,.int .i64 c.r,.int .i64 c.s]
 ev8:l8=true→v8 = .int .i64 0
theorem Sp0.kept {b0 kb lb xb yb a0 o1 n0:Nat} {c:CV} {s1 s2 s3 s4:Int} {w0 w:World} {l0 l1 l2 l3 l4 l5 l6 l7 l8:Bool} {v0 v1 v2 v3 v4 v5 v8:Value} {w':World} (h:Sp0 b0 kb lb xb yb a0 o1 n0 c s1 s2 s3 s4 w0 w l0 l1 l2 l3 l4 l5 l6 l7 l8 v0 v1 v2 v3 v4 v5 v8) (hb:Below w.heap.size w w'):Sp0 b0 kb lb xb yb a0 o1 n0 c s1 s2 s3 s4 w0 w' l0 l1 l2 l3 l4 l5 l6 l7 l8 v0 v1 v2 v3 v4 v5 v8:=
 {h with g:=h.g.call hb,sz:=Nat.le_trans h.sz hb.size,u0:=fun p=>(h.u0 p).kept hb,us0:=fun p=>(h.us0 p).kept hb,u1:=fun p=>(h.u1 p).kept hb,us1:=fun p=>(h.us1 p).kept hb}
structure Sp1 (b0 kb lb xb yb a0 o1 n0:Nat) (c:CV) (s1 s2 s3 s4:Int) (w0 w:World) (l0 l1 l2 l3 l4 l5 l6 l7 l8:Bool) (v0 v1 v2 v3 v4 v5 v8:Value):Prop where
 g:Ho w0 w n0 [(yb,[.int .i64 s3,.int .i64 s4]),(xb,[.int .i64 s1,.int .i64 s2]),(lb,[.int .i64 c.a,.int .i64 c.b,.int .i64 c.c,.int .i64 c.d,.int .i64 c.p,.int .i64 c.q,.int .i64 c.r,.int .i64 c.s]),(kb,[.int .i64 1]),(b0,[.int .i64 c.f,.int .i64 c.a,.int .i64 c.b,.int .i64 c.c,.int .i64 c.d,.int .i64 c.p,.int .i64 c.q,.int .i64 c.r,.int .i64 c.s])]
 sz:n0≤w.heap.size
 mn:n0≤n0
 u0:l6=false→Bx w a0 [.int .i64 0,.int .i64 0,.int .i64 0,.int .i64 0,.int .i64 0,.int .i64 0,.int .i64 0,.int .i64 0,.int .i64 0]
 us0:l6=true→Bx w a0 [.int .i64 c.f,.int .i64 c.a,.int .i64 c.b,.int .i64 s1,.int .i64 s2,.int .i64 c.p,.int .i64 c.q,.int .i64 c.r,.int .i64 c.s]
 un0:a0<n0
 um0:w0.heap.size≤a0
 uq0:∀p∈([(yb,[.int .i64 s3,.int .i64 s4]),(xb,[.int .i64 s1,.int .i64 s2]),(lb,[.int .i64 c.a,.int .i64 c.b,.int .i64 c.c,.int .i64 c.d,.int .i64 c.p,.int .i64 c.q,.int .i64 c.r,.int .i64 c.s]),(kb,[.int .i64 1]),(b0,[.int .i64 c.f,.int .i64 c.a,.int .i64 c.b,.int .i64 c.c,.int .i64 c.d,.int .i64 c.p,.int .i64 c.q,.int .i64 c.r,.int .i64 c.s])]:List (Nat × List Value)),¬(p.1=a0)
 une0_1:¬(o1=a0)
 u1:l7=false→Bx w o1 [.int .i64 0,.int .i64 0,.int .i64 0,.int .i64 0,.int .i64 0,.int .i64 0,.int .i64 0,.int .i64 0,.int .i64 0]
 us1:l7=true→Bx w o1 [.int .i64 c.f,.int .i64 c.a,.int .i64 c.b,.int .i64 s3,.int .i64 s4,.int .i64 c.p,.int .i64 c.q,.int .i64 c.r,.int .i64 c.s]
 un1:o1<n0
 um1:w0.heap.size≤o1
 uq1:∀p∈([(yb,[.int .i64 s3,.int .i64 s4]),(xb,[.int .i64 s1,.int .i64 s2]),(lb,[.int .i64 c.a,.int .i64 c.b,.int .i64 c.c,.int .i64 c.d,.int .i64 c.p,.int .i64 c.q,.int .i64 c.r,.int .i64 c.s]),(kb,[.int .i64 1]),(b0,[.int .i64 c.f,.int .i64 c.a,.int .i64 c.b,.int .i64 c.c,.int .i64 c.d,.int .i64 c.p,.int .i64 c.q,.int .i64 c.r,.int .i64 c.s])]:List (Nat × List Value)),¬(p.1=o1)
 une1_0:¬(a0=o1)
 ev0:l0=true→v0 = .func (.func 90) #[] #[.pointer (some ⟨lb,0,none⟩),.pointer (some ⟨kb,0,none⟩),.pointer (some ⟨b0,0,none⟩)]
 ev1:l1=true→v1=(iv s1 s2)
 ev2:l2=true→v2 = .agg #[.int .i64 c.f,.int .i64 c.a,.int .i64 c.b,.int .i64 s1,.int .i64 s2,.int .i64 c.p,.int .i64 c.q,.int .i64 c.r,.int .i64 c.s]
 ev3:l3=true→v3 = .func (.func 90) #[] #[.pointer (some ⟨lb,0,none⟩),.pointer (some ⟨kb,0,none⟩),.pointer (some ⟨b0,0,none⟩)]
 ev4:l4=true→v4=(iv s3 s4)
 ev5:l5=true→v5 = .agg #[.int .i64 c.f,.int .i64 c.a,.int .i64 c.b,.int .i64 s3,.int .i64 s4,.int .i64 c.p,.int .i64 c.q,.int .i64 c.r,.int .i64 c.s]
 ev8:l8=true→v8 = .int .i64 0
theorem Sp1.kept {b0 kb lb xb yb a0 o1 n0:Nat} {c:CV} {s1 s2 s3 s4:Int} {w0 w:World} {l0 l1 l2 l3 l4 l5 l6 l7 l8:Bool} {v0 v1 v2 v3 v4 v5 v8:Value} {w':World} (h:Sp1 b0 kb lb xb yb a0 o1 n0 c s1 s2 s3 s4 w0 w l0 l1 l2 l3 l4 l5 l6 l7 l8 v0 v1 v2 v3 v4 v5 v8) (hb:Below w.heap.size w w'):Sp1 b0 kb lb xb yb a0 o1 n0 c s1 s2 s3 s4 w0 w' l0 l1 l2 l3 l4 l5 l6 l7 l8 v0 v1 v2 v3 v4 v5 v8:=
 {h with g:=h.g.call hb,sz:=Nat.le_trans h.sz hb.size,u0:=fun p=>(h.u0 p).kept hb,us0:=fun p=>(h.us0 p).kept hb,u1:=fun p=>(h.u1 p).kept hb,us1:=fun p=>(h.us1 p).kept hb}
structure Sp2 (b0 kb lb xb yb a0 o1 n0:Nat) (c:CV) (s1 s2 s3 s4:Int) (w0 w:World) (l0 l1 l2 l3 l4 l5 l6 l7 l8:Bool) (v0 v1 v2 v3 v4 v5 v8:Value):Prop where
 g:Ho w0 w n0 [(yb,[.int .i64 s3,.int .i64 s4]),(xb,[.int .i64 s1,.int .i64 s2]),(lb,[.int .i64 c.a,.int .i64 c.b,.int .i64 c.c,.int .i64 c.d,.int .i64 c.p,.int .i64 c.q,.int .i64 c.r,.int .i64 c.s]),(kb,[.int .i64 2]),(b0,[.int .i64 c.f,.int .i64 c.a,.int .i64 c.b,.int .i64 c.c,.int .i64 c.d,.int .i64 c.p,.int .i64 c.q,.int .i64 c.r,.int .i64 c.s])]
 sz:n0≤w.heap.size
 mn:n0≤n0
 u0:l6=false→Bx w a0 [.int .i64 0,.int .i64 0,.int .i64 0,.int .i64 0,.int .i64 0,.int .i64 0,.int .i64 0,.int .i64 0,.int .i64 0]
 us0:l6=true→Bx w a0 [.int .i64 c.f,.int .i64 c.a,.int .i64 c.b,.int .i64 c.c,.int .i64 c.d,.int .i64 s1,.int .i64 s2,.int .i64 c.r,.int .i64 c.s]
 un0:a0<n0
 um0:w0.heap.size≤a0
 uq0:∀p∈([(yb,[.int .i64 s3,.int .i64 s4]),(xb,[.int .i64 s1,.int .i64 s2]),(lb,[.int .i64 c.a,.int .i64 c.b,.int .i64 c.c,.int .i64 c.d,.int .i64 c.p,.int .i64 c.q,.int .i64 c.r,.int .i64 c.s]),(kb,[.int .i64 2]),(b0,[.int .i64 c.f,.int .i64 c.a,.int .i64 c.b,.int .i64 c.c,.int .i64 c.d,.int .i64 c.p,.int .i64 c.q,.int .i64 c.r,.int .i64 c.s])]:List (Nat × List Value)),¬(p.1=a0)
 une0_1:¬(o1=a0)
 u1:l7=false→Bx w o1 [.int .i64 0,.int .i64 0,.int .i64 0,.int .i64 0,.int .i64 0,.int .i64 0,.int .i64 0,.int .i64 0,.int .i64 0]
 us1:l7=true→Bx w o1 [.int .i64 c.f,.int .i64 c.a,.int .i64 c.b,.int .i64 c.c,.int .i64 c.d,.int .i64 s3,.int .i64 s4,.int .i64 c.r,.int .i64 c.s]
 un1:o1<n0
 um1:w0.heap.size≤o1
 uq1:∀p∈([(yb,[.int .i64 s3,.int .i64 s4]),(xb,[.int .i64 s1,.int .i64 s2]),(lb,[.int .i64 c.a,.int .i64 c.b,.int .i64 c.c,.int .i64 c.d,.int .i64 c.p,.int .i64 c.q,.int .i64 c.r,.int .i64 c.s]),(kb,[.int .i64 2]),(b0,[.int .i64 c.f,.int .i64 c.a,.int .i64 c.b,.int .i64 c.c,.int .i64 c.d,.int .i64 c.p,.int .i64 c.q,.int .i64 c.r,.int .i64 c.s])]:List (Nat × List Value)),¬(p.1=o1)
 une1_0:¬(a0=o1)
 ev0:l0=true→v0 = .func (.func 90) #[] #[.pointer (some ⟨lb,0,none⟩),.pointer (some ⟨kb,0,none⟩),.pointer (some ⟨b0,0,none⟩)]
 ev1:l1=true→v1=(iv s1 s2)
 ev2:l2=true→v2 = .agg #[.int .i64 c.f,.int .i64 c.a,.int .i64 c.b,.int .i64 c.c,.int .i64 c.d,.int .i64 s1,.int .i64 s2,.int .i64 c.r,.int .i64 c.s]
 ev3:l3=true→v3 = .func (.func 90) #[] #[.pointer (some ⟨lb,0,none⟩),.pointer (some ⟨kb,0,none⟩),.pointer (some ⟨b0,0,none⟩)]
 ev4:l4=true→v4=(iv s3 s4)
 ev5:l5=true→v5 = .agg #[.int .i64 c.f,.int .i64 c.a,.int .i64 c.b,.int .i64 c.c,.int .i64 c.d,.int .i64 s3,.int .i64 s4,.int .i64 c.r,.int .i64 c.s]
 ev8:l8=true→v8 = .int .i64 0
theorem Sp2.kept {b0 kb lb xb yb a0 o1 n0:Nat} {c:CV} {s1 s2 s3 s4:Int} {w0 w:World} {l0 l1 l2 l3 l4 l5 l6 l7 l8:Bool} {v0 v1 v2 v3 v4 v5 v8:Value} {w':World} (h:Sp2 b0 kb lb xb yb a0 o1 n0 c s1 s2 s3 s4 w0 w l0 l1 l2 l3 l4 l5 l6 l7 l8 v0 v1 v2 v3 v4 v5 v8) (hb:Below w.heap.size w w'):Sp2 b0 kb lb xb yb a0 o1 n0 c s1 s2 s3 s4 w0 w' l0 l1 l2 l3 l4 l5 l6 l7 l8 v0 v1 v2 v3 v4 v5 v8:=
 {h with g:=h.g.call hb,sz:=Nat.le_trans h.sz hb.size,u0:=fun p=>(h.u0 p).kept hb,us0:=fun p=>(h.us0 p).kept hb,u1:=fun p=>(h.u1 p).kept hb,us1:=fun p=>(h.us1 p).kept hb}
structure Sp3 (b0 kb lb xb yb a0 o1 n0:Nat) (c:CV) (s1 s2 s3 s4:Int) (w0 w:World) (l0 l1 l2 l3 l4 l5 l6 l7 l8:Bool) (v0 v1 v2 v3 v4 v5 v8:Value):Prop where
 g:Ho w0 w n0 [(yb,[.int .i64 s3,.int .i64 s4]),(xb,[.int .i64 s1,.int .i64 s2]),(lb,[.int .i64 c.a,.int .i64 c.b,.int .i64 c.c,.int .i64 c.d,.int .i64 c.p,.int .i64 c.q,.int .i64 c.r,.int .i64 c.s]),(kb,[.int .i64 3]),(b0,[.int .i64 c.f,.int .i64 c.a,.int .i64 c.b,.int .i64 c.c,.int .i64 c.d,.int .i64 c.p,.int .i64 c.q,.int .i64 c.r,.int .i64 c.s])]
 sz:n0≤w.heap.size
 mn:n0≤n0
 u0:l6=false→Bx w a0 [.int .i64 0,.int .i64 0,.int .i64 0,.int .i64 0,.int .i64 0,.int .i64 0,.int .i64 0,.int .i64 0,.int .i64 0]
 us0:l6=true→Bx w a0 [.int .i64 c.f,.int .i64 c.a,.int .i64 c.b,.int .i64 c.c,.int .i64 c.d,.int .i64 c.p,.int .i64 c.q,.int .i64 s1,.int .i64 s2]
 un0:a0<n0
 um0:w0.heap.size≤a0
 uq0:∀p∈([(yb,[.int .i64 s3,.int .i64 s4]),(xb,[.int .i64 s1,.int .i64 s2]),(lb,[.int .i64 c.a,.int .i64 c.b,.int .i64 c.c,.int .i64 c.d,.int .i64 c.p,.int .i64 c.q,.int .i64 c.r,.int .i64 c.s]),(kb,[.int .i64 3]),(b0,[.int .i64 c.f,.int .i64 c.a,.int .i64 c.b,.int .i64 c.c,.int .i64 c.d,.int .i64 c.p,.int .i64 c.q,.int .i64 c.r,.int .i64 c.s])]:List (Nat × List Value)),¬(p.1=a0)
 une0_1:¬(o1=a0)
 u1:l7=false→Bx w o1 [.int .i64 0,.int .i64 0,.int .i64 0,.int .i64 0,.int .i64 0,.int .i64 0,.int .i64 0,.int .i64 0,.int .i64 0]
 us1:l7=true→Bx w o1 [.int .i64 c.f,.int .i64 c.a,.int .i64 c.b,.int .i64 c.c,.int .i64 c.d,.int .i64 c.p,.int .i64 c.q,.int .i64 s3,.int .i64 s4]
 un1:o1<n0
 um1:w0.heap.size≤o1
 uq1:∀p∈([(yb,[.int .i64 s3,.int .i64 s4]),(xb,[.int .i64 s1,.int .i64 s2]),(lb,[.int .i64 c.a,.int .i64 c.b,.int .i64 c.c,.int .i64 c.d,.int .i64 c.p,.int .i64 c.q,.int .i64 c.r,.int .i64 c.s]),(kb,[.int .i64 3]),(b0,[.int .i64 c.f,.int .i64 c.a,.int .i64 c.b,.int .i64 c.c,.int .i64 c.d,.int .i64 c.p,.int .i64 c.q,.int .i64 c.r,.int .i64 c.s])]:List (Nat × List Value)),¬(p.1=o1)
 une1_0:¬(a0=o1)
 ev0:l0=true→v0 = .func (.func 90) #[] #[.pointer (some ⟨lb,0,none⟩),.pointer (some ⟨kb,0,none⟩),.pointer (some ⟨b0,0,none⟩)]
 ev1:l1=true→v1=(iv s1 s2)
 ev2:l2=true→v2 = .agg #[.int .i64 c.f,.int .i64 c.a,.int .i64 c.b,.int .i64 c.c,.int .i64 c.d,.int .i64 c.p,.int .i64 c.q,.int .i64 s1,.int .i64 s2]
 ev3:l3=true→v3 = .func (.func 90) #[] #[.pointer (some ⟨lb,0,none⟩),.pointer (some ⟨kb,0,none⟩),.pointer (some ⟨b0,0,none⟩)]
 ev4:l4=true→v4=(iv s3 s4)
 ev5:l5=true→v5 = .agg #[.int .i64 c.f,.int .i64 c.a,.int .i64 c.b,.int .i64 c.c,.int .i64 c.d,.int .i64 c.p,.int .i64 c.q,.int .i64 s3,.int .i64 s4]
 ev8:l8=true→v8 = .int .i64 0
theorem Sp3.kept {b0 kb lb xb yb a0 o1 n0:Nat} {c:CV} {s1 s2 s3 s4:Int} {w0 w:World} {l0 l1 l2 l3 l4 l5 l6 l7 l8:Bool} {v0 v1 v2 v3 v4 v5 v8:Value} {w':World} (h:Sp3 b0 kb lb xb yb a0 o1 n0 c s1 s2 s3 s4 w0 w l0 l1 l2 l3 l4 l5 l6 l7 l8 v0 v1 v2 v3 v4 v5 v8) (hb:Below w.heap.size w w'):Sp3 b0 kb lb xb yb a0 o1 n0 c s1 s2 s3 s4 w0 w' l0 l1 l2 l3 l4 l5 l6 l7 l8 v0 v1 v2 v3 v4 v5 v8:=
 {h with g:=h.g.call hb,sz:=Nat.le_trans h.sz hb.size,u0:=fun p=>(h.u0 p).kept hb,us0:=fun p=>(h.us0 p).kept hb,u1:=fun p=>(h.u1 p).kept hb,us1:=fun p=>(h.us1 p).kept hb}
end Go.Proofs.YtiecdgcdcpmgaaaGreat.Iv
