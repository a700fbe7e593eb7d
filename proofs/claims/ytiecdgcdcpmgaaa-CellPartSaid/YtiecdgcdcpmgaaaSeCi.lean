/- Contracts of cell.Inside, of the laws' theirs, and of the reference's Part. -/
import Derived.Test.YtiecdgcdcpmgaaaSeCr2
import Derived.Test.YtiecdgcdcpmgaaaSeDsM
import Derived.Test.YtiecdgcdcpmgaaaSeIeM
import Derived.Test.YtiecdgcdcpmgaaaSeRf1
import Derived.Test.YtiecdgcdcpmgaaaSeRf2
import Derived.Test.YtiecdgcdcpmgaaaM06
namespace Go.Proofs.Ytiecdgcdcpmgaaa.Iv
open Go.RowKit
attribute [local go_sem] Oper.semAt_some idx4_0 idx4_1 idx4_2 idx4_3
def insC (x y:CV):Bool:=insB x.a x.b y.a y.b && (insB x.c x.d y.c y.d && (insB x.p x.q y.p y.q && (insB x.r x.s y.r y.s && decide (x.f=y.f))))
structure Cj (b0 ab bb n0:Nat) (x y:CV) (w0 w:World) (l0 l1 l2 l3 l4 l5 l6 l7:Bool) (v0 v1 v2 v3 v4 v5:Value) (b4 b5:Nat):Prop where
 g:Ho w0 w n0 [(b0+1,[.int .i64 y.f,.int .i64 y.a,.int .i64 y.b,.int .i64 y.c,.int .i64 y.d,.int .i64 y.p,.int .i64 y.q,.int .i64 y.r,.int .i64 y.s]),(b0,[.int .i64 x.f,.int .i64 x.a,.int .i64 x.b,.int .i64 x.c,.int .i64 x.d,.int .i64 x.p,.int .i64 x.q,.int .i64 x.r,.int .i64 x.s])]
 sz:n0≤w.heap.size
 mn:n0≤n0
 ev0:l0=true→v0 = .agg #[.int .i64 x.f,.int .i64 x.a,.int .i64 x.b,.int .i64 x.c,.int .i64 x.d,.int .i64 x.p,.int .i64 x.q,.int .i64 x.r,.int .i64 x.s]
 ev1:l1=true→v1 = .agg #[.int .i64 x.a,.int .i64 x.b,.int .i64 x.c,.int .i64 x.d,.int .i64 x.p,.int .i64 x.q,.int .i64 x.r,.int .i64 x.s]
 ev2:l2=true→v2 = .agg #[.int .i64 y.f,.int .i64 y.a,.int .i64 y.b,.int .i64 y.c,.int .i64 y.d,.int .i64 y.p,.int .i64 y.q,.int .i64 y.r,.int .i64 y.s]
 ev3:l3=true→v3 = .agg #[.int .i64 y.a,.int .i64 y.b,.int .i64 y.c,.int .i64 y.d,.int .i64 y.p,.int .i64 y.q,.int .i64 y.r,.int .i64 y.s]
 ev4:l4=true→v4 = .pointer (some ⟨b4,0,none⟩)
 ev5:l5=true→v5 = .pointer (some ⟨b5,0,none⟩)
 g4:l4=true→n0≤b4
 t4:l4=true→b4<w.heap.size
 o4:l6=true→l4=true
 z4:l4=true→l6=false→Bx w b4 [.int .i64 0,.int .i64 0,.int .i64 0,.int .i64 0,.int .i64 0,.int .i64 0,.int .i64 0,.int .i64 0]
 s4:l6=true→Bx w b4 [.int .i64 x.a,.int .i64 x.b,.int .i64 x.c,.int .i64 x.d,.int .i64 x.p,.int .i64 x.q,.int .i64 x.r,.int .i64 x.s]
 g5:l5=true→n0≤b5
 t5:l5=true→b5<w.heap.size
 o5:l7=true→l5=true
 z5:l5=true→l7=false→Bx w b5 [.int .i64 0,.int .i64 0,.int .i64 0,.int .i64 0,.int .i64 0,.int .i64 0,.int .i64 0,.int .i64 0]
 s5:l7=true→Bx w b5 [.int .i64 y.a,.int .i64 y.b,.int .i64 y.c,.int .i64 y.d,.int .i64 y.p,.int .i64 y.q,.int .i64 y.r,.int .i64 y.s]
 d4_5:l4=true→l5=true→¬(b4=b5)
theorem Cj.kept {b0 ab bb n0:Nat} {x y:CV} {w0 w:World} {l0 l1 l2 l3 l4 l5 l6 l7:Bool} {v0 v1 v2 v3 v4 v5:Value} {b4 b5:Nat} {w':World} (h:Cj b0 ab bb n0 x y w0 w l0 l1 l2 l3 l4 l5 l6 l7 v0 v1 v2 v3 v4 v5 b4 b5) (hb:Below w.heap.size w w'):Cj b0 ab bb n0 x y w0 w' l0 l1 l2 l3 l4 l5 l6 l7 v0 v1 v2 v3 v4 v5 b4 b5:=
 {h with g:=h.g.call hb,sz:=Nat.le_trans h.sz hb.size,t4:=fun p=>Nat.lt_of_lt_of_le (h.t4 p) hb.size,z4:=fun p q=>(h.z4 p q).kept hb,s4:=fun p=>(h.s4 p).kept hb,t5:=fun p=>Nat.lt_of_lt_of_le (h.t5 p) hb.size,z5:=fun p q=>(h.z5 p q).kept hb,s5:=fun p=>(h.s5 p).kept hb}
def Cj.I (b0 ab bb n0:Nat) (x y:CV) (w0:World):Act→Array Bool→Act→World→Prop:=fun aO LX aX w=>∃(l0 l1 l2 l3 l4 l5 l6 l7:Bool) (v0 v1 v2 v3 v4 v5:Value) (b4 b5:Nat),LX=#[l0,l1,l2,l3,l4,l5,l6,l7]∧aX=((((((aO.put (some 8) v0).put (some 9) v1).put (some 10) v2).put (some 11) v3).put (some 5) v4).put (some 6) v5)∧Cj b0 ab bb n0 x y w0 w l0 l1 l2 l3 l4 l5 l6 l7 v0 v1 v2 v3 v4 v5 b4 b5
structure Ck0 (b0 ab bb n0:Nat) (x y:CV) (w0 w:World) (l0 l1 l2 l3 l4 l5 l6 l7:Bool) (v0 v1 v2 v3 v4 v5 v6 v7:Value):Prop where
 g:Ho w0 w n0 [(bb,[.int .i64 y.a,.int .i64 y.b,.int .i64 y.c,.int .i64 y.d,.int .i64 y.p,.int .i64 y.q,.int .i64 y.r,.int .i64 y.s]),(ab,[.int .i64 x.a,.int .i64 x.b,.int .i64 x.c,.int .i64 x.d,.int .i64 x.p,.int .i64 x.q,.int .i64 x.r,.int .i64 x.s]),(b0+1,[.int .i64 y.f,.int .i64 y.a,.int .i64 y.b,.int .i64 y.c,.int .i64 y.d,.int .i64 y.p,.int .i64 y.q,.int .i64 y.r,.int .i64 y.s]),(b0,[.int .i64 x.f,.int .i64 x.a,.int .i64 x.b,.int .i64 x.c,.int .i64 x.d,.int .i64 x.p,.int .i64 x.q,.int .i64 x.r,.int .i64 x.s])]
 sz:n0≤w.heap.size
 mn:n0≤n0
 ev0:l0=true→v0 = .int .i64 0
 ev1:l1=true→v1 = .pointer (some ⟨ab,0,none⟩)
 ev2:l2=true→v2=(iv x.a x.b)
 ev3:l3=true→v3 = .int .i64 0
 ev4:l4=true→v4 = .pointer (some ⟨bb,0,none⟩)
 ev5:l5=true→v5=(iv y.a y.b)
 ev6:l6=true→v6 = .bool (insB x.a x.b y.a y.b)
 ev7:l7=true→v7 = .bool (!(insB x.a x.b y.a y.b))
theorem Ck0.kept {b0 ab bb n0:Nat} {x y:CV} {w0 w:World} {l0 l1 l2 l3 l4 l5 l6 l7:Bool} {v0 v1 v2 v3 v4 v5 v6 v7:Value} {w':World} (h:Ck0 b0 ab bb n0 x y w0 w l0 l1 l2 l3 l4 l5 l6 l7 v0 v1 v2 v3 v4 v5 v6 v7) (hb:Below w.heap.size w w'):Ck0 b0 ab bb n0 x y w0 w' l0 l1 l2 l3 l4 l5 l6 l7 v0 v1 v2 v3 v4 v5 v6 v7:=
 {h with g:=h.g.call hb,sz:=Nat.le_trans h.sz hb.size}
def Ck0.I (b0 ab bb n0:Nat) (x y:CV) (w0:World):Act→Array Bool→Act→World→Prop:=fun aO LX aX w=>∃(l0 l1 l2 l3 l4 l5 l6 l7:Bool) (v0 v1 v2 v3 v4 v5 v6 v7:Value),LX=#[l0,l1,l2,l3,l4,l5,l6,l7]∧aX=((((((((aO.put (some 15) v0).put (some 16) v1).put (some 17) v2).put (some 18) v3).put (some 19) v4).put (some 20) v5).put (some 21) v6).put (some 22) v7)∧Ck0 b0 ab bb n0 x y w0 w l0 l1 l2 l3 l4 l5 l6 l7 v0 v1 v2 v3 v4 v5 v6 v7
structure Ck1 (b0 ab bb n0:Nat) (x y:CV) (w0 w:World) (l0 l1 l2 l3 l4 l5 l6 l7:Bool) (v0 v1 v2 v3 v4 v5 v6 v7:Value):Prop where
 g:Ho w0 w n0 [(bb,[.int .i64 y.a,.int .i64 y.b,.int .i64 y.c,.int .i64 y.d,.int .i64 y.p,.int .i64 y.q,.int .i64 y.r,.int .i64 y.s]),(ab,[.int .i64 x.a,.int .i64 x.b,.int .i64 x.c,.int .i64 x.d,.int .i64 x.p,.int .i64 x.q,.int .i64 x.r,.int .i64 x.s]),(b0+1,[.int .i64 y.f,.int .i64 y.a,.int .i64 y.b,.int .i64 y.c,.int .i64 y.d,.int .i64 y.p,.int .i64 y.q,.int .i64 y.r,.int .i64 y.s]),(b0,[.int .i64 x.f,.int .i64 x.a,.int .i64 x.b,.int .i64 x.c,.int .i64 x.d,.int .i64 x.p,.int .i64 x.q,.int .i64 x.r,.int .i64 x.s])]
 sz:n0≤w.heap.size
 mn:n0≤n0
 ev0:l0=true→v0 = .int .i64 1
 ev1:l1=true→v1 = .pointer (some ⟨ab,2,none⟩)
 ev2:l2=true→v2=(iv x.c x.d)
 ev3:l3=true→v3 = .int .i64 1
 ev4:l4=true→v4 = .pointer (some ⟨bb,2,none⟩)
 ev5:l5=true→v5=(iv y.c y.d)
 ev6:l6=true→v6 = .bool (insB x.c x.d y.c y.d)
 ev7:l7=true→v7 = .bool (!(insB x.c x.d y.c y.d))
theorem Ck1.kept {b0 ab bb n0:Nat} {x y:CV} {w0 w:World} {l0 l1 l2 l3 l4 l5 l6 l7:Bool} {v0 v1 v2 v3 v4 v5 v6 v7:Value} {w':World} (h:Ck1 b0 ab bb n0 x y w0 w l0 l1 l2 l3 l4 l5 l6 l7 v0 v1 v2 v3 v4 v5 v6 v7) (hb:Below w.heap.size w w'):Ck1 b0 ab bb n0 x y w0 w' l0 l1 l2 l3 l4 l5 l6 l7 v0 v1 v2 v3 v4 v5 v6 v7:=
 {h with g:=h.g.call hb,sz:=Nat.le_trans h.sz hb.size}
def Ck1.I (b0 ab bb n0:Nat) (x y:CV) (w0:World):Act→Array Bool→Act→World→Prop:=fun aO LX aX w=>∃(l0 l1 l2 l3 l4 l5 l6 l7:Bool) (v0 v1 v2 v3 v4 v5 v6 v7:Value),LX=#[l0,l1,l2,l3,l4,l5,l6,l7]∧aX=((((((((aO.put (some 15) v0).put (some 16) v1).put (some 17) v2).put (some 18) v3).put (some 19) v4).put (some 20) v5).put (some 21) v6).put (some 22) v7)∧Ck1 b0 ab bb n0 x y w0 w l0 l1 l2 l3 l4 l5 l6 l7 v0 v1 v2 v3 v4 v5 v6 v7
structure Ck2 (b0 ab bb n0:Nat) (x y:CV) (w0 w:World) (l0 l1 l2 l3 l4 l5 l6 l7:Bool) (v0 v1 v2 v3 v4 v5 v6 v7:Value):Prop where
 g:Ho w0 w n0 [(bb,[.int .i64 y.a,.int .i64 y.b,.int .i64 y.c,.int .i64 y.d,.int .i64 y.p,.int .i64 y.q,.int .i64 y.r,.int .i64 y.s]),(ab,[.int .i64 x.a,.int .i64 x.b,.int .i64 x.c,.int .i64 x.d,.int .i64 x.p,.int .i64 x.q,.int .i64 x.r,.int .i64 x.s]),(b0+1,[.int .i64 y.f,.int .i64 y.a,.int .i64 y.b,.int .i64 y.c,.int .i64 y.d,.int .i64 y.p,.int .i64 y.q,.int .i64 y.r,.int .i64 y.s]),(b0,[.int .i64 x.f,.int .i64 x.a,.int .i64 x.b,.int .i64 x.c,.int .i64 x.d,.int .i64 x.p,.int .i64 x.q,.int .i64 x.r,.int .i64 x.s])]
 sz:n0≤w.heap.size
 mn:n0≤n0
 ev0:l0=true→v0 = .int .i64 2
 ev1:l1=true→v1 = .pointer (some ⟨ab,4,none⟩)
 ev2:l2=true→v2=(iv x.p x.q)
 ev3:l3=true→v3 = .int .i64 2
 ev4:l4=true→v4 = .pointer (some ⟨bb,4,none⟩)
 ev5:l5=true→v5=(iv y.p y.q)
 ev6:l6=true→v6 = .bool (insB x.p x.q y.p y.q)
 ev7:l7=true→v7 = .bool (!(insB x.p x.q y.p y.q))
theorem Ck2.kept {b0 ab bb n0:Nat} {x y:CV} {w0 w:World} {l0 l1 l2 l3 l4 l5 l6 l7:Bool} {v0 v1 v2 v3 v4 v5 v6 v7:Value} {w':World} (h:Ck2 b0 ab bb n0 x y w0 w l0 l1 l2 l3 l4 l5 l6 l7 v0 v1 v2 v3 v4 v5 v6 v7) (hb:Below w.heap.size w w'):Ck2 b0 ab bb n0 x y w0 w' l0 l1 l2 l3 l4 l5 l6 l7 v0 v1 v2 v3 v4 v5 v6 v7:=
 {h with g:=h.g.call hb,sz:=Nat.le_trans h.sz hb.size}
def Ck2.I (b0 ab bb n0:Nat) (x y:CV) (w0:World):Act→Array Bool→Act→World→Prop:=fun aO LX aX w=>∃(l0 l1 l2 l3 l4 l5 l6 l7:Bool) (v0 v1 v2 v3 v4 v5 v6 v7:Value),LX=#[l0,l1,l2,l3,l4,l5,l6,l7]∧aX=((((((((aO.put (some 15) v0).put (some 16) v1).put (some 17) v2).put (some 18) v3).put (some 19) v4).put (some 20) v5).put (some 21) v6).put (some 22) v7)∧Ck2 b0 ab bb n0 x y w0 w l0 l1 l2 l3 l4 l5 l6 l7 v0 v1 v2 v3 v4 v5 v6 v7
structure Ck3 (b0 ab bb n0:Nat) (x y:CV) (w0 w:World) (l0 l1 l2 l3 l4 l5 l6 l7:Bool) (v0 v1 v2 v3 v4 v5 v6 v7:Value):Prop where
 g:Ho w0 w n0 [(bb,[.int .i64 y.a,.int .i64 y.b,.int .i64 y.c,.int .i64 y.d,.int .i64 y.p,.int .i64 y.q,.int .i64 y.r,.int .i64 y.s]),(ab,[.int .i64 x.a,.int .i64 x.b,.int .i64 x.c,.int .i64 x.d,.int .i64 x.p,.int .i64 x.q,.int .i64 x.r,.int .i64 x.s]),(b0+1,[.int .i64 y.f,.int .i64 y.a,.int .i64 y.b,.int .i64 y.c,.int .i64 y.d,.int .i64 y.p,.int .i64 y.q,.int .i64 y.r,.int .i64 y.s]),(b0,[.int .i64 x.f,.int .i64 x.a,.int .i64 x.b,.int .i64 x.c,.int .i64 x.d,.int .i64 x.p,.int .i64 x.q,.int .i64 x.r,.int .i64 x.s])]
 sz:n0≤w.heap.size
 mn:n0≤n0
 ev0:l0=true→v0 = .int .i64 3
 ev1:l1=true→v1 = .pointer (some ⟨ab,6,none⟩)
 ev2:l2=true→v2=(iv x.r x.s)
 ev3:l3=true→v3 = .int .i64 3
 ev4:l4=true→v4 = .pointer (some ⟨bb,6,none⟩)
 ev5:l5=true→v5=(iv y.r y.s)
 ev6:l6=true→v6 = .bool (insB x.r x.s y.r y.s)
 ev7:l7=true→v7 = .bool (!(insB x.r x.s y.r y.s))
theorem Ck3.kept {b0 ab bb n0:Nat} {x y:CV} {w0 w:World} {l0 l1 l2 l3 l4 l5 l6 l7:Bool} {v0 v1 v2 v3 v4 v5 v6 v7:Value} {w':World} (h:Ck3 b0 ab bb n0 x y w0 w l0 l1 l2 l3 l4 l5 l6 l7 v0 v1 v2 v3 v4 v5 v6 v7) (hb:Below w.heap.size w w'):Ck3 b0 ab bb n0 x y w0 w' l0 l1 l2 l3 l4 l5 l6 l7 v0 v1 v2 v3 v4 v5 v6 v7:=
 {h with g:=h.g.call hb,sz:=Nat.le_trans h.sz hb.size}
def Ck3.I (b0 ab bb n0:Nat) (x y:CV) (w0:World):Act→Array Bool→Act→World→Prop:=fun aO LX aX w=>∃(l0 l1 l2 l3 l4 l5 l6 l7:Bool) (v0 v1 v2 v3 v4 v5 v6 v7:Value),LX=#[l0,l1,l2,l3,l4,l5,l6,l7]∧aX=((((((((aO.put (some 15) v0).put (some 16) v1).put (some 17) v2).put (some 18) v3).put (some 19) v4).put (some 20) v5).put (some 21) v6).put (some 22) v7)∧Ck3 b0 ab bb n0 x y w0 w l0 l1 l2 l3 l4 l5 l6 l7 v0 v1 v2 v3 v4 v5 v6 v7
set_option maxRecDepth 100000 in
set_option maxHeartbeats 16000000 in
theorem cinside_any (x y:CV) (w:World):Calls Try.prog 18 #[cellv x,cellv y] w fun e w'=>e = .returned (.bool (insC x y))∧Below w.heap.size w w':=by
 unfold cellv;have H0:=((Ho.nil w).bx [.int .i64 x.f,.int .i64 x.a,.int .i64 x.b,.int .i64 x.c,.int .i64 x.d,.int .i64 x.p,.int .i64 x.q,.int .i64 x.r,.int .i64 x.s] 29 w.heap.size rfl).bx [.int .i64 y.f,.int .i64 y.a,.int .i64 y.b,.int .i64 y.c,.int .i64 y.d,.int .i64 y.p,.int .i64 y.q,.int .i64 y.r,.int .i64 y.s] 29 (w.heap.size+1) (by simp);go_enter Try.func18,Try.ntmps18
 go_upto_region 1 with fail
 refine region_sets (Cj.I w.heap.size 0 0 (w.heap.size+1+1) x y w) (by kernel_rfl) ?_ ?_ ?_
 ·refine ⟨false,false,false,false,false,false,false,false,undef,undef,undef,undef,undef,undef,0,0,rfl,by simp only [Act.put,sS],?_⟩;constructor
  ·exact hoA
  ·(first|(simp;done)|(simp;omega))
  ·(omega)
  all_goals (intro h;cases h)
 ·intro L a' w' hI i hi;obtain ⟨l0,l1,l2,l3,l4,l5,l6,l7,v0,v1,v2,v3,v4,v5,b4,b5,rfl,rfl,h⟩:=hI;have hlt:=ready_lt hi
  match i,hi,hlt with
  |0,hi,_=>
   obtain rfl:l0=false:=rl rfl hi;clear hi hlt;have c:=(h.g.at 1 rfl).c;have H:=Lib.hid h;clear h;refine wpOp_shut rfl (fun K hK=>?_)
   try simp only [Act.put,sS]
   go_simp;refine hK.out _ _ ?_;unfold Cj.I;refine ⟨_,_,_,_,_,_,_,_,(.agg #[.int .i64 x.f,.int .i64 x.a,.int .i64 x.b,.int .i64 x.c,.int .i64 x.d,.int .i64 x.p,.int .i64 x.q,.int .i64 x.r,.int .i64 x.s]),v1,v2,v3,v4,v5,b4,b5,rfl,?_,?_⟩
   ·simp only [Act.put,sS]
   ·exact {H.out with ev0:=fun _=>rfl}
  |1,hi,_=>
   obtain rfl:l1=false:=rl rfl hi;obtain rfl:l0=true:=rk rfl hi 0 .data;clear hi hlt;obtain rfl:=h.ev0 rfl;have H:=Lib.hid h;clear h;refine wpOp_shut rfl (fun K hK=>?_)
   try simp only [Act.put,sS]
   go_simp;refine (cints_any x _).mono ?_;rintro e wY ⟨rfl,hb⟩;unfold int4
   try go_simp
   refine hK.out _ _ ?_;unfold Cj.I;refine ⟨_,_,_,_,_,_,_,_,(.agg #[.int .i64 x.f,.int .i64 x.a,.int .i64 x.b,.int .i64 x.c,.int .i64 x.d,.int .i64 x.p,.int .i64 x.q,.int .i64 x.r,.int .i64 x.s]),(.agg #[.int .i64 x.a,.int .i64 x.b,.int .i64 x.c,.int .i64 x.d,.int .i64 x.p,.int .i64 x.q,.int .i64 x.r,.int .i64 x.s]),v2,v3,v4,v5,b4,b5,rfl,?_,?_⟩
   ·simp only [Act.put,sS]
   ·exact {(H.out.kept hb) with ev1:=fun _=>rfl}
  |2,hi,_=>
   obtain rfl:l2=false:=rl rfl hi;clear hi hlt;have c:=(h.g.at 0 rfl).c;have H:=Lib.hid h;clear h;refine wpOp_shut rfl (fun K hK=>?_)
   try simp only [Act.put,sS]
   go_simp;refine hK.out _ _ ?_;unfold Cj.I;refine ⟨_,_,_,_,_,_,_,_,v0,v1,(.agg #[.int .i64 y.f,.int .i64 y.a,.int .i64 y.b,.int .i64 y.c,.int .i64 y.d,.int .i64 y.p,.int .i64 y.q,.int .i64 y.r,.int .i64 y.s]),v3,v4,v5,b4,b5,rfl,?_,?_⟩
   ·simp only [Act.put,sS]
   ·exact {H.out with ev2:=fun _=>rfl}
  |3,hi,_=>
   obtain rfl:l3=false:=rl rfl hi;obtain rfl:l2=true:=rk rfl hi 2 .data;obtain rfl:l1=true:=rk rfl hi 1 .chain;clear hi hlt;obtain rfl:=h.ev2 rfl;obtain rfl:=h.ev1 rfl;have H:=Lib.hid h;clear h;refine wpOp_shut rfl (fun K hK=>?_)
   try simp only [Act.put,sS]
   go_simp;refine (cints_any y _).mono ?_;rintro e wY ⟨rfl,hb⟩;unfold int4
   try go_simp
   refine hK.out _ _ ?_;unfold Cj.I;refine ⟨_,_,_,_,_,_,_,_,v0,(.agg #[.int .i64 x.a,.int .i64 x.b,.int .i64 x.c,.int .i64 x.d,.int .i64 x.p,.int .i64 x.q,.int .i64 x.r,.int .i64 x.s]),(.agg #[.int .i64 y.f,.int .i64 y.a,.int .i64 y.b,.int .i64 y.c,.int .i64 y.d,.int .i64 y.p,.int .i64 y.q,.int .i64 y.r,.int .i64 y.s]),(.agg #[.int .i64 y.a,.int .i64 y.b,.int .i64 y.c,.int .i64 y.d,.int .i64 y.p,.int .i64 y.q,.int .i64 y.r,.int .i64 y.s]),v4,v5,b4,b5,rfl,?_,?_⟩
   ·simp only [Act.put,sS]
   ·exact {(H.out.kept hb) with ev3:=fun _=>rfl}
  |4,hi,_=>
   obtain rfl:l4=false:=rl rfl hi;clear hi hlt;have H:=Lib.hid h;clear h;refine wpOp_shut rfl (fun K hK=>?_)
   try simp only [Act.put,sS]
   go_simp;refine hK.out _ _ ?_;unfold Cj.I;refine ⟨_,_,_,_,_,_,_,_,v0,v1,v2,v3,(.pointer (some ⟨w'.heap.size,0,none⟩)),v5,w'.heap.size,b5,rfl,?_,?_⟩
   ·simp only [Act.put,sS]
   ·have h:=H.out;have h2:=h.kept ((Below.refl _ _).alloc (Nat.le_refl _) (.cells (List.toArray [.int .i64 0,.int .i64 0,.int .i64 0,.int .i64 0,.int .i64 0,.int .i64 0,.int .i64 0,.int .i64 0]) 83));exact {h2 with ev4:=fun _=>rfl,g4:=fun _=>h.sz,t4:=fun _=>by simp,o4:=fun p=>rfl,z4:=fun _ _=>Bx.new rfl,s4:=fun p=>(nomatch (h.o4 p)),d4_5:=fun _ p=>Nat.ne_of_gt (h.t5 p)}
  |5,hi,_=>
   obtain rfl:l5=false:=rl rfl hi;clear hi hlt;have H:=Lib.hid h;clear h;refine wpOp_shut rfl (fun K hK=>?_)
   try simp only [Act.put,sS]
   go_simp;refine hK.out _ _ ?_;unfold Cj.I;refine ⟨_,_,_,_,_,_,_,_,v0,v1,v2,v3,v4,(.pointer (some ⟨w'.heap.size,0,none⟩)),b4,w'.heap.size,rfl,?_,?_⟩
   ·simp only [Act.put,sS]
   ·have h:=H.out;have h2:=h.kept ((Below.refl _ _).alloc (Nat.le_refl _) (.cells (List.toArray [.int .i64 0,.int .i64 0,.int .i64 0,.int .i64 0,.int .i64 0,.int .i64 0,.int .i64 0,.int .i64 0]) 83));exact {h2 with ev5:=fun _=>rfl,g5:=fun _=>h.sz,t5:=fun _=>by simp,o5:=fun p=>rfl,z5:=fun _ _=>Bx.new rfl,s5:=fun p=>(nomatch (h.o5 p)),d4_5:=fun p _=>Nat.ne_of_lt (h.t4 p)}
  |6,hi,_=>
   obtain rfl:l6=false:=rl rfl hi;obtain rfl:l4=true:=rk rfl hi 4 .phase;obtain rfl:l1=true:=rk rfl hi 1 .phase;obtain rfl:l3=true:=rk rfl hi 3 .chain;obtain rfl:l0=true:=rk rfl hi 0 .phase;obtain rfl:l5=true:=rk rfl hi 5 .phase;clear hi hlt;obtain rfl:=h.ev4 rfl;obtain rfl:=h.ev1 rfl;obtain rfl:=h.ev3 rfl;obtain rfl:=h.ev0 rfl;obtain rfl:=h.ev5 rfl;have bz:=h.z4 rfl rfl;have c:=bz.c;have f:=bz.f;clear bz;have H:=Lib.hid h;clear h;refine wpOp_shut rfl (fun K hK=>?_)
   try simp only [Act.put,sS]
   go_simp;refine hK.out _ _ ?_;unfold Cj.I;refine ⟨_,_,_,_,_,_,_,_,(.agg #[.int .i64 x.f,.int .i64 x.a,.int .i64 x.b,.int .i64 x.c,.int .i64 x.d,.int .i64 x.p,.int .i64 x.q,.int .i64 x.r,.int .i64 x.s]),(.agg #[.int .i64 x.a,.int .i64 x.b,.int .i64 x.c,.int .i64 x.d,.int .i64 x.p,.int .i64 x.q,.int .i64 x.r,.int .i64 x.s]),v2,(.agg #[.int .i64 y.a,.int .i64 y.b,.int .i64 y.c,.int .i64 y.d,.int .i64 y.p,.int .i64 y.q,.int .i64 y.r,.int .i64 y.s]),(.pointer (some ⟨b4,0,none⟩)),(.pointer (some ⟨b5,0,none⟩)),b4,b5,rfl,?_,?_⟩
   ·simp only [Act.put,sS]
   ·have h:=H.out;have gb:=h.g4 rfl;have gm:=Nat.le_trans h.mn gb;exact {h with g:=((((((((h.g.put gm).put gm).put gm).put gm).put gm).put gm).put gm).put gm),sz:=by simpa using h.sz,o4:=fun _=>rfl,z4:=fun _ p=>(nomatch p),s4:=fun _=>(((((((((h.z4 rfl rfl).put).put).put).put).put).put).put).put),t4:=fun p=>by simpa using h.t4 p,t5:=fun p=>by simpa using h.t5 p,z5:=fun p r=>(((((((((h.z5 p r).set (fun q=>(h.d4_5 rfl p) q.symm)).set (fun q=>(h.d4_5 rfl p) q.symm)).set (fun q=>(h.d4_5 rfl p) q.symm)).set (fun q=>(h.d4_5 rfl p) q.symm)).set (fun q=>(h.d4_5 rfl p) q.symm)).set (fun q=>(h.d4_5 rfl p) q.symm)).set (fun q=>(h.d4_5 rfl p) q.symm)).set (fun q=>(h.d4_5 rfl p) q.symm)),s5:=fun p=>(((((((((h.s5 p).set (fun q=>(h.d4_5 rfl (h.o5 p)) q.symm)).set (fun q=>(h.d4_5 rfl (h.o5 p)) q.symm)).set (fun q=>(h.d4_5 rfl (h.o5 p)) q.symm)).set (fun q=>(h.d4_5 rfl (h.o5 p)) q.symm)).set (fun q=>(h.d4_5 rfl (h.o5 p)) q.symm)).set (fun q=>(h.d4_5 rfl (h.o5 p)) q.symm)).set (fun q=>(h.d4_5 rfl (h.o5 p)) q.symm)).set (fun q=>(h.d4_5 rfl (h.o5 p)) q.symm))}
  |7,hi,_=>
   obtain rfl:l7=false:=rl rfl hi;obtain rfl:l5=true:=rk rfl hi 5 .phase;obtain rfl:l3=true:=rk rfl hi 3 .phase;obtain rfl:l6=true:=rk rfl hi 6 .phase;obtain rfl:l0=true:=rk rfl hi 0 .phase;obtain rfl:l1=true:=rk rfl hi 1 .phase;obtain rfl:l2=true:=rk rfl hi 2 .phase;obtain rfl:l4=true:=rk rfl hi 4 .phase;clear hi hlt;obtain rfl:=h.ev5 rfl;obtain rfl:=h.ev3 rfl;obtain rfl:=h.ev0 rfl;obtain rfl:=h.ev1 rfl;obtain rfl:=h.ev2 rfl;obtain rfl:=h.ev4 rfl;have bz:=h.z5 rfl rfl;have c:=bz.c;have f:=bz.f;clear bz;have H:=Lib.hid h;clear h;refine wpOp_shut rfl (fun K hK=>?_)
   try simp only [Act.put,sS]
   go_simp;refine hK.out _ _ ?_;unfold Cj.I;refine ⟨_,_,_,_,_,_,_,_,(.agg #[.int .i64 x.f,.int .i64 x.a,.int .i64 x.b,.int .i64 x.c,.int .i64 x.d,.int .i64 x.p,.int .i64 x.q,.int .i64 x.r,.int .i64 x.s]),(.agg #[.int .i64 x.a,.int .i64 x.b,.int .i64 x.c,.int .i64 x.d,.int .i64 x.p,.int .i64 x.q,.int .i64 x.r,.int .i64 x.s]),(.agg #[.int .i64 y.f,.int .i64 y.a,.int .i64 y.b,.int .i64 y.c,.int .i64 y.d,.int .i64 y.p,.int .i64 y.q,.int .i64 y.r,.int .i64 y.s]),(.agg #[.int .i64 y.a,.int .i64 y.b,.int .i64 y.c,.int .i64 y.d,.int .i64 y.p,.int .i64 y.q,.int .i64 y.r,.int .i64 y.s]),(.pointer (some ⟨b4,0,none⟩)),(.pointer (some ⟨b5,0,none⟩)),b4,b5,rfl,?_,?_⟩
   ·simp only [Act.put,sS]
   ·have h:=H.out;have gb:=h.g5 rfl;have gm:=Nat.le_trans h.mn gb;exact {h with g:=((((((((h.g.put gm).put gm).put gm).put gm).put gm).put gm).put gm).put gm),sz:=by simpa using h.sz,o5:=fun _=>rfl,z5:=fun _ p=>(nomatch p),s5:=fun _=>(((((((((h.z5 rfl rfl).put).put).put).put).put).put).put).put),t5:=fun p=>by simpa using h.t5 p,t4:=fun p=>by simpa using h.t4 p,z4:=fun p r=>(((((((((h.z4 p r).set (fun q=>(h.d4_5 p rfl) q)).set (fun q=>(h.d4_5 p rfl) q)).set (fun q=>(h.d4_5 p rfl) q)).set (fun q=>(h.d4_5 p rfl) q)).set (fun q=>(h.d4_5 p rfl) q)).set (fun q=>(h.d4_5 p rfl) q)).set (fun q=>(h.d4_5 p rfl) q)).set (fun q=>(h.d4_5 p rfl) q)),s4:=fun p=>(((((((((h.s4 p).set (fun q=>(h.d4_5 (h.o4 p) rfl) q)).set (fun q=>(h.d4_5 (h.o4 p) rfl) q)).set (fun q=>(h.d4_5 (h.o4 p) rfl) q)).set (fun q=>(h.d4_5 (h.o4 p) rfl) q)).set (fun q=>(h.d4_5 (h.o4 p) rfl) q)).set (fun q=>(h.d4_5 (h.o4 p) rfl) q)).set (fun q=>(h.d4_5 (h.o4 p) rfl) q)).set (fun q=>(h.d4_5 (h.o4 p) rfl) q))}
  |i+8,_,hlt=>exact absurd hlt (by simp)
 ·intro L a' w' hI hn;obtain ⟨l0,l1,l2,l3,l4,l5,l6,l7,v0,v1,v2,v3,v4,v5,b4,b5,rfl,rfl,h⟩:=hI;obtain rfl:l0=true:=nr 0 rfl hn;obtain rfl:l1=true:=nr 1 rfl hn;obtain rfl:l2=true:=nr 2 rfl hn;obtain rfl:l3=true:=nr 3 rfl hn;obtain rfl:l4=true:=nr 4 rfl hn;obtain rfl:l5=true:=nr 5 rfl hn;obtain rfl:l6=true:=nr 6 rfl hn;obtain rfl:l7=true:=nr 7 rfl hn;clear hn;obtain rfl:=h.ev0 rfl;obtain rfl:=h.ev1 rfl;obtain rfl:=h.ev2 rfl;obtain rfl:=h.ev3 rfl;obtain rfl:=h.ev4 rfl;obtain rfl:=h.ev5 rfl;simp only [Act.put,sS]
  rename World=>w1
  have H1:=h.g;have B4:=h.s4 rfl;have B5:=h.s5 rfl;have z1:=h.sz;clear h;have HB:=(H1.cons B4.rd).cons B5.rd;have e4:=B4.lt;have e5:=B5.lt;clear H1 B4 B5
  go_wp2_with fail
  go_loopw [12] (fun i wr=>∃k:Nat,k≤4∧i = .int .i64 k∧(1≤k→insB x.a x.b y.a y.b=true)∧(2≤k→insB x.c x.d y.c y.d=true)∧(3≤k→insB x.p x.q y.p y.q=true)∧(4≤k→insB x.r x.s y.r y.s=true)∧Ho w wr w1.heap.size [(b5,[.int .i64 y.a,.int .i64 y.b,.int .i64 y.c,.int .i64 y.d,.int .i64 y.p,.int .i64 y.q,.int .i64 y.r,.int .i64 y.s]),(b4,[.int .i64 x.a,.int .i64 x.b,.int .i64 x.c,.int .i64 x.d,.int .i64 x.p,.int .i64 x.q,.int .i64 x.r,.int .i64 x.s]),(w.heap.size+1,[.int .i64 y.f,.int .i64 y.a,.int .i64 y.b,.int .i64 y.c,.int .i64 y.d,.int .i64 y.p,.int .i64 y.q,.int .i64 y.r,.int .i64 y.s]),(w.heap.size,[.int .i64 x.f,.int .i64 x.a,.int .i64 x.b,.int .i64 x.c,.int .i64 x.d,.int .i64 x.p,.int .i64 x.q,.int .i64 x.r,.int .i64 x.s])]) (fun i _=>4 - (intOf i).toNat)
  case atStart=>exact ⟨0,Nat.zero_le _,rfl,fun h=>absurd h (by omega),fun h=>absurd h (by omega),fun h=>absurd h (by omega),fun h=>absurd h (by omega),HB⟩
  case round=>
   obtain ⟨k,hk,rfl,g1,g2,g3,g4,HR0⟩:=hrel;have HR:=HR0.up;have HI:=Lib.hid (And.intro g1 (And.intro g2 (And.intro g3 g4)));clear g1 g2 g3 g4 HB;rcases (by omega:k=0∨k=1∨k=2∨k=3∨k=4) with rfl|rfl|rfl|rfl|rfl
   ·rw [show ((0:Nat):Int)=(0:Int) from rfl];have HN:=HR.size
    go_upto_region 5 with fail
    refine region_sets (Ck0.I w.heap.size b4 b5 wr.heap.size x y w) (by kernel_rfl) ?_ ?_ ?_
    ·refine ⟨false,false,false,false,false,false,false,false,u15,u16,u17,u18,u19,u20,u21,u22,rfl,by simp only [Act.put,sS],?_⟩;constructor
     ·exact hoA
     ·(first|(simp;done)|(simp;omega))
     ·(omega)
     all_goals (intro h;cases h)
    ·intro L a' w' hI i hi;obtain ⟨l0,l1,l2,l3,l4,l5,l6,l7,v0,v1,v2,v3,v4,v5,v6,v7,rfl,rfl,h⟩:=hI;have hlt:=ready_lt hi
     match i,hi,hlt with
     |0,hi,_=>
      obtain rfl:l0=false:=rl rfl hi;clear hi hlt;have H:=Lib.hid h;clear h;refine wpOp_shut rfl (fun K hK=>?_)
      try simp only [Act.put,sS]
      go_simp;refine hK.out _ _ ?_;unfold Ck0.I;refine ⟨_,_,_,_,_,_,_,_,(.int .i64 0),v1,v2,v3,v4,v5,v6,v7,rfl,?_,?_⟩
      ·simp only [Act.put,sS]
      ·exact {H.out with ev0:=fun _=>rfl}
     |1,hi,_=>
      obtain rfl:l1=false:=rl rfl hi;obtain rfl:l0=true:=rk rfl hi 0 .data;clear hi hlt;obtain rfl:=h.ev0 rfl;have H:=Lib.hid h;clear h;refine wpOp_shut rfl (fun K hK=>?_)
      try simp only [Act.put,sS]
      go_simp;refine hK.out _ _ ?_;unfold Ck0.I;refine ⟨_,_,_,_,_,_,_,_,(.int .i64 0),(.pointer (some ⟨b4,0,none⟩)),v2,v3,v4,v5,v6,v7,rfl,?_,?_⟩
      ·simp only [Act.put,sS]
      ·exact {H.out with ev1:=fun _=>rfl}
     |2,hi,_=>
      obtain rfl:l2=false:=rl rfl hi;obtain rfl:l1=true:=rk rfl hi 1 .data;clear hi hlt;obtain rfl:=h.ev1 rfl;have c:=(h.g.at 1 rfl).c;have H:=Lib.hid h;clear h;refine wpOp_shut rfl (fun K hK=>?_)
      try simp only [Act.put,sS]
      go_simp;refine hK.out _ _ ?_;unfold Ck0.I;refine ⟨_,_,_,_,_,_,_,_,v0,(.pointer (some ⟨b4,0,none⟩)),((iv x.a x.b)),v3,v4,v5,v6,v7,rfl,?_,?_⟩
      ·simp only [Act.put,sS]
      ·exact {H.out with ev2:=fun _=>rfl}
     |3,hi,_=>
      obtain rfl:l3=false:=rl rfl hi;clear hi hlt;have H:=Lib.hid h;clear h;refine wpOp_shut rfl (fun K hK=>?_)
      try simp only [Act.put,sS]
      go_simp;refine hK.out _ _ ?_;unfold Ck0.I;refine ⟨_,_,_,_,_,_,_,_,v0,v1,v2,(.int .i64 0),v4,v5,v6,v7,rfl,?_,?_⟩
      ·simp only [Act.put,sS]
      ·exact {H.out with ev3:=fun _=>rfl}
     |4,hi,_=>
      obtain rfl:l4=false:=rl rfl hi;obtain rfl:l3=true:=rk rfl hi 3 .data;clear hi hlt;obtain rfl:=h.ev3 rfl;have H:=Lib.hid h;clear h;refine wpOp_shut rfl (fun K hK=>?_)
      try simp only [Act.put,sS]
      go_simp;refine hK.out _ _ ?_;unfold Ck0.I;refine ⟨_,_,_,_,_,_,_,_,v0,v1,v2,(.int .i64 0),(.pointer (some ⟨b5,0,none⟩)),v5,v6,v7,rfl,?_,?_⟩
      ·simp only [Act.put,sS]
      ·exact {H.out with ev4:=fun _=>rfl}
     |5,hi,_=>
      obtain rfl:l5=false:=rl rfl hi;obtain rfl:l4=true:=rk rfl hi 4 .data;clear hi hlt;obtain rfl:=h.ev4 rfl;have c:=(h.g.at 0 rfl).c;have H:=Lib.hid h;clear h;refine wpOp_shut rfl (fun K hK=>?_)
      try simp only [Act.put,sS]
      go_simp;refine hK.out _ _ ?_;unfold Ck0.I;refine ⟨_,_,_,_,_,_,_,_,v0,v1,v2,v3,(.pointer (some ⟨b5,0,none⟩)),((iv y.a y.b)),v6,v7,rfl,?_,?_⟩
      ·simp only [Act.put,sS]
      ·exact {H.out with ev5:=fun _=>rfl}
     |6,hi,_=>
      obtain rfl:l6=false:=rl rfl hi;obtain rfl:l2=true:=rk rfl hi 2 .data;obtain rfl:l5=true:=rk rfl hi 5 .data;clear hi hlt;obtain rfl:=h.ev2 rfl;obtain rfl:=h.ev5 rfl;have H:=Lib.hid h;clear h;refine wpOp_shut rfl (fun K hK=>?_)
      try simp only [Act.put,sS]
      go_simp;refine (inside_any x.a x.b y.a y.b _).mono ?_;rintro e wY ⟨rfl,hb⟩
      try go_simp
      refine hK.out _ _ ?_;unfold Ck0.I;refine ⟨_,_,_,_,_,_,_,_,v0,v1,((iv x.a x.b)),v3,v4,((iv y.a y.b)),(.bool (insB x.a x.b y.a y.b)),v7,rfl,?_,?_⟩
      ·simp only [Act.put,sS]
      ·exact {(H.out.kept hb) with ev6:=fun _=>rfl}
     |7,hi,_=>
      obtain rfl:l7=false:=rl rfl hi;obtain rfl:l6=true:=rk rfl hi 6 .data;clear hi hlt;obtain rfl:=h.ev6 rfl;have H:=Lib.hid h;clear h;refine wpOp_shut rfl (fun K hK=>?_)
      try simp only [Act.put,sS]
      go_simp;refine hK.out _ _ ?_;unfold Ck0.I;refine ⟨_,_,_,_,_,_,_,_,v0,v1,v2,v3,v4,v5,(.bool (insB x.a x.b y.a y.b)),(.bool (!(insB x.a x.b y.a y.b))),rfl,?_,?_⟩
      ·simp only [Act.put,sS]
      ·exact {H.out with ev7:=fun _=>rfl}
     |i+8,_,hlt=>exact absurd hlt (by simp)
    ·intro L a' w' hI hn;obtain ⟨l0,l1,l2,l3,l4,l5,l6,l7,v0,v1,v2,v3,v4,v5,v6,v7,rfl,rfl,h⟩:=hI;obtain rfl:l0=true:=nr 0 rfl hn;obtain rfl:l1=true:=nr 1 rfl hn;obtain rfl:l2=true:=nr 2 rfl hn;obtain rfl:l3=true:=nr 3 rfl hn;obtain rfl:l4=true:=nr 4 rfl hn;obtain rfl:l5=true:=nr 5 rfl hn;obtain rfl:l6=true:=nr 6 rfl hn;obtain rfl:l7=true:=nr 7 rfl hn;clear hn;obtain rfl:=h.ev0 rfl;obtain rfl:=h.ev1 rfl;obtain rfl:=h.ev2 rfl;obtain rfl:=h.ev3 rfl;obtain rfl:=h.ev4 rfl;obtain rfl:=h.ev5 rfl;obtain rfl:=h.ev6 rfl;obtain rfl:=h.ev7 rfl;simp only [Act.put,sS]
     rename World=>w3
     have H3:=h.g;clear h;cases hv:insB x.a x.b y.a y.b
     ·have EV:=Lib.hid hv;clear hv;rw [Bool.not_false]
      go_wp2_with fail
      go_ret
      refine ⟨?_,H3.below⟩;rw [show insC x y=false from by unfold insC;rw [EV.out];simp]
      try rfl
     ·have EV:=Lib.hid hv;clear hv;rw [Bool.not_true]
      go_wp2_with fail
      go_roundw
      case rel=>exact ⟨1,by omega,rfl,fun _=>EV.out,fun h=>absurd h (by omega),fun h=>absurd h (by omega),fun h=>absurd h (by omega),⟨H3.below,by have:=HR0.base;omega,Nat.le_trans HR0.size H3.size,fun p hp=>⟨(HR0.rd p hp).1,(H3.rd p hp).2⟩⟩⟩
      case measure=>simp only [intOf];omega
   ·rw [show ((1:Nat):Int)=(1:Int) from rfl];have HN:=HR.size
    go_upto_region 5 with fail
    refine region_sets (Ck1.I w.heap.size b4 b5 wr.heap.size x y w) (by kernel_rfl) ?_ ?_ ?_
    ·refine ⟨false,false,false,false,false,false,false,false,u15,u16,u17,u18,u19,u20,u21,u22,rfl,by simp only [Act.put,sS],?_⟩;constructor
     ·exact hoA
     ·(first|(simp;done)|(simp;omega))
     ·(omega)
     all_goals (intro h;cases h)
    ·intro L a' w' hI i hi;obtain ⟨l0,l1,l2,l3,l4,l5,l6,l7,v0,v1,v2,v3,v4,v5,v6,v7,rfl,rfl,h⟩:=hI;have hlt:=ready_lt hi
     match i,hi,hlt with
     |0,hi,_=>
      obtain rfl:l0=false:=rl rfl hi;clear hi hlt;have H:=Lib.hid h;clear h;refine wpOp_shut rfl (fun K hK=>?_)
      try simp only [Act.put,sS]
      go_simp;refine hK.out _ _ ?_;unfold Ck1.I;refine ⟨_,_,_,_,_,_,_,_,(.int .i64 1),v1,v2,v3,v4,v5,v6,v7,rfl,?_,?_⟩
      ·simp only [Act.put,sS]
      ·exact {H.out with ev0:=fun _=>rfl}
     |1,hi,_=>
      obtain rfl:l1=false:=rl rfl hi;obtain rfl:l0=true:=rk rfl hi 0 .data;clear hi hlt;obtain rfl:=h.ev0 rfl;have H:=Lib.hid h;clear h;refine wpOp_shut rfl (fun K hK=>?_)
      try simp only [Act.put,sS]
      go_simp;refine hK.out _ _ ?_;unfold Ck1.I;refine ⟨_,_,_,_,_,_,_,_,(.int .i64 1),(.pointer (some ⟨b4,2,none⟩)),v2,v3,v4,v5,v6,v7,rfl,?_,?_⟩
      ·simp only [Act.put,sS]
      ·exact {H.out with ev1:=fun _=>rfl}
     |2,hi,_=>
      obtain rfl:l2=false:=rl rfl hi;obtain rfl:l1=true:=rk rfl hi 1 .data;clear hi hlt;obtain rfl:=h.ev1 rfl;have c:=(h.g.at 1 rfl).c;have H:=Lib.hid h;clear h;refine wpOp_shut rfl (fun K hK=>?_)
      try simp only [Act.put,sS]
      go_simp;refine hK.out _ _ ?_;unfold Ck1.I;refine ⟨_,_,_,_,_,_,_,_,v0,(.pointer (some ⟨b4,2,none⟩)),((iv x.c x.d)),v3,v4,v5,v6,v7,rfl,?_,?_⟩
      ·simp only [Act.put,sS]
      ·exact {H.out with ev2:=fun _=>rfl}
     |3,hi,_=>
      obtain rfl:l3=false:=rl rfl hi;clear hi hlt;have H:=Lib.hid h;clear h;refine wpOp_shut rfl (fun K hK=>?_)
      try simp only [Act.put,sS]
      go_simp;refine hK.out _ _ ?_;unfold Ck1.I;refine ⟨_,_,_,_,_,_,_,_,v0,v1,v2,(.int .i64 1),v4,v5,v6,v7,rfl,?_,?_⟩
      ·simp only [Act.put,sS]
      ·exact {H.out with ev3:=fun _=>rfl}
     |4,hi,_=>
      obtain rfl:l4=false:=rl rfl hi;obtain rfl:l3=true:=rk rfl hi 3 .data;clear hi hlt;obtain rfl:=h.ev3 rfl;have H:=Lib.hid h;clear h;refine wpOp_shut rfl (fun K hK=>?_)
      try simp only [Act.put,sS]
      go_simp;refine hK.out _ _ ?_;unfold Ck1.I;refine ⟨_,_,_,_,_,_,_,_,v0,v1,v2,(.int .i64 1),(.pointer (some ⟨b5,2,none⟩)),v5,v6,v7,rfl,?_,?_⟩
      ·simp only [Act.put,sS]
      ·exact {H.out with ev4:=fun _=>rfl}
     |5,hi,_=>
      obtain rfl:l5=false:=rl rfl hi;obtain rfl:l4=true:=rk rfl hi 4 .data;clear hi hlt;obtain rfl:=h.ev4 rfl;have c:=(h.g.at 0 rfl).c;have H:=Lib.hid h;clear h;refine wpOp_shut rfl (fun K hK=>?_)
      try simp only [Act.put,sS]
      go_simp;refine hK.out _ _ ?_;unfold Ck1.I;refine ⟨_,_,_,_,_,_,_,_,v0,v1,v2,v3,(.pointer (some ⟨b5,2,none⟩)),((iv y.c y.d)),v6,v7,rfl,?_,?_⟩
      ·simp only [Act.put,sS]
      ·exact {H.out with ev5:=fun _=>rfl}
     |6,hi,_=>
      obtain rfl:l6=false:=rl rfl hi;obtain rfl:l2=true:=rk rfl hi 2 .data;obtain rfl:l5=true:=rk rfl hi 5 .data;clear hi hlt;obtain rfl:=h.ev2 rfl;obtain rfl:=h.ev5 rfl;have H:=Lib.hid h;clear h;refine wpOp_shut rfl (fun K hK=>?_)
      try simp only [Act.put,sS]
      go_simp;refine (inside_any x.c x.d y.c y.d _).mono ?_;rintro e wY ⟨rfl,hb⟩
      try go_simp
      refine hK.out _ _ ?_;unfold Ck1.I;refine ⟨_,_,_,_,_,_,_,_,v0,v1,((iv x.c x.d)),v3,v4,((iv y.c y.d)),(.bool (insB x.c x.d y.c y.d)),v7,rfl,?_,?_⟩
      ·simp only [Act.put,sS]
      ·exact {(H.out.kept hb) with ev6:=fun _=>rfl}
     |7,hi,_=>
      obtain rfl:l7=false:=rl rfl hi;obtain rfl:l6=true:=rk rfl hi 6 .data;clear hi hlt;obtain rfl:=h.ev6 rfl;have H:=Lib.hid h;clear h;refine wpOp_shut rfl (fun K hK=>?_)
      try simp only [Act.put,sS]
      go_simp;refine hK.out _ _ ?_;unfold Ck1.I;refine ⟨_,_,_,_,_,_,_,_,v0,v1,v2,v3,v4,v5,(.bool (insB x.c x.d y.c y.d)),(.bool (!(insB x.c x.d y.c y.d))),rfl,?_,?_⟩
      ·simp only [Act.put,sS]
      ·exact {H.out with ev7:=fun _=>rfl}
     |i+8,_,hlt=>exact absurd hlt (by simp)
    ·intro L a' w' hI hn;obtain ⟨l0,l1,l2,l3,l4,l5,l6,l7,v0,v1,v2,v3,v4,v5,v6,v7,rfl,rfl,h⟩:=hI;obtain rfl:l0=true:=nr 0 rfl hn;obtain rfl:l1=true:=nr 1 rfl hn;obtain rfl:l2=true:=nr 2 rfl hn;obtain rfl:l3=true:=nr 3 rfl hn;obtain rfl:l4=true:=nr 4 rfl hn;obtain rfl:l5=true:=nr 5 rfl hn;obtain rfl:l6=true:=nr 6 rfl hn;obtain rfl:l7=true:=nr 7 rfl hn;clear hn;obtain rfl:=h.ev0 rfl;obtain rfl:=h.ev1 rfl;obtain rfl:=h.ev2 rfl;obtain rfl:=h.ev3 rfl;obtain rfl:=h.ev4 rfl;obtain rfl:=h.ev5 rfl;obtain rfl:=h.ev6 rfl;obtain rfl:=h.ev7 rfl;simp only [Act.put,sS]
     rename World=>w3
     have H3:=h.g;clear h;cases hv:insB x.c x.d y.c y.d
     ·have EV:=Lib.hid hv;clear hv;rw [Bool.not_false]
      go_wp2_with fail
      go_ret
      refine ⟨?_,H3.below⟩;rw [show insC x y=false from by unfold insC;rw [HI.out.1 (by omega),EV.out];simp]
      try rfl
     ·have EV:=Lib.hid hv;clear hv;rw [Bool.not_true]
      go_wp2_with fail
      go_roundw
      case rel=>exact ⟨2,by omega,rfl,fun _=>HI.out.1 (by omega),fun _=>EV.out,fun h=>absurd h (by omega),fun h=>absurd h (by omega),⟨H3.below,by have:=HR0.base;omega,Nat.le_trans HR0.size H3.size,fun p hp=>⟨(HR0.rd p hp).1,(H3.rd p hp).2⟩⟩⟩
      case measure=>simp only [intOf];omega
   ·rw [show ((2:Nat):Int)=(2:Int) from rfl];have HN:=HR.size
    go_upto_region 5 with fail
    refine region_sets (Ck2.I w.heap.size b4 b5 wr.heap.size x y w) (by kernel_rfl) ?_ ?_ ?_
    ·refine ⟨false,false,false,false,false,false,false,false,u15,u16,u17,u18,u19,u20,u21,u22,rfl,by simp only [Act.put,sS],?_⟩;constructor
     ·exact hoA
     ·(first|(simp;done)|(simp;omega))
     ·(omega)
     all_goals (intro h;cases h)
    ·intro L a' w' hI i hi;obtain ⟨l0,l1,l2,l3,l4,l5,l6,l7,v0,v1,v2,v3,v4,v5,v6,v7,rfl,rfl,h⟩:=hI;have hlt:=ready_lt hi
     match i,hi,hlt with
     |0,hi,_=>
      obtain rfl:l0=false:=rl rfl hi;clear hi hlt;have H:=Lib.hid h;clear h;refine wpOp_shut rfl (fun K hK=>?_)
      try simp only [Act.put,sS]
      go_simp;refine hK.out _ _ ?_;unfold Ck2.I;refine ⟨_,_,_,_,_,_,_,_,(.int .i64 2),v1,v2,v3,v4,v5,v6,v7,rfl,?_,?_⟩
      ·simp only [Act.put,sS]
      ·exact {H.out with ev0:=fun _=>rfl}
     |1,hi,_=>
      obtain rfl:l1=false:=rl rfl hi;obtain rfl:l0=true:=rk rfl hi 0 .data;clear hi hlt;obtain rfl:=h.ev0 rfl;have H:=Lib.hid h;clear h;refine wpOp_shut rfl (fun K hK=>?_)
      try simp only [Act.put,sS]
      go_simp;refine hK.out _ _ ?_;unfold Ck2.I;refine ⟨_,_,_,_,_,_,_,_,(.int .i64 2),(.pointer (some ⟨b4,4,none⟩)),v2,v3,v4,v5,v6,v7,rfl,?_,?_⟩
      ·simp only [Act.put,sS]
      ·exact {H.out with ev1:=fun _=>rfl}
     |2,hi,_=>
      obtain rfl:l2=false:=rl rfl hi;obtain rfl:l1=true:=rk rfl hi 1 .data;clear hi hlt;obtain rfl:=h.ev1 rfl;have c:=(h.g.at 1 rfl).c;have H:=Lib.hid h;clear h;refine wpOp_shut rfl (fun K hK=>?_)
      try simp only [Act.put,sS]
      go_simp;refine hK.out _ _ ?_;unfold Ck2.I;refine ⟨_,_,_,_,_,_,_,_,v0,(.pointer (some ⟨b4,4,none⟩)),((iv x.p x.q)),v3,v4,v5,v6,v7,rfl,?_,?_⟩
      ·simp only [Act.put,sS]
      ·exact {H.out with ev2:=fun _=>rfl}
     |3,hi,_=>
      obtain rfl:l3=false:=rl rfl hi;clear hi hlt;have H:=Lib.hid h;clear h;refine wpOp_shut rfl (fun K hK=>?_)
      try simp only [Act.put,sS]
      go_simp;refine hK.out _ _ ?_;unfold Ck2.I;refine ⟨_,_,_,_,_,_,_,_,v0,v1,v2,(.int .i64 2),v4,v5,v6,v7,rfl,?_,?_⟩
      ·simp only [Act.put,sS]
      ·exact {H.out with ev3:=fun _=>rfl}
     |4,hi,_=>
      obtain rfl:l4=false:=rl rfl hi;obtain rfl:l3=true:=rk rfl hi 3 .data;clear hi hlt;obtain rfl:=h.ev3 rfl;have H:=Lib.hid h;clear h;refine wpOp_shut rfl (fun K hK=>?_)
      try simp only [Act.put,sS]
      go_simp;refine hK.out _ _ ?_;unfold Ck2.I;refine ⟨_,_,_,_,_,_,_,_,v0,v1,v2,(.int .i64 2),(.pointer (some ⟨b5,4,none⟩)),v5,v6,v7,rfl,?_,?_⟩
      ·simp only [Act.put,sS]
      ·exact {H.out with ev4:=fun _=>rfl}
     |5,hi,_=>
      obtain rfl:l5=false:=rl rfl hi;obtain rfl:l4=true:=rk rfl hi 4 .data;clear hi hlt;obtain rfl:=h.ev4 rfl;have c:=(h.g.at 0 rfl).c;have H:=Lib.hid h;clear h;refine wpOp_shut rfl (fun K hK=>?_)
      try simp only [Act.put,sS]
      go_simp;refine hK.out _ _ ?_;unfold Ck2.I;refine ⟨_,_,_,_,_,_,_,_,v0,v1,v2,v3,(.pointer (some ⟨b5,4,none⟩)),((iv y.p y.q)),v6,v7,rfl,?_,?_⟩
      ·simp only [Act.put,sS]
      ·exact {H.out with ev5:=fun _=>rfl}
     |6,hi,_=>
      obtain rfl:l6=false:=rl rfl hi;obtain rfl:l2=true:=rk rfl hi 2 .data;obtain rfl:l5=true:=rk rfl hi 5 .data;clear hi hlt;obtain rfl:=h.ev2 rfl;obtain rfl:=h.ev5 rfl;have H:=Lib.hid h;clear h;refine wpOp_shut rfl (fun K hK=>?_)
      try simp only [Act.put,sS]
      go_simp;refine (inside_any x.p x.q y.p y.q _).mono ?_;rintro e wY ⟨rfl,hb⟩
      try go_simp
      refine hK.out _ _ ?_;unfold Ck2.I;refine ⟨_,_,_,_,_,_,_,_,v0,v1,((iv x.p x.q)),v3,v4,((iv y.p y.q)),(.bool (insB x.p x.q y.p y.q)),v7,rfl,?_,?_⟩
      ·simp only [Act.put,sS]
      ·exact {(H.out.kept hb) with ev6:=fun _=>rfl}
     |7,hi,_=>
      obtain rfl:l7=false:=rl rfl hi;obtain rfl:l6=true:=rk rfl hi 6 .data;clear hi hlt;obtain rfl:=h.ev6 rfl;have H:=Lib.hid h;clear h;refine wpOp_shut rfl (fun K hK=>?_)
      try simp only [Act.put,sS]
      go_simp;refine hK.out _ _ ?_;unfold Ck2.I;refine ⟨_,_,_,_,_,_,_,_,v0,v1,v2,v3,v4,v5,(.bool (insB x.p x.q y.p y.q)),(.bool (!(insB x.p x.q y.p y.q))),rfl,?_,?_⟩
      ·simp only [Act.put,sS]
      ·exact {H.out with ev7:=fun _=>rfl}
     |i+8,_,hlt=>exact absurd hlt (by simp)
    ·intro L a' w' hI hn;obtain ⟨l0,l1,l2,l3,l4,l5,l6,l7,v0,v1,v2,v3,v4,v5,v6,v7,rfl,rfl,h⟩:=hI;obtain rfl:l0=true:=nr 0 rfl hn;obtain rfl:l1=true:=nr 1 rfl hn;obtain rfl:l2=true:=nr 2 rfl hn;obtain rfl:l3=true:=nr 3 rfl hn;obtain rfl:l4=true:=nr 4 rfl hn;obtain rfl:l5=true:=nr 5 rfl hn;obtain rfl:l6=true:=nr 6 rfl hn;obtain rfl:l7=true:=nr 7 rfl hn;clear hn;obtain rfl:=h.ev0 rfl;obtain rfl:=h.ev1 rfl;obtain rfl:=h.ev2 rfl;obtain rfl:=h.ev3 rfl;obtain rfl:=h.ev4 rfl;obtain rfl:=h.ev5 rfl;obtain rfl:=h.ev6 rfl;obtain rfl:=h.ev7 rfl;simp only [Act.put,sS]
     rename World=>w3
     have H3:=h.g;clear h;cases hv:insB x.p x.q y.p y.q
     ·have EV:=Lib.hid hv;clear hv;rw [Bool.not_false]
      go_wp2_with fail
      go_ret
      refine ⟨?_,H3.below⟩;rw [show insC x y=false from by unfold insC;rw [HI.out.1 (by omega),HI.out.2.1 (by omega),EV.out];simp]
      try rfl
     ·have EV:=Lib.hid hv;clear hv;rw [Bool.not_true]
      go_wp2_with fail
      go_roundw
      case rel=>exact ⟨3,by omega,rfl,fun _=>HI.out.1 (by omega),fun _=>HI.out.2.1 (by omega),fun _=>EV.out,fun h=>absurd h (by omega),⟨H3.below,by have:=HR0.base;omega,Nat.le_trans HR0.size H3.size,fun p hp=>⟨(HR0.rd p hp).1,(H3.rd p hp).2⟩⟩⟩
      case measure=>simp only [intOf];omega
   ·rw [show ((3:Nat):Int)=(3:Int) from rfl];have HN:=HR.size
    go_upto_region 5 with fail
    refine region_sets (Ck3.I w.heap.size b4 b5 wr.heap.size x y w) (by kernel_rfl) ?_ ?_ ?_
    ·refine ⟨false,false,false,false,false,false,false,false,u15,u16,u17,u18,u19,u20,u21,u22,rfl,by simp only [Act.put,sS],?_⟩;constructor
     ·exact hoA
     ·(first|(simp;done)|(simp;omega))
     ·(omega)
     all_goals (intro h;cases h)
    ·intro L a' w' hI i hi;obtain ⟨l0,l1,l2,l3,l4,l5,l6,l7,v0,v1,v2,v3,v4,v5,v6,v7,rfl,rfl,h⟩:=hI;have hlt:=ready_lt hi
     match i,hi,hlt with
     |0,hi,_=>
      obtain rfl:l0=false:=rl rfl hi;clear hi hlt;have H:=Lib.hid h;clear h;refine wpOp_shut rfl (fun K hK=>?_)
      try simp only [Act.put,sS]
      go_simp;refine hK.out _ _ ?_;unfold Ck3.I;refine ⟨_,_,_,_,_,_,_,_,(.int .i64 3),v1,v2,v3,v4,v5,v6,v7,rfl,?_,?_⟩
      ·simp only [Act.put,sS]
      ·exact {H.out with ev0:=fun _=>rfl}
     |1,hi,_=>
      obtain rfl:l1=false:=rl rfl hi;obtain rfl:l0=true:=rk rfl hi 0 .data;clear hi hlt;obtain rfl:=h.ev0 rfl;have H:=Lib.hid h;clear h;refine wpOp_shut rfl (fun K hK=>?_)
      try simp only [Act.put,sS]
      go_simp;refine hK.out _ _ ?_;unfold Ck3.I;refine ⟨_,_,_,_,_,_,_,_,(.int .i64 3),(.pointer (some ⟨b4,6,none⟩)),v2,v3,v4,v5,v6,v7,rfl,?_,?_⟩
      ·simp only [Act.put,sS]
      ·exact {H.out with ev1:=fun _=>rfl}
     |2,hi,_=>
      obtain rfl:l2=false:=rl rfl hi;obtain rfl:l1=true:=rk rfl hi 1 .data;clear hi hlt;obtain rfl:=h.ev1 rfl;have c:=(h.g.at 1 rfl).c;have H:=Lib.hid h;clear h;refine wpOp_shut rfl (fun K hK=>?_)
      try simp only [Act.put,sS]
      go_simp;refine hK.out _ _ ?_;unfold Ck3.I;refine ⟨_,_,_,_,_,_,_,_,v0,(.pointer (some ⟨b4,6,none⟩)),((iv x.r x.s)),v3,v4,v5,v6,v7,rfl,?_,?_⟩
      ·simp only [Act.put,sS]
      ·exact {H.out with ev2:=fun _=>rfl}
     |3,hi,_=>
      obtain rfl:l3=false:=rl rfl hi;clear hi hlt;have H:=Lib.hid h;clear h;refine wpOp_shut rfl (fun K hK=>?_)
      try simp only [Act.put,sS]
      go_simp;refine hK.out _ _ ?_;unfold Ck3.I;refine ⟨_,_,_,_,_,_,_,_,v0,v1,v2,(.int .i64 3),v4,v5,v6,v7,rfl,?_,?_⟩
      ·simp only [Act.put,sS]
      ·exact {H.out with ev3:=fun _=>rfl}
     |4,hi,_=>
      obtain rfl:l4=false:=rl rfl hi;obtain rfl:l3=true:=rk rfl hi 3 .data;clear hi hlt;obtain rfl:=h.ev3 rfl;have H:=Lib.hid h;clear h;refine wpOp_shut rfl (fun K hK=>?_)
      try simp only [Act.put,sS]
      go_simp;refine hK.out _ _ ?_;unfold Ck3.I;refine ⟨_,_,_,_,_,_,_,_,v0,v1,v2,(.int .i64 3),(.pointer (some ⟨b5,6,none⟩)),v5,v6,v7,rfl,?_,?_⟩
      ·simp only [Act.put,sS]
      ·exact {H.out with ev4:=fun _=>rfl}
     |5,hi,_=>
      obtain rfl:l5=false:=rl rfl hi;obtain rfl:l4=true:=rk rfl hi 4 .data;clear hi hlt;obtain rfl:=h.ev4 rfl;have c:=(h.g.at 0 rfl).c;have H:=Lib.hid h;clear h;refine wpOp_shut rfl (fun K hK=>?_)
      try simp only [Act.put,sS]
      go_simp;refine hK.out _ _ ?_;unfold Ck3.I;refine ⟨_,_,_,_,_,_,_,_,v0,v1,v2,v3,(.pointer (some ⟨b5,6,none⟩)),((iv y.r y.s)),v6,v7,rfl,?_,?_⟩
      ·simp only [Act.put,sS]
      ·exact {H.out with ev5:=fun _=>rfl}
     |6,hi,_=>
      obtain rfl:l6=false:=rl rfl hi;obtain rfl:l2=true:=rk rfl hi 2 .data;obtain rfl:l5=true:=rk rfl hi 5 .data;clear hi hlt;obtain rfl:=h.ev2 rfl;obtain rfl:=h.ev5 rfl;have H:=Lib.hid h;clear h;refine wpOp_shut rfl (fun K hK=>?_)
      try simp only [Act.put,sS]
      go_simp;refine (inside_any x.r x.s y.r y.s _).mono ?_;rintro e wY ⟨rfl,hb⟩
      try go_simp
      refine hK.out _ _ ?_;unfold Ck3.I;refine ⟨_,_,_,_,_,_,_,_,v0,v1,((iv x.r x.s)),v3,v4,((iv y.r y.s)),(.bool (insB x.r x.s y.r y.s)),v7,rfl,?_,?_⟩
      ·simp only [Act.put,sS]
      ·exact {(H.out.kept hb) with ev6:=fun _=>rfl}
     |7,hi,_=>
      obtain rfl:l7=false:=rl rfl hi;obtain rfl:l6=true:=rk rfl hi 6 .data;clear hi hlt;obtain rfl:=h.ev6 rfl;have H:=Lib.hid h;clear h;refine wpOp_shut rfl (fun K hK=>?_)
      try simp only [Act.put,sS]
      go_simp;refine hK.out _ _ ?_;unfold Ck3.I;refine ⟨_,_,_,_,_,_,_,_,v0,v1,v2,v3,v4,v5,(.bool (insB x.r x.s y.r y.s)),(.bool (!(insB x.r x.s y.r y.s))),rfl,?_,?_⟩
      ·simp only [Act.put,sS]
      ·exact {H.out with ev7:=fun _=>rfl}
     |i+8,_,hlt=>exact absurd hlt (by simp)
    ·intro L a' w' hI hn;obtain ⟨l0,l1,l2,l3,l4,l5,l6,l7,v0,v1,v2,v3,v4,v5,v6,v7,rfl,rfl,h⟩:=hI;obtain rfl:l0=true:=nr 0 rfl hn;obtain rfl:l1=true:=nr 1 rfl hn;obtain rfl:l2=true:=nr 2 rfl hn;obtain rfl:l3=true:=nr 3 rfl hn;obtain rfl:l4=true:=nr 4 rfl hn;obtain rfl:l5=true:=nr 5 rfl hn;obtain rfl:l6=true:=nr 6 rfl hn;obtain rfl:l7=true:=nr 7 rfl hn;clear hn;obtain rfl:=h.ev0 rfl;obtain rfl:=h.ev1 rfl;obtain rfl:=h.ev2 rfl;obtain rfl:=h.ev3 rfl;obtain rfl:=h.ev4 rfl;obtain rfl:=h.ev5 rfl;obtain rfl:=h.ev6 rfl;obtain rfl:=h.ev7 rfl;simp only [Act.put,sS]
     rename World=>w3
     have H3:=h.g;clear h;cases hv:insB x.r x.s y.r y.s
     ·have EV:=Lib.hid hv;clear hv;rw [Bool.not_false]
      go_wp2_with fail
      go_ret
      refine ⟨?_,H3.below⟩;rw [show insC x y=false from by unfold insC;rw [HI.out.1 (by omega),HI.out.2.1 (by omega),HI.out.2.2.1 (by omega),EV.out];simp]
      try rfl
     ·have EV:=Lib.hid hv;clear hv;rw [Bool.not_true]
      go_wp2_with fail
      go_roundw
      case rel=>exact ⟨4,by omega,rfl,fun _=>HI.out.1 (by omega),fun _=>HI.out.2.1 (by omega),fun _=>HI.out.2.2.1 (by omega),fun _=>EV.out,⟨H3.below,by have:=HR0.base;omega,Nat.le_trans HR0.size H3.size,fun p hp=>⟨(HR0.rd p hp).1,(H3.rd p hp).2⟩⟩⟩
      case measure=>simp only [intOf];omega
   ·rw [show ((4:Nat):Int)=(4:Int) from rfl];have x0:=(HR.at 3 rfl).c;have x1:=(HR.at 2 rfl).c
    go_wp2_with fail
    go_ret
    refine ⟨?_,HR.below⟩;rw [show insC x y=decide (x.f=y.f) from by unfold insC;rw [HI.out.1 (by omega),HI.out.2.1 (by omega),HI.out.2.2.1 (by omega),HI.out.2.2.2 (by omega)];simp]
    try rfl
end Go.Proofs.Ytiecdgcdcpmgaaa.Iv
