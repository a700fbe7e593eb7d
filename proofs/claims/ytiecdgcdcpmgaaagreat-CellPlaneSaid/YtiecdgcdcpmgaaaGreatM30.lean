/- Texts PCi, PHm, PPt. -/
import Derived.Test.YtiecdgcdcpmgaaaGreatM06
import Derived.Test.YtiecdgcdcpmgaaaGreatM27
import Derived.Test.YtiecdgcdcpmgaaaGreatM20

/- Contracts of cell.Inside, of the laws' theirs, and of the reference's Part. -/
namespace Go.Proofs.YtiecdgcdcpmgaaaGreat.Iv
open Go.RowKit
attribute [local go_sem] Oper.semAt_some idx4_0 idx4_1 idx4_2 idx4_3
structure Cj (b0 ab bb n0:Nat) (x y:CV) (w0 w:World) (l0 l1 l2 l3 l4 l5 l6 l7:Bool) (v0 v1 v2 v3 v4 v5:Value) (b4 b5:Nat):Prop where
 g:Ho w0 w n0 [(b0+1,[.int .i64 y.f,.int .i64 y.a,.int .i64 y.b,.int .i64 y.c,.int .i64 y.d,.int .i64 y.p,.int .i64 y.q,.int .i64 y.r,.int .i64 y.s]),(b0,[.int .i64 x.f,.int .i64 x.a,.int .i64 x.b,.int .i64 x.c,.int .i64 x.d,.int .i64 x.p,.int .i64 x.q,.int .i64 x.r,.int .i64 x.s])]
 sz:n0≤w.heap.size
 mn:n0≤n0
 ev0:l0=true→v0 = .agg #[.int .i64 x.f,.int .i64 x.a,.int .i64 x.b,.int .i64 x.c,.int .i64 x.d,.int .i64 x.p,.int .i64 x.q,.int .i64 x.r,.int .i64 x.s]
 ev1:l1=true→v1 = .agg #[.int .i64 x.a,.int .i64 x.b,.int .i64 x.c,.int .i64 x.d,.int .i64 x.p,.int .i64 x.q,.int .i64 x.r,.int .i64 x.s]
 ev2:l2=true→v2 = .agg #[.int .i64 y.f,.int .i64 y.a,.int .i64 y.b,.int .i64 y.c,.int .i64 y.d,.int .i64 y.p,.int .i64 y.q,.int .i64 y.r,.int .i64 y.s]
 ev3:l3=true→v3 = .agg #[.int .i64 y.a,.int .i64 y.b,.int .i64 y.c,.int .i64 y.d,.int .i64 y.p,.int .i64 y.q,.int .i64 y.r,.int .i64 y.s]
 ev4:l4=true→v4 = .pointer (some ⟨b4,0,none⟩)
 ev5:l5=true→v5 = .pointer (some ⟨b5,0,none⟩)
 g4:l4=true→n0≤b4
 t4:l4=true→b4<w.heap.size
 o4:l6=true→l4=true
 z4:l4=true→l6=false→Bx w b4 [.int .i64 0,.int .i64 0,.int .i64 0,.int .i64 0,.int .i64 0,.int .i64 0,.int .i64 0,.int .i64 0]
 s4:l6=true→Bx w b4 [.int .i64 x.a,.int .i64 x.b,.int .i64 x.c,.int .i64 x.d,.int .i64 x.p,.int .i64 x.q,.int .i64 x.r,.int .i64 x.s]
 g5:l5=true→n0≤b5
 t5:l5=true→b5<w.heap.size
 o5:l7=true→l5=true
 z5:l5=true→l7=false→Bx w b5 [.int .i64 0,.int .i64 0,.int .i64 0,.int .i64 0,.int .i64 0,.int .i64 0,.int .i64 0,.int .i64 0]
 s5:l7=true→Bx w b5 [.int .i64 y.a,.int .i64 y.b,.int .i64 y.c,.int .i64 y.d,.int .i64 y.p,.int .i64 y.q,.int .i64 y.r,.int .i64 y.s]
 d4_5:l4=true→l5=true→¬(b4=b5)
theorem Cj.kept {b0 ab bb n0:Nat} {x y:CV} {w0 w:World} {l0 l1 l2 l3 l4 l5 l6 l7:Bool} {v0 v1 v2 v3 v4 v5:Value} {b4 b5:Nat} {w':World} (h:Cj b0 ab bb n0 x y w0 w l0 l1 l2 l3 l4 l5 l6 l7 v0 v1 v2 v3 v4 v5 b4 b5) (hb:Below w.heap.size w w'):Cj b0 ab bb n0 x y w0 w' l0 l1 l2 l3 l4 l5 l6 l7 v0 v1 v2 v3 v4 v5 b4 b5:=
 {h with g:=h.g.call hb,sz:=Nat.le_trans h.sz hb.size,t4:=fun p=>Nat.lt_of_lt_of_le (h.t4 p) hb.size,z4:=fun p q=>(h.z4 p q).kept hb,s4:=fun p=>(h.s4 p).kept hb,t5:=fun p=>Nat.lt_of_lt_of_le (h.t5 p) hb.size,z5:=fun p q=>(h.z5 p q).kept hb,s5:=fun p=>(h.s5 p).kept hb}
structure Ck0 (b0 ab bb n0:Nat) (x y:CV) (w0 w:World) (l0 l1 l2 l3 l4 l5 l6 l7:Bool) (v0 v1 v2 v3 v4 v5 v6 v7:Value):Prop where
 g:Ho w0 w n0 [(bb,[.int .i64 y.a,.int .i64 y.b,.int .i64 y.c,.int .i64 y.d,.int .i64 y.p,.int .i64 y.q,.int .i64 y.r,.int .i64 y.s]),(ab,[.int .i64 x.a,.int .i64 x.b,.int .i64 x.c,.int .i64 x.d,.int .i64 x.p,.int .i64 x.q,.int .i64 x.r,.int .i64 x.s]),(b0+1,[.int .i64 y.f,.int .i64 y.a,.int .i64 y.b,.int .i64 y.c,.int .i64 y.d,.int .i64 y.p,.int .i64 y.q,.int .i64 y.r,.int .i64 y.s]),(b0,[.int .i64 x.f,.int .i64 x.a,.int .i64 x.b,.int .i64 x.c,.int .i64 x.d,.int .i64 x.p,.int .i64 x.q,.int .i64 x.r,.int .i64 x.s])]
 sz:n0≤w.heap.size
 mn:n0≤n0
 ev0:l0=true→v0 = .int .i64 0
 ev1:l1=true→v1 = .pointer (some ⟨ab,0,none⟩)
 ev2:l2=true→v2=(iv x.a x.b)
 ev3:l3=true→v3 = .int .i64 0
 ev4:l4=true→v4 = .pointer (some ⟨bb,0,none⟩)
 ev5:l5=true→v5=(iv y.a y.b)
 ev6:l6=true→v6 = .bool (insB x.a x.b y.a y.b)
 ev7:l7=true→v7 = .bool (!(insB x.a x.b y.a y.b))
theorem Ck0.kept {b0 ab bb n0:Nat} {x y:CV} {w0 w:World} {l0 l1 l2 l3 l4 l5 l6 l7:Bool} {v0 v1 v2 v3 v4 v5 v6 v7:Value} {w':World} (h:Ck0 b0 ab bb n0 x y w0 w l0 l1 l2 l3 l4 l5 l6 l7 v0 v1 v2 v3 v4 v5 v6 v7) (hb:Below w.heap.size w w'):Ck0 b0 ab bb n0 x y w0 w' l0 l1 l2 l3 l4 l5 l6 l7 v0 v1 v2 v3 v4 v5 v6 v7:=
 {h with g:=h.g.call hb,sz:=Nat.le_trans h.sz hb.size}
structure Ck1 (b0 ab bb n0:Nat) (x y:CV) (w0 w:World) (l0 l1 l2 l3 l4 l5 l6 l7:Bool) (v0 v1 v2 v3 v4 v5 v6 v7:Value):Prop where
 g:Ho w0 w n0 [(bb,[.int .i64 y.a,.int .i64 y.b,.int .i64 y.c,.int .i64 y.d,.int .i64 y.p,.int .i64 y.q,.int .i64 y.r,.int .i64 y.s]),(ab,[.int .i64 x.a,.int .i64 x.b,.int .i64 x.c,.int .i64 x.d,.int .i64 x.p,.int .i64 x.q,.int .i64 x.r,.int .i64 x.s]),(b0+1,[.int .i64 y.f,.int .i64 y.a,.int .i64 y.b,.int .i64 y.c,.int .i64 y.d,.int .i64 y.p,.int .i64 y.q,.int .i64 y.r,.int .i64 y.s]),(b0,[.int .i64 x.f,.int .i64 x.a,.int .i64 x.b,.int .i64 x.c,.int .i64 x.d,.int .i64 x.p,.int .i64 x.q,.int .i64 x.r,.int .i64 x.s])]
 sz:n0≤w.heap.size
 mn:n0≤n0
 ev0:l0=true→v0 = .int .i64 1
 ev1:l1=true→v1 = .pointer (some ⟨ab,2,none⟩)
 ev2:l2=true→v2=(iv x.c x.d)
 ev3:l3=true→v3 = .int .i64 1
 ev4:l4=true→v4 = .pointer (some ⟨bb,2,none⟩)
 ev5:l5=true→v5=(iv y.c y.d)
 ev6:l6=true→v6 = .bool (insB x.c x.d y.c y.d)
 ev7:l7=true→v7 = .bool (!(insB x.c x.d y.c y.d))
theorem Ck1.kept {b0 ab bb n0:Nat} {x y:CV} {w0 w:World} {l0 l1 l2 l3 l4 l5 l6 l7:Bool} {v0 v1 v2 v3 v4 v5 v6 v7:Value} {w':World} (h:Ck1 b0 ab bb n0 x y w0 w l0 l1 l2 l3 l4 l5 l6 l7 v0 v1 v2 v3 v4 v5 v6 v7) (hb:Below w.heap.size w w'):Ck1 b0 ab bb n0 x y w0 w' l0 l1 l2 l3 l4 l5 l6 l7 v0 v1 v2 v3 v4 v5 v6 v7:=
 {h with g:=h.g.call hb,sz:=Nat.le_trans h.sz hb.size}
structure Ck2 (b0 ab bb n0:Nat) (x y:CV) (w0 w:World) (l0 l1 l2 l3 l4 l5 l6 l7:Bool) (v0 v1 v2 v3 v4 v5 v6 v7:Value):Prop where
 g:Ho w0 w n0 [(bb,[.int .i64 y.a,.int .i64 y.b,.int .i64 y.c,.int .i64 y.d,.int .i64 y.p,.int .i64 y.q,.int .i64 y.r,.int .i64 y.s]),(ab,[.int .i64 x.a,.int .i64 x.b,.int .i64 x.c,.int .i64 x.d,.int .i64 x.p,.int .i64 x.q,.int .i64 x.r,.int .i64 x.s]),(b0+1,[.int .i64 y.f,.int .i64 y.a,.int .i64 y.b,.int .i64 y.c,.int .i64 y.d,.int .i64 y.p,.int .i64 y.q,.int .i64 y.r,.int .i64 y.s]),(b0,[.int .i64 x.f,.int .i64 x.a,.int .i64 x.b,.int .i64 x.c,.int .i64 x.d,.int .i64 x.p,.int .i64 x.q,.int .i64 x.r,.int .i64 x.s])]
 sz:n0≤w.heap.size
 mn:n0≤n0
 ev0:l0=true→v0 = .int .i64 2
 ev1:l1=true→v1 = .pointer (some ⟨ab,4,none⟩)
 ev2:l2=true→v2=(iv x.p x.q)
 ev3:l3=true→v3 = .int .i64 2
 ev4:l4=true→v4 = .pointer (some ⟨bb,4,none⟩)
 ev5:l5=true→v5=(iv y.p y.q)
 ev6:l6=true→v6 = .bool (insB x.p x.q y.p y.q)
 ev7:l7=true→v7 = .bool (!(insB x.p x.q y.p y.q))
theorem Ck2.kept {b0 ab bb n0:Nat} {x y:CV} {w0 w:World} {l0 l1 l2 l3 l4 l5 l6 l7:Bool} {v0 v1 v2 v3 v4 v5 v6 v7:Value} {w':World} (h:Ck2 b0 ab bb n0 x y w0 w l0 l1 l2 l3 l4 l5 l6 l7 v0 v1 v2 v3 v4 v5 v6 v7) (hb:Below w.heap.size w w'):Ck2 b0 ab bb n0 x y w0 w' l0 l1 l2 l3 l4 l5 l6 l7 v0 v1 v2 v3 v4 v5 v6 v7:=
 {h with g:=h.g.call hb,sz:=Nat.le_trans h.sz hb.size}
structure Ck3 (b0 ab bb n0:Nat) (x y:CV) (w0 w:World) (l0 l1 l2 l3 l4 l5 l6 l7:Bool) (v0 v1 v2 v3 v4 v5 v6 v7:Value):Prop where
 g:Ho w0 w n0 [(bb,[.int .i64 y.a,.int .i64 y.b,.int .i64 y.c,.int .i64 y.d,.int .i64 y.p,.int .i64 y.q,.int .i64 y.r,.int .i64 y.s]),(ab,[.int .i64 x.a,.int .i64 x.b,.int .i64 x.c,.int .i64 x.d,.int .i64 x.p,.int .i64 x.q,.int .i64 x.r,.int .i64 x.s]),(b0+1,[.int .i64 y.f,.int .i64 y.a,.int .i64 y.b,.int .i64 y.c,.int .i64 y.d,.int .i64 y.p,.int .i64 y.q,.int .i64 y.r,.int .i64 y.s]),(b0,[.int .i64 x.f,.int .i64 x.a,.int .i64 x.b,.int .i64 x.c,.int .i64 x.d,.int .i64 x.p,.int .i64 x.q,.int .i64 x.r,.int .i64 x.s])]
 sz:n0≤w.heap.size
 mn:n0≤n0
 ev0:l0=true→v0 = .int .i64 3
 ev1:l1=true→v1 = .pointer (some ⟨ab,6,none⟩)
 ev2:l2=true→v2=(iv x.r x.s)
 ev3:l3=true→v3 = .int .i64 3
 ev4:l4=true→v4 = .pointer (some ⟨bb,6,none⟩)
 ev5:l5=true→v5=(iv y.r y.s)
 ev6:l6=true→v6 = .bool (insB x.r x.s y.r y.s)
 ev7:l7=true→v7 = .bool (!(insB x.r x.s y.r y.s))
theorem Ck3.kept {b0 ab bb n0:Nat} {x y:CV} {w0 w:World} {l0 l1 l2 l3 l4 l5 l6 l7:Bool} {v0 v1 v2 v3 v4 v5 v6 v7:Value} {w':World} (h:Ck3 b0 ab bb n0 x y w0 w l0 l1 l2 l3 l4 l5 l6 l7 v0 v1 v2 v3 v4 v5 v6 v7) (hb:Below w.heap.size w w'):Ck3 b0 ab bb n0 x y w0 w' l0 l1 l2 l3 l4 l5 l6 l7 v0 v1 v2 v3 v4 v5 v6 v7:=
 {h with g:=h.g.call hb,sz:=Nat.le_trans h.sz hb.size}
end Go.Proofs.YtiecdgcdcpmgaaaGreat.Iv

/- Plain facts about the halves of a cell. -/
namespace Go.Proofs.YtiecdgcdcpmgaaaGreat.Iv
open Go.RowKit
end Go.Proofs.YtiecdgcdcpmgaaaGreat.Iv

/- Contracts of layer 32's within, Part and theirs. -/
namespace Go.Proofs.YtiecdgcdcpmgaaaGreat.Iv
open Go.RowKit
attribute [local go_sem] run_min2' run_max2'
theorem theirs32_any (c:CV) (w:World):Calls Tryz.prog 10 #[cellv c] w fun e w'=>e = .returned (cellv c)∧Below w.heap.size w w':=by
 unfold cellv;have H0:=((Ho.nil w).bx [.int .i64 c.f,.int .i64 c.a,.int .i64 c.b,.int .i64 c.c,.int .i64 c.d,.int .i64 c.p,.int .i64 c.q,.int .i64 c.r,.int .i64 c.s] 29 (w.heap.size) (by simp))
 have o_0:Bx ((w.alloc (.cells (List.toArray [.int .i64 c.f,.int .i64 c.a,.int .i64 c.b,.int .i64 c.c,.int .i64 c.d,.int .i64 c.p,.int .i64 c.q,.int .i64 c.r,.int .i64 c.s]) 29)).alloc (.cells (List.toArray [.int .i64 0,.int .i64 0,.int .i64 0,.int .i64 0,.int .i64 0,.int .i64 0,.int .i64 0,.int .i64 0,.int .i64 0]) 41)) (w.heap.size+1) [.int .i64 0,.int .i64 0,.int .i64 0,.int .i64 0,.int .i64 0,.int .i64 0,.int .i64 0,.int .i64 0,.int .i64 0]:=by
  (repeat (first|(with_reducible refine Bx.new ?_;(· (simp;done)))|with_reducible apply Bx.put9|with_reducible apply Bx.put6|with_reducible apply Bx.put2|with_reducible apply Bx.put1|with_reducible refine Bx.set ?_ (by omega)|with_reducible refine Bx.alc ?_ _|with_reducible refine Bx.drew ?_))
 go_enter Tryz.func10,Tryz.ntmps10;have o_0c:=o_0.c;have o_0f:=o_0.f
 go_wp2_with fail
 refine bodyPost_box (b:=w.heap.size+1) (cs:=[.int .i64 c.f,.int .i64 c.a,.int .i64 c.b,.int .i64 c.c,.int .i64 c.d,.int .i64 c.p,.int .i64 c.q,.int .i64 c.r,.int .i64 c.s]) (v:=.agg #[.int .i64 c.f,.int .i64 c.a,.int .i64 c.b,.int .i64 c.c,.int .i64 c.d,.int .i64 c.p,.int .i64 c.q,.int .i64 c.r,.int .i64 c.s]) (by
  (repeat (first|with_reducible exact o_0|(with_reducible refine Bx.new ?_;(· (simp;done)))|with_reducible apply Bx.put9|with_reducible apply Bx.put6|with_reducible apply Bx.put2|with_reducible apply Bx.put1|with_reducible refine Bx.set ?_ (by omega)|with_reducible refine Bx.alc ?_ _|with_reducible refine Bx.drew ?_))) (fun X hX=>by simp [results,Tryz.results10,go_sem,hX]) rfl ⟨rfl,by
  refine Ho.below (n:=w.heap.size+1) (l:=[(w.heap.size,[.int .i64 c.f,.int .i64 c.a,.int .i64 c.b,.int .i64 c.c,.int .i64 c.d,.int .i64 c.p,.int .i64 c.q,.int .i64 c.r,.int .i64 c.s])]) ?_
  exact hoA⟩
end Go.Proofs.YtiecdgcdcpmgaaaGreat.Iv
