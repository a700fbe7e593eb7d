/- Texts PTh2, PTh3, PTi, PTj. -/
import Derived.Test.YtiecdgcdcpmgaaaGreatM06
import Derived.Test.YtiecdgcdcpmgaaaGreatM17
import Derived.RangeFuncBox

/- The face that a ray hits: hit. -/
namespace Go.Proofs.YtiecdgcdcpmgaaaGreat.Iv
open Go.RowKit
attribute [local go_sem] Oper.semAt_some
def BoxT (W:World) (b:Nat) (t:TypeId) (cs:List Value):Prop:=W.heap[b]? = some (.cells cs.toArray t (0,0))
theorem BoxT.lt {W:World} {b:Nat} {t:TypeId} {cs:List Value} (h:BoxT W b t cs):b<W.heap.size:=(Array.getElem?_eq_some_iff.1 h).1
theorem BoxT.new {W:World} {b:Nat} {t:TypeId} {cs:List Value} (hb:b=W.heap.size):BoxT (W.alloc (.cells cs.toArray t)) b t cs:=by
 subst hb;exact World.alloc_heap_new W _
theorem BoxT.kept {W W':World} {b:Nat} {t:TypeId} {cs:List Value} (h:BoxT W b t cs) (hb:Below W.heap.size W W'):BoxT W' b t cs:=(hb.block b h.lt).trans h
theorem BoxT.alc {W:World} {b:Nat} {t:TypeId} {cs:List Value} (h:BoxT W b t cs) (o:Obj):BoxT (W.alloc o) b t cs:=h.kept ((Below.refl _ _).alloc (Nat.le_refl _) o)
theorem BoxT.grown {W W':World} {b:Nat} {t:TypeId} {cs:List Value} {row:Option Nat} (h:BoxT W b t cs) (hg:W.grownBy W' row) (ne:some b≠row):BoxT W' b t cs:=(hg.block b h.lt ne).trans h
theorem BoxT.rd {W:World} {b:Nat} {t:TypeId} {cs:List Value} (h:BoxT W b t cs):Rd W b cs:=
 ⟨h.lt,fun j=>by simp [World.cell?,show W.heap[b]? = _ from h]⟩
theorem BoxT.not_row {W:World} {b:Nat} {t e:TypeId} {cs:List Value} (h:BoxT W b t cs) (hte:t≠e) {base size k:Nat} {v:Value} {xs:List Value} (hr:W.ownsRow base e size v k xs):some b≠v.ownBlock:=by
 rcases hr.2 with ⟨rfl,_⟩|⟨g,cap,cur,rfl,_,hgb,_⟩
 ·simp [Value.ownBlock]
 ·intro e'
  obtain rfl:b=g:=by simpa [Value.ownBlock] using e'
  have:=(show W.heap[b]? = _ from h).symm.trans hgb;simp at this;exact hte this.2
theorem Rd.grown {W W':World} {b:Nat} {cs:List Value} {row:Option Nat} (h:Rd W b cs) (hg:W.grownBy W' row) (ne:some b≠row):Rd W' b cs:=by
 have hb:=hg.block b h.lt ne;refine ⟨Nat.lt_of_lt_of_le h.lt hg.size,fun j=>?_⟩;rw [←h.c j];simp only [World.cell?,hb]
theorem Bx.grown {W W':World} {b:Nat} {cs:List Value} {row:Option Nat} (h:Bx W b cs) (hg:W.grownBy W' row) (ne:some b≠row):Bx W' b cs:=by
 have hb:=hg.block b h.lt ne;refine ⟨Nat.lt_of_lt_of_le h.lt hg.size,fun j=>?_,fun j=>?_⟩
 ·rw [←h.c j];simp only [World.cell?,hb]
 ·rw [←h.f j];simp only [World.frozen?,hb]
def bcs (na da:Option Addr) (m nc dc:Nat) (i0 i1:Int):List Value:=[.slice na m nc,.slice da m dc,.int .i64 i0,.int .i64 i1]
def rcs (a v:D):List Value:=[.int .i64 a.a,.int .i64 a.b,.int .i64 a.c,.int .i64 a.d,.int .i64 a.e,.int .i64 a.f,.int .i64 v.a,.int .i64 v.b,.int .i64 v.c,.int .i64 v.d,.int .i64 v.e,.int .i64 v.f]
theorem info_way:(Tryz.prog.info? 156).map (fun i=>(i.zero,i.size,i.bytes))=some (some (.agg #[.int .i64 0,.int .i64 0,.int .i64 0,.bool false]),4,32):=by kernel_rfl
structure HI (w:World) (na da:Option Addr) (nc dc:Nat) (l:List (D × Int × Int)) (i0 i1:Int) (a v:D) (e:Int) (bb:W4) (xs:List W4) (W:World):Prop where
 below:Below w.heap.size w W
 sz:w.heap.size+1+1+1+1+1+1+1+1+1+1≤W.heap.size
 out:Bx W (w.heap.size+1+1) [.int .i64 0,.int .i64 0]
 flt:Bx W (w.heap.size+1+1+1) [.int .i64 e]
 bst:Bx W (w.heap.size+1+1+1+1) (wcells bb)
 all:∃u,Boxed W (w.heap.size+1+1+1+1+1+1) 157 u∧W.ownsRow (w.heap.size+1+1+1+1+1) 156 4 u xs.length (wsCells xs)
 q0:BoxT W (w.heap.size+1+1+1+1+1+1+1) 27 (bcs na da l.length nc dc i0 i1)
 q1:BoxT W (w.heap.size+1+1+1+1+1+1+1+1) 84 (rcs a v)
 q2:BoxT W (w.heap.size+1+1+1+1+1+1+1+1+1) 161 [.pointer (some ⟨w.heap.size+1+1+1,0,none⟩)]
theorem HI.kept {w:World} {na da:Option Addr} {nc dc:Nat} {l:List (D × Int × Int)} {i0 i1:Int} {a v:D} {e:Int} {bb:W4} {xs:List W4} {W W':World} (h:HI w na da nc dc l i0 i1 a v e bb xs W) (hb:Below W.heap.size W W'):HI w na da nc dc l i0 i1 a v e bb xs W':=by
 obtain ⟨u,h1,h2⟩:=h.all;have hg:∀k,k<W.heap.size→W'.heap[k]? = W.heap[k]?:=hb.block;refine ⟨h.below.trans (hb.mono h.below.size),Nat.le_trans h.sz hb.size,h.out.kept hb,h.flt.kept hb,h.bst.kept hb,⟨u,(hg _ h1.lt).trans h1,?_⟩,h.q0.kept hb,h.q1.kept hb,h.q2.kept hb⟩;refine ⟨h2.1,?_⟩;rcases h2.2 with h3|⟨g,cap,cur,h3,h4,h5,h6⟩
 ·exact .inl h3
 ·exact .inr ⟨g,cap,cur,h3,h4,(hg _ (Array.getElem?_eq_some_iff.1 h5).1).trans h5,h6⟩
theorem HI.putObj {w:World} {na da:Option Addr} {nc dc:Nat} {l:List (D × Int × Int)} {i0 i1:Int} {a v:D} {e:Int} {bb:W4} {xs:List W4} {W:World} (h:HI w na da nc dc l i0 i1 a v e bb xs W) {k:Nat} {o:Obj} (o':Obj) (hk:w.heap.size+1+1+1+1+1+1+1+1+1+1≤k) (hl:W.heap[k]? = some o) (ho:o.isCells=false):HI w na da nc dc l i0 i1 a v e bb xs (W.putObj k o'):=by
 obtain ⟨u,h1,h2⟩:=h.all;have hg:=grownBy_putObj' W k o';refine ⟨h.below.grown hg h.below.size (fun r e=>by cases e;omega),Nat.le_trans h.sz hg.size,h.out.grown hg (fun e=>by cases e;omega),h.flt.grown hg (fun e=>by cases e;omega),h.bst.grown hg (fun e=>by cases e;omega),⟨u,h1.kept hg (fun e=>by cases e;omega),ownsRow_putObj h2 o' hl ho⟩,h.q0.grown hg (fun e=>by cases e;omega),h.q1.grown hg (fun e=>by cases e;omega),h.q2.grown hg (fun e=>by cases e;omega)⟩
theorem HI.fault {w:World} {na da:Option Addr} {nc dc:Nat} {l:List (D × Int × Int)} {i0 i1:Int} {a v:D} {e E:Int} {bb:W4} {xs:List W4} {W:World} (h:HI w na da nc dc l i0 i1 a v e bb xs W):HI w na da nc dc l i0 i1 a v E bb xs (W.setCell ⟨w.heap.size+1+1+1,0,none⟩ (.int .i64 E)):=by
 obtain ⟨u,h1,h2⟩:=h.all;have hg:=grownBy_setCell' W (w.heap.size+1+1+1) (.int .i64 E)
 have hr:some (w.heap.size+1+1+1)≠u.ownBlock:=by
  rcases h2.2 with ⟨rfl,_⟩|⟨g,cap,cur,rfl,hb,_⟩
  ·simp [Value.ownBlock]
  ·intro e'
   have:w.heap.size+1+1+1=g:=by simpa [Value.ownBlock] using e'
   omega
 exact ⟨h.below.setCell (by simp;omega) _,Nat.le_trans h.sz hg.size,h.out.set (by omega),h.flt.put,h.bst.set (by omega),⟨u,h1.kept hg (fun e=>absurd (Option.some.inj e) (by omega)),h2.kept hg (.inr hr.symm)⟩,h.q0.grown hg (fun e=>absurd (Option.some.inj e) (by omega)),h.q1.grown hg (fun e=>absurd (Option.some.inj e) (by omega)),h.q2.grown hg (fun e=>absurd (Option.some.inj e) (by omega))⟩
theorem HI.start (w:World) (na da:Option Addr) (nc dc:Nat) (l:List (D × Int × Int)) (i0 i1:Int) (a v:D):HI w na da nc dc l i0 i1 a v 0 ⟨0,0,0,false⟩ [] ((((((((((w.alloc (.cells #[.slice na l.length nc,.slice da l.length dc,.int .i64 i0,.int .i64 i1] 27)).alloc (.cells #[.int .i64 a.a,.int .i64 a.b,.int .i64 a.c,.int .i64 a.d,.int .i64 a.e,.int .i64 a.f,.int .i64 v.a,.int .i64 v.b,.int .i64 v.c,.int .i64 v.d,.int .i64 v.e,.int .i64 v.f] 84)).alloc (.cells #[.int .i64 0,.int .i64 0] 25)).alloc (.cells #[.int .i64 0] 48)).alloc (.cells #[.int .i64 0,.int .i64 0,.int .i64 0,.bool false] 156)).alloc (.cells #[] 156)).alloc (.cells #[.slice (some ⟨w.heap.size+1+1+1+1+1,0,none⟩) 0 0] 157)).alloc (.cells #[.slice na l.length nc,.slice da l.length dc,.int .i64 i0,.int .i64 i1] 27)).alloc (.cells #[.int .i64 a.a,.int .i64 a.b,.int .i64 a.c,.int .i64 a.d,.int .i64 a.e,.int .i64 a.f,.int .i64 v.a,.int .i64 v.b,.int .i64 v.c,.int .i64 v.d,.int .i64 v.e,.int .i64 v.f] 84)).alloc (.cells #[.pointer (some ⟨w.heap.size+1+1+1,0,none⟩)] 161)):=by
 refine ⟨?_,by simp,?_,?_,?_,⟨.slice (some ⟨w.heap.size+1+1+1+1+1,0,none⟩) 0 0,?_,rfl,.inr ⟨_,0,#[],rfl,Nat.le_refl _,?_,Nat.le_refl _,Nat.zero_le _,rfl,rfl⟩⟩,?_,?_,?_⟩
 ·repeat (first|exact Below.refl _ _|refine Below.alloc ?_ (by simp;omega) _|refine Below.alloc ?_ (by simp) _)
 ·repeat (first|(with_reducible refine Bx.new ?_;(· (simp;done)))|with_reducible refine Bx.alc ?_ _)
 ·repeat (first|(with_reducible refine Bx.new ?_;(· (simp;done)))|with_reducible refine Bx.alc ?_ _)
 ·show Bx _ _ [.int .i64 0,.int .i64 0,.int .i64 0,.bool false]
  repeat (first|(with_reducible refine Bx.new ?_;(· (simp;done)))|with_reducible refine Bx.alc ?_ _)
 ·show BoxT _ (w.heap.size+1+1+1+1+1+1) 157 [.slice (some ⟨w.heap.size+1+1+1+1+1,0,none⟩) 0 0]
  repeat (first|(with_reducible refine BoxT.new ?_;(· (simp;done)))|with_reducible refine BoxT.alc ?_ _)
 ·show BoxT _ (w.heap.size+1+1+1+1+1) 156 []
  repeat (first|(with_reducible refine BoxT.new ?_;(· (simp;done)))|with_reducible refine BoxT.alc ?_ _)
 ·unfold bcs
  repeat (first|(with_reducible refine BoxT.new ?_;(· (simp;done)))|with_reducible refine BoxT.alc ?_ _)
 ·unfold rcs
  repeat (first|(with_reducible refine BoxT.new ?_;(· (simp;done)))|with_reducible refine BoxT.alc ?_ _)
 ·repeat (first|(with_reducible refine BoxT.new ?_;(· (simp;done)))|with_reducible refine BoxT.alc ?_ _)
theorem row_lt {W:World} {base size k:Nat} {e:TypeId} {v:Value} {xs:List Value} (h:W.ownsRow base e size v k xs) {b:Nat} (hb:b<base∨W.heap.size≤b):some b≠v.ownBlock:=by
 rcases h.2 with ⟨rfl,_⟩|⟨g,cap,cur,rfl,hg,h2,_⟩
 ·simp [Value.ownBlock]
 ·intro e'
  have:b=g:=by simpa [Value.ownBlock] using e'
  have:=(Array.getElem?_eq_some_iff.1 h2).1;omega
theorem HI.app {w:World} {na da:Option Addr} {nc dc:Nat} {l:List (D × Int × Int)} {i0 i1:Int} {a v:D} {e:Int} {bb x:W4} {xs:List W4} {W w1:World} {u u':Value} {tmp:Obj} (h:HI w na da nc dc l i0 i1 a v e bb xs W)
  (h1:Boxed W (w.heap.size+1+1+1+1+1+1) 157 u) (h2:W.ownsRow (w.heap.size+1+1+1+1+1) 156 4 u xs.length (wsCells xs))
  (hown:w1.ownsRow (w.heap.size+1+1+1+1+1) 156 4 u' (xs.length+1) (wsCells xs ++ wcells x)) (hg:(W.alloc tmp).grownBy w1 u.ownBlock) :
  HI w na da nc dc l i0 i1 a v e bb (xs ++ [x]) (w1.setCell ⟨w.heap.size+1+1+1+1+1+1,0,none⟩ u')∧KeepsOthers W (w1.setCell ⟨w.heap.size+1+1+1+1+1+1,0,none⟩ u')∧Boxed w1 (w.heap.size+1+1+1+1+1+1) 157 u:=by
 obtain ⟨a1,a2,a3,a4,a5⟩:=h1.appended (by decide) h2 (by have:=h.sz;omega) (by omega) hown hg;have s2:=grownBy_setCell' w1 (w.heap.size+1+1+1+1+1+1) u';have ne:∀b,b<w.heap.size+1+1+1+1+1→some b≠u.ownBlock:=fun b hb=>row_lt h2 (.inl hb);have q0:=(h.q0.alc tmp).grown hg (h.q0.not_row (by decide) h2);have q1:=(h.q1.alc tmp).grown hg (h.q1.not_row (by decide) h2);have q2:=(h.q2.alc tmp).grown hg (h.q2.not_row (by decide) h2);have hz:=h.sz;refine ⟨⟨h.below.trans (a5.mono (by omega)),Nat.le_trans hz a4.size,?_,?_,?_,⟨u',a2,?_⟩,?_,?_,?_⟩,a4,a1⟩
 ·exact ((h.out.alc tmp).grown hg (ne _ (by omega))).set (by omega)
 ·exact ((h.flt.alc tmp).grown hg (ne _ (by omega))).set (by omega)
 ·exact ((h.bst.alc tmp).grown hg (ne _ (by omega))).set (by omega)
 ·rw [List.length_append,wsCells_snoc];exact a3
 ·exact q0.grown s2 (fun e=>absurd (Option.some.inj e) (by omega))
 ·exact q1.grown s2 (fun e=>absurd (Option.some.inj e) (by omega))
 ·exact q2.grown s2 (fun e=>absurd (Option.some.inj e) (by omega))
theorem grown_set (W:World) (b i:Nat) (u:Value):W.grownBy (W.setCell ⟨b,i,none⟩ u) (some b):=
 ⟨rfl,rfl,rfl,(KeepsWalks.setCell W _ u).size,fun k _ hk=>Below.heap_setCell _ _ _ k (fun e=>hk (by rw [e]))⟩
theorem HI.best {w:World} {na da:Option Addr} {nc dc:Nat} {l:List (D × Int × Int)} {i0 i1:Int} {a v:D} {e:Int} {bb x:W4} {xs:List W4} {W:World} (h:HI w na da nc dc l i0 i1 a v e bb xs W) :
  HI w na da nc dc l i0 i1 a v e x xs ((((W.setCell ⟨w.heap.size+1+1+1+1,0,none⟩ (.int .i64 x.f)).setCell ⟨w.heap.size+1+1+1+1,1,none⟩ (.int .i64 x.l)).setCell ⟨w.heap.size+1+1+1+1,2,none⟩ (.int .i64 x.g)).setCell ⟨w.heap.size+1+1+1+1,3,none⟩ (.bool x.b)):=by
 have one:∀(X:World) (i:Nat) (y:Value) (cs:List Value),(Below w.heap.size w X∧w.heap.size+1+1+1+1+1+1+1+1+1+1≤X.heap.size∧Bx X (w.heap.size+1+1) [.int .i64 0,.int .i64 0]∧Bx X (w.heap.size+1+1+1) [.int .i64 e]∧Bx X (w.heap.size+1+1+1+1) cs∧(∃u,Boxed X (w.heap.size+1+1+1+1+1+1) 157 u∧X.ownsRow (w.heap.size+1+1+1+1+1) 156 4 u xs.length (wsCells xs)) ∧
   BoxT X (w.heap.size+1+1+1+1+1+1+1) 27 (bcs na da l.length nc dc i0 i1)∧BoxT X (w.heap.size+1+1+1+1+1+1+1+1) 84 (rcs a v)∧BoxT X (w.heap.size+1+1+1+1+1+1+1+1+1) 161 [.pointer (some ⟨w.heap.size+1+1+1,0,none⟩)]) →
   (Below w.heap.size w (X.setCell ⟨w.heap.size+1+1+1+1,i,none⟩ y)∧w.heap.size+1+1+1+1+1+1+1+1+1+1≤(X.setCell ⟨w.heap.size+1+1+1+1,i,none⟩ y).heap.size∧Bx (X.setCell ⟨w.heap.size+1+1+1+1,i,none⟩ y) (w.heap.size+1+1) [.int .i64 0,.int .i64 0]∧Bx (X.setCell ⟨w.heap.size+1+1+1+1,i,none⟩ y) (w.heap.size+1+1+1) [.int .i64 e]∧Bx (X.setCell ⟨w.heap.size+1+1+1+1,i,none⟩ y) (w.heap.size+1+1+1+1) (cs.set i y)∧(∃u,Boxed (X.setCell ⟨w.heap.size+1+1+1+1,i,none⟩ y) (w.heap.size+1+1+1+1+1+1) 157 u∧(X.setCell ⟨w.heap.size+1+1+1+1,i,none⟩ y).ownsRow (w.heap.size+1+1+1+1+1) 156 4 u xs.length (wsCells xs)) ∧
   BoxT (X.setCell ⟨w.heap.size+1+1+1+1,i,none⟩ y) (w.heap.size+1+1+1+1+1+1+1) 27 (bcs na da l.length nc dc i0 i1)∧BoxT (X.setCell ⟨w.heap.size+1+1+1+1,i,none⟩ y) (w.heap.size+1+1+1+1+1+1+1+1) 84 (rcs a v)∧BoxT (X.setCell ⟨w.heap.size+1+1+1+1,i,none⟩ y) (w.heap.size+1+1+1+1+1+1+1+1+1) 161 [.pointer (some ⟨w.heap.size+1+1+1,0,none⟩)]):=by
  rintro X i y cs ⟨c1,c2,c3,c4,c5,⟨u,c6,c7⟩,c8,c9,c10⟩;have hg:=grown_set X (w.heap.size+1+1+1+1) i y
  exact ⟨c1.setCell (by simp;omega) _,Nat.le_trans c2 hg.size,c3.set (by omega),c4.set (by omega),c5.put,⟨u,c6.kept hg (fun e=>absurd (Option.some.inj e) (by omega)),c7.kept hg (.inr (row_lt c7 (.inl (by omega))).symm)⟩,
   c8.grown hg (fun e=>absurd (Option.some.inj e) (by omega)),c9.grown hg (fun e=>absurd (Option.some.inj e) (by omega)),c10.grown hg (fun e=>absurd (Option.some.inj e) (by omega))⟩
 obtain ⟨d1,d2,d3,d4,d5,d6,d7,d8,d9⟩:=one _ 3 (.bool x.b) _ (one _ 2 (.int .i64 x.g) _ (one _ 1 (.int .i64 x.l) _ (one W 0 (.int .i64 x.f) _ ⟨h.below,h.sz,h.out,h.flt,h.bst,h.all,h.q0,h.q1,h.q2⟩)));exact ⟨d1,d2,d3,d4,d5,d6,d7,d8,d9⟩
end Go.Proofs.YtiecdgcdcpmgaaaGreat.Iv

/- The face that a ray hits: ways and hit. -/
namespace Go.Proofs.YtiecdgcdcpmgaaaGreat.Iv
open Go.RowKit
attribute [local go_sem] Oper.semAt_some
theorem ways_any (s0 s1 s2 s3:Value) (r0 r1 r2 r3 r4 r5 r6 r7 r8 r9 r10 r11:Value) (p:Option Addr) (w:World) :
  Calls Tryz.prog 106 #[.agg #[s0,s1,s2,s3],.agg #[r0,r1,r2,r3,r4,r5,r6,r7,r8,r9,r10,r11],.pointer p] w fun e w'=>
   e = .returned (.func (.func 120) #[] #[.pointer (some ⟨w.heap.size,0,none⟩),.pointer (some ⟨w.heap.size+1,0,none⟩),.pointer (some ⟨w.heap.size+1+1,0,none⟩)]) ∧
   w'=((w.alloc (.cells #[s0,s1,s2,s3] 27)).alloc (.cells #[r0,r1,r2,r3,r4,r5,r6,r7,r8,r9,r10,r11] 84)).alloc (.cells #[.pointer p] 161):=by
 go_enter Tryz.func106,Tryz.ntmps106
 go_wp2
 go_ret
 exact ⟨rfl,rfl⟩
theorem add0 (g n:Nat):(⟨g,0,none⟩:Addr).add n=⟨g,n,none⟩:=by unfold Addr.add;split<;>simp_all
theorem postM_box {P:Program} {fn:Func} {R:Ending→World→Prop} {a:Act} {D b:Nat} {cs:List Value} {W:World} {v:Value} (hd:a.defers = [{target:=.collected D,args:=#[]}]) (hK:W.heap[D]? = some (.deferred (some []))) (hB:Bx W b cs) (ne:¬(b=D))
  (hr:∀X:World,(∀j,X.cell? ⟨b,j,none⟩=cs[j]?)→(results fn a.tmps).run P X = .ok v X) (hR:R (.returned v) (W.putObj D (.deferred none))):bodyPostM Fence.wide 0 P fn R .ret a W:=by
 obtain ⟨tmps,defers⟩:=a;dsimp only at hd;subst hd;refine ⟨by simp,.inl ⟨_,_,rfl,run_takeDeferred hK,?_⟩⟩;exact ⟨_,hr _ (hB.grown (grownBy_putObj' W D _) (fun e=>ne (Option.some.inj e))).c,hR⟩
theorem below_done {w W:World} {D:Nat} {o:Obj} (h:Below w.heap.size w W) (hD:w.heap.size≤D):Below w.heap.size w (W.putObj D o):=
 h.grown (grownBy_putObj' W D o) h.size (fun r e=>by cases e;exact hD)
set_option maxRecDepth 100000 in
set_option maxHeartbeats 16000000 in
theorem hit_any {na da:Option Addr} {nc dc:Nat} {l:List (D × Int × Int)} {i0 i1:Int} {a v:D} (w:World) (hn:NAt w na (l.map (·.1))) (hp:PAt w da (l.map (·.2))) (hl:l.length≤1000000) :
  Calls Tryz.prog 75 #[.agg #[.slice na l.length nc,.slice da l.length dc,.int .i64 i0,.int .i64 i1],.agg #[.int .i64 a.a,.int .i64 a.b,.int .i64 a.c,.int .i64 a.d,.int .i64 a.e,.int .i64 a.f,.int .i64 v.a,.int .i64 v.b,.int .i64 v.c,.int .i64 v.d,.int .i64 v.e,.int .i64 v.f]] w fun e w'=>
   e = .returned (.tuple #[.int .i64 (hitR l a v).f,iv (hitR l a v).l (hitR l a v).g,.int .i64 (hitR l a v).e])∧Below w.heap.size w w':=by
 refine (callsIn_wide (n:=0)).1 (callsIn_of_wp_marks Tryz.func75 rfl trivial ?_ rfl);refine wpIn_wide.2 ?_;simp only [Tryz.ntmps75,List.size_toArray,List.length_cons,List.length_nil,Nat.reduceAdd,Nat.reduceSub,Array.replicate_succ,Array.replicate_zero,List.push_toArray,List.append_toArray,List.nil_append,List.cons_append];have HN:=Lib.hid hn;have HP:=Lib.hid hp;clear hn hp
 go_wp2_with fail
 refine (ways_any _ _ _ _ _ _ _ _ _ _ _ _ _ _ _ _ _ _).mono ?_;rintro e w1 ⟨rfl,rfl⟩
 go_wp2_with fail
 obtain ⟨i0',hi,hz0,hz1,hz2'⟩:=info_parts info_way;have HI0:=HI.start w na da nc dc l i0 i1 a v;refine (wpIn_wide (n:=0)).1 ?_
 refine range_all (encs:=fun x:W4=>#[.agg (wcells x).toArray]) rfl (enters_of Tryz.func120 (by kernel_rfl) rfl) (fun _=>rfl) (fun xs=>HI w na da nc dc l i0 i1 a v 0 (bestR xs) xs) (fun xs _=>xs.length<l.length)
  (fun W=>∃xs,HI w na da nc dc l i0 i1 a v (waysR a v 0 l).e (bestR xs) xs W∧((waysR a v 0 l).e=0→xs=(waysR a v 0 l).l)) ?_ ?_ ?_ ?_ ?_ ?_
 ·exact fun xs W k o o' h hk hl ho=>h.putObj o' (by simp at hk;omega) hl ho
 ·exact fun W k o o' h hk hl ho=>by obtain ⟨xs,h,h2⟩:=h;exact ⟨xs,h.putObj o' (by simp at hk;omega) hl ho,h2⟩
 ·exact fun o1 o2=>(HI0.kept ((Below.refl _ _).alloc (Nat.le_refl _) o1)).kept ((Below.refl _ _).alloc (Nat.le_refl _) o2)
 ·intro k xs x W h hx hk hk2
  have hk3:w.heap.size+1+1+1+1+1+1+1+1+1+1≤k:=by simp at hk2;omega
  clear HI0 hk2;obtain ⟨xf,xl,xg,xb⟩:=x;dsimp only [wcells]
  gi_wp2
  refine ⟨KeepsOthers.alloc _ _,fun o o' hl ho=>?_⟩;have h2:=(h.kept ((Below.refl _ _).alloc (Nat.le_refl _) (.cells #[.int .i64 xf,.int .i64 xl,.int .i64 xg,.bool xb] 156))).putObj o' hk3 hl ho;have b2:=(Bx.new (W:=W) (b:=W.heap.size) (cs:=[.int .i64 xf,.int .i64 xl,.int .i64 xg,.bool xb]) (t:=156) rfl).grown (grownBy_putObj' _ k o') (fun e=>absurd (Option.some.inj e) (by omega));have hcz:=h.sz;have r1:∀u,W.ownsRow (w.heap.size+1+1+1+1+1) 156 4 u xs.length (wsCells xs)→some W.heap.size≠u.ownBlock:=fun u h=>row_lt h (.inr (Nat.le_refl _));obtain ⟨u,hv0,hr0⟩:=h.all;have hne:=r1 u hr0;have hr:=ownsRow_putObj (hr0.alloc (.cells #[.int .i64 xf,.int .i64 xl,.int .i64 xg,.bool xb] 156)) o' hl ho;have hv:Boxed ((W.alloc (.cells #[.int .i64 xf,.int .i64 xl,.int .i64 xg,.bool xb] 156)).putObj k o') (w.heap.size+1+1+1+1+1+1) 157 u:=(hv0.alloc _).kept (grownBy_putObj' _ k o') (fun e=>absurd (Option.some.inj e) (by omega));clear hv0 hr0 r1 hl ho hk3 h;obtain ⟨W2,hW2⟩:∃W2,(W.alloc (.cells #[.int .i64 xf,.int .i64 xl,.int .i64 xg,.bool xb] 156)).putObj k o'=W2:=⟨_,rfl⟩;rw [hW2] at h2 b2 hr hv ⊢;clear hW2 hk;obtain ⟨c,hc⟩:∃c,W.heap.size=c:=⟨_,rfl⟩;simp only [hc] at b2 hcz hne ⊢;clear hc;obtain ⟨⟨bf,bl,bg,bb⟩,hbest⟩:∃b,bestR xs=b:=⟨_,rfl⟩;have HB:=Lib.hid hbest;rw [hbest] at h2;clear hbest;have hbc:=h2.bst;have hz2:=h2.sz;have hvc:=hv.cell;have hvf:=hv.frozen;have bc2:=b2.c;have bl2:=b2.lt;have H2:=Lib.hid h2;have HC:=Lib.hid hbc;clear h2 hbc
  gi_wp2_with (gi_at_builtin;refine wpListIn_append_own _ rfl _ _ 157 rfl (w.heap.size+1+1+1+1+1) 156 i0' (.agg #[.int .i64 0,.int .i64 0,.int .i64 0,.bool false]) 4 32 Tryz.underlying157 hi hz0 hz1 hz2' rfl (by decide) _ _ _ rfl (hr.alloc _) ⟨W2.heap.size,0,none⟩ 1 1 [.int .i64 xf,.int .i64 xl,.int .i64 xg,.bool xb] rfl rfl ?c1 ?c2 ?c3 ?c4 ?c5 ?_)
  case c1=>
   intro i u hi
   match i,hi with
   |0,hi=>simp at hi;subst hi;simp [Addr.add]
   |1,hi=>simp at hi;subst hi;simp [Addr.add]
   |2,hi=>simp at hi;subst hi;simp [Addr.add]
   |3,hi=>simp at hi;subst hi;simp [Addr.add]
  case c2=>intro u hu;simp at hu;rcases hu with rfl|rfl|rfl|rfl<;>rfl
  case c3=>unfold maxLen;omega
  case c4=>omega
  case c5=>simp;omega
  ·intro u' w1 hown hgrow _;obtain ⟨A1,A2,A3⟩:=H2.out.app hv hr (x:=⟨xf,xl,xg,xb⟩) hown hgrow;have q4:=(HC.out.alc _).grown hgrow (row_lt hr (.inl (by omega)));have e2:=(b2.alc _).grown hgrow hne;obtain ⟨g',cap',rfl⟩:=ownsRow_succ hown
   have n1:¬(c=w.heap.size+1+1+1+1+1+1):=by omega
   have n2:¬(w.heap.size+1+1+1+1+1+1=c):=by omega
   have n3:¬(w.heap.size+1+1+1+1=w.heap.size+1+1+1+1+1+1):=by omega
   have n4:¬(w.heap.size+1+1+1+1+1+1=w.heap.size+1+1+1+1):=by omega
   have n5:¬(c=w.heap.size+1+1+1+1):=by omega
   have n6:¬(w.heap.size+1+1+1+1=c):=by omega
   have x1:=A3.cell;have x2:=A3.frozen;have x3:=e2.c;have x4:=e2.lt;have x5:=q4.c;have x6:=q4.f;have x7:=q4.lt;have x8:=A3.lt;have HA1:=Lib.hid A1;have HA2:=Lib.hid A2;clear hown hgrow A1 A2 A3 q4 e2 hr hv hvc hvf bc2 bl2 b2 H2 HC hi hz0 hz1 hz2' hne hcz;dsimp only [wcells] at x5;cases xb
   ·gi_wp2
    exact ⟨HA2.out,by rw [best_snoc,HB.out];exact HA1.out⟩
   ·cases bb
    ·gi_wp2
     refine ⟨(((HA2.out.trans (KeepsOthers.setCell _ _ _)).trans (KeepsOthers.setCell _ _ _)).trans (KeepsOthers.setCell _ _ _)).trans (KeepsOthers.setCell _ _ _),?_⟩;rw [best_snoc,HB.out,better,if_pos ⟨rfl,.inl rfl⟩];exact HA1.out.best (x:=⟨xf,xl,xg,true⟩)
    ·by_cases hlt:xg<bg
     ·gi_wp2
      refine ⟨(((HA2.out.trans (KeepsOthers.setCell _ _ _)).trans (KeepsOthers.setCell _ _ _)).trans (KeepsOthers.setCell _ _ _)).trans (KeepsOthers.setCell _ _ _),?_⟩;rw [best_snoc,HB.out,better,if_pos ⟨rfl,.inr hlt⟩];exact HA1.out.best (x:=⟨xf,xl,xg,true⟩)
     ·gi_wp2
      refine ⟨HA2.out,?_⟩
      have hno:¬(true=true∧(true=false∨xg<bg)):=by
       rintro ⟨_,h|h⟩
       ·cases h
       ·omega
      rw [best_snoc,HB.out,better,if_neg hno];exact HA1.out
 ·intro k Bk hbk hY W hi' hb';refine (ways1_any (na:=na) (da:=da) (nc:=nc) (dc:=dc) (i0:=i0) (i1:=i1) (a:=a) (v:=v) (fun e xs=>HI w na da nc dc l i0 i1 a v e (bestR xs) xs) (w.heap.size+1+1+1+1+1+1+1) (w.heap.size+1+1+1+1+1+1+1+1) (w.heap.size+1+1+1+1+1+1+1+1+1) (w.heap.size+1+1+1) k Bk ?_ (fun e xs W W' h hb=>h.kept hb) (fun xs W e h=>h.fault) hbk (fun xs x W h hB hl=>hY xs x W h hB hl) hl W hi' hb').mono ?_
  ·exact fun e xs W h=>⟨h.q0.rd,h.q1.rd,h.q2.rd,HN.out.kept h.below,HP.out.kept h.below,h.flt⟩
  ·exact fun e W' h=>h
 ·rintro D W hD ⟨xs,h,hx⟩ hK;obtain ⟨⟨E,L⟩,hw⟩:∃r,waysR a v 0 l=r:=⟨_,rfl⟩;rw [hw] at h hx;dsimp only at h hx ⊢
  have hm:Tryz.prog.follows .mixedOrders=true:=by kernel_rfl
  have hDz:w.heap.size+1+1+1+1+1+1+1+1+1+1≤D:=by simp at hD;omega
  have HW:=Lib.hid hw;have HK:=Lib.hid hK;have HH:=Lib.hid h;have HX:=Lib.hid hx;have f1:=h.flt.c;have f2:=h.flt.lt;have o1:=h.out.c;have o2:=h.out.f;have o3:=h.out.lt
  have fa:¬(w.heap.size+1+1=w.heap.size+1+1+1):=by omega
  have fb:¬(w.heap.size+1+1+1=w.heap.size+1+1):=by omega
  clear hw hK h hx HI0 hi hz0 hz1 hz2' hD
  by_cases hE:E=0
  ·subst hE
   have hxl:xs.length≤1000000:=by
    have:=up_len a v l 0;rw [HW.out] at this;rw [HX.out rfl];exact Nat.le_trans this hl
   obtain rfl:=HX.out rfl;have h:=HH.out;obtain ⟨u,hv,hr⟩:=h.all;have v1:=hv.cell;have v2:=hv.lt;obtain ⟨⟨bf,bl,bg,bb⟩,hbest⟩:∃b,bestR xs=b:=⟨_,rfl⟩;have b1:=h.bst.c;have b2:=h.bst.lt;rw [hbest] at b1;dsimp only [wcells] at b1;have HB:=Lib.hid hbest;clear hbest h
   by_cases hL:xs = []
   ·subst hL
    have hu:∃ao cap,u = .slice ao 0 cap:=by
     rcases hr.2 with ⟨rfl,_⟩|⟨g,cap,cur,rfl,_⟩
     ·exact ⟨_,_,rfl⟩
     ·exact ⟨_,_,rfl⟩
    obtain ⟨ao,cap,rfl⟩:=hu;clear hr hv
    go_wp2_with fail
    refine postM_box (b:=w.heap.size+1+1) (cs:=[.int .i64 0,.int .i64 0]) (v:=.tuple #[.int .i64 0,iv 0 0,.int .i64 7]) rfl ?_ ?_ (by omega) (fun X hX=>by simp [results,Tryz.results75,go_sem,hX]) ⟨?_,?_⟩
    ·exact ((KeepsOthers.setCell _ _ _).trans (KeepsOthers.setCell _ _ _)).same _ _ HK.out rfl
    ·exact Bx.put2 HH.out.out
    ·(rw [hitR,HW.out];dsimp only;rw [if_pos rfl,if_pos rfl])
    ·exact below_done ((HH.out.below.setCell (by simp;omega) _).setCell (by simp;omega) _) (by omega)
   ·have hpos:0<xs.length:=List.length_pos_iff.2 hL;obtain ⟨g,cap,rfl,hg1,hg2⟩:=hr.form hpos;have HR:=Lib.hid hr
    have hp':¬((xs.length:Int)=0):=by omega
    clear hr hv;cases bb
    ·go_wp2_with fail
     refine postM_box (b:=w.heap.size+1+1) (cs:=[.int .i64 0,.int .i64 0]) (v:=.tuple #[.int .i64 0,iv 0 0,.int .i64 20]) rfl ?_ ?_ (by omega) (fun X hX=>by simp [results,Tryz.results75,go_sem,hX]) ⟨?_,?_⟩
     ·exact ((KeepsOthers.setCell _ _ _).trans (KeepsOthers.setCell _ _ _)).same _ _ HK.out rfl
     ·exact Bx.put2 HH.out.out
     ·(rw [hitR,HW.out];dsimp only;rw [if_pos rfl,if_neg hL,HB.out,if_pos rfl])
     ·exact below_done ((HH.out.below.setCell (by simp;omega) _).setCell (by simp;omega) _) (by omega)
    ·go_wp2_with fail
     go_loopw [55] (fun i wr=>∃k:Nat,k≤xs.length∧i = .int .i64 k∧(∀(j:Nat) (x:W4),j<k→xs[j]? = some x→¬(¬(x.f=bf)∧x.l≤bg))∧Below W.heap.size W wr) (fun i _=>xs.length - (intOf i).toNat)
     case atStart=>exact ⟨0,Nat.zero_le _,rfl,fun j x h=>absurd h (by omega),Below.refl _ _⟩
     case round=>
      obtain ⟨k,hk,rfl,hno,hbel⟩:=hrel;have HHr:=Lib.hid (HH.out.kept hbel);have HKr:=Lib.hid ((keeps_below hbel).same _ _ HK.out rfl);have HNO:=Lib.hid hno;have o1:=HHr.out.out.c;have o2:=HHr.out.out.f;have o3:=HHr.out.out.lt
      have b1:∀j,wr.cell? ⟨w.heap.size+1+1+1+1,j,none⟩=([.int .i64 bf,.int .i64 bl,.int .i64 bg,.bool true]:List Value)[j]?:=by
       have:=HHr.out.bst.c;rw [HB.out] at this;exact this
      have b2:=HHr.out.bst.lt;have i15:IntKind.i64.wrap ((k:Int)+1)=(k:Int)+1:=IntWalk.i64_in _ (by omega);clear hno v1 v2 f1 f2 o1 o2 o3 b1 b2;have o1:=HHr.out.out.c;have o2:=HHr.out.out.f;have o3:=HHr.out.out.lt
      have b1:∀j,wr.cell? ⟨w.heap.size+1+1+1+1,j,none⟩=([.int .i64 bf,.int .i64 bl,.int .i64 bg,.bool true]:List Value)[j]?:=by
       have:=HHr.out.bst.c;rw [HB.out] at this;exact this
      have b2:=HHr.out.bst.lt;have hb9:=HHr.out.sz;rcases Nat.lt_or_ge k xs.length with hlt|hge
      ·obtain ⟨⟨xf,xl,xg,xb⟩,hx⟩:∃x,xs[k]? = some x:=⟨_,List.getElem?_eq_getElem hlt⟩;have hc:=HR.out.cells (g:=g) rfl;have gl:g<W.heap.size:=hg2
       have hcell:∀j,j<4→∀u,(wcells ⟨xf,xl,xg,xb⟩)[j]? = some u→wr.cell? ⟨g,k*4+j,none⟩=some u:=by
        intro j hj u hu;have:=hc (k*4+j) u (by rw [wsCells_at xs hx j hj];exact hu);rw [add0] at this;exact (hbel.cell (p:=⟨g,_,none⟩) gl).trans this
       have e0:wr.cell? ⟨g,k*4,none⟩=some (.int .i64 xf):=hcell 0 (by decide) _ rfl;have e1:=hcell 1 (by decide) _ rfl;have e2:=hcell 2 (by decide) _ rfl;have e3:=hcell 3 (by decide) _ rfl;have gl2:g<wr.heap.size:=Nat.lt_of_lt_of_le gl hbel.size
       have hlt':(k:Int)<(xs.length:Int):=by omega
       have p1:¬(w.heap.size+1+1+1+1=wr.heap.size):=by omega
       have p2:¬(w.heap.size+1+1=wr.heap.size):=by omega
       have HX2:=Lib.hid hx;have HBL:=Lib.hid hbel;clear hcell hc gl hx hbel
       by_cases c1:xf=bf
       ·subst c1
        go_wp2_with fail
        go_roundw
        case rel=>
         refine ⟨k+1,hlt,by simp,fun j y hj hy=>?_,HBL.out.alloc (HBL.out.size) _⟩;rcases Nat.lt_or_ge j k with h'|h'
         ·exact HNO.out j y h' hy
         ·obtain rfl:j=k:=by omega
          rw [HX2.out] at hy;cases hy;exact fun h=>h.1 rfl
        case measure=>simp only [intOf];omega
       ·by_cases c2:xl≤bg
        ·go_wp2_with fail
         refine postM_box (b:=w.heap.size+1+1) (cs:=[.int .i64 0,.int .i64 0]) (v:=.tuple #[.int .i64 0,iv 0 0,.int .i64 20]) rfl ?_ ?_ (by omega) (fun X hX=>by simp [results,Tryz.results75,go_sem,hX]) ⟨?_,?_⟩
         ·exact (((KeepsOthers.setCell _ _ _).trans (KeepsOthers.setCell _ _ _)).trans (KeepsOthers.alloc _ _)).same _ _ HKr.out rfl
         ·exact (Bx.put2 HHr.out.out).alc _
         ·(rw [hitR,HW.out];dsimp only;rw [if_pos rfl,if_neg hL,HB.out,if_neg (by simp),if_pos (amb_some HX2.out c1 c2)])
         ·exact below_done (((HHr.out.below.setCell (by simp;omega) _).setCell (by simp;omega) _).alloc (by simp;omega) _) (by omega)
        ·go_wp2_with fail
         go_roundw
         case rel=>
          refine ⟨k+1,hlt,by simp,fun j y hj hy=>?_,HBL.out.alloc (HBL.out.size) _⟩;rcases Nat.lt_or_ge j k with h'|h'
          ·exact HNO.out j y h' hy
          ·obtain rfl:j=k:=by omega
           rw [HX2.out] at hy;cases hy;exact fun h=>c2 h.2
         case measure=>simp only [intOf];omega
      ·obtain rfl:k=xs.length:=by omega
       have HA:=Lib.hid (amb_none (b:=⟨bf,bl,bg,true⟩) (fun j x h h2=>HNO.out j x h h2))
       by_cases c1:1073741824<bg
       ·go_wp2_with fail
        refine postM_box (b:=w.heap.size+1+1) (cs:=[.int .i64 0,.int .i64 0]) (v:=.tuple #[.int .i64 0,iv 0 0,.int .i64 3]) rfl ?_ ?_ (by omega) (fun X hX=>by simp [results,Tryz.results75,go_sem,hX]) ⟨?_,?_⟩
        ·exact ((KeepsOthers.setCell _ _ _).trans (KeepsOthers.setCell _ _ _)).same _ _ HKr.out rfl
        ·exact Bx.put2 HHr.out.out
        ·(rw [hitR,HW.out];dsimp only;rw [if_pos rfl,if_neg hL,HB.out,if_neg (by simp),HA.out,if_neg (by decide),if_pos c1])
        ·exact below_done ((HHr.out.below.setCell (by simp;omega) _).setCell (by simp;omega) _) (by omega)
       ·have HC1:=Lib.hid c1
        go_upto_region 23 with fail
        have q1:¬(w.heap.size+1+1+1+1=w.heap.size+1+1):=by omega
        have q2:¬(w.heap.size+1+1=w.heap.size+1+1+1+1):=by omega
        go_region_held3 (fun X=>∀j,X.cell? ⟨w.heap.size+1+1+1+1,j,none⟩=([.int .i64 bf,.int .i64 bl,.int .i64 bg,.bool true]:List Value)[j]?) (first|assumption|(simp [go_sem,b1];done)|(simp [go_sem,b1,q1,q2];done)) (fail)
        all_goals go_wp2_with fail
        all_goals (refine postM_box (b:=w.heap.size+1+1) (cs:=[.int .i64 bl,.int .i64 bg]) (v:=.tuple #[.int .i64 bf,iv bl bg,.int .i64 0]) rfl ?_ ?_ (by omega) (fun X hX=>by simp [results,Tryz.results75,go_sem,hX]) ⟨?_,?_⟩)
        all_goals first
         |exact (((KeepsOthers.setCell _ _ _).trans (KeepsOthers.setCell _ _ _)).trans (KeepsOthers.drew _)).same _ _ HKr.out rfl
         |exact ((KeepsOthers.setCell _ _ _).trans (KeepsOthers.setCell _ _ _)).same _ _ HKr.out rfl
         |exact (Bx.put2 HHr.out.out).drew
         |exact Bx.put2 HHr.out.out
         |(rw [hitR,HW.out];dsimp only;rw [if_pos rfl,if_neg hL,HB.out,if_neg (by simp),HA.out];dsimp only;rw [if_neg (by decide),if_neg (Int.not_lt.2 HC1.out)])
         |exact below_done (((HHr.out.below.setCell (by simp;omega) _).setCell (by simp;omega) _).drew) (by omega)
         |exact below_done ((HHr.out.below.setCell (by simp;omega) _).setCell (by simp;omega) _) (by omega)
  ·go_upto_region 10 with fail
   go_region_held3 (fun X=>X.cell? ⟨w.heap.size+1+1+1,0,none⟩=some (.int .i64 E)) (first|assumption|(simp [go_sem,f1];done)|(simp [go_sem,f1,fa,fb];done)) (fail)
   all_goals go_wp2_with fail
   all_goals (refine postM_box (b:=w.heap.size+1+1) (cs:=[.int .i64 0,.int .i64 0]) (v:=.tuple #[.int .i64 0,iv 0 0,.int .i64 E]) rfl ?_ ?_ (by omega) (fun X hX=>by simp [results,Tryz.results75,go_sem,hX]) ⟨?_,?_⟩)
   all_goals first
    |exact (((KeepsOthers.setCell _ _ _).trans (KeepsOthers.setCell _ _ _)).trans (KeepsOthers.drew _)).same _ _ HK.out rfl
    |exact ((KeepsOthers.setCell _ _ _).trans (KeepsOthers.setCell _ _ _)).same _ _ HK.out rfl
    |exact (Bx.put2 HH.out.out).drew
    |exact Bx.put2 HH.out.out
    |(rw [hitR,HW.out];rw [if_neg hE])
    |exact below_done (((HH.out.below.setCell (by simp;omega) _).setCell (by simp;omega) _).drew) (by omega)
    |exact below_done ((HH.out.below.setCell (by simp;omega) _).setCell (by simp;omega) _) (by omega)
end Go.Proofs.YtiecdgcdcpmgaaaGreat.Iv

/- Contracts of package trace's small functions: validIndex, validRay, Valid, Hit. -/
namespace Go.Proofs.YtiecdgcdcpmgaaaGreat.Iv
open Go.RowKit
attribute [local go_sem] Oper.semAt_some
def vI (a b:Int):Bool:=vB a b && (decide (16777216≤a) && decide (b≤67108864))
theorem vidx_any (a b:Int) (w:World) :
  Calls Tryz.prog 97 #[iv a b] w fun e w'=>e = .returned (.bool (vI a b))∧Below w.heap.size w w':=by
 have H0:=(Ho.nil w).bx [.int .i64 a,.int .i64 b] 25 w.heap.size rfl;cases h1:vB a b
 ·rw [show vI a b=false from by simp [vI,h1]];have E1:=Lib.hid h1;clear h1;go_enter Tryz.func97,Tryz.ntmps97
  go_wp2_with fail
  refine (validb_any a b _).mono ?_;rintro e w1 ⟨rfl,hb⟩;rw [E1.out];have H1:=H0.call hb;clear hb;have x1:=(H1.at 0 rfl).c
  go_wp2_with fail
  go_ret
  exact ⟨rfl,H1.below⟩
 ·have E1:=Lib.hid h1
  by_cases h2:16777216≤a
  ·rw [show vI a b=decide (b≤67108864) from by simp [vI,h1,h2]];clear h1;go_enter Tryz.func97,Tryz.ntmps97
   go_wp2_with fail
   refine (validb_any a b _).mono ?_;rintro e w1 ⟨rfl,hb⟩;rw [E1.out];have H1:=H0.call hb;clear hb;have x1:=(H1.at 0 rfl).c
   go_wp2_with fail
   go_ret
   exact ⟨rfl,H1.below⟩
  ·rw [show vI a b=false from by simp [vI,h2]];clear h1;go_enter Tryz.func97,Tryz.ntmps97
   go_wp2_with fail
   refine (validb_any a b _).mono ?_;rintro e w1 ⟨rfl,hb⟩;rw [E1.out];have H1:=H0.call hb;clear hb;have x1:=(H1.at 0 rfl).c
   go_wp2_with fail
   go_ret
   exact ⟨rfl,H1.below⟩
def rv (a v:D):Value:=.agg #[.int .i64 a.a,.int .i64 a.b,.int .i64 a.c,.int .i64 a.d,.int .i64 a.e,.int .i64 a.f,.int .i64 v.a,.int .i64 v.b,.int .i64 v.c,.int .i64 v.d,.int .i64 v.e,.int .i64 v.f]
theorem vray31_any (a v:D) (w:World) :
  Calls Tryz.prog 70 #[rv a v] w fun e w'=>e = .returned (.bool (vD a && vD v))∧Below w.heap.size w w':=by
 have H0:=(Ho.nil w).bx [.int .i64 a.a,.int .i64 a.b,.int .i64 a.c,.int .i64 a.d,.int .i64 a.e,.int .i64 a.f,.int .i64 v.a,.int .i64 v.b,.int .i64 v.c,.int .i64 v.d,.int .i64 v.e,.int .i64 v.f] 84 w.heap.size rfl;cases hs:vD a
 ·have HS:=Lib.hid hs;clear hs;unfold rv;go_enter Tryz.func70,Tryz.ntmps70
  go_wp2_with fail
  refine (dvalid_any a _).mono ?_;rintro e w1 ⟨rfl,hb⟩;rw [HS.out];have H1:=H0.call hb;clear hb;have x1:=(H1.at 0 rfl).c
  go_wp2_with fail
  go_ret
  exact ⟨rfl,H1.below⟩
 ·have HS:=Lib.hid hs;clear hs;unfold rv;go_enter Tryz.func70,Tryz.ntmps70
  go_wp2_with fail
  refine (dvalid_any a _).mono ?_;rintro e w1 ⟨rfl,hb⟩;rw [HS.out];have H1:=H0.call hb;clear hb;have x1:=(H1.at 0 rfl).c
  go_wp2_with fail
  refine (dvalid_any v _).mono ?_;rintro e w2 ⟨rfl,hb⟩;have H2:=H1.call hb;clear hb x1;have x2:=(H2.at 0 rfl).c
  go_wp2_with fail
  go_ret
  exact ⟨rfl,H2.below⟩
def vBody (L:List D) (M:List (Int × Int)) (i0 i1:Int):Bool:=
 decide (4≤L.length∧L.length≤100∧M.length=L.length) && (vI i0 i1 && (L.all vD && M.all fun p=>vB p.1 p.2))
set_option maxRecDepth 100000 in
set_option maxHeartbeats 16000000 in
theorem vbody_any {na da:Option Addr} {nc dc:Nat} {L:List D} {M:List (Int × Int)} {i0 i1:Int} (w:World) (hn:NAt w na L) (hp:PAt w da M) :
  Calls Tryz.prog 58 #[.agg #[.slice na L.length nc,.slice da M.length dc,.int .i64 i0,.int .i64 i1]] w fun e w'=>e = .returned (.bool (vBody L M i0 i1))∧Below w.heap.size w w':=by
 have H0:=(Ho.nil w).bx [.slice na L.length nc,.slice da M.length dc,.int .i64 i0,.int .i64 i1] 27 w.heap.size rfl;have HN:=Lib.hid hn;have HP:=Lib.hid hp;clear hn hp
 by_cases h1:(L.length:Int)<4
 ·rw [show vBody L M i0 i1=false from by simp [vBody];omega];go_enter Tryz.func58,Tryz.ntmps58
  go_wp2_with fail
  go_ret
  exact ⟨rfl,H0.below⟩
 by_cases h2:100<(L.length:Int)
 ·rw [show vBody L M i0 i1=false from by simp [vBody];omega];go_enter Tryz.func58,Tryz.ntmps58
  go_wp2_with fail
  go_ret
  exact ⟨rfl,H0.below⟩
 by_cases h3:(M.length:Int)=(L.length:Int)
 ·have h3':M.length=L.length:=by omega
  rw [h3'] at H0 ⊢;clear h3;cases h4:vI i0 i1
  ·rw [show vBody L M i0 i1=false from by simp [vBody,h4]];have E4:=Lib.hid h4;clear h4;go_enter Tryz.func58,Tryz.ntmps58
   go_wp2_with fail
   refine (vidx_any i0 i1 _).mono ?_;rintro e w1 ⟨rfl,hb⟩;rw [E4.out];have H1:=H0.call hb;clear hb;have x1:=(H1.at 0 rfl).c
   go_wp2_with fail
   go_ret
   exact ⟨rfl,H1.below⟩
  ·have E4:=Lib.hid h4;have EV:=Lib.hid (show vBody L M i0 i1=(L.all vD && M.all fun p=>vB p.1 p.2) from by simp only [vBody,h4,Bool.true_and];rw [decide_eq_true (by omega),Bool.true_and]);have HM:=Lib.hid h3';clear h4 h3';rw [EV.out];go_enter Tryz.func58,Tryz.ntmps58
   go_wp2_with fail
   refine (vidx_any i0 i1 _).mono ?_;rintro e w1 ⟨rfl,hb⟩;rw [E4.out];have H1:=H0.call hb;have HB1:=Lib.hid hb;clear hb;have x1:=(H1.at 0 rfl).c;have z1:=(H1.at 0 rfl).lt
   go_wp2_with fail
   go_loopw [33] (fun i wr=>∃k:Nat,k≤L.length∧i = .int .i64 k∧(∀j x,j<k→L[j]? = some x→vD x=true)∧(∀j x,j<k→M[j]? = some x→vB x.1 x.2=true)∧Below w1.heap.size w1 wr) (fun i _=>L.length - (intOf i).toNat)
   case atStart=>exact ⟨0,Nat.zero_le _,rfl,fun j x h=>absurd h (by omega),fun j x h=>absurd h (by omega),Below.refl _ _⟩
   case round=>
    obtain ⟨k,hk,rfl,hno,hno2,hbel⟩:=hrel;have Hr:=Lib.hid (H1.call hbel);have HNO:=Lib.hid hno;have HNO2:=Lib.hid hno2;have HBL:=Lib.hid hbel;clear hno hno2 hbel x1 z1;have x2:=(Hr.out.at 0 rfl).c;have z2:=(Hr.out.at 0 rfl).lt;have i15:IntKind.i64.wrap ((k:Int)+1)=(k:Int)+1:=IntWalk.i64_in _ (by omega);have hw0:Below w.heap.size w wr:=Hr.out.below;have HW0:=Lib.hid hw0;clear hw0;rcases Nat.lt_or_ge k L.length with hlt|hge
    ·obtain ⟨n,hx⟩:∃x,L[k]? = some x:=⟨_,List.getElem?_eq_getElem hlt⟩;obtain ⟨⟨p,q⟩,hy⟩:∃x,M[k]? = some x:=⟨_,List.getElem?_eq_getElem (by rw [HM.out];exact hlt)⟩;have hwn:NAt wr na L:=HN.out.kept HW0.out;have hwp:PAt wr da M:=HP.out.kept HW0.out;obtain ⟨nb,no,rfl,nlt,hnc⟩:=hwn (by omega);obtain ⟨pb,po,rfl,plt,hpc⟩:=hwp (by rw [HM.out];omega);have hn:=hnc k n hx;have hp:=hpc k (p,q) hy;have HX:=Lib.hid hx;have HY:=Lib.hid hy;have HP2:=Lib.hid (Rs.mk plt hp:Rs wr pb (po+k*2) [.int .i64 p,.int .i64 q]);have hn0:wr.cell? ⟨nb,no+k*6,none⟩=some (.int .i64 n.a):=hn 0 (by decide);have hn1:wr.cell? ⟨nb,no+k*6+1,none⟩=some (.int .i64 n.b):=hn 1 (by decide);have hn2:wr.cell? ⟨nb,no+k*6+2,none⟩=some (.int .i64 n.c):=hn 2 (by decide);have hn3:wr.cell? ⟨nb,no+k*6+3,none⟩=some (.int .i64 n.d):=hn 3 (by decide);have hn4:wr.cell? ⟨nb,no+k*6+4,none⟩=some (.int .i64 n.e):=hn 4 (by decide);have hn5:wr.cell? ⟨nb,no+k*6+5,none⟩=some (.int .i64 n.f):=hn 5 (by decide)
     have hlt':(k:Int)<(L.length:Int):=by omega
     have hge':(0:Int)≤(k:Int):=by omega
     clear hnc hpc hn hp hx hy;cases hv1:vD n
     ·have EX:=Lib.hid hv1;clear hv1
      go_wp2_with fail
      refine (dvalid_any n _).mono ?_;rintro e w3 ⟨rfl,hb3⟩;rw [EX.out];have H3:=(Hr.out.alc _).call hb3;clear hb3;have x3:=(H3.at 0 rfl).c;have z3:=(H3.at 0 rfl).lt;clear hn0 hn1 hn2 hn3 hn4 hn5 x2 z2
      go_wp2_with fail
      go_ret
      refine ⟨?_,H3.below⟩;rw [show L.all vD=false from by rw [List.all_eq_false];exact ⟨n,List.mem_of_getElem? HX.out,by rw [EX.out];simp⟩];rfl
     ·have EX:=Lib.hid hv1;clear hv1
      go_wp2_with fail
      refine (dvalid_any n _).mono ?_;rintro e w3 ⟨rfl,hb3⟩;rw [EX.out];have H3:=(Hr.out.alc _).call hb3;have P3:=(HP2.out.alc _).kept hb3;have HB3:=Lib.hid (Below.alloc (Below.refl _ _) (Nat.le_refl _) _ |>.trans (hb3.mono (by simp)):Below wr.heap.size wr w3);clear hb3;have x3:=(H3.at 0 rfl).c;have z3:=(H3.at 0 rfl).lt;have c0:w3.cell? ⟨pb,po+k*2,none⟩=some (.int .i64 p):=P3.c 0 (by simp);have c1:w3.cell? ⟨pb,po+k*2+1,none⟩=some (.int .i64 q):=P3.c 1 (by simp);clear hn0 hn1 hn2 hn3 hn4 hn5 x2 z2 P3;cases hv2:vB p q
      ·have EY:=Lib.hid hv2;clear hv2
       go_wp2_with fail
       refine (validb_any p q _).mono ?_;rintro e w4 ⟨rfl,hb4⟩;rw [EY.out];have H4:=H3.call hb4;clear hb4 c0 c1 x3 z3;have x4:=(H4.at 0 rfl).c;have z4:=(H4.at 0 rfl).lt
       go_wp2_with fail
       go_ret
       refine ⟨?_,H4.below⟩;rw [show (M.all fun p=>vB p.1 p.2)=false from by rw [List.all_eq_false];exact ⟨(p,q),List.mem_of_getElem? HY.out,by simp only [EY.out];simp⟩,Bool.and_false];rfl
      ·have EY:=Lib.hid hv2;clear hv2
       go_wp2_with fail
       refine (validb_any p q _).mono ?_;rintro e w4 ⟨rfl,hb4⟩;rw [EY.out];have H4:=H3.call hb4;have HB4:=Lib.hid hb4;clear hb4 c0 c1 x3 z3;have x4:=(H4.at 0 rfl).c;have z4:=(H4.at 0 rfl).lt
       go_wp2_with fail
       go_roundw
       case rel=>
        refine ⟨k+1,hlt,by simp,fun j y hj hy=>?_,fun j y hj hy=>?_,HBL.out.trans ((HB3.out.trans (HB4.out.mono HB3.out.size)).mono HBL.out.size)⟩
        ·rcases Nat.lt_or_ge j k with h'|h'
         ·exact HNO.out j y h' hy
         ·obtain rfl:j=k:=by omega
          rw [HX.out] at hy;cases hy;exact EX.out
        ·rcases Nat.lt_or_ge j k with h'|h'
         ·exact HNO2.out j y h' hy
         ·obtain rfl:j=k:=by omega
          rw [HY.out] at hy;cases hy;exact EY.out
       case measure=>simp only [intOf];omega
    ·obtain rfl:k=L.length:=by omega
     go_wp2_with fail
     go_ret
     refine ⟨?_,Hr.out.below⟩
     rw [show L.all vD=true from by
      rw [List.all_eq_true];intro x hx;obtain ⟨j,hj⟩:=List.getElem?_of_mem hx
      exact HNO.out j x (List.getElem?_eq_some_iff.1 hj).1 hj,show (M.all fun p=>vB p.1 p.2)=true from by
      rw [List.all_eq_true];intro x hx;obtain ⟨j,hj⟩:=List.getElem?_of_mem hx
      exact HNO2.out j x (by have:=(List.getElem?_eq_some_iff.1 hj).1;rwa [HM.out] at this) hj]
     rfl
 ·rw [show vBody L M i0 i1=false from by simp [vBody];omega];go_enter Tryz.func58,Tryz.ntmps58
  go_wp2_with fail
  go_ret
  exact ⟨rfl,H0.below⟩
end Go.Proofs.YtiecdgcdcpmgaaaGreat.Iv

/- Contract of trace.Hit. -/
namespace Go.Proofs.YtiecdgcdcpmgaaaGreat.Iv
open Go.RowKit
attribute [local go_sem] Oper.semAt_some
theorem hitl_any {na da:Option Addr} {nc dc:Nat} {L:List D} {M:List (Int × Int)} {i0 i1:Int} {a v:D} (hM:M.length=L.length) (w:World) (hn:NAt w na L) (hp:PAt w da M) (hl:L.length≤1000000) :
  Calls Tryz.prog 75 #[.agg #[.slice na L.length nc,.slice da L.length dc,.int .i64 i0,.int .i64 i1],.agg #[.int .i64 a.a,.int .i64 a.b,.int .i64 a.c,.int .i64 a.d,.int .i64 a.e,.int .i64 a.f,.int .i64 v.a,.int .i64 v.b,.int .i64 v.c,.int .i64 v.d,.int .i64 v.e,.int .i64 v.f]] w fun e w'=>
   e = .returned (.tuple #[.int .i64 (hitR (L.zip M) a v).f,iv (hitR (L.zip M) a v).l (hitR (L.zip M) a v).g,.int .i64 (hitR (L.zip M) a v).e])∧Below w.heap.size w w':=by
 have e1:(L.zip M).map (·.1)=L:=List.map_fst_zip (by omega);have e2:(L.zip M).map (·.2)=M:=List.map_snd_zip (by omega)
 have e3:(L.zip M).length=L.length:=by rw [List.length_zip,hM,Nat.min_self]
 have:=hit_any (na:=na) (da:=da) (nc:=nc) (dc:=dc) (l:=L.zip M) (i0:=i0) (i1:=i1) (a:=a) (v:=v) w (by rw [e1];exact hn) (by rw [e2];exact hp) (by omega);rw [e3] at this;exact this
theorem vbodyl_any {na da:Option Addr} {nc dc:Nat} {L:List D} {M:List (Int × Int)} {i0 i1:Int} (hM:M.length=L.length) (w:World) (hn:NAt w na L) (hp:PAt w da M) :
  Calls Tryz.prog 58 #[.agg #[.slice na L.length nc,.slice da L.length dc,.int .i64 i0,.int .i64 i1]] w fun e w'=>e = .returned (.bool (vBody L M i0 i1))∧Below w.heap.size w w':=by
 have:=vbody_any (nc:=nc) (dc:=dc) (i0:=i0) (i1:=i1) w hn hp;rw [hM] at this;exact this
end Go.Proofs.YtiecdgcdcpmgaaaGreat.Iv
