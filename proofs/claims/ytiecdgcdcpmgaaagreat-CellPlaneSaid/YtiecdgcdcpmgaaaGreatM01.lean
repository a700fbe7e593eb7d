/- Texts PRg. -/
import Derived.Deep.RegionHeld3
import Derived.Below
import Derived.WalkKit
import Derived.WalkSpells
import Derived.WalkLawsBesides
import Derived.WalkSmall
import Derived.Tactics2

/- A region that draws its order, by sets of what is done: one proof for each operation, whatever the order. Boxes that are read, boxes of one's own, and what a walk carries. -/
namespace Go.Proofs.YtiecdgcdcpmgaaaGreat.Iv
open Go.RowKit
theorem count_set {L:Array Bool} {i:Nat} (h:L.getD i true=false):(L.setIfInBounds i true).toList.count false+1=L.toList.count false:=by
 have hlt:i<L.size:=by
  rcases Nat.lt_or_ge i L.size with h'|h'
  ·exact h'
  ·simp [Array.getD,Nat.not_lt.2 h'] at h
 have hv:L[i]=false:=by simpa [Array.getD,hlt] using h
 obtain ⟨l⟩:=L;simp at hlt hv ⊢;rw [List.count_set (by simpa using hlt)];simp [hv];have:0<l.count false:=List.count_pos_iff.2 (hv▸List.getElem_mem hlt);omega
theorem wpAny_sets {P:Program} {ops:Array Oper} {Q:Exit→Act→World→Prop} {md:Region.Mode} (I:Array Bool→Act→World→Prop)
  (hs:∀L a w,I L a w→∀i∈Region.ready md ops L,wpOp P ops Q i (I (L.setIfInBounds i true)) a w)
  (hd:∀L a w,I L a w→Region.ready md ops L = []→Q .normal a w) :
  ∀fuel L a w,L.toList.count false≤fuel→I L a w→wpAny P md ops Q fuel L a w:=by
 intro fuel
 induction fuel with
 |zero=>
  intro L a w hL hI
  have:Region.ready md ops L = []:=by
   rw [List.eq_nil_iff_forall_not_mem];intro j hj;have:=count_set (mem_ready.1 hj).1;omega
  exact ⟨this,hd L a w hI this⟩
 |succ fuel ih=>
  intro L a w hL hI;refine ⟨hd L a w hI,fun i hi=>wpOp_mono (fun a' w' h=>ih _ a' w' ?_ h) (hs L a w hI i hi)⟩;have:=count_set (mem_ready.1 hi).1;omega
theorem region_sets {P:Program} {ops:Array Oper} {Q:Exit→Act→World→Prop} {id:Nat} {a:Act} {w:World} (I:Act→Array Bool→Act→World→Prop) (hm:P.follows .mixedOrders=true)
  (h0:I a (Array.replicate ops.size false) a w.drew)
  (hs:∀L a' w',I a L a' w'→∀i∈Region.ready .any ops L,wpOp P ops Q i (I a (L.setIfInBounds i true)) a' w')
  (hd:∀L a' w',I a L a' w'→Region.ready .any ops L = []→Q .normal a' w'):(Code.region id ops true).wp P Q a w:=
 wp_region_any hm (wpAny_sets (I a) hs hd ops.size _ a _ (Nat.le_trans List.count_le_length (by simp)) h0)
theorem ready_op {ops:Array Oper} {md:Region.Mode} {i:Nat} {L:Array Bool} {o:Oper} (ho:ops[i]? = some o) (h:i∈Region.ready md ops L):L.getD i true=false∧∀e∈o.after,Region.binds md e=true→L.getD e.on false=true:=by
 obtain ⟨h1,o',h2,h3⟩:=mem_ready.1 h;rw [ho] at h2;cases h2;exact ⟨h1,h3⟩
theorem not_ready {ops:Array Oper} {md:Region.Mode} {i:Nat} {L:Array Bool} {o:Oper} (ho:ops[i]? = some o) (hn:Region.ready md ops L = []) (h:∀e∈o.after,Region.binds md e=true→L.getD e.on false=true):L.getD i true=true:=by
 cases hc:L.getD i true with
 |true=>rfl
 |false=>have:i∈Region.ready md ops L:=mem_ready.2 ⟨hc,o,ho,h⟩;rw [hn] at this;cases this
theorem ready_lt {ops:Array Oper} {md:Region.Mode} {i:Nat} {L:Array Bool} (h:i∈Region.ready md ops L):i<ops.size:=by
 obtain ⟨h1,o',h2,h3⟩:=mem_ready.1 h;exact (Array.getElem?_eq_some_iff.1 h2).1
theorem wpOp_shut {P:Program} {ops:Array Oper} {Q:Exit→Act→World→Prop} {i:Nat} {o:Oper} {K:Act→World→Prop} {a:Act} {w:World} (ho:ops[i]? = some o)
  (h:∀K':Act→World→Prop,Shut (∀a w,K a w→K' a w)→if Region.wanted o (yielded ops a.tmps)=true then Oper.wp P o a w K' Q else K' (a.put o.dst undef) w):wpOp P ops Q i K a w:=
 wpOp_step ho h
structure Rd (W:World) (b:Nat) (cs:List Value):Prop where
 lt:b<W.heap.size
 c:∀j,W.cell? ⟨b,j,none⟩=cs[j]?
structure Bx (W:World) (b:Nat) (cs:List Value):Prop where
 lt:b<W.heap.size
 c:∀j,W.cell? ⟨b,j,none⟩=cs[j]?
 f:∀j,W.frozen? ⟨b,j,none⟩=false
theorem Bx.rd {W:World} {b:Nat} {cs:List Value} (h:Bx W b cs):Rd W b cs:=⟨h.lt,h.c⟩
theorem Rd.kept {W W':World} {b:Nat} {cs:List Value} (h:Rd W b cs) (hb:Below W.heap.size W W'):Rd W' b cs:=
 ⟨Nat.lt_of_lt_of_le h.lt hb.size,fun j=>(hb.cell (p:=⟨b,j,none⟩) h.lt).trans (h.c j)⟩
theorem Bx.kept {W W':World} {b:Nat} {cs:List Value} (h:Bx W b cs) (hb:Below W.heap.size W W'):Bx W' b cs:=
 ⟨Nat.lt_of_lt_of_le h.lt hb.size,fun j=>(hb.cell (p:=⟨b,j,none⟩) h.lt).trans (h.c j),fun j=>(hb.frozen (p:=⟨b,j,none⟩) h.lt).trans (h.f j)⟩
theorem Bx.alc {W:World} {b:Nat} {cs:List Value} (h:Bx W b cs) (o:Obj):Bx (W.alloc o) b cs:=h.kept ((Below.refl _ _).alloc (Nat.le_refl _) o)
theorem Bx.drew {W:World} {b:Nat} {cs:List Value} (h:Bx W b cs):Bx W.drew b cs:=h.kept (Below.refl _ _).drew
theorem Rd.set {W:World} {b c i:Nat} {u:Value} {cs:List Value} (h:Rd W b cs) (ne:¬(b=c)):Rd (W.setCell ⟨c,i,none⟩ u) b cs:=
 ⟨by simpa using h.lt,fun j=>(World.cell?_setCell_other _ _ _ _ (fun e=>ne (by injection e with e;exact e.symm))).trans (h.c j)⟩
theorem Bx.set {W:World} {b c i:Nat} {u:Value} {cs:List Value} (h:Bx W b cs) (ne:¬(b=c)):Bx (W.setCell ⟨c,i,none⟩ u) b cs:=
 ⟨by simpa using h.lt,(h.rd.set ne).c,fun j=>(World.frozen?_setCell _ _ _ _).trans (h.f j)⟩
theorem Bx.new {W:World} {b:Nat} {cs:List Value} {t:TypeId} (hb:b=W.heap.size):Bx (W.alloc (.cells cs.toArray t)) b cs:=by
 subst hb;exact ⟨by simp,fun j=>by rw [World.cell?_alloc_new,List.getElem?_toArray],fun j=>by simp⟩
theorem Rd.new {W:World} {b:Nat} {cs:List Value} {t:TypeId} (hb:b=W.heap.size):Rd (W.alloc (.cells cs.toArray t)) b cs:=(Bx.new hb).rd
theorem Bx.put {W:World} {b i:Nat} {u:Value} {cs:List Value} (h:Bx W b cs):Bx (W.setCell ⟨b,i,none⟩ u) b (cs.set i u):=by
 refine ⟨by simpa using h.lt,fun j=>?_,fun j=>(World.frozen?_setCell _ _ _ _).trans (h.f j)⟩;rw [List.getElem?_set]
 by_cases hij:i=j
 ·subst hij;rw [if_pos rfl];split
  ·rename_i hl;exact World.cell?_setCell_same _ _ _ ((h.c i).trans (List.getElem?_eq_getElem hl))
  ·rename_i hl;have h0:W.cell? ⟨b,i,none⟩=none:=(h.c i).trans (List.getElem?_eq_none (by omega));unfold World.cell? World.setCell at *;simp only [Array.getElem?_modify] at *
   cases hq:W.heap[b]? with
   |none=>simp
   |some o=>
    rw [hq] at h0;cases o<;>simp_all
 ·rw [if_neg hij];exact (World.cell?_setCell_other _ _ _ _ (fun e=>hij (by injection e))).trans (h.c j)
structure Ho (w0 W:World) (n:Nat) (l:List (Nat × List Value)):Prop where
 below:Below w0.heap.size w0 W
 base:w0.heap.size≤n
 size:n≤W.heap.size
 rd:∀p∈l,p.1<n∧Rd W p.1 p.2
theorem Ho.nil (w:World):Ho w w w.heap.size []:=⟨Below.refl _ _,Nat.le_refl _,Nat.le_refl _,fun _ h=>nomatch h⟩
theorem Ho.call {w0 W W':World} {n:Nat} {l:List (Nat × List Value)} (h:Ho w0 W n l) (hb:Below W.heap.size W W'):Ho w0 W' n l:=
 ⟨h.below.trans (hb.mono h.below.size),h.base,Nat.le_trans h.size hb.size,fun p hp=>⟨(h.rd p hp).1,(h.rd p hp).2.kept hb⟩⟩
theorem Ho.alc {w0 W:World} {n:Nat} {l:List (Nat × List Value)} (h:Ho w0 W n l) (o:Obj):Ho w0 (W.alloc o) n l:=h.call ((Below.refl _ _).alloc (Nat.le_refl _) o)
theorem Ho.drew {w0 W:World} {n:Nat} {l:List (Nat × List Value)} (h:Ho w0 W n l):Ho w0 W.drew n l:=h.call (Below.refl _ _).drew
theorem Ho.put {w0 W:World} {n:Nat} {l:List (Nat × List Value)} {d i:Nat} {u:Value} (h:Ho w0 W n l) (g:n≤d):Ho w0 (W.setCell ⟨d,i,none⟩ u) n l:=
 ⟨h.below.setCell (Nat.le_trans h.base g) _,h.base,by simpa using h.size,fun p hp=>⟨(h.rd p hp).1,(h.rd p hp).2.set (Nat.ne_of_lt (Nat.lt_of_lt_of_le (h.rd p hp).1 g))⟩⟩
theorem Ho.cons {w0 W:World} {n b:Nat} {l:List (Nat × List Value)} {cs:List Value} (h:Ho w0 W n l) (k:Rd W b cs):Ho w0 W W.heap.size ((b,cs)::l):=
 ⟨h.below,Nat.le_trans h.base h.size,Nat.le_refl _,fun p hp=>by
  rcases List.mem_cons.1 hp with rfl|hp
  ·exact ⟨k.lt,k⟩
  ·exact ⟨(h.rd p hp).2.lt,(h.rd p hp).2⟩⟩
theorem Ho.box {w0 W:World} {n:Nat} {l:List (Nat × List Value)} (h:Ho w0 W n l) (cs:List Value) (t:TypeId):Ho w0 (W.alloc (.cells cs.toArray t)) (W.heap.size+1) ((W.heap.size,cs)::l):=by
 have:=(h.alc (.cells cs.toArray t)).cons (Rd.new (cs:=cs) (t:=t) rfl);simpa using this
theorem Ho.bx {w0 W:World} {n:Nat} {l:List (Nat × List Value)} (h:Ho w0 W n l) (cs:List Value) (t:TypeId) (b:Nat) (hb:b=W.heap.size):Ho w0 (W.alloc (.cells cs.toArray t)) (b+1) ((b,cs)::l):=by
 subst hb;exact h.box cs t
theorem Ho.at {w0 W:World} {n:Nat} {l:List (Nat × List Value)} (h:Ho w0 W n l) {b:Nat} {cs:List Value} (i:Nat) (hi:l[i]? = some (b,cs)):Rd W b cs:=
 (h.rd _ (List.mem_of_getElem? hi)).2
end Go.Proofs.YtiecdgcdcpmgaaaGreat.Iv
