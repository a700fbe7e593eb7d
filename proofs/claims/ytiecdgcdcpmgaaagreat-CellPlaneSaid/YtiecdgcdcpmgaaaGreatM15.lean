/- Texts PTw. -/
import Derived.RangeFuncLeaves
import Derived.RangeFuncCalls
import Derived.RangeFuncOwn
import Derived.OwnWalkIn
import Derived.TacticsInMore
import Derived.Below

/- A range over a function whose body always goes on: the caller's law, over whatever the fence lets in. -/
namespace Go.Proofs.YtiecdgcdcpmgaaaGreat.Iv
open Go.RowKit
theorem keeps_below {W W':World} (h:Below W.heap.size W W'):KeepsOthers W W':=⟨h.size,fun k _ hk _=>(h.block k (Array.getElem?_eq_some_iff.1 hk).1).trans hk⟩
theorem range_all {P:Program} {α : Type} {g:Operand} {ps:Array Tmp} {assign body:Code} {Q:Exit→Act→World→Prop} {a:Act} {w:World} {gf:Nat} {lb:Array Value}
  (hg:a.eval g = .func (.func gf) #[] lb) (eg:∀args W,(callFunc gf args).run P W = .ok (.enter gf args) W)
  {encs : α→Array Value} (hps:∀x,(encs x).size=ps.size) (I:List α→World→Prop) (Nx:List α→α→Prop) (T:World→Prop)
  (hI:∀xs W l o o',I xs W→w.heap.size≤l→W.heap[l]? = some o→o.isCells=false→I xs (W.putObj l o'))
  (hT:∀W l o o',T W→w.heap.size≤l→W.heap[l]? = some o→o.isCells=false→T (W.putObj l o'))
  (h0:∀o1 o2,I [] ((w.alloc o1).alloc o2))
  (hround:∀l xs x W,I xs W→Nx xs x→l<W.heap.size→w.heap.size≤l→assign.wpIn (Fence.wide.inRound l) 0 P (Exit.then (fun a₁ W₁=>KeepsOthers W W₁∧∀o o',W₁.heap[l]? = some o→o.isCells=false →
    body.wpIn (Fence.wide.inRound l) 0 P (fun e _ W'=>e = .normal∧KeepsOthers (W₁.putObj l o') W'∧I (xs ++ [x]) W') a₁ (W₁.putObj l o')) (fun _ _ _=>False))
    {tmps:=(ps.zip (encs x)).foldl (fun t (p,v)=>t.setIfInBounds p v) a.tmps,defers:=[]} W)
  (hseq:∀(l:Nat) (Bk:World→Prop),(∀W W',Bk W→KeepsOthers W W'→Bk W') →
   (∀xs x W,I xs W→Bk W→Nx xs x→YieldAt Fence.wide 0 P l (encs x) W fun e W'=>e = .returned (.bool true)∧I (xs ++ [x]) W'∧Bk W') →
   ∀W,I [] W→Bk W→CallsIn Fence.wide 0 P gf (#[.func (.yield l) #[] #[]] ++ lb) W fun e W'=>(∃v,e = .returned v)∧T W'∧Bk W')
  (hdone:∀(D:Nat) (W:World),w.heap.size≤D→T W→W.heap[D]? = some (.deferred (some []))→Q .normal {a with defers:={target:=.collected D,args:=#[]} :: a.defers} W) :
  (Code.rangeFunc g ps assign body).wpIn Fence.wide 0 P Q a w:=by
 refine wpIn_rangeFunc ?_;intro fn hfn;obtain ⟨rc,hrc⟩:∃rc:LoopState→Option Code→Loop,rc=fun st pe=>{state:=st,pending:=pe,fn,tmps:=a.tmps,params:=ps,assign,body,defers:=w.heap.size}:=⟨_,rfl⟩;obtain ⟨W1,hW1⟩:∃W1,(w.alloc (.deferred (some []))).alloc (.loop (rc .ready none))=W1:=⟨_,rfl⟩
 have e1:W1.heap[w.heap.size+1]? = some (.loop (rc .ready none)):=by
  rw [←hW1];have:=World.alloc_heap_new (w.alloc (.deferred (some []))) (.loop (rc .ready none))
  rwa [World.size_alloc] at this
 have e2:W1.heap[w.heap.size]? = some (.deferred (some [])):=by
  rw [←hW1];exact (Below.heap_alloc _ _ _ (by simp)).trans (World.alloc_heap_new w _)
 have eI:I [] W1:=by rw [←hW1];exact h0 _ _
 refine ⟨w.heap.size+1,[{target:=.collected w.heap.size,args:=#[]}],W1,{target:=.fn (.func gf) lb,args:=#[.func (.yield (w.heap.size+1)) #[] #[]]},W1,gf,
  #[.func (.yield (w.heap.size+1)) #[] #[]] ++ lb,W1,?_,?_,fun _ _=>trivial,?_,fun h=>(by cases h),?_⟩
 ·rw [←hW1,hrc];exact run_enterLoop_outer _ _ _ _ _
 ·simp only [resolve,hg];simp [go_sem]
 ·simp [invoke,go_sem,eg]
 refine (hseq (w.heap.size+1) (fun W=>W.heap[w.heap.size+1]? = some (.loop (rc .ready none))∧W.heap[w.heap.size]? = some (.deferred (some [])))
  (fun W W' h k=>⟨k.same _ _ h.1 rfl,k.same _ _ h.2 rfl⟩) ?_ W1 eI ⟨e1,e2⟩).mono ?_
 ·rintro xs x W hi ⟨hl,hk⟩ hn;have hlt:w.heap.size+1<W.heap.size:=(Array.getElem?_eq_some_iff.1 hl).1;have hy:=run_yield (P:=P) (args:=encs x) hl (by rw [hrc];exact hps x);rw [hrc] at hy;refine ⟨fn,_,assign,body,hy,roundIn_of_wpIn hfn (wpIn_mono (hround _ xs x W hi hn hlt (by omega)) ?_)⟩;intro e a1 W2 h
  cases e with
  |normal=>
   obtain ⟨k2,hb⟩:=h;have hl2:=k2.same _ _ hl rfl;have hk2:=k2.same _ _ hk rfl;refine ⟨_,run_beginRound hl2 (by rw [hrc]),wpIn_mono (hb _ _ hl2 rfl) ?_⟩;rintro e3 a3 W3 ⟨rfl,k3,i3⟩;have hl3:W3.heap[w.heap.size+1]? = some (.loop {rc .ready none with state:=.busy}):=k3.same _ _ (World.putObj_heap_same (Array.getElem?_eq_some_iff.1 hl2).1) rfl;have hk3:W3.heap[w.heap.size]? = some (.deferred (some [])):=k3.same _ _ ((World.putObj_heap_other (by omega)).trans hk2) rfl;have hr:=run_endRound (P:=P) none hl3;refine ⟨_,_,hr,rfl,hI _ _ _ _ _ i3 (by omega) hl3 rfl,?_,?_⟩
   ·rw [hrc] at hl3 ⊢;exact World.putObj_heap_same (Array.getElem?_eq_some_iff.1 hl3).1
   ·exact (World.putObj_heap_other (by omega)).trans hk3
  |exit id=>exact h.elim
  |goto t=>exact h.elim
  |ret=>exact h.elim
  |panic c=>exact h.elim
  |outgrown=>exact h.elim
 ·rintro e W2 ⟨⟨v,rfl⟩,ht,hl,hk⟩;exact ⟨none,_,by have:=run_endLoop (P:=P) hl (by rw [hrc];simp);rw [hrc] at this;exact this,hdone _ _ (Nat.le_refl _) (hT _ _ _ _ ht (by omega) hl rfl) ((World.putObj_heap_other (by omega)).trans hk)⟩
end Go.Proofs.YtiecdgcdcpmgaaaGreat.Iv
