/- Contracts of layer 32's within, Part and theirs. -/
import Derived.Test.YtiecdgcdcpmgaaaM20
import Derived.Test.YtiecdgcdcpmgaaaSeDj
import Derived.Test.YtiecdgcdcpmgaaaSeCi
import Derived.Test.YtiecdgcdcpmgaaaSeCr2
import Derived.Test.YtiecdgcdcpmgaaaSeDkM
import Derived.Test.YtiecdgcdcpmgaaaSeDsM
import Derived.Test.YtiecdgcdcpmgaaaSeIeM
import Derived.Test.YtiecdgcdcpmgaaaSeInM
import Derived.Test.YtiecdgcdcpmgaaaSeRf1
import Derived.Test.YtiecdgcdcpmgaaaSeRf2
import Derived.Test.YtiecdgcdcpmgaaaM06
namespace Go.Proofs.Ytiecdgcdcpmgaaa.Iv
open Go.RowKit
attribute [local go_sem] run_min2' run_max2'
set_option maxRecDepth 100000 in
set_option maxHeartbeats 4000000 in
theorem wit32_any (lo hi k l:Int) (w:World) (h:vB lo hi=true) (k0:0≤k) (k1:k≤4294967295) (l0:0≤l) (l1:l≤4294967295) :
  Calls Try.prog 35 #[iv lo hi,.int .u32 k,.int .u32 l] w fun e w'=>e = .returned (iv (partLo lo hi k l) (partHi lo hi k l))∧Below w.heap.size w w':=by
 obtain ⟨a1,a2,a3⟩:=vB_iff.1 h;obtain ⟨b1,b2⟩:=in_ok k a2;obtain ⟨d1,d2⟩:=in_ok l a2;have e1:k.tmod (hi - lo+1)=k % (hi - lo+1):=Int.tmod_eq_emod_of_nonneg k0;have f1:l.tmod (hi - lo+1)=l % (hi - lo+1):=Int.tmod_eq_emod_of_nonneg l0
 have z:(hi - lo+1 == 0)=false:=by simp;omega
 have e0:IntKind.i64.wrap (hi - lo)=hi - lo:=IntWalk.i64_in _ (by omega);have e2:IntKind.i64.wrap (hi - lo+1)=hi - lo+1:=IntWalk.i64_in _ (by omega);unfold partLo partHi;unfold inR at b1 b2 d1 d2 ⊢;obtain ⟨r,hr⟩:∃r,k % (hi - lo+1)=r:=⟨_,rfl⟩;obtain ⟨q,hq⟩:∃q,l % (hi - lo+1)=q:=⟨_,rfl⟩;rw [hr] at e1 b1 b2 ⊢;rw [hq] at f1 d1 d2 ⊢;clear hr hq;rw [show min (lo+r) (lo+q)=lo+min r q from by omega,show max (lo+r) (lo+q)=lo+max r q from by omega];have e3:IntKind.i64.wrap (lo+r)=lo+r:=IntWalk.i64_in _ (by omega);have e4:IntKind.i64.wrap k=k:=IntWalk.i64_in _ (by omega);have e5:IntKind.i64.wrap r=r:=IntWalk.i64_in _ (by omega);have f3:IntKind.i64.wrap (lo+q)=lo+q:=IntWalk.i64_in _ (by omega);have f4:IntKind.i64.wrap l=l:=IntWalk.i64_in _ (by omega);have f5:IntKind.i64.wrap q=q:=IntWalk.i64_in _ (by omega);clear h;have H0:=(Ho.nil w).bx [.int .i64 lo,.int .i64 hi] 25 (w.heap.size) (by simp);have O0:Bx ((w.alloc (.cells (List.toArray [.int .i64 lo,.int .i64 hi]) 25)).alloc (.cells (List.toArray [.int .i64 0,.int .i64 0]) 25)) (w.heap.size+1) [.int .i64 0,.int .i64 0]:=Bx.new (by simp);go_enter Try.func35,Try.ntmps35
 go_wp2_with fail
 go_quiet (fail)
 go_wp2_with fail
 refine bodyPost_box (b:=w.heap.size+1) (cs:=[.int .i64 (lo+min r q),.int .i64 (lo+max r q)]) (v:=iv (lo+min r q) (lo+max r q)) (by
  (with_reducible repeat (first|exact O0|apply Bx.put2|refine Bx.drewn ?_ _))) (fun X hX=>by simp [results,Try.results35,go_sem,hX]) rfl ⟨rfl,by
  refine Ho.below (n:=w.heap.size+1) (l:=[(w.heap.size,[.int .i64 lo,.int .i64 hi])]) ?_
  (with_reducible repeat (first|exact H0|refine Ho.drewn ?_ _|refine Ho.alc ?_ _|refine Ho.put ?_ (by omega)))⟩
def partC (c:CV) (k:Nat→Int):CV:=⟨c.f,partLo c.a c.b (k 0) (k 1),partHi c.a c.b (k 0) (k 1),partLo c.c c.d (k 2) (k 3),partHi c.c c.d (k 2) (k 3),partLo c.p c.q (k 4) (k 5),partHi c.p c.q (k 4) (k 5),partLo c.r c.s (k 6) (k 7),partHi c.r c.s (k 6) (k 7)⟩
set_option maxRecDepth 100000 in
set_option maxHeartbeats 4000000 in
theorem partc_any (c:CV) (k:Nat→Int) (w:World) (h:vC c=true) (u:∀i,i<8→0≤k i∧k i≤4294967295) :
  Calls Try.prog 15 #[cellv c,.agg #[.int .u32 (k 0),.int .u32 (k 1),.int .u32 (k 2),.int .u32 (k 3),.int .u32 (k 4),.int .u32 (k 5),.int .u32 (k 6),.int .u32 (k 7)]] w fun e w'=>e = .returned (cellv (partC c k))∧Below w.heap.size w w':=by
 have hv:vB c.a c.b=true∧vB c.c c.d=true∧vB c.p c.q=true∧vB c.r c.s=true:=by simpa [vC] using h
 have V:=Lib.hid hv;obtain ⟨k0,h0⟩:∃x,k 0=x:=⟨_,rfl⟩;obtain ⟨k1,h1⟩:∃x,k 1=x:=⟨_,rfl⟩;obtain ⟨k2,h2⟩:∃x,k 2=x:=⟨_,rfl⟩;obtain ⟨k3,h3⟩:∃x,k 3=x:=⟨_,rfl⟩;obtain ⟨k4,h4⟩:∃x,k 4=x:=⟨_,rfl⟩;obtain ⟨k5,h5⟩:∃x,k 5=x:=⟨_,rfl⟩;obtain ⟨k6,h6⟩:∃x,k 6=x:=⟨_,rfl⟩;obtain ⟨k7,h7⟩:∃x,k 7=x:=⟨_,rfl⟩
 have U:=Lib.hid (show ∀i,i<8→0 ≤ [k0,k1,k2,k3,k4,k5,k6,k7].getD i 0∧[k0,k1,k2,k3,k4,k5,k6,k7].getD i 0≤4294967295 from by
  intro i hi;have:=u i hi
  match i,hi with
  |0,_=>rw [h0] at this;exact this
  |1,_=>rw [h1] at this;exact this
  |2,_=>rw [h2] at this;exact this
  |3,_=>rw [h3] at this;exact this
  |4,_=>rw [h4] at this;exact this
  |5,_=>rw [h5] at this;exact this
  |6,_=>rw [h6] at this;exact this
  |7,_=>rw [h7] at this;exact this)
 unfold partC cellv;rw [h0,h1,h2,h3,h4,h5,h6,h7];clear h hv u h0 h1 h2 h3 h4 h5 h6 h7;have H0:=(((Ho.nil w).bx [.int .i64 c.f,.int .i64 c.a,.int .i64 c.b,.int .i64 c.c,.int .i64 c.d,.int .i64 c.p,.int .i64 c.q,.int .i64 c.r,.int .i64 c.s] 29 (w.heap.size) (by simp)).bx [.int .u32 k0,.int .u32 k1,.int .u32 k2,.int .u32 k3,.int .u32 k4,.int .u32 k5,.int .u32 k6,.int .u32 k7] 31 (w.heap.size+1) (by simp));have O0:Bx (((w.alloc (.cells (List.toArray [.int .i64 c.f,.int .i64 c.a,.int .i64 c.b,.int .i64 c.c,.int .i64 c.d,.int .i64 c.p,.int .i64 c.q,.int .i64 c.r,.int .i64 c.s]) 29)).alloc (.cells (List.toArray [.int .u32 k0,.int .u32 k1,.int .u32 k2,.int .u32 k3,.int .u32 k4,.int .u32 k5,.int .u32 k6,.int .u32 k7]) 31)).alloc (.cells (List.toArray [.int .i64 0,.int .i64 0,.int .i64 0,.int .i64 0,.int .i64 0,.int .i64 0,.int .i64 0,.int .i64 0,.int .i64 0]) 29)) (w.heap.size+1+1) [.int .i64 0,.int .i64 0,.int .i64 0,.int .i64 0,.int .i64 0,.int .i64 0,.int .i64 0,.int .i64 0,.int .i64 0]:=Bx.new (by simp);have HX:=(H0.alc (.cells (List.toArray [.int .i64 0,.int .i64 0,.int .i64 0,.int .i64 0,.int .i64 0,.int .i64 0,.int .i64 0,.int .i64 0,.int .i64 0]) 29)).drew;have OX:=O0.drew;go_enter Try.func15,Try.ntmps15
 go_upto_region 1 with fail
 go_region_held3 (fun X=>(∀j,X.cell? ⟨w.heap.size,j,none⟩ = [.int .i64 c.f,.int .i64 c.a,.int .i64 c.b,.int .i64 c.c,.int .i64 c.d,.int .i64 c.p,.int .i64 c.q,.int .i64 c.r,.int .i64 c.s][j]?)∧(∀j,X.cell? ⟨w.heap.size+1,j,none⟩ = [.int .u32 k0,.int .u32 k1,.int .u32 k2,.int .u32 k3,.int .u32 k4,.int .u32 k5,.int .u32 k6,.int .u32 k7][j]?)) (with_reducible first|exact ⟨(HX.at 1 rfl).c,(HX.at 0 rfl).c⟩|exact ⟨(HA.at 1 rfl).c,(HA.at 0 rfl).c⟩|exact ⟨(HB.at 1 rfl).c,(HB.at 0 rfl).c⟩|exact ⟨(HC.at 1 rfl).c,(HC.at 0 rfl).c⟩|exact ⟨(HD.at 1 rfl).c,(HD.at 0 rfl).c⟩|exact ⟨((((((((((HD.put (Nat.le_refl _)).put (Nat.le_refl _)).put (Nat.le_refl _)).put (Nat.le_refl _)).put (Nat.le_refl _)).put (Nat.le_refl _)).put (Nat.le_refl _)).put (Nat.le_refl _)).put (Nat.le_refl _)).at 1 rfl).c,((((((((((HD.put (Nat.le_refl _)).put (Nat.le_refl _)).put (Nat.le_refl _)).put (Nat.le_refl _)).put (Nat.le_refl _)).put (Nat.le_refl _)).put (Nat.le_refl _)).put (Nat.le_refl _)).put (Nat.le_refl _)).at 0 rfl).c⟩)
  (first
   |(have hm:=hmarkC;go_at_call 35;refine (wit32_any c.r c.s k6 k7 _ V.out.2.2.2 (U.out 6 (by decide)).1 (U.out 6 (by decide)).2 (U.out 7 (by decide)).1 (U.out 7 (by decide)).2).mono ?_;rintro e wD ⟨rfl,hb⟩;have HD:=HC.call hb;have OD:=OC.kept hb;have oc:=OD.c;have of:=OD.f;have ol:=OD.lt)
   |(have hm:=hmarkB;go_at_call 35;refine (wit32_any c.p c.q k4 k5 _ V.out.2.2.1 (U.out 4 (by decide)).1 (U.out 4 (by decide)).2 (U.out 5 (by decide)).1 (U.out 5 (by decide)).2).mono ?_;rintro e wC ⟨rfl,hb⟩;have HC:=HB.call hb;have OC:=OB.kept hb;have hmarkC:wC=wC:=rfl)
   |(have hm:=hmarkA;go_at_call 35;refine (wit32_any c.c c.d k2 k3 _ V.out.2.1 (U.out 2 (by decide)).1 (U.out 2 (by decide)).2 (U.out 3 (by decide)).1 (U.out 3 (by decide)).2).mono ?_;rintro e wB ⟨rfl,hb⟩;have HB:=HA.call hb;have OB:=OA.kept hb;have hmarkB:wB=wB:=rfl)
   |(go_at_call 35;refine (wit32_any c.a c.b k0 k1 _ V.out.1 (U.out 0 (by decide)).1 (U.out 0 (by decide)).2 (U.out 1 (by decide)).1 (U.out 1 (by decide)).2).mono ?_;rintro e wA ⟨rfl,hb⟩;have HA:=HX.call hb;have OA:=OX.kept hb;have hmarkA:wA=wA:=rfl))
 go_wp2_with fail
 refine bodyPost_box (b:=w.heap.size+1+1) (cs:=[.int .i64 c.f,.int .i64 (partLo c.a c.b k0 k1),.int .i64 (partHi c.a c.b k0 k1),.int .i64 (partLo c.c c.d k2 k3),.int .i64 (partHi c.c c.d k2 k3),.int .i64 (partLo c.p c.q k4 k5),.int .i64 (partHi c.p c.q k4 k5),.int .i64 (partLo c.r c.s k6 k7),.int .i64 (partHi c.r c.s k6 k7)]) (v:=.agg #[.int .i64 c.f,.int .i64 (partLo c.a c.b k0 k1),.int .i64 (partHi c.a c.b k0 k1),.int .i64 (partLo c.c c.d k2 k3),.int .i64 (partHi c.c c.d k2 k3),.int .i64 (partLo c.p c.q k4 k5),.int .i64 (partHi c.p c.q k4 k5),.int .i64 (partLo c.r c.s k6 k7),.int .i64 (partHi c.r c.s k6 k7)]) (by
  (with_reducible repeat (first|exact OD|apply Bx.put9|refine Bx.drew ?_))) (fun X hX=>by simp [results,Try.results15,go_sem,hX]) rfl ⟨rfl,by
  refine Ho.below (n:=w.heap.size+1+1) (l:=[(w.heap.size+1,[.int .u32 k0,.int .u32 k1,.int .u32 k2,.int .u32 k3,.int .u32 k4,.int .u32 k5,.int .u32 k6,.int .u32 k7]),(w.heap.size,[.int .i64 c.f,.int .i64 c.a,.int .i64 c.b,.int .i64 c.c,.int .i64 c.d,.int .i64 c.p,.int .i64 c.q,.int .i64 c.r,.int .i64 c.s])]) ?_
  (with_reducible repeat (first|exact HD|refine Ho.drew ?_|refine Ho.put ?_ (Nat.le_refl _)))⟩
theorem theirs32_any (c:CV) (w:World):Calls Try.prog 14 #[cellv c] w fun e w'=>e = .returned (cellv c)∧Below w.heap.size w w':=by
 unfold cellv;have H0:=((Ho.nil w).bx [.int .i64 c.f,.int .i64 c.a,.int .i64 c.b,.int .i64 c.c,.int .i64 c.d,.int .i64 c.p,.int .i64 c.q,.int .i64 c.r,.int .i64 c.s] 29 (w.heap.size) (by simp))
 have o_0:Bx ((w.alloc (.cells (List.toArray [.int .i64 c.f,.int .i64 c.a,.int .i64 c.b,.int .i64 c.c,.int .i64 c.d,.int .i64 c.p,.int .i64 c.q,.int .i64 c.r,.int .i64 c.s]) 29)).alloc (.cells (List.toArray [.int .i64 0,.int .i64 0,.int .i64 0,.int .i64 0,.int .i64 0,.int .i64 0,.int .i64 0,.int .i64 0,.int .i64 0]) 40)) (w.heap.size+1) [.int .i64 0,.int .i64 0,.int .i64 0,.int .i64 0,.int .i64 0,.int .i64 0,.int .i64 0,.int .i64 0,.int .i64 0]:=by
  (repeat (first|(with_reducible refine Bx.new ?_;(· (simp;done)))|with_reducible apply Bx.put9|with_reducible apply Bx.put6|with_reducible apply Bx.put2|with_reducible apply Bx.put1|with_reducible refine Bx.set ?_ (by omega)|with_reducible refine Bx.alc ?_ _|with_reducible refine Bx.drew ?_))
 go_enter Try.func14,Try.ntmps14;have o_0c:=o_0.c;have o_0f:=o_0.f
 go_wp2_with fail
 refine bodyPost_box (b:=w.heap.size+1) (cs:=[.int .i64 c.f,.int .i64 c.a,.int .i64 c.b,.int .i64 c.c,.int .i64 c.d,.int .i64 c.p,.int .i64 c.q,.int .i64 c.r,.int .i64 c.s]) (v:=.agg #[.int .i64 c.f,.int .i64 c.a,.int .i64 c.b,.int .i64 c.c,.int .i64 c.d,.int .i64 c.p,.int .i64 c.q,.int .i64 c.r,.int .i64 c.s]) (by
  (repeat (first|with_reducible exact o_0|(with_reducible refine Bx.new ?_;(· (simp;done)))|with_reducible apply Bx.put9|with_reducible apply Bx.put6|with_reducible apply Bx.put2|with_reducible apply Bx.put1|with_reducible refine Bx.set ?_ (by omega)|with_reducible refine Bx.alc ?_ _|with_reducible refine Bx.drew ?_))) (fun X hX=>by simp [results,Try.results14,go_sem,hX]) rfl ⟨rfl,by
  refine Ho.below (n:=w.heap.size+1) (l:=[(w.heap.size,[.int .i64 c.f,.int .i64 c.a,.int .i64 c.b,.int .i64 c.c,.int .i64 c.d,.int .i64 c.p,.int .i64 c.q,.int .i64 c.r,.int .i64 c.s])]) ?_
  exact hoA⟩
end Go.Proofs.Ytiecdgcdcpmgaaa.Iv
