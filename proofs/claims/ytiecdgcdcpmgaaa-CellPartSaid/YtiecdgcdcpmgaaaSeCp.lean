/- CellPart returns true, where the plain facts hold. -/
import Derived.Test.YtiecdgcdcpmgaaaSeHe
import Derived.Test.YtiecdgcdcpmgaaaSeRw
import Derived.Test.YtiecdgcdcpmgaaaSePt
import Derived.Test.YtiecdgcdcpmgaaaSeRi0
import Derived.Test.YtiecdgcdcpmgaaaSeAw2
import Derived.Test.YtiecdgcdcpmgaaaSeCi
import Derived.Test.YtiecdgcdcpmgaaaSeCr2
import Derived.Test.YtiecdgcdcpmgaaaSeDj
import Derived.Test.YtiecdgcdcpmgaaaSeDkM
import Derived.Test.YtiecdgcdcpmgaaaSeDrb
import Derived.Test.YtiecdgcdcpmgaaaSeDsM
import Derived.Test.YtiecdgcdcpmgaaaSeEx
import Derived.Test.YtiecdgcdcpmgaaaSeExb
import Derived.Test.YtiecdgcdcpmgaaaSeIeM
import Derived.Test.YtiecdgcdcpmgaaaSeInM
import Derived.Test.YtiecdgcdcpmgaaaSeRf1
import Derived.Test.YtiecdgcdcpmgaaaSeRf2
import Derived.Test.YtiecdgcdcpmgaaaSeRv
import Derived.Test.YtiecdgcdcpmgaaaSeVs1
import Derived.Test.YtiecdgcdcpmgaaaM06
namespace Go.Proofs.Ytiecdgcdcpmgaaa.Iv
open Go.RowKit
attribute [local go_sem] Oper.semAt_some
def partP (L:List D) (M:List (Int × Int)) (i0 i1:Int) (c d:CV):Prop:=
 insC d c=true∧((pointV L M i0 i1 c).e=0→(pointV L M i0 i1 d).e=0∧insD (pointV L M i0 i1 d).d (pointV L M i0 i1 c).d=true) ∧
 ((coverR L M i0 i1 c).2=0→(coverR L M i0 i1 d).2=0∧((coverR L M i0 i1 c).1=3∨(coverR L M i0 i1 c).1=(coverR L M i0 i1 d).1))
set_option maxRecDepth 100000 in
set_option maxHeartbeats 16000000 in
theorem part_law {na da:Option Addr} {nc dc:Nat} {L:List D} {M:List (Int × Int)} {i0 i1:Int} (c:CV) (k:Nat→Int) (w:World) (hn:NAt w na L) (hp:PAt w da M) (hl:L.length*48≤140737488351232)
  (hk:∀i,i<8→0≤k i∧k i≤4294967295)
  (hP:vCell L M i0 i1 c=true→partP L M i0 i1 c (partC c k)) :
  Calls Try.prog 3 #[.agg #[.slice na L.length nc,.slice da M.length dc,.int .i64 i0,.int .i64 i1],cellv c,.agg #[.int .u32 (k 0),.int .u32 (k 1),.int .u32 (k 2),.int .u32 (k 3),.int .u32 (k 4),.int .u32 (k 5),.int .u32 (k 6),.int .u32 (k 7)]] w fun e w'=>e = .returned (.bool true)∧Below w.heap.size w w':=by
 unfold cellv;have HN:=Lib.hid hn;have HP:=Lib.hid hp;have HPP:=Lib.hid hP;have HK:=Lib.hid hk;clear hn hp hP hk;cases hf:fewB L.length M.length
 ·have EF:=Lib.hid hf;clear hf;obtain ⟨V,hv⟩:∃V,vCell L M i0 i1 c=V:=⟨_,rfl⟩;have EV:=Lib.hid hv;clear hv;have H0:=((((Ho.nil w).bx [.slice na L.length nc,.slice da M.length dc,.int .i64 i0,.int .i64 i1] 27 (w.heap.size) (by simp)).bx [.int .i64 c.f,.int .i64 c.a,.int .i64 c.b,.int .i64 c.c,.int .i64 c.d,.int .i64 c.p,.int .i64 c.q,.int .i64 c.r,.int .i64 c.s] 29 (w.heap.size+1) (by simp)).bx [.int .u32 (k 0),.int .u32 (k 1),.int .u32 (k 2),.int .u32 (k 3),.int .u32 (k 4),.int .u32 (k 5),.int .u32 (k 6),.int .u32 (k 7)] 31 (w.heap.size+1+1) (by simp));go_enter Try.func3,Try.ntmps3
  go_wp2_with fail
  refine (awake32_any _).mono ?_;rintro r w1 ⟨rfl,hb⟩;have H1:Ho w w1 (w.heap.size+1+1+1) [(w.heap.size+1+1,[.int .u32 (k 0),.int .u32 (k 1),.int .u32 (k 2),.int .u32 (k 3),.int .u32 (k 4),.int .u32 (k 5),.int .u32 (k 6),.int .u32 (k 7)]),(w.heap.size+1,[.int .i64 c.f,.int .i64 c.a,.int .i64 c.b,.int .i64 c.c,.int .i64 c.d,.int .i64 c.p,.int .i64 c.q,.int .i64 c.r,.int .i64 c.s]),(w.heap.size,[.slice na L.length nc,.slice da M.length dc,.int .i64 i0,.int .i64 i1])]:=Ho.call hoA hb;have hz1:=hb.size
  (try simp at hz1)
  clear hb;have hs1:=H1.size;have h0_1:=(H1.at 2 rfl).c;have hl0_1:=(H1.at 2 rfl).lt;have h1_1:=(H1.at 1 rfl).c;have hl1_1:=(H1.at 1 rfl).lt;have HX:=H1.drew
  go_upto_region 3 with fail
  refine wp_region_held_drew (S:=fun X=>(∀j,X.cell? ⟨w.heap.size,j,none⟩ = [.slice na L.length nc,.slice da M.length dc,.int .i64 i0,.int .i64 i1][j]?)∧(∀j,X.cell? ⟨w.heap.size+1,j,none⟩ = [.int .i64 c.f,.int .i64 c.a,.int .i64 c.b,.int .i64 c.c,.int .i64 c.d,.int .i64 c.p,.int .i64 c.q,.int .i64 c.r,.int .i64 c.s][j]?)) (by kernel_rfl) ?_ (fun hHeld=>?_)
  ·exact ⟨(HX.at 2 rfl).c,(HX.at 1 rfl).c⟩
  refine wpAnyH_take (i:=0) (oi:=_) (v:=?_) rfl (by kernel_rfl) (by kernel_rfl) (by kernel_rfl) (fun _ _ _ h=>h) (Or.inl ⟨by rfl,?_⟩) (by assumption) ?_
  rotate_left
  ·(intro w hSw;(try dsimp only at hSw);go_simp;all_goals with_reducible rfl)
  try simp only [Act.put,List.getElem_toArray,List.getElem_cons_zero,sS]
  refine wpAnyH_ready (rs:=[1]) (by kernel_rfl) (by simp) ?_;refine AllReadyH.cons (o:=_) rfl (fun K hK=>?_) AllReadyH.nil;simp only [List.getElem_toArray,List.getElem_cons_zero,List.getElem_cons_succ];go_simp
  (go_at_call 11;refine (theirs31_any _ (HN.out.kept HX.below) hl).mono ?_;rintro r wxA ⟨⟨uxA,rfl,hrxA⟩,hb⟩;obtain ⟨aoxA,capxA,rfl⟩:=row_form6 hrxA;have HxA:=HX.call hb;have hmarkxA:wxA=wxA:=rfl)
  go_wp2_with fail
  refine hK.out _ _ ⟨(HxA.at 2 rfl).c,(HxA.at 1 rfl).c⟩ (fun hHeld=>?_);clear hK K
  try simp only [Act.put,List.getElem_toArray,List.getElem_cons_zero,List.getElem_cons_succ,sS]
  refine wpAnyH_ready (rs:=[2]) (by kernel_rfl) (by simp) ?_;refine AllReadyH.cons (o:=_) rfl (fun K hK=>?_) AllReadyH.nil;simp only [List.getElem_toArray,List.getElem_cons_zero,List.getElem_cons_succ];go_simp
  (have hm:=hmarkxA;go_at_call 10;refine (few31_any _).mono ?_;rintro r wxB ⟨rfl,hb⟩;rw [EF.out];have HxB:=HxA.call hb;have hmarkxB:wxB=wxB:=rfl)
  go_wp2_with fail
  refine hK.out _ _ ⟨(HxB.at 2 rfl).c,(HxB.at 1 rfl).c⟩ (fun hHeld=>?_);clear hK K
  try simp only [Act.put,List.getElem_toArray,List.getElem_cons_zero,List.getElem_cons_succ,sS]
  refine wpAnyH_take (i:=3) (oi:=_) (v:=?_) rfl (by kernel_rfl) (by kernel_rfl) (by kernel_rfl) (fun _ _ _ h=>h) (Or.inl ⟨by rfl,?_⟩) (by assumption) ?_
  rotate_left
  ·(intro w hSw;(try dsimp only at hSw);go_simp;all_goals with_reducible rfl)
  try simp only [Act.put,List.getElem_toArray,List.getElem_cons_zero,List.getElem_cons_succ,sS]
  refine wpAnyH_take (i:=4) (oi:=_) (v:=?_) rfl (by kernel_rfl) (by kernel_rfl) (by kernel_rfl) (fun _ _ _ h=>h) (Or.inl ⟨by rfl,?_⟩) (by assumption) ?_
  rotate_left
  ·(intro w hSw;(try dsimp only at hSw);go_simp;all_goals with_reducible rfl)
  try simp only [Act.put,List.getElem_toArray,List.getElem_cons_zero,List.getElem_cons_succ,sS]
  refine wpAnyH_take (i:=5) (oi:=_) (v:=undef) rfl (by kernel_rfl) (by kernel_rfl) (by kernel_rfl) (fun _ _ _ h=>h) (Or.inr ⟨by rfl,rfl⟩) (by assumption) ?_
  try simp only [Act.put,List.getElem_toArray,List.getElem_cons_zero,List.getElem_cons_succ,sS]
  refine wpAnyH_take (i:=6) (oi:=_) (v:=undef) rfl (by kernel_rfl) (by kernel_rfl) (by kernel_rfl) (fun _ _ _ h=>h) (Or.inr ⟨by rfl,rfl⟩) (by assumption) ?_
  try simp only [Act.put,List.getElem_toArray,List.getElem_cons_zero,List.getElem_cons_succ,sS]
  refine wpAnyH_take (i:=7) (oi:=_) (v:=undef) rfl (by kernel_rfl) (by kernel_rfl) (by kernel_rfl) (fun _ _ _ h=>h) (Or.inr ⟨by rfl,rfl⟩) (by assumption) ?_
  try simp only [Act.put,List.getElem_toArray,List.getElem_cons_zero,List.getElem_cons_succ,sS]
  refine wpAnyH_take (i:=8) (oi:=_) (v:=undef) rfl (by kernel_rfl) (by kernel_rfl) (by kernel_rfl) (fun _ _ _ h=>h) (Or.inr ⟨by rfl,rfl⟩) (by assumption) ?_
  try simp only [Act.put,List.getElem_toArray,List.getElem_cons_zero,List.getElem_cons_succ,sS]
  refine wpAnyH_take (i:=9) (oi:=_) (v:=?_) rfl (by kernel_rfl) (by kernel_rfl) (by kernel_rfl) (fun _ _ _ h=>h) (Or.inl ⟨by rfl,?_⟩) (by assumption) ?_
  rotate_left
  ·(intro w hSw;(try dsimp only at hSw);go_simp;all_goals with_reducible rfl)
  try simp only [Act.put,List.getElem_toArray,List.getElem_cons_zero,List.getElem_cons_succ,sS]
  refine wpAnyH_take (i:=10) (oi:=_) (v:=?_) rfl (by kernel_rfl) (by kernel_rfl) (by kernel_rfl) (fun _ _ _ h=>h) (Or.inl ⟨by rfl,?_⟩) (by assumption) ?_
  rotate_left
  ·(intro w hSw;(try dsimp only at hSw);go_simp;all_goals with_reducible rfl)
  try simp only [Act.put,List.getElem_toArray,List.getElem_cons_zero,List.getElem_cons_succ,sS]
  refine wpAnyH_take (i:=11) (oi:=_) (v:=undef) rfl (by kernel_rfl) (by kernel_rfl) (by kernel_rfl) (fun _ _ _ h=>h) (Or.inr ⟨by rfl,rfl⟩) (by assumption) ?_
  try simp only [Act.put,List.getElem_toArray,List.getElem_cons_zero,List.getElem_cons_succ,sS]
  refine wpAnyH_take (i:=12) (oi:=_) (v:=undef) rfl (by kernel_rfl) (by kernel_rfl) (by kernel_rfl) (fun _ _ _ h=>h) (Or.inr ⟨by rfl,rfl⟩) (by assumption) ?_
  try simp only [Act.put,List.getElem_toArray,List.getElem_cons_zero,List.getElem_cons_succ,sS]
  refine wpAnyH_take (i:=13) (oi:=_) (v:=undef) rfl (by kernel_rfl) (by kernel_rfl) (by kernel_rfl) (fun _ _ _ h=>h) (Or.inr ⟨by rfl,rfl⟩) (by assumption) ?_
  try simp only [Act.put,List.getElem_toArray,List.getElem_cons_zero,List.getElem_cons_succ,sS]
  refine wpAnyH_take (i:=14) (oi:=_) (v:=undef) rfl (by kernel_rfl) (by kernel_rfl) (by kernel_rfl) (fun _ _ _ h=>h) (Or.inr ⟨by rfl,rfl⟩) (by assumption) ?_
  try simp only [Act.put,List.getElem_toArray,List.getElem_cons_zero,List.getElem_cons_succ,sS]
  refine wpAnyH_take (i:=15) (oi:=_) (v:=undef) rfl (by kernel_rfl) (by kernel_rfl) (by kernel_rfl) (fun _ _ _ h=>h) (Or.inr ⟨by rfl,rfl⟩) (by assumption) ?_
  try simp only [Act.put,List.getElem_toArray,List.getElem_cons_zero,List.getElem_cons_succ,sS]
  refine wpAnyH_take (i:=16) (oi:=_) (v:=undef) rfl (by kernel_rfl) (by kernel_rfl) (by kernel_rfl) (fun _ _ _ h=>h) (Or.inr ⟨by rfl,rfl⟩) (by assumption) ?_
  try simp only [Act.put,List.getElem_toArray,List.getElem_cons_zero,List.getElem_cons_succ,sS]
  refine wpAnyH_take (i:=17) (oi:=_) (v:=?_) rfl (by kernel_rfl) (by kernel_rfl) (by kernel_rfl) (fun _ _ _ h=>h) (Or.inl ⟨by rfl,?_⟩) (by assumption) ?_
  rotate_left
  ·(intro w hSw;(try dsimp only at hSw);go_simp;all_goals with_reducible rfl)
  try simp only [Act.put,List.getElem_toArray,List.getElem_cons_zero,List.getElem_cons_succ,sS]
  refine wpAnyH_done (by kernel_rfl) ?_ _;have HY:=HxB.drew
  go_upto_region 4 with fail
  refine wp_region_held_drew (S:=fun X=>(∀j,X.cell? ⟨w.heap.size,j,none⟩ = [.slice na L.length nc,.slice da M.length dc,.int .i64 i0,.int .i64 i1][j]?)∧(∀j,X.cell? ⟨w.heap.size+1,j,none⟩ = [.int .i64 c.f,.int .i64 c.a,.int .i64 c.b,.int .i64 c.c,.int .i64 c.d,.int .i64 c.p,.int .i64 c.q,.int .i64 c.r,.int .i64 c.s][j]?)) (by kernel_rfl) ?_ (fun hHeld=>?_)
  ·exact ⟨(HY.at 2 rfl).c,(HY.at 1 rfl).c⟩
  refine wpAnyH_take (i:=0) (oi:=_) (v:=?_) rfl (by kernel_rfl) (by kernel_rfl) (by kernel_rfl) (fun _ _ _ h=>h) (Or.inl ⟨by rfl,?_⟩) (by assumption) ?_
  rotate_left
  ·(intro w hSw;(try dsimp only at hSw);go_simp;all_goals with_reducible rfl)
  try simp only [Act.put,List.getElem_toArray,List.getElem_cons_zero,sS]
  refine wpAnyH_take (i:=1) (oi:=_) (v:=?_) rfl (by kernel_rfl) (by kernel_rfl) (by kernel_rfl) (fun _ _ _ h=>h) (Or.inl ⟨by rfl,?_⟩) (by assumption) ?_
  rotate_left
  ·(intro w hSw;(try dsimp only at hSw);go_simp;all_goals with_reducible rfl)
  try simp only [Act.put,List.getElem_toArray,List.getElem_cons_zero,List.getElem_cons_succ,sS]
  refine wpAnyH_take (i:=3) (oi:=_) (v:=?_) rfl (by kernel_rfl) (by kernel_rfl) (by kernel_rfl) (fun _ _ _ h=>h) (Or.inl ⟨by rfl,?_⟩) (by assumption) ?_
  rotate_left
  ·(intro w hSw;(try dsimp only at hSw);go_simp;all_goals with_reducible rfl)
  try simp only [Act.put,List.getElem_toArray,List.getElem_cons_zero,List.getElem_cons_succ,sS]
  refine wpAnyH_take (i:=5) (oi:=_) (v:=?_) rfl (by kernel_rfl) (by kernel_rfl) (by kernel_rfl) (fun _ _ _ h=>h) (Or.inl ⟨by rfl,?_⟩) (by assumption) ?_
  rotate_left
  ·(intro w hSw;(try dsimp only at hSw);go_simp;all_goals with_reducible rfl)
  try simp only [Act.put,List.getElem_toArray,List.getElem_cons_zero,List.getElem_cons_succ,sS]
  refine wpAnyH_ready (rs:=[2]) (by kernel_rfl) (by simp) ?_;refine AllReadyH.cons (o:=_) rfl (fun K hK=>?_) AllReadyH.nil;simp only [List.getElem_toArray,List.getElem_cons_zero,List.getElem_cons_succ];go_simp
  (go_at_call 12;refine (vcell_any c _ (HN.out.kept HY.below) (HP.out.kept HY.below)).mono ?_;rintro r wyA ⟨rfl,hb⟩;rw [EV.out];have HyA:=HY.call hb;have hmarkyA:wyA=wyA:=rfl)
  go_wp2_with fail
  refine hK.out _ _ ⟨(HyA.at 2 rfl).c,(HyA.at 1 rfl).c⟩ (fun hHeld=>?_);clear hK K
  try simp only [Act.put,List.getElem_toArray,List.getElem_cons_zero,List.getElem_cons_succ,sS]
  refine wpAnyH_ready (rs:=[4]) (by kernel_rfl) (by simp) ?_;refine AllReadyH.cons (o:=_) rfl (fun K hK=>?_) AllReadyH.nil;simp only [List.getElem_toArray,List.getElem_cons_zero,List.getElem_cons_succ];go_simp
  (have hm:=hmarkyA;go_at_call 11;refine (theirs31_any _ (HN.out.kept HyA.below) hl).mono ?_;rintro r wyB ⟨⟨uyB,rfl,hryB⟩,hb⟩;obtain ⟨aoyB,capyB,rfl⟩:=row_form6 hryB;have HyB:=HyA.call hb;have NO:=Lib.hid (nat_own hryB);have hmarkyB:wyB=wyB:=rfl)
  go_wp2_with fail
  refine hK.out _ _ ⟨(HyB.at 2 rfl).c,(HyB.at 1 rfl).c⟩ (fun hHeld=>?_);clear hK K
  try simp only [Act.put,List.getElem_toArray,List.getElem_cons_zero,List.getElem_cons_succ,sS]
  refine wpAnyH_ready (rs:=[6]) (by kernel_rfl) (by simp) ?_;refine AllReadyH.cons (o:=_) rfl (fun K hK=>?_) AllReadyH.nil;simp only [List.getElem_toArray,List.getElem_cons_zero,List.getElem_cons_succ];go_simp
  (have hm:=hmarkyB;go_at_call 14;refine (theirs32_any c _).mono ?_;rintro r wyC ⟨rfl,hb⟩;have HyC:=HyB.call hb;have NE:=Lib.hid (NO.out.kept hb);have hmarkyC:wyC=wyC:=rfl)
  go_wp2_with fail
  refine hK.out _ _ ⟨(HyC.at 2 rfl).c,(HyC.at 1 rfl).c⟩ (fun hHeld=>?_);clear hK K
  try simp only [Act.put,List.getElem_toArray,List.getElem_cons_zero,List.getElem_cons_succ,sS]
  refine wpAnyH_ready (rs:=[7]) (by kernel_rfl) (by simp) ?_;refine AllReadyH.cons (o:=_) rfl (fun K hK=>?_) AllReadyH.nil;simp only [List.getElem_toArray,List.getElem_cons_zero,List.getElem_cons_succ];go_simp
  (have hm:=hmarkyC;go_at_call 13;refine (rvcell_any c _ NE.out (HP.out.kept HyC.below)).mono ?_;rintro r wyD ⟨rfl,hb⟩;rw [EV.out];have HyD:=HyC.call hb;have hmarkyD:wyD=wyD:=rfl)
  go_wp2_with fail
  refine hK.out _ _ ⟨(HyD.at 2 rfl).c,(HyD.at 1 rfl).c⟩ (fun hHeld=>?_);clear hK K
  try simp only [Act.put,List.getElem_toArray,List.getElem_cons_zero,List.getElem_cons_succ,sS]
  refine wpAnyH_take (i:=8) (oi:=_) (v:=?_) rfl (by kernel_rfl) (by kernel_rfl) (by kernel_rfl) (fun _ _ _ h=>h) (Or.inl ⟨by rfl,?_⟩) (by assumption) ?_
  rotate_left
  ·(intro w hSw;(try dsimp only at hSw);go_simp;all_goals with_reducible rfl)
  try simp only [Act.put,List.getElem_toArray,List.getElem_cons_zero,List.getElem_cons_succ,sS]
  refine wpAnyH_take (i:=9) (oi:=_) (v:=?_) rfl (by kernel_rfl) (by kernel_rfl) (by kernel_rfl) (fun _ _ _ h=>h) (Or.inl ⟨by rfl,?_⟩) (by assumption) ?_
  rotate_left
  ·(intro w hSw;(try dsimp only at hSw);go_simp;all_goals with_reducible rfl)
  try simp only [Act.put,List.getElem_toArray,List.getElem_cons_zero,List.getElem_cons_succ,sS]
  refine wpAnyH_take (i:=10) (oi:=_) (v:=undef) rfl (by kernel_rfl) (by kernel_rfl) (by kernel_rfl) (fun _ _ _ h=>h) (Or.inr ⟨by rfl,rfl⟩) (by assumption) ?_
  try simp only [Act.put,List.getElem_toArray,List.getElem_cons_zero,List.getElem_cons_succ,sS]
  refine wpAnyH_take (i:=11) (oi:=_) (v:=undef) rfl (by kernel_rfl) (by kernel_rfl) (by kernel_rfl) (fun _ _ _ h=>h) (Or.inr ⟨by rfl,rfl⟩) (by assumption) ?_
  try simp only [Act.put,List.getElem_toArray,List.getElem_cons_zero,List.getElem_cons_succ,sS]
  refine wpAnyH_take (i:=12) (oi:=_) (v:=undef) rfl (by kernel_rfl) (by kernel_rfl) (by kernel_rfl) (fun _ _ _ h=>h) (Or.inr ⟨by rfl,rfl⟩) (by assumption) ?_
  try simp only [Act.put,List.getElem_toArray,List.getElem_cons_zero,List.getElem_cons_succ,sS]
  refine wpAnyH_take (i:=13) (oi:=_) (v:=undef) rfl (by kernel_rfl) (by kernel_rfl) (by kernel_rfl) (fun _ _ _ h=>h) (Or.inr ⟨by rfl,rfl⟩) (by assumption) ?_
  try simp only [Act.put,List.getElem_toArray,List.getElem_cons_zero,List.getElem_cons_succ,sS]
  refine wpAnyH_take (i:=14) (oi:=_) (v:=?_) rfl (by kernel_rfl) (by kernel_rfl) (by kernel_rfl) (fun _ _ _ h=>h) (Or.inl ⟨by rfl,?_⟩) (by assumption) ?_
  rotate_left
  ·(intro w hSw;(try dsimp only at hSw);go_simp;all_goals with_reducible rfl)
  try simp only [Act.put,List.getElem_toArray,List.getElem_cons_zero,List.getElem_cons_succ,sS]
  refine wpAnyH_take (i:=15) (oi:=_) (v:=?_) rfl (by kernel_rfl) (by kernel_rfl) (by kernel_rfl) (fun _ _ _ h=>h) (Or.inl ⟨by rfl,?_⟩) (by assumption) ?_
  rotate_left
  ·(intro w hSw;(try dsimp only at hSw);go_simp;all_goals with_reducible rfl)
  try simp only [Act.put,List.getElem_toArray,List.getElem_cons_zero,List.getElem_cons_succ,sS]
  refine wpAnyH_done (by kernel_rfl) ?_ _
  go_wp2_with fail
  go_ret
  exact ⟨rfl,HyD.below⟩
 ·have EF:=Lib.hid hf;clear hf;cases hv:vCell L M i0 i1 c
  ·have EV:=Lib.hid hv;clear hv;have H0:=((((Ho.nil w).bx [.slice na L.length nc,.slice da M.length dc,.int .i64 i0,.int .i64 i1] 27 (w.heap.size) (by simp)).bx [.int .i64 c.f,.int .i64 c.a,.int .i64 c.b,.int .i64 c.c,.int .i64 c.d,.int .i64 c.p,.int .i64 c.q,.int .i64 c.r,.int .i64 c.s] 29 (w.heap.size+1) (by simp)).bx [.int .u32 (k 0),.int .u32 (k 1),.int .u32 (k 2),.int .u32 (k 3),.int .u32 (k 4),.int .u32 (k 5),.int .u32 (k 6),.int .u32 (k 7)] 31 (w.heap.size+1+1) (by simp));go_enter Try.func3,Try.ntmps3
   go_wp2_with fail
   refine (awake32_any _).mono ?_;rintro r w1 ⟨rfl,hb⟩;have H1:Ho w w1 (w.heap.size+1+1+1) [(w.heap.size+1+1,[.int .u32 (k 0),.int .u32 (k 1),.int .u32 (k 2),.int .u32 (k 3),.int .u32 (k 4),.int .u32 (k 5),.int .u32 (k 6),.int .u32 (k 7)]),(w.heap.size+1,[.int .i64 c.f,.int .i64 c.a,.int .i64 c.b,.int .i64 c.c,.int .i64 c.d,.int .i64 c.p,.int .i64 c.q,.int .i64 c.r,.int .i64 c.s]),(w.heap.size,[.slice na L.length nc,.slice da M.length dc,.int .i64 i0,.int .i64 i1])]:=Ho.call hoA hb;have hz1:=hb.size
   (try simp at hz1)
   clear hb;have hs1:=H1.size;have h0_1:=(H1.at 2 rfl).c;have hl0_1:=(H1.at 2 rfl).lt;have h1_1:=(H1.at 1 rfl).c;have hl1_1:=(H1.at 1 rfl).lt;have HX:=H1.drew
   go_upto_region 3 with fail
   refine wp_region_held_drew (S:=fun X=>(∀j,X.cell? ⟨w.heap.size,j,none⟩ = [.slice na L.length nc,.slice da M.length dc,.int .i64 i0,.int .i64 i1][j]?)∧(∀j,X.cell? ⟨w.heap.size+1,j,none⟩ = [.int .i64 c.f,.int .i64 c.a,.int .i64 c.b,.int .i64 c.c,.int .i64 c.d,.int .i64 c.p,.int .i64 c.q,.int .i64 c.r,.int .i64 c.s][j]?)) (by kernel_rfl) ?_ (fun hHeld=>?_)
   ·exact ⟨(HX.at 2 rfl).c,(HX.at 1 rfl).c⟩
   refine wpAnyH_take (i:=0) (oi:=_) (v:=?_) rfl (by kernel_rfl) (by kernel_rfl) (by kernel_rfl) (fun _ _ _ h=>h) (Or.inl ⟨by rfl,?_⟩) (by assumption) ?_
   rotate_left
   ·(intro w hSw;(try dsimp only at hSw);go_simp;all_goals with_reducible rfl)
   try simp only [Act.put,List.getElem_toArray,List.getElem_cons_zero,sS]
   refine wpAnyH_ready (rs:=[1]) (by kernel_rfl) (by simp) ?_;refine AllReadyH.cons (o:=_) rfl (fun K hK=>?_) AllReadyH.nil;simp only [List.getElem_toArray,List.getElem_cons_zero,List.getElem_cons_succ];go_simp
   (go_at_call 11;refine (theirs31_any _ (HN.out.kept HX.below) hl).mono ?_;rintro r wxA ⟨⟨uxA,rfl,hrxA⟩,hb⟩;obtain ⟨aoxA,capxA,rfl⟩:=row_form6 hrxA;have HxA:=HX.call hb;have hmarkxA:wxA=wxA:=rfl)
   go_wp2_with fail
   refine hK.out _ _ ⟨(HxA.at 2 rfl).c,(HxA.at 1 rfl).c⟩ (fun hHeld=>?_);clear hK K
   try simp only [Act.put,List.getElem_toArray,List.getElem_cons_zero,List.getElem_cons_succ,sS]
   refine wpAnyH_ready (rs:=[2]) (by kernel_rfl) (by simp) ?_;refine AllReadyH.cons (o:=_) rfl (fun K hK=>?_) AllReadyH.nil;simp only [List.getElem_toArray,List.getElem_cons_zero,List.getElem_cons_succ];go_simp
   (have hm:=hmarkxA;go_at_call 10;refine (few31_any _).mono ?_;rintro r wxB ⟨rfl,hb⟩;rw [EF.out];have HxB:=HxA.call hb;have hmarkxB:wxB=wxB:=rfl)
   go_wp2_with fail
   refine hK.out _ _ ⟨(HxB.at 2 rfl).c,(HxB.at 1 rfl).c⟩ (fun hHeld=>?_);clear hK K
   try simp only [Act.put,List.getElem_toArray,List.getElem_cons_zero,List.getElem_cons_succ,sS]
   refine wpAnyH_take (i:=3) (oi:=_) (v:=?_) rfl (by kernel_rfl) (by kernel_rfl) (by kernel_rfl) (fun _ _ _ h=>h) (Or.inl ⟨by rfl,?_⟩) (by assumption) ?_
   rotate_left
   ·(intro w hSw;(try dsimp only at hSw);go_simp;all_goals with_reducible rfl)
   try simp only [Act.put,List.getElem_toArray,List.getElem_cons_zero,List.getElem_cons_succ,sS]
   refine wpAnyH_take (i:=4) (oi:=_) (v:=?_) rfl (by kernel_rfl) (by kernel_rfl) (by kernel_rfl) (fun _ _ _ h=>h) (Or.inl ⟨by rfl,?_⟩) (by assumption) ?_
   rotate_left
   ·(intro w hSw;(try dsimp only at hSw);go_simp;all_goals with_reducible rfl)
   try simp only [Act.put,List.getElem_toArray,List.getElem_cons_zero,List.getElem_cons_succ,sS]
   refine wpAnyH_take (i:=5) (oi:=_) (v:=?_) rfl (by kernel_rfl) (by kernel_rfl) (by kernel_rfl) (fun _ _ _ h=>h) (Or.inl ⟨by rfl,?_⟩) (by assumption) ?_
   rotate_left
   ·(intro w hSw;(try dsimp only at hSw);go_simp;all_goals with_reducible rfl)
   try simp only [Act.put,List.getElem_toArray,List.getElem_cons_zero,List.getElem_cons_succ,sS]
   refine wpAnyH_take (i:=6) (oi:=_) (v:=?_) rfl (by kernel_rfl) (by kernel_rfl) (by kernel_rfl) (fun _ _ _ h=>h) (Or.inl ⟨by rfl,?_⟩) (by assumption) ?_
   rotate_left
   ·(intro w hSw;(try dsimp only at hSw);go_simp;all_goals with_reducible rfl)
   try simp only [Act.put,List.getElem_toArray,List.getElem_cons_zero,List.getElem_cons_succ,sS]
   refine wpAnyH_ready (rs:=[7]) (by kernel_rfl) (by simp) ?_;refine AllReadyH.cons (o:=_) rfl (fun K hK=>?_) AllReadyH.nil;simp only [List.getElem_toArray,List.getElem_cons_zero,List.getElem_cons_succ];go_simp
   (have hm:=hmarkxB;go_at_call 12;refine (vcell_any c _ (HN.out.kept HxB.below) (HP.out.kept HxB.below)).mono ?_;rintro r wxC ⟨rfl,hb⟩;rw [EV.out];have HxC:=HxB.call hb;have hmarkxC:wxC=wxC:=rfl)
   go_wp2_with fail
   refine hK.out _ _ ⟨(HxC.at 2 rfl).c,(HxC.at 1 rfl).c⟩ (fun hHeld=>?_);clear hK K
   try simp only [Act.put,List.getElem_toArray,List.getElem_cons_zero,List.getElem_cons_succ,sS]
   refine wpAnyH_take (i:=8) (oi:=_) (v:=?_) rfl (by kernel_rfl) (by kernel_rfl) (by kernel_rfl) (fun _ _ _ h=>h) (Or.inl ⟨by rfl,?_⟩) (by assumption) ?_
   rotate_left
   ·(intro w hSw;(try dsimp only at hSw);go_simp;all_goals with_reducible rfl)
   try simp only [Act.put,List.getElem_toArray,List.getElem_cons_zero,List.getElem_cons_succ,sS]
   refine wpAnyH_take (i:=9) (oi:=_) (v:=?_) rfl (by kernel_rfl) (by kernel_rfl) (by kernel_rfl) (fun _ _ _ h=>h) (Or.inl ⟨by rfl,?_⟩) (by assumption) ?_
   rotate_left
   ·(intro w hSw;(try dsimp only at hSw);go_simp;all_goals with_reducible rfl)
   try simp only [Act.put,List.getElem_toArray,List.getElem_cons_zero,List.getElem_cons_succ,sS]
   refine wpAnyH_take (i:=10) (oi:=_) (v:=?_) rfl (by kernel_rfl) (by kernel_rfl) (by kernel_rfl) (fun _ _ _ h=>h) (Or.inl ⟨by rfl,?_⟩) (by assumption) ?_
   rotate_left
   ·(intro w hSw;(try dsimp only at hSw);go_simp;all_goals with_reducible rfl)
   try simp only [Act.put,List.getElem_toArray,List.getElem_cons_zero,List.getElem_cons_succ,sS]
   refine wpAnyH_take (i:=11) (oi:=_) (v:=undef) rfl (by kernel_rfl) (by kernel_rfl) (by kernel_rfl) (fun _ _ _ h=>h) (Or.inr ⟨by rfl,rfl⟩) (by assumption) ?_
   try simp only [Act.put,List.getElem_toArray,List.getElem_cons_zero,List.getElem_cons_succ,sS]
   refine wpAnyH_take (i:=12) (oi:=_) (v:=undef) rfl (by kernel_rfl) (by kernel_rfl) (by kernel_rfl) (fun _ _ _ h=>h) (Or.inr ⟨by rfl,rfl⟩) (by assumption) ?_
   try simp only [Act.put,List.getElem_toArray,List.getElem_cons_zero,List.getElem_cons_succ,sS]
   refine wpAnyH_take (i:=13) (oi:=_) (v:=undef) rfl (by kernel_rfl) (by kernel_rfl) (by kernel_rfl) (fun _ _ _ h=>h) (Or.inr ⟨by rfl,rfl⟩) (by assumption) ?_
   try simp only [Act.put,List.getElem_toArray,List.getElem_cons_zero,List.getElem_cons_succ,sS]
   refine wpAnyH_take (i:=14) (oi:=_) (v:=undef) rfl (by kernel_rfl) (by kernel_rfl) (by kernel_rfl) (fun _ _ _ h=>h) (Or.inr ⟨by rfl,rfl⟩) (by assumption) ?_
   try simp only [Act.put,List.getElem_toArray,List.getElem_cons_zero,List.getElem_cons_succ,sS]
   refine wpAnyH_take (i:=15) (oi:=_) (v:=undef) rfl (by kernel_rfl) (by kernel_rfl) (by kernel_rfl) (fun _ _ _ h=>h) (Or.inr ⟨by rfl,rfl⟩) (by assumption) ?_
   try simp only [Act.put,List.getElem_toArray,List.getElem_cons_zero,List.getElem_cons_succ,sS]
   refine wpAnyH_take (i:=16) (oi:=_) (v:=undef) rfl (by kernel_rfl) (by kernel_rfl) (by kernel_rfl) (fun _ _ _ h=>h) (Or.inr ⟨by rfl,rfl⟩) (by assumption) ?_
   try simp only [Act.put,List.getElem_toArray,List.getElem_cons_zero,List.getElem_cons_succ,sS]
   refine wpAnyH_take (i:=17) (oi:=_) (v:=?_) rfl (by kernel_rfl) (by kernel_rfl) (by kernel_rfl) (fun _ _ _ h=>h) (Or.inl ⟨by rfl,?_⟩) (by assumption) ?_
   rotate_left
   ·(intro w hSw;(try dsimp only at hSw);go_simp;all_goals with_reducible rfl)
   try simp only [Act.put,List.getElem_toArray,List.getElem_cons_zero,List.getElem_cons_succ,sS]
   refine wpAnyH_done (by kernel_rfl) ?_ _;have HY:=HxC.drew
   go_upto_region 4 with fail
   refine wp_region_held_drew (S:=fun X=>(∀j,X.cell? ⟨w.heap.size,j,none⟩ = [.slice na L.length nc,.slice da M.length dc,.int .i64 i0,.int .i64 i1][j]?)∧(∀j,X.cell? ⟨w.heap.size+1,j,none⟩ = [.int .i64 c.f,.int .i64 c.a,.int .i64 c.b,.int .i64 c.c,.int .i64 c.d,.int .i64 c.p,.int .i64 c.q,.int .i64 c.r,.int .i64 c.s][j]?)) (by kernel_rfl) ?_ (fun hHeld=>?_)
   ·exact ⟨(HY.at 2 rfl).c,(HY.at 1 rfl).c⟩
   refine wpAnyH_take (i:=0) (oi:=_) (v:=?_) rfl (by kernel_rfl) (by kernel_rfl) (by kernel_rfl) (fun _ _ _ h=>h) (Or.inl ⟨by rfl,?_⟩) (by assumption) ?_
   rotate_left
   ·(intro w hSw;(try dsimp only at hSw);go_simp;all_goals with_reducible rfl)
   try simp only [Act.put,List.getElem_toArray,List.getElem_cons_zero,sS]
   refine wpAnyH_take (i:=1) (oi:=_) (v:=?_) rfl (by kernel_rfl) (by kernel_rfl) (by kernel_rfl) (fun _ _ _ h=>h) (Or.inl ⟨by rfl,?_⟩) (by assumption) ?_
   rotate_left
   ·(intro w hSw;(try dsimp only at hSw);go_simp;all_goals with_reducible rfl)
   try simp only [Act.put,List.getElem_toArray,List.getElem_cons_zero,List.getElem_cons_succ,sS]
   refine wpAnyH_take (i:=3) (oi:=_) (v:=?_) rfl (by kernel_rfl) (by kernel_rfl) (by kernel_rfl) (fun _ _ _ h=>h) (Or.inl ⟨by rfl,?_⟩) (by assumption) ?_
   rotate_left
   ·(intro w hSw;(try dsimp only at hSw);go_simp;all_goals with_reducible rfl)
   try simp only [Act.put,List.getElem_toArray,List.getElem_cons_zero,List.getElem_cons_succ,sS]
   refine wpAnyH_take (i:=5) (oi:=_) (v:=?_) rfl (by kernel_rfl) (by kernel_rfl) (by kernel_rfl) (fun _ _ _ h=>h) (Or.inl ⟨by rfl,?_⟩) (by assumption) ?_
   rotate_left
   ·(intro w hSw;(try dsimp only at hSw);go_simp;all_goals with_reducible rfl)
   try simp only [Act.put,List.getElem_toArray,List.getElem_cons_zero,List.getElem_cons_succ,sS]
   refine wpAnyH_ready (rs:=[2]) (by kernel_rfl) (by simp) ?_;refine AllReadyH.cons (o:=_) rfl (fun K hK=>?_) AllReadyH.nil;simp only [List.getElem_toArray,List.getElem_cons_zero,List.getElem_cons_succ];go_simp
   (go_at_call 12;refine (vcell_any c _ (HN.out.kept HY.below) (HP.out.kept HY.below)).mono ?_;rintro r wyA ⟨rfl,hb⟩;rw [EV.out];have HyA:=HY.call hb;have hmarkyA:wyA=wyA:=rfl)
   go_wp2_with fail
   refine hK.out _ _ ⟨(HyA.at 2 rfl).c,(HyA.at 1 rfl).c⟩ (fun hHeld=>?_);clear hK K
   try simp only [Act.put,List.getElem_toArray,List.getElem_cons_zero,List.getElem_cons_succ,sS]
   refine wpAnyH_ready (rs:=[4]) (by kernel_rfl) (by simp) ?_;refine AllReadyH.cons (o:=_) rfl (fun K hK=>?_) AllReadyH.nil;simp only [List.getElem_toArray,List.getElem_cons_zero,List.getElem_cons_succ];go_simp
   (have hm:=hmarkyA;go_at_call 11;refine (theirs31_any _ (HN.out.kept HyA.below) hl).mono ?_;rintro r wyB ⟨⟨uyB,rfl,hryB⟩,hb⟩;obtain ⟨aoyB,capyB,rfl⟩:=row_form6 hryB;have HyB:=HyA.call hb;have NO:=Lib.hid (nat_own hryB);have hmarkyB:wyB=wyB:=rfl)
   go_wp2_with fail
   refine hK.out _ _ ⟨(HyB.at 2 rfl).c,(HyB.at 1 rfl).c⟩ (fun hHeld=>?_);clear hK K
   try simp only [Act.put,List.getElem_toArray,List.getElem_cons_zero,List.getElem_cons_succ,sS]
   refine wpAnyH_ready (rs:=[6]) (by kernel_rfl) (by simp) ?_;refine AllReadyH.cons (o:=_) rfl (fun K hK=>?_) AllReadyH.nil;simp only [List.getElem_toArray,List.getElem_cons_zero,List.getElem_cons_succ];go_simp
   (have hm:=hmarkyB;go_at_call 14;refine (theirs32_any c _).mono ?_;rintro r wyC ⟨rfl,hb⟩;have HyC:=HyB.call hb;have NE:=Lib.hid (NO.out.kept hb);have hmarkyC:wyC=wyC:=rfl)
   go_wp2_with fail
   refine hK.out _ _ ⟨(HyC.at 2 rfl).c,(HyC.at 1 rfl).c⟩ (fun hHeld=>?_);clear hK K
   try simp only [Act.put,List.getElem_toArray,List.getElem_cons_zero,List.getElem_cons_succ,sS]
   refine wpAnyH_ready (rs:=[7]) (by kernel_rfl) (by simp) ?_;refine AllReadyH.cons (o:=_) rfl (fun K hK=>?_) AllReadyH.nil;simp only [List.getElem_toArray,List.getElem_cons_zero,List.getElem_cons_succ];go_simp
   (have hm:=hmarkyC;go_at_call 13;refine (rvcell_any c _ NE.out (HP.out.kept HyC.below)).mono ?_;rintro r wyD ⟨rfl,hb⟩;rw [EV.out];have HyD:=HyC.call hb;have hmarkyD:wyD=wyD:=rfl)
   go_wp2_with fail
   refine hK.out _ _ ⟨(HyD.at 2 rfl).c,(HyD.at 1 rfl).c⟩ (fun hHeld=>?_);clear hK K
   try simp only [Act.put,List.getElem_toArray,List.getElem_cons_zero,List.getElem_cons_succ,sS]
   refine wpAnyH_take (i:=8) (oi:=_) (v:=?_) rfl (by kernel_rfl) (by kernel_rfl) (by kernel_rfl) (fun _ _ _ h=>h) (Or.inl ⟨by rfl,?_⟩) (by assumption) ?_
   rotate_left
   ·(intro w hSw;(try dsimp only at hSw);go_simp;all_goals with_reducible rfl)
   try simp only [Act.put,List.getElem_toArray,List.getElem_cons_zero,List.getElem_cons_succ,sS]
   refine wpAnyH_take (i:=9) (oi:=_) (v:=?_) rfl (by kernel_rfl) (by kernel_rfl) (by kernel_rfl) (fun _ _ _ h=>h) (Or.inl ⟨by rfl,?_⟩) (by assumption) ?_
   rotate_left
   ·(intro w hSw;(try dsimp only at hSw);go_simp;all_goals with_reducible rfl)
   try simp only [Act.put,List.getElem_toArray,List.getElem_cons_zero,List.getElem_cons_succ,sS]
   refine wpAnyH_take (i:=10) (oi:=_) (v:=undef) rfl (by kernel_rfl) (by kernel_rfl) (by kernel_rfl) (fun _ _ _ h=>h) (Or.inr ⟨by rfl,rfl⟩) (by assumption) ?_
   try simp only [Act.put,List.getElem_toArray,List.getElem_cons_zero,List.getElem_cons_succ,sS]
   refine wpAnyH_take (i:=11) (oi:=_) (v:=undef) rfl (by kernel_rfl) (by kernel_rfl) (by kernel_rfl) (fun _ _ _ h=>h) (Or.inr ⟨by rfl,rfl⟩) (by assumption) ?_
   try simp only [Act.put,List.getElem_toArray,List.getElem_cons_zero,List.getElem_cons_succ,sS]
   refine wpAnyH_take (i:=12) (oi:=_) (v:=undef) rfl (by kernel_rfl) (by kernel_rfl) (by kernel_rfl) (fun _ _ _ h=>h) (Or.inr ⟨by rfl,rfl⟩) (by assumption) ?_
   try simp only [Act.put,List.getElem_toArray,List.getElem_cons_zero,List.getElem_cons_succ,sS]
   refine wpAnyH_take (i:=13) (oi:=_) (v:=undef) rfl (by kernel_rfl) (by kernel_rfl) (by kernel_rfl) (fun _ _ _ h=>h) (Or.inr ⟨by rfl,rfl⟩) (by assumption) ?_
   try simp only [Act.put,List.getElem_toArray,List.getElem_cons_zero,List.getElem_cons_succ,sS]
   refine wpAnyH_take (i:=14) (oi:=_) (v:=?_) rfl (by kernel_rfl) (by kernel_rfl) (by kernel_rfl) (fun _ _ _ h=>h) (Or.inl ⟨by rfl,?_⟩) (by assumption) ?_
   rotate_left
   ·(intro w hSw;(try dsimp only at hSw);go_simp;all_goals with_reducible rfl)
   try simp only [Act.put,List.getElem_toArray,List.getElem_cons_zero,List.getElem_cons_succ,sS]
   refine wpAnyH_take (i:=15) (oi:=_) (v:=?_) rfl (by kernel_rfl) (by kernel_rfl) (by kernel_rfl) (fun _ _ _ h=>h) (Or.inl ⟨by rfl,?_⟩) (by assumption) ?_
   rotate_left
   ·(intro w hSw;(try dsimp only at hSw);go_simp;all_goals with_reducible rfl)
   try simp only [Act.put,List.getElem_toArray,List.getElem_cons_zero,List.getElem_cons_succ,sS]
   refine wpAnyH_done (by kernel_rfl) ?_ _
   go_wp2_with fail
   go_ret
   exact ⟨rfl,HyD.below⟩
  ·have hvc:vC c=true:=by
    have:=hv;simp only [vCell,Bool.and_eq_true] at this;exact this.2.2.2.1
   have hp:=HPP.out hv;have EV:=Lib.hid hv;have VC:=Lib.hid hvc;clear hv hvc;unfold partP at hp;obtain ⟨d,hd⟩:∃d,partC c k=d:=⟨_,rfl⟩;rw [hd] at hp;obtain ⟨⟨k0,e0⟩,hk0⟩:∃r:Int × Int,coverR L M i0 i1 c=r:=⟨_,rfl⟩;obtain ⟨⟨k1,e1⟩,hk1⟩:∃r:Int × Int,coverR L M i0 i1 d=r:=⟨_,rfl⟩;obtain ⟨⟨⟨p1,p2,p3,p4,p5,p6⟩,pe⟩,hq0⟩:∃r:RD,pointV L M i0 i1 c=r:=⟨_,rfl⟩;obtain ⟨⟨⟨q1,q2,q3,q4,q5,q6⟩,qe⟩,hq1⟩:∃r:RD,pointV L M i0 i1 d=r:=⟨_,rfl⟩;rw [hk0,hk1,hq0,hq1] at hp;dsimp only at hp;obtain ⟨m1,m2,m3⟩:=hp;have HD:=Lib.hid hd;have M1:=Lib.hid m1;have M2:=Lib.hid m2;have M3:=Lib.hid m3;have X0:=Lib.hid hk0;have X1:=Lib.hid hk1;have Y0:=Lib.hid hq0;have Y1:=Lib.hid hq1;clear hd m1 m2 m3 hk0 hk1 hq0 hq1;have H0:=((((Ho.nil w).bx [.slice na L.length nc,.slice da M.length dc,.int .i64 i0,.int .i64 i1] 27 (w.heap.size) (by simp)).bx [.int .i64 c.f,.int .i64 c.a,.int .i64 c.b,.int .i64 c.c,.int .i64 c.d,.int .i64 c.p,.int .i64 c.q,.int .i64 c.r,.int .i64 c.s] 29 (w.heap.size+1) (by simp)).bx [.int .u32 (k 0),.int .u32 (k 1),.int .u32 (k 2),.int .u32 (k 3),.int .u32 (k 4),.int .u32 (k 5),.int .u32 (k 6),.int .u32 (k 7)] 31 (w.heap.size+1+1) (by simp));go_enter Try.func3,Try.ntmps3
   go_wp2_with fail
   refine (awake32_any _).mono ?_;rintro r w1 ⟨rfl,hb⟩;have H1:Ho w w1 (w.heap.size+1+1+1) [(w.heap.size+1+1,[.int .u32 (k 0),.int .u32 (k 1),.int .u32 (k 2),.int .u32 (k 3),.int .u32 (k 4),.int .u32 (k 5),.int .u32 (k 6),.int .u32 (k 7)]),(w.heap.size+1,[.int .i64 c.f,.int .i64 c.a,.int .i64 c.b,.int .i64 c.c,.int .i64 c.d,.int .i64 c.p,.int .i64 c.q,.int .i64 c.r,.int .i64 c.s]),(w.heap.size,[.slice na L.length nc,.slice da M.length dc,.int .i64 i0,.int .i64 i1])]:=Ho.call hoA hb;have hz1:=hb.size
   (try simp at hz1)
   clear hb;have hs1:=H1.size;have h0_1:=(H1.at 2 rfl).c;have hl0_1:=(H1.at 2 rfl).lt;have h1_1:=(H1.at 1 rfl).c;have hl1_1:=(H1.at 1 rfl).lt;have HX:=H1.drew
   go_upto_region 3 with fail
   go_region_held3 (fun X=>(∀j,X.cell? ⟨w.heap.size,j,none⟩ = [.slice na L.length nc,.slice da M.length dc,.int .i64 i0,.int .i64 i1][j]?)∧(∀j,X.cell? ⟨w.heap.size+1,j,none⟩ = [.int .i64 c.f,.int .i64 c.a,.int .i64 c.b,.int .i64 c.c,.int .i64 c.d,.int .i64 c.p,.int .i64 c.q,.int .i64 c.r,.int .i64 c.s][j]?)) (with_reducible first|exact ⟨(HX.at 2 rfl).c,(HX.at 1 rfl).c⟩|exact ⟨(HxA.at 2 rfl).c,(HxA.at 1 rfl).c⟩|exact ⟨(HxB.at 2 rfl).c,(HxB.at 1 rfl).c⟩|exact ⟨(HxC.at 2 rfl).c,(HxC.at 1 rfl).c⟩|exact ⟨(HxD.at 2 rfl).c,(HxD.at 1 rfl).c⟩|exact ⟨(HxE.at 2 rfl).c,(HxE.at 1 rfl).c⟩|exact ⟨(HxF.at 2 rfl).c,(HxF.at 1 rfl).c⟩)
     (first
      |(have hm:=hmarkxE;go_at_call 13;refine (rvcell_any c _ NE.out (HP.out.kept HxE.below)).mono ?_;rintro r wxF ⟨rfl,hb⟩;rw [EV.out];have HxF:=HxE.call hb;have hmarkxF:wxF=wxF:=rfl)
      |(have hm:=hmarkxD;go_at_call 14;refine (theirs32_any c _).mono ?_;rintro r wxE ⟨rfl,hb⟩;have HxE:=HxD.call hb;have NE:=Lib.hid (NO.out.kept hb);have hmarkxE:wxE=wxE:=rfl)
      |(have hm:=hmarkxC;go_at_call 11;refine (theirs31_any _ (HN.out.kept HxC.below) hl).mono ?_;rintro r wxD ⟨⟨uxD,rfl,hrxD⟩,hb⟩;obtain ⟨aoxD,capxD,rfl⟩:=row_form6 hrxD;have HxD:=HxC.call hb;have NO:=Lib.hid (nat_own hrxD);have hmarkxD:wxD=wxD:=rfl)
      |(have hm:=hmarkxB;go_at_call 12;refine (vcell_any c _ (HN.out.kept HxB.below) (HP.out.kept HxB.below)).mono ?_;rintro r wxC ⟨rfl,hb⟩;rw [EV.out];have HxC:=HxB.call hb;have hmarkxC:wxC=wxC:=rfl)
      |(have hm:=hmarkxA;go_at_call 10;refine (few31_any _).mono ?_;rintro r wxB ⟨rfl,hb⟩;rw [EF.out];have HxB:=HxA.call hb;have hmarkxB:wxB=wxB:=rfl)
      |(go_at_call 11;refine (theirs31_any _ (HN.out.kept HX.below) hl).mono ?_;rintro r wxA ⟨⟨uxA,rfl,hrxA⟩,hb⟩;obtain ⟨aoxA,capxA,rfl⟩:=row_form6 hrxA;have HxA:=HX.call hb;have hmarkxA:wxA=wxA:=rfl))
   have H2:=HxF;have hs2:=H2.size;have h0_2:=(H2.at 2 rfl).c;have h1_2:=(H2.at 1 rfl).c;have h2_2:=(H2.at 0 rfl).c
   go_wp2_with fail
   refine (partc_any c k _ VC.out HK.out).mono ?_;rintro r w3 ⟨rfl,hb⟩;rw [HD.out];unfold cellv;have H3:Ho w w3 (w.heap.size+1+1+1) [(w.heap.size+1+1,[.int .u32 (k 0),.int .u32 (k 1),.int .u32 (k 2),.int .u32 (k 3),.int .u32 (k 4),.int .u32 (k 5),.int .u32 (k 6),.int .u32 (k 7)]),(w.heap.size+1,[.int .i64 c.f,.int .i64 c.a,.int .i64 c.b,.int .i64 c.c,.int .i64 c.d,.int .i64 c.p,.int .i64 c.q,.int .i64 c.r,.int .i64 c.s]),(w.heap.size,[.slice na L.length nc,.slice da M.length dc,.int .i64 i0,.int .i64 i1])]:=Ho.call hoA hb;have hz3:=hb.size
   (try simp at hz3)
   clear hb;clear h0_2 h1_2 h2_2;have hs3:=H3.size;have h0_3:=(H3.at 2 rfl).c;have hl0_3:=(H3.at 2 rfl).lt;have h1_3:=(H3.at 1 rfl).c;have hl1_3:=(H3.at 1 rfl).lt
   go_wp2_with fail
   refine (covers_any c _ (HN.out.kept (by repeat (first|with_reducible exact H3.below|with_reducible refine Below.setCell ?_ (by first|omega|(dsimp only;omega)|(simp;done)) _|with_reducible refine Below.alloc ?_ (by first|omega|(simp;omega)) _))) (HP.out.kept (by repeat (first|with_reducible exact H3.below|with_reducible refine Below.setCell ?_ (by first|omega|(dsimp only;omega)|(simp;done)) _|with_reducible refine Below.alloc ?_ (by first|omega|(simp;omega)) _)))).mono ?_;rintro r w4 ⟨rfl,hb⟩;rw [X0.out];have H4:Ho w w4 (w.heap.size+1+1+1) [(w.heap.size+1+1,[.int .u32 (k 0),.int .u32 (k 1),.int .u32 (k 2),.int .u32 (k 3),.int .u32 (k 4),.int .u32 (k 5),.int .u32 (k 6),.int .u32 (k 7)]),(w.heap.size+1,[.int .i64 c.f,.int .i64 c.a,.int .i64 c.b,.int .i64 c.c,.int .i64 c.d,.int .i64 c.p,.int .i64 c.q,.int .i64 c.r,.int .i64 c.s]),(w.heap.size,[.slice na L.length nc,.slice da M.length dc,.int .i64 i0,.int .i64 i1])]:=Ho.call hoA hb
   have o_4:Bx w4 (w3.heap.size) [.int .i64 d.f,.int .i64 d.a,.int .i64 d.b,.int .i64 d.c,.int .i64 d.d,.int .i64 d.p,.int .i64 d.q,.int .i64 d.r,.int .i64 d.s]:=Bx.kept (by
    (repeat (first|(with_reducible refine Bx.new ?_;(· (simp;done)))|with_reducible apply Bx.put9|with_reducible apply Bx.put6|with_reducible apply Bx.put2|with_reducible apply Bx.put1|with_reducible refine Bx.set ?_ (by omega)|with_reducible refine Bx.alc ?_ _|with_reducible refine Bx.drew ?_))) hb
   have hz4:=hb.size
   (try simp at hz4)
   clear hb;clear h0_3 hl0_3 h1_3 hl1_3;have hs4:=H4.size;have o_4l:=o_4.lt;have h0_4:=(H4.at 2 rfl).c;have hl0_4:=(H4.at 2 rfl).lt;have o_4c:=o_4.c;have o_4f:=o_4.f
   have o_4m:w3.heap.size<w4.heap.size+1:=by omega
   go_wp2_with fail
   refine (covers_any d _ (HN.out.kept H4.below) (HP.out.kept H4.below)).mono ?_;rintro r w5 ⟨rfl,hb⟩;rw [X1.out];have H5:Ho w w5 (w.heap.size+1+1+1) [(w.heap.size+1+1,[.int .u32 (k 0),.int .u32 (k 1),.int .u32 (k 2),.int .u32 (k 3),.int .u32 (k 4),.int .u32 (k 5),.int .u32 (k 6),.int .u32 (k 7)]),(w.heap.size+1,[.int .i64 c.f,.int .i64 c.a,.int .i64 c.b,.int .i64 c.c,.int .i64 c.d,.int .i64 c.p,.int .i64 c.q,.int .i64 c.r,.int .i64 c.s]),(w.heap.size,[.slice na L.length nc,.slice da M.length dc,.int .i64 i0,.int .i64 i1])]:=Ho.call hoA hb;have o_5:=bxK o_4 hb;have hz5:=hb.size
   (try simp at hz5)
   clear hb;clear h0_4 hl0_4 o_4c o_4f o_4m;have hs5:=H5.size;have o_5l:=o_5.lt;have h0_5:=(H5.at 2 rfl).c;have hl0_5:=(H5.at 2 rfl).lt;have h1_5:=(H5.at 1 rfl).c;have hl1_5:=(H5.at 1 rfl).lt
   go_wp2_with fail
   refine (cpoint_any c _ (HN.out.kept H5.below) (HP.out.kept H5.below)).mono ?_;rintro r w6 ⟨rfl,hb⟩;rw [Y0.out];unfold retD;have H6:Ho w w6 (w.heap.size+1+1+1) [(w.heap.size+1+1,[.int .u32 (k 0),.int .u32 (k 1),.int .u32 (k 2),.int .u32 (k 3),.int .u32 (k 4),.int .u32 (k 5),.int .u32 (k 6),.int .u32 (k 7)]),(w.heap.size+1,[.int .i64 c.f,.int .i64 c.a,.int .i64 c.b,.int .i64 c.c,.int .i64 c.d,.int .i64 c.p,.int .i64 c.q,.int .i64 c.r,.int .i64 c.s]),(w.heap.size,[.slice na L.length nc,.slice da M.length dc,.int .i64 i0,.int .i64 i1])]:=Ho.call hoA hb;have o_6:=bxK o_5 hb;have hz6:=hb.size
   (try simp at hz6)
   clear hb;clear h0_5 hl0_5 h1_5 hl1_5;have hs6:=H6.size;have o_6l:=o_6.lt;have h0_6:=(H6.at 2 rfl).c;have hl0_6:=(H6.at 2 rfl).lt;have o_6c:=o_6.c;have o_6f:=o_6.f
   have o_6m:w3.heap.size<w6.heap.size+1:=by omega
   have zx6:=ai (zp (w3.heap.size) (w6.heap.size))<|zp (w.heap.size) (w6.heap.size)
   go_wp2_with fail
   refine (cpoint_any d _ (HN.out.kept (by repeat (first|with_reducible exact H6.below|with_reducible refine Below.setCell ?_ (by first|omega|(dsimp only;omega)|(simp;done)) _|with_reducible refine Below.alloc ?_ (by first|omega|(simp;omega)) _))) (HP.out.kept (by repeat (first|with_reducible exact H6.below|with_reducible refine Below.setCell ?_ (by first|omega|(dsimp only;omega)|(simp;done)) _|with_reducible refine Below.alloc ?_ (by first|omega|(simp;omega)) _)))).mono ?_;rintro r w7 ⟨rfl,hb⟩;rw [Y1.out];unfold retD;have H7:Ho w w7 (w.heap.size+1+1+1) [(w.heap.size+1+1,[.int .u32 (k 0),.int .u32 (k 1),.int .u32 (k 2),.int .u32 (k 3),.int .u32 (k 4),.int .u32 (k 5),.int .u32 (k 6),.int .u32 (k 7)]),(w.heap.size+1,[.int .i64 c.f,.int .i64 c.a,.int .i64 c.b,.int .i64 c.c,.int .i64 c.d,.int .i64 c.p,.int .i64 c.q,.int .i64 c.r,.int .i64 c.s]),(w.heap.size,[.slice na L.length nc,.slice da M.length dc,.int .i64 i0,.int .i64 i1])]:=Ho.call hoA hb;have o_7:=bxK o_6 hb
   have pp_7:Bx w7 (w6.heap.size) [.int .i64 p1,.int .i64 p2,.int .i64 p3,.int .i64 p4,.int .i64 p5,.int .i64 p6]:=Bx.kept (by
    (repeat (first|(with_reducible refine Bx.new ?_;(· (simp;done)))|with_reducible apply Bx.put9|with_reducible apply Bx.put6|with_reducible apply Bx.put2|with_reducible apply Bx.put1|with_reducible refine Bx.set ?_ (by omega)|with_reducible refine Bx.alc ?_ _|with_reducible refine Bx.drew ?_))) hb
   have hz7:=hb.size
   (try simp at hz7)
   clear hb;clear h0_6 hl0_6 o_6c o_6f o_6m zx6;have hs7:=H7.size;have o_7l:=o_7.lt;have pp_7l:=pp_7.lt;have h0_7:=(H7.at 2 rfl).c;have hl0_7:=(H7.at 2 rfl).lt;have h1_7:=(H7.at 1 rfl).c;have hl1_7:=(H7.at 1 rfl).lt;have o_7c:=o_7.c;have o_7f:=o_7.f
   have o_7m:w3.heap.size<w7.heap.size+1:=by omega
   have zx7:=ai (zp (w3.heap.size) (w7.heap.size))<|ai (zp (w.heap.size) (w7.heap.size))<|zp (w.heap.size+1) (w7.heap.size)
   go_wp2_with fail
   refine (cinside_any d c _).mono ?_;rintro r w8 ⟨rfl,hb⟩;rw [M1.out];have H8:Ho w w8 (w.heap.size+1+1+1) [(w.heap.size+1+1,[.int .u32 (k 0),.int .u32 (k 1),.int .u32 (k 2),.int .u32 (k 3),.int .u32 (k 4),.int .u32 (k 5),.int .u32 (k 6),.int .u32 (k 7)]),(w.heap.size+1,[.int .i64 c.f,.int .i64 c.a,.int .i64 c.b,.int .i64 c.c,.int .i64 c.d,.int .i64 c.p,.int .i64 c.q,.int .i64 c.r,.int .i64 c.s]),(w.heap.size,[.slice na L.length nc,.slice da M.length dc,.int .i64 i0,.int .i64 i1])]:=Ho.call hoA hb;have o_8:=bxK o_7 hb;have pp_8:=bxK pp_7 hb
   have qq_8:Bx w8 (w7.heap.size) [.int .i64 q1,.int .i64 q2,.int .i64 q3,.int .i64 q4,.int .i64 q5,.int .i64 q6]:=Bx.kept (by
    (repeat (first|(with_reducible refine Bx.new ?_;(· (simp;done)))|with_reducible apply Bx.put9|with_reducible apply Bx.put6|with_reducible apply Bx.put2|with_reducible apply Bx.put1|with_reducible refine Bx.set ?_ (by omega)|with_reducible refine Bx.alc ?_ _|with_reducible refine Bx.drew ?_))) hb
   have hz8:=hb.size
   (try simp at hz8)
   clear hb;clear h0_7 hl0_7 h1_7 hl1_7 o_7c o_7f o_7m zx7;have hs8:=H8.size;have o_8l:=o_8.lt;have pp_8l:=pp_8.lt;have qq_8l:=qq_8.lt;have pp_8c:=pp_8.c;have pp_8f:=pp_8.f;have qq_8c:=qq_8.c;have qq_8f:=qq_8.f
   have pp_8m:w6.heap.size<w8.heap.size+1:=by omega
   have qq_8m:w7.heap.size<w8.heap.size+1:=by omega
   by_cases hg:pe=0
   ·obtain ⟨rfl,h2⟩:=M2.out hg;subst hg;have I2:=Lib.hid h2;clear h2
    go_wp2_with fail
    refine (rdin_any ⟨q1,q2,q3,q4,q5,q6⟩ ⟨p1,p2,p3,p4,p5,p6⟩ _).mono ?_;rintro r w9 ⟨rfl,hb⟩;rw [I2.out];have H9:Ho w w9 (w.heap.size+1+1+1) [(w.heap.size+1+1,[.int .u32 (k 0),.int .u32 (k 1),.int .u32 (k 2),.int .u32 (k 3),.int .u32 (k 4),.int .u32 (k 5),.int .u32 (k 6),.int .u32 (k 7)]),(w.heap.size+1,[.int .i64 c.f,.int .i64 c.a,.int .i64 c.b,.int .i64 c.c,.int .i64 c.d,.int .i64 c.p,.int .i64 c.q,.int .i64 c.r,.int .i64 c.s]),(w.heap.size,[.slice na L.length nc,.slice da M.length dc,.int .i64 i0,.int .i64 i1])]:=Ho.call hoA hb;have o_9:=bxK o_8 hb;have pp_9:=bxK pp_8 hb;have qq_9:=bxK qq_8 hb;have hz9:=hb.size
    (try simp at hz9)
    clear hb;clear pp_8c pp_8f qq_8c qq_8f pp_8m qq_8m;have hs9:=H9.size;have o_9l:=o_9.lt;have pp_9l:=pp_9.lt;have qq_9l:=qq_9.lt
    by_cases h0:e0=0
    ·obtain ⟨rfl,h3⟩:=M3.out h0;subst h0
     by_cases h4:k0=3
     ·subst h4
      go_wp2_with fail
      go_ret
      refine ⟨rfl,?_⟩
      (with_reducible repeat (first|exact H9.below|refine Below.setCell ?_ (by first|omega|(dsimp only;omega)|(simp;done)) _|refine Below.alloc ?_ (by first|omega|(simp;omega)) _))
     ·obtain rfl:=h3.resolve_left h4
      have n4:(k0 == 3)=false:=by rw [beq_eq_false_iff_ne];exact h4
      go_wp2_with fail
      go_ret
      refine ⟨rfl,?_⟩
      (with_reducible repeat (first|exact H9.below|refine Below.setCell ?_ (by first|omega|(dsimp only;omega)|(simp;done)) _|refine Below.alloc ?_ (by first|omega|(simp;omega)) _))
    ·have n0:(e0 != 0)=true:=by simpa using h0
     go_wp2_with fail
     go_ret
     refine ⟨rfl,?_⟩
     (with_reducible repeat (first|exact H9.below|refine Below.setCell ?_ (by first|omega|(dsimp only;omega)|(simp;done)) _|refine Below.alloc ?_ (by first|omega|(simp;omega)) _))
   ·have ng:(pe == 0)=false:=by rw [beq_eq_false_iff_ne];exact hg
    by_cases h0:e0=0
    ·obtain ⟨rfl,h3⟩:=M3.out h0;subst h0
     by_cases h4:k0=3
     ·subst h4
      go_wp2_with fail
      go_ret
      refine ⟨rfl,?_⟩
      (with_reducible repeat (first|exact H8.below|refine Below.setCell ?_ (by first|omega|(dsimp only;omega)|(simp;done)) _|refine Below.alloc ?_ (by first|omega|(simp;omega)) _))
     ·obtain rfl:=h3.resolve_left h4
      have n4:(k0 == 3)=false:=by rw [beq_eq_false_iff_ne];exact h4
      go_wp2_with fail
      go_ret
      refine ⟨rfl,?_⟩
      (with_reducible repeat (first|exact H8.below|refine Below.setCell ?_ (by first|omega|(dsimp only;omega)|(simp;done)) _|refine Below.alloc ?_ (by first|omega|(simp;omega)) _))
    ·have n0:(e0 != 0)=true:=by simpa using h0
     go_wp2_with fail
     go_ret
     refine ⟨rfl,?_⟩
     (with_reducible repeat (first|exact H8.below|refine Below.setCell ?_ (by first|omega|(dsimp only;omega)|(simp;done)) _|refine Below.alloc ?_ (by first|omega|(simp;omega)) _))
end Go.Proofs.Ytiecdgcdcpmgaaa.Iv
