/- CellPlane returns true. -/
import Derived.Test.YtiecdgcdcpmgaaaGreatM29
import Derived.Test.YtiecdgcdcpmgaaaGreatM22
import Derived.Test.YtiecdgcdcpmgaaaGreatM26
import Derived.Test.YtiecdgcdcpmgaaaGreatM30
import Derived.Test.YtiecdgcdcpmgaaaGreatM31
import Derived.Test.YtiecdgcdcpmgaaaGreatM35
import Derived.Test.YtiecdgcdcpmgaaaGreatZpRg
import Derived.Test.YtiecdgcdcpmgaaaGreatM06
namespace Go.Proofs.YtiecdgcdcpmgaaaGreat.Iv
open Go.RowKit
attribute [local go_sem] Oper.semAt_some
structure Pz (nb no pb po lL cap lM dc k b0 ob pp n0 nc:Nat) (i0 i1 p1 p2 p3 p4 p5 p6 xl xh xe ca cb cc cd cp cq cr cs:Int) (n:D) (na:Option Addr) (w0 w:World) (l0 l1 l2 l3 l4 l5 l6 l7 l8 l9 l10 l11 l12 l13:Bool) (v0 v1 v2 v3 v4 v5 v6 v7 v8 v9 v10 v11 v13:Value) (b11:Nat):Prop where
 g:Ho w0 w n0 [(pp,[.int .i64 p1,.int .i64 p2,.int .i64 p3,.int .i64 p4,.int .i64 p5,.int .i64 p6]),(ob,[.slice (some ⟨nb,no,none⟩) lL cap,.slice (some ⟨pb,po,none⟩) lM dc,.int .i64 i0,.int .i64 i1]),(b0+1,[.int .i64 k,.int .i64 ca,.int .i64 cb,.int .i64 cc,.int .i64 cd,.int .i64 cp,.int .i64 cq,.int .i64 cr,.int .i64 cs]),(b0,[.slice na lL nc,.slice (some ⟨pb,po,none⟩) lM dc,.int .i64 i0,.int .i64 i1])]
 sz:n0≤w.heap.size
 mn:n0≤n0
 u0:Rs w nb (no+k*6) [.int .i64 n.a,.int .i64 n.b,.int .i64 n.c,.int .i64 n.d,.int .i64 n.e,.int .i64 n.f]
 un0:nb<n0
 ev0:l0=true→v0 = .pointer (some ⟨ob,0,none⟩)
 ev1:l1=true→v1 = .slice (some ⟨nb,no,none⟩) lL cap
 ev2:l2=true→v2 = .pointer (some ⟨b0+1,0,none⟩)
 ev3:l3=true→v3 = .int .i64 k
 ev4:l4=true→v4 = .pointer (some ⟨nb,no+k*6,none⟩)
 ev5:l5=true→v5=(dv n)
 ev6:l6=true→v6 = .agg #[.int .i64 p1,.int .i64 p2,.int .i64 p3,.int .i64 p4,.int .i64 p5,.int .i64 p6]
 ev7:l7=true→v7 = .tuple #[(iv xl xh),.int .i64 xe]
 ev8:l8=true→v8 = .tuple #[(iv xl xh),.int .i64 xe]
 ev9:l9=true→v9=(iv xl xh)
 ev10:l10=true→v10 = .int .i64 xe
 ev11:l11=true→v11 = .pointer (some ⟨b11,0,none⟩)
 ev13:l13=true→v13 = .int .i64 xe
 g11:l11=true→n0≤b11
 t11:l11=true→b11<w.heap.size
 o11:l12=true→l11=true
 z11:l11=true→l12=false→Bx w b11 [.int .i64 0,.int .i64 0]
 s11:l12=true→Bx w b11 [.int .i64 xl,.int .i64 xh]
theorem Pz.kept {nb no pb po lL cap lM dc k b0 ob pp n0 nc:Nat} {i0 i1 p1 p2 p3 p4 p5 p6 xl xh xe ca cb cc cd cp cq cr cs:Int} {n:D} {na:Option Addr} {w0 w:World} {l0 l1 l2 l3 l4 l5 l6 l7 l8 l9 l10 l11 l12 l13:Bool} {v0 v1 v2 v3 v4 v5 v6 v7 v8 v9 v10 v11 v13:Value} {b11:Nat} {w':World} (h:Pz nb no pb po lL cap lM dc k b0 ob pp n0 nc i0 i1 p1 p2 p3 p4 p5 p6 xl xh xe ca cb cc cd cp cq cr cs n na w0 w l0 l1 l2 l3 l4 l5 l6 l7 l8 l9 l10 l11 l12 l13 v0 v1 v2 v3 v4 v5 v6 v7 v8 v9 v10 v11 v13 b11) (hb:Below w.heap.size w w'):Pz nb no pb po lL cap lM dc k b0 ob pp n0 nc i0 i1 p1 p2 p3 p4 p5 p6 xl xh xe ca cb cc cd cp cq cr cs n na w0 w' l0 l1 l2 l3 l4 l5 l6 l7 l8 l9 l10 l11 l12 l13 v0 v1 v2 v3 v4 v5 v6 v7 v8 v9 v10 v11 v13 b11:=
 {h with g:=h.g.call hb,sz:=Nat.le_trans h.sz hb.size,u0:=h.u0.kept hb,t11:=fun p=>Nat.lt_of_lt_of_le (h.t11 p) hb.size,z11:=fun p q=>(h.z11 p q).kept hb,s11:=fun p=>(h.s11 p).kept hb}
def Pz.I (nb no pb po lL cap lM dc k b0 ob pp n0 nc:Nat) (i0 i1 p1 p2 p3 p4 p5 p6 xl xh xe ca cb cc cd cp cq cr cs:Int) (n:D) (na:Option Addr) (w0:World):Act→Array Bool→Act→World→Prop:=fun aO LX aX w=>∃(l0 l1 l2 l3 l4 l5 l6 l7 l8 l9 l10 l11 l12 l13:Bool) (v0 v1 v2 v3 v4 v5 v6 v7 v8 v9 v10 v11 v13:Value) (b11:Nat),LX=#[l0,l1,l2,l3,l4,l5,l6,l7,l8,l9,l10,l11,l12,l13]∧aX=(((((((((((((aO.put (some 33) v0).put (some 34) v1).put (some 35) v2).put (some 36) v3).put (some 37) v4).put (some 38) v5).put (some 39) v6).put (some 40) v7).put (some 32) v8).put (some 41) v9).put (some 42) v10).put (some 8) v11).put (some 9) v13)∧Pz nb no pb po lL cap lM dc k b0 ob pp n0 nc i0 i1 p1 p2 p3 p4 p5 p6 xl xh xe ca cb cc cd cp cq cr cs n na w0 w l0 l1 l2 l3 l4 l5 l6 l7 l8 l9 l10 l11 l12 l13 v0 v1 v2 v3 v4 v5 v6 v7 v8 v9 v10 v11 v13 b11
theorem Pz.all (nb no pb po lL cap lM dc k b0 ob pp n0 nc:Nat) (i0 i1 p1 p2 p3 p4 p5 p6 xl xh xe ca cb cc cd cp cq cr cs:Int) (n:D) (na:Option Addr) (w0:World) (aO:Act) {PP:Array Bool→Act→World→Prop} (hk:∀(w:World) (l0 l1 l2 l3 l4 l5 l6 l7 l8 l9 l10 l11 l12 l13:Bool) (v0 v1 v2 v3 v4 v5 v6 v7 v8 v9 v10 v11 v13:Value) (b11:Nat),Pz nb no pb po lL cap lM dc k b0 ob pp n0 nc i0 i1 p1 p2 p3 p4 p5 p6 xl xh xe ca cb cc cd cp cq cr cs n na w0 w l0 l1 l2 l3 l4 l5 l6 l7 l8 l9 l10 l11 l12 l13 v0 v1 v2 v3 v4 v5 v6 v7 v8 v9 v10 v11 v13 b11→PP #[l0,l1,l2,l3,l4,l5,l6,l7,l8,l9,l10,l11,l12,l13] (((((((((((((aO.put (some 33) v0).put (some 34) v1).put (some 35) v2).put (some 36) v3).put (some 37) v4).put (some 38) v5).put (some 39) v6).put (some 40) v7).put (some 32) v8).put (some 41) v9).put (some 42) v10).put (some 8) v11).put (some 9) v13) w):∀L a w,Pz.I nb no pb po lL cap lM dc k b0 ob pp n0 nc i0 i1 p1 p2 p3 p4 p5 p6 xl xh xe ca cb cc cd cp cq cr cs n na w0 aO L a w→PP L a w:=by
 intro L a w hI;unfold Pz.I at hI;exact Exists.elim hI (fun l0 hh0=>Exists.elim hh0 (fun l1 hh1=>Exists.elim hh1 (fun l2 hh2=>Exists.elim hh2 (fun l3 hh3=>Exists.elim hh3 (fun l4 hh4=>Exists.elim hh4 (fun l5 hh5=>Exists.elim hh5 (fun l6 hh6=>Exists.elim hh6 (fun l7 hh7=>Exists.elim hh7 (fun l8 hh8=>Exists.elim hh8 (fun l9 hh9=>Exists.elim hh9 (fun l10 hh10=>Exists.elim hh10 (fun l11 hh11=>Exists.elim hh11 (fun l12 hh12=>Exists.elim hh12 (fun l13 hh13=>Exists.elim hh13 (fun v0 hh14=>Exists.elim hh14 (fun v1 hh15=>Exists.elim hh15 (fun v2 hh16=>Exists.elim hh16 (fun v3 hh17=>Exists.elim hh17 (fun v4 hh18=>Exists.elim hh18 (fun v5 hh19=>Exists.elim hh19 (fun v6 hh20=>Exists.elim hh20 (fun v7 hh21=>Exists.elim hh21 (fun v8 hh22=>Exists.elim hh22 (fun v9 hh23=>Exists.elim hh23 (fun v10 hh24=>Exists.elim hh24 (fun v11 hh25=>Exists.elim hh25 (fun v13 hh26=>Exists.elim hh26 (fun b11 hh27=>And.elim (fun e1 h1=>And.elim (fun e2 h=>by subst e1;subst e2;exact hk w l0 l1 l2 l3 l4 l5 l6 l7 l8 l9 l10 l11 l12 l13 v0 v1 v2 v3 v4 v5 v6 v7 v8 v9 v10 v11 v13 b11 h) h1) hh27))))))))))))))))))))))))))))
set_option maxRecDepth 100000 in
set_option maxHeartbeats 16000000 in
theorem plane_law {na da:Option Addr} {nc dc:Nat} {L:List D} {M:List (Int × Int)} {i0 i1:Int} (c:CV) (w:World) (hn:NAt w na L) (hp:PAt w da M) (hl:L.length*48≤140737488351232) :
  Calls Tryz.prog 4 #[.agg #[.slice na L.length nc,.slice da M.length dc,.int .i64 i0,.int .i64 i1],cellv c] w fun e w'=>e = .returned (.bool true)∧Below w.heap.size w w':=by
 unfold cellv;have HN:=Lib.hid hn;have HP:=Lib.hid hp;cases hf:fewB L.length M.length
 ·have EF:=Lib.hid hf;clear hf hn hp;have H0:=(((Ho.nil w).bx [.slice na L.length nc,.slice da M.length dc,.int .i64 i0,.int .i64 i1] 27 (w.heap.size) (by simp)).bx [.int .i64 c.f,.int .i64 c.a,.int .i64 c.b,.int .i64 c.c,.int .i64 c.d,.int .i64 c.p,.int .i64 c.q,.int .i64 c.r,.int .i64 c.s] 29 (w.heap.size+1) (by simp));go_enter Tryz.func4,Tryz.ntmps4
  go_wp2_with fail
  refine (awake32_any _).mono ?_;rintro r w1 ⟨rfl,hb⟩;have H1:Ho w w1 (w.heap.size+1+1) [(w.heap.size+1,[.int .i64 c.f,.int .i64 c.a,.int .i64 c.b,.int .i64 c.c,.int .i64 c.d,.int .i64 c.p,.int .i64 c.q,.int .i64 c.r,.int .i64 c.s]),(w.heap.size,[.slice na L.length nc,.slice da M.length dc,.int .i64 i0,.int .i64 i1])]:=Ho.call hoA hb;have hz1:=hb.size
  (try simp at hz1)
  clear hb;have hs1:=H1.size;have h0_1:=(H1.at 1 rfl).c;have hl0_1:=(H1.at 1 rfl).lt
  go_wp2_with fail
  refine (theirs31_any _ (HN.out.kept H1.below) hl).mono ?_;rintro r w2 ⟨⟨u2,rfl,hrow2⟩,hb⟩;obtain ⟨ao,cap,rfl⟩:=row_form6 hrow2;have H2:Ho w w2 (w.heap.size+1+1) [(w.heap.size+1,[.int .i64 c.f,.int .i64 c.a,.int .i64 c.b,.int .i64 c.c,.int .i64 c.d,.int .i64 c.p,.int .i64 c.q,.int .i64 c.r,.int .i64 c.s]),(w.heap.size,[.slice na L.length nc,.slice da M.length dc,.int .i64 i0,.int .i64 i1])]:=Ho.call hoA hb;have NO:=Lib.hid (nat_own hrow2);have hz2:=hb.size
  (try simp at hz2)
  clear hb hrow2;clear h0_1 hl0_1;have hs2:=H2.size;have h0_2:=(H2.at 1 rfl).c;have hl0_2:=(H2.at 1 rfl).lt;clear h0_2 hl0_2;have HX:=(H2.bx [.slice ao L.length cap,.slice da M.length dc,.int .i64 i0,.int .i64 i1] 37 (w2.heap.size) rfl).drew;have NX:=Lib.hid (NO.out.kept ((Below.refl _ _).alloc (Nat.le_refl _) (.cells (List.toArray [.slice ao L.length cap,.slice da M.length dc,.int .i64 i0,.int .i64 i1]) 37)).drew)
  go_upto_region 4 with fail
  refine wp_region_held_drew (S:=fun X=>(∀j,X.cell? ⟨w2.heap.size,j,none⟩ = [.slice ao L.length cap,.slice da M.length dc,.int .i64 i0,.int .i64 i1][j]?)∧(∀j,X.cell? ⟨w.heap.size+1,j,none⟩ = [.int .i64 c.f,.int .i64 c.a,.int .i64 c.b,.int .i64 c.c,.int .i64 c.d,.int .i64 c.p,.int .i64 c.q,.int .i64 c.r,.int .i64 c.s][j]?)) (by kernel_rfl) ?_ (fun hHeld=>?_)
  ·exact ⟨(HX.at 0 rfl).c,(HX.at 1 rfl).c⟩
  refine wpAnyH_take (i:=0) (oi:=_) (v:=?_) rfl (by kernel_rfl) (by kernel_rfl) (by kernel_rfl) (fun _ _ _ h=>h) (Or.inl ⟨by rfl,?_⟩) (by assumption) ?_
  rotate_left
  ·(intro w hSw;(try dsimp only at hSw);go_simp;all_goals with_reducible rfl)
  try simp only [Act.put,List.getElem_toArray,List.getElem_cons_zero,sS]
  refine wpAnyH_ready (rs:=[1]) (by kernel_rfl) (by simp) ?_;refine AllReadyH.cons (o:=_) rfl (fun K hK=>?_) AllReadyH.nil;simp only [List.getElem_toArray,List.getElem_cons_zero,List.getElem_cons_succ];go_simp
  (go_at_call 8;refine (few31_any _).mono ?_;rintro r w3 ⟨rfl,hb⟩;rw [EF.out];have H3:=HX.call hb;have N3:=Lib.hid (NX.out.kept hb))
  go_wp2_with fail
  refine hK.out _ _ ⟨(H3.at 0 rfl).c,(H3.at 1 rfl).c⟩ (fun hHeld=>?_);clear hK K
  try simp only [Act.put,List.getElem_toArray,List.getElem_cons_zero,List.getElem_cons_succ,sS]
  refine wpAnyH_take (i:=2) (oi:=_) (v:=?_) rfl (by kernel_rfl) (by kernel_rfl) (by kernel_rfl) (fun _ _ _ h=>h) (Or.inl ⟨by rfl,?_⟩) (by assumption) ?_
  rotate_left
  ·(intro w hSw;(try dsimp only at hSw);go_simp;all_goals with_reducible rfl)
  try simp only [Act.put,List.getElem_toArray,List.getElem_cons_zero,List.getElem_cons_succ,sS]
  refine wpAnyH_take (i:=3) (oi:=_) (v:=?_) rfl (by kernel_rfl) (by kernel_rfl) (by kernel_rfl) (fun _ _ _ h=>h) (Or.inl ⟨by rfl,?_⟩) (by assumption) ?_
  rotate_left
  ·(intro w hSw;(try dsimp only at hSw);go_simp;all_goals with_reducible rfl)
  try simp only [Act.put,List.getElem_toArray,List.getElem_cons_zero,List.getElem_cons_succ,sS]
  refine wpAnyH_take (i:=4) (oi:=_) (v:=undef) rfl (by kernel_rfl) (by kernel_rfl) (by kernel_rfl) (fun _ _ _ h=>h) (Or.inr ⟨by rfl,rfl⟩) (by assumption) ?_
  try simp only [Act.put,List.getElem_toArray,List.getElem_cons_zero,List.getElem_cons_succ,sS]
  refine wpAnyH_take (i:=5) (oi:=_) (v:=undef) rfl (by kernel_rfl) (by kernel_rfl) (by kernel_rfl) (fun _ _ _ h=>h) (Or.inr ⟨by rfl,rfl⟩) (by assumption) ?_
  try simp only [Act.put,List.getElem_toArray,List.getElem_cons_zero,List.getElem_cons_succ,sS]
  refine wpAnyH_take (i:=6) (oi:=_) (v:=undef) rfl (by kernel_rfl) (by kernel_rfl) (by kernel_rfl) (fun _ _ _ h=>h) (Or.inr ⟨by rfl,rfl⟩) (by assumption) ?_
  try simp only [Act.put,List.getElem_toArray,List.getElem_cons_zero,List.getElem_cons_succ,sS]
  refine wpAnyH_take (i:=7) (oi:=_) (v:=undef) rfl (by kernel_rfl) (by kernel_rfl) (by kernel_rfl) (fun _ _ _ h=>h) (Or.inr ⟨by rfl,rfl⟩) (by assumption) ?_
  try simp only [Act.put,List.getElem_toArray,List.getElem_cons_zero,List.getElem_cons_succ,sS]
  refine wpAnyH_take (i:=8) (oi:=_) (v:=undef) rfl (by kernel_rfl) (by kernel_rfl) (by kernel_rfl) (fun _ _ _ h=>h) (Or.inr ⟨by rfl,rfl⟩) (by assumption) ?_
  try simp only [Act.put,List.getElem_toArray,List.getElem_cons_zero,List.getElem_cons_succ,sS]
  refine wpAnyH_take (i:=9) (oi:=_) (v:=?_) rfl (by kernel_rfl) (by kernel_rfl) (by kernel_rfl) (fun _ _ _ h=>h) (Or.inl ⟨by rfl,?_⟩) (by assumption) ?_
  rotate_left
  ·(intro w hSw;(try dsimp only at hSw);go_simp;all_goals with_reducible rfl)
  try simp only [Act.put,List.getElem_toArray,List.getElem_cons_zero,List.getElem_cons_succ,sS]
  refine wpAnyH_done (by kernel_rfl) ?_ _
  go_wp2_with fail
  go_ret
  exact ⟨rfl,H3.below⟩
 ·have EF:=Lib.hid hf;clear hf;cases hv:vCell L M i0 i1 c
  ·have EV:=Lib.hid hv;clear hv hn hp;have H0:=(((Ho.nil w).bx [.slice na L.length nc,.slice da M.length dc,.int .i64 i0,.int .i64 i1] 27 (w.heap.size) (by simp)).bx [.int .i64 c.f,.int .i64 c.a,.int .i64 c.b,.int .i64 c.c,.int .i64 c.d,.int .i64 c.p,.int .i64 c.q,.int .i64 c.r,.int .i64 c.s] 29 (w.heap.size+1) (by simp));go_enter Tryz.func4,Tryz.ntmps4
   go_wp2_with fail
   refine (awake32_any _).mono ?_;rintro r w1 ⟨rfl,hb⟩;have H1:Ho w w1 (w.heap.size+1+1) [(w.heap.size+1,[.int .i64 c.f,.int .i64 c.a,.int .i64 c.b,.int .i64 c.c,.int .i64 c.d,.int .i64 c.p,.int .i64 c.q,.int .i64 c.r,.int .i64 c.s]),(w.heap.size,[.slice na L.length nc,.slice da M.length dc,.int .i64 i0,.int .i64 i1])]:=Ho.call hoA hb;have hz1:=hb.size
   (try simp at hz1)
   clear hb;have hs1:=H1.size;have h0_1:=(H1.at 1 rfl).c;have hl0_1:=(H1.at 1 rfl).lt
   go_wp2_with fail
   refine (theirs31_any _ (HN.out.kept H1.below) hl).mono ?_;rintro r w2 ⟨⟨u2,rfl,hrow2⟩,hb⟩;obtain ⟨ao,cap,rfl⟩:=row_form6 hrow2;have H2:Ho w w2 (w.heap.size+1+1) [(w.heap.size+1,[.int .i64 c.f,.int .i64 c.a,.int .i64 c.b,.int .i64 c.c,.int .i64 c.d,.int .i64 c.p,.int .i64 c.q,.int .i64 c.r,.int .i64 c.s]),(w.heap.size,[.slice na L.length nc,.slice da M.length dc,.int .i64 i0,.int .i64 i1])]:=Ho.call hoA hb;have NO:=Lib.hid (nat_own hrow2);have hz2:=hb.size
   (try simp at hz2)
   clear hb hrow2;clear h0_1 hl0_1;have hs2:=H2.size;have h0_2:=(H2.at 1 rfl).c;have hl0_2:=(H2.at 1 rfl).lt;clear h0_2 hl0_2;have HX:=(H2.bx [.slice ao L.length cap,.slice da M.length dc,.int .i64 i0,.int .i64 i1] 37 (w2.heap.size) rfl).drew;have NX:=Lib.hid (NO.out.kept ((Below.refl _ _).alloc (Nat.le_refl _) (.cells (List.toArray [.slice ao L.length cap,.slice da M.length dc,.int .i64 i0,.int .i64 i1]) 37)).drew)
   go_upto_region 4 with fail
   refine wp_region_held_drew (S:=fun X=>(∀j,X.cell? ⟨w2.heap.size,j,none⟩ = [.slice ao L.length cap,.slice da M.length dc,.int .i64 i0,.int .i64 i1][j]?)∧(∀j,X.cell? ⟨w.heap.size+1,j,none⟩ = [.int .i64 c.f,.int .i64 c.a,.int .i64 c.b,.int .i64 c.c,.int .i64 c.d,.int .i64 c.p,.int .i64 c.q,.int .i64 c.r,.int .i64 c.s][j]?)) (by kernel_rfl) ?_ (fun hHeld=>?_)
   ·exact ⟨(HX.at 0 rfl).c,(HX.at 1 rfl).c⟩
   refine wpAnyH_take (i:=0) (oi:=_) (v:=?_) rfl (by kernel_rfl) (by kernel_rfl) (by kernel_rfl) (fun _ _ _ h=>h) (Or.inl ⟨by rfl,?_⟩) (by assumption) ?_
   rotate_left
   ·(intro w hSw;(try dsimp only at hSw);go_simp;all_goals with_reducible rfl)
   try simp only [Act.put,List.getElem_toArray,List.getElem_cons_zero,sS]
   refine wpAnyH_ready (rs:=[1]) (by kernel_rfl) (by simp) ?_;refine AllReadyH.cons (o:=_) rfl (fun K hK=>?_) AllReadyH.nil;simp only [List.getElem_toArray,List.getElem_cons_zero,List.getElem_cons_succ];go_simp
   (go_at_call 8;refine (few31_any _).mono ?_;rintro r w3 ⟨rfl,hb⟩;rw [EF.out];have H3:=HX.call hb;have N3:=Lib.hid (NX.out.kept hb))
   go_wp2_with fail
   refine hK.out _ _ ⟨(H3.at 0 rfl).c,(H3.at 1 rfl).c⟩ (fun hHeld=>?_);clear hK K
   try simp only [Act.put,List.getElem_toArray,List.getElem_cons_zero,List.getElem_cons_succ,sS]
   refine wpAnyH_take (i:=2) (oi:=_) (v:=?_) rfl (by kernel_rfl) (by kernel_rfl) (by kernel_rfl) (fun _ _ _ h=>h) (Or.inl ⟨by rfl,?_⟩) (by assumption) ?_
   rotate_left
   ·(intro w hSw;(try dsimp only at hSw);go_simp;all_goals with_reducible rfl)
   try simp only [Act.put,List.getElem_toArray,List.getElem_cons_zero,List.getElem_cons_succ,sS]
   refine wpAnyH_take (i:=3) (oi:=_) (v:=?_) rfl (by kernel_rfl) (by kernel_rfl) (by kernel_rfl) (fun _ _ _ h=>h) (Or.inl ⟨by rfl,?_⟩) (by assumption) ?_
   rotate_left
   ·(intro w hSw;(try dsimp only at hSw);go_simp;all_goals with_reducible rfl)
   try simp only [Act.put,List.getElem_toArray,List.getElem_cons_zero,List.getElem_cons_succ,sS]
   refine wpAnyH_take (i:=4) (oi:=_) (v:=?_) rfl (by kernel_rfl) (by kernel_rfl) (by kernel_rfl) (fun _ _ _ h=>h) (Or.inl ⟨by rfl,?_⟩) (by assumption) ?_
   rotate_left
   ·(intro w hSw;(try dsimp only at hSw);go_simp;all_goals with_reducible rfl)
   try simp only [Act.put,List.getElem_toArray,List.getElem_cons_zero,List.getElem_cons_succ,sS]
   refine wpAnyH_take (i:=5) (oi:=_) (v:=?_) rfl (by kernel_rfl) (by kernel_rfl) (by kernel_rfl) (fun _ _ _ h=>h) (Or.inl ⟨by rfl,?_⟩) (by assumption) ?_
   rotate_left
   ·(intro w hSw;(try dsimp only at hSw);go_simp;all_goals with_reducible rfl)
   try simp only [Act.put,List.getElem_toArray,List.getElem_cons_zero,List.getElem_cons_succ,sS]
   refine wpAnyH_ready (rs:=[6]) (by kernel_rfl) (by simp) ?_;refine AllReadyH.cons (o:=_) rfl (fun K hK=>?_) AllReadyH.nil;simp only [List.getElem_toArray,List.getElem_cons_zero,List.getElem_cons_succ];go_simp
   (go_at_call 10;refine (theirs32_any c _).mono ?_;rintro r w4 ⟨rfl,hb⟩;unfold cellv;have H4:=H3.call hb;have N4:=Lib.hid (N3.out.kept hb))
   go_wp2_with fail
   refine hK.out _ _ ⟨(H4.at 0 rfl).c,(H4.at 1 rfl).c⟩ (fun hHeld=>?_);clear hK K
   try simp only [Act.put,List.getElem_toArray,List.getElem_cons_zero,List.getElem_cons_succ,sS]
   refine wpAnyH_ready (rs:=[7]) (by kernel_rfl) (by simp) ?_;refine AllReadyH.cons (o:=_) rfl (fun K hK=>?_) AllReadyH.nil;simp only [List.getElem_toArray,List.getElem_cons_zero,List.getElem_cons_succ];go_simp
   (go_at_call 9;refine (rvcell_any c _ N4.out (HP.out.kept H4.below)).mono ?_;rintro r w5 ⟨rfl,hb⟩;rw [EV.out];have H5:=H4.call hb;have N5:=Lib.hid (N4.out.kept hb))
   go_wp2_with fail
   refine hK.out _ _ ⟨(H5.at 0 rfl).c,(H5.at 1 rfl).c⟩ (fun hHeld=>?_);clear hK K
   try simp only [Act.put,List.getElem_toArray,List.getElem_cons_zero,List.getElem_cons_succ,sS]
   refine wpAnyH_take (i:=8) (oi:=_) (v:=?_) rfl (by kernel_rfl) (by kernel_rfl) (by kernel_rfl) (fun _ _ _ h=>h) (Or.inl ⟨by rfl,?_⟩) (by assumption) ?_
   rotate_left
   ·(intro w hSw;(try dsimp only at hSw);go_simp;all_goals with_reducible rfl)
   try simp only [Act.put,List.getElem_toArray,List.getElem_cons_zero,List.getElem_cons_succ,sS]
   refine wpAnyH_take (i:=9) (oi:=_) (v:=?_) rfl (by kernel_rfl) (by kernel_rfl) (by kernel_rfl) (fun _ _ _ h=>h) (Or.inl ⟨by rfl,?_⟩) (by assumption) ?_
   rotate_left
   ·(intro w hSw;(try dsimp only at hSw);go_simp;all_goals with_reducible rfl)
   try simp only [Act.put,List.getElem_toArray,List.getElem_cons_zero,List.getElem_cons_succ,sS]
   refine wpAnyH_done (by kernel_rfl) ?_ _
   go_wp2_with fail
   go_ret
   exact ⟨rfl,H5.below⟩
  ·obtain ⟨k,hk,n,hx,dl,dh,hy⟩:=vcell_at hv;have hpl:=plane_plain hv;obtain ⟨cf,ca,cb,cc,cd,cp,cq,cr,cs⟩:=c;dsimp only at hk;subst hk
   have hnn:nthD L (k:Int)=n:=by rw [nthD,Int.toNat_natCast,hx];rfl
   have hmm:nthP M (k:Int)=(dl,dh):=by rw [nthP,Int.toNat_natCast,hy];rfl
   dsimp only at hpl;rw [hnn,hmm] at hpl;have hlt:k<L.length:=(List.getElem?_eq_some_iff.1 hx).1;have hlt2:k<M.length:=(List.getElem?_eq_some_iff.1 hy).1;obtain ⟨pb,po,rfl,hpb,hD⟩:=hp (by omega);have RP:=(Rs.mk hpb (hD k (dl,dh) hy):Rs w pb (po+k*2) [.int .i64 dl,.int .i64 dh]);obtain ⟨⟨⟨p1,p2,p3,p4,p5,p6⟩,pe⟩,hq⟩:∃r:RD,pointV L M i0 i1 ⟨k,ca,cb,cc,cd,cp,cq,cr,cs⟩=r:=⟨_,rfl⟩;rw [hq] at hpl;dsimp only at hpl;obtain ⟨⟨xl,xh,xe⟩,hd⟩:∃r:R,dotR n ⟨p1,p2,p3,p4,p5,p6⟩=r:=⟨_,rfl⟩;rw [hd] at hpl;dsimp only at hpl;have PLN:=Lib.hid hpl;have EV:=Lib.hid hv;have X3:=Lib.hid hd;have Y0:=Lib.hid hq;have HXX:=Lib.hid hx
   have hlt':(k:Int)<(L.length:Int):=by omega
   have hlt2':(k:Int)<(M.length:Int):=by omega
   have hge':(0:Int)≤(k:Int):=by omega
   clear hv hpl hd hq hx hy hnn hmm hD hn hp;have H0:=(((Ho.nil w).bx [.slice na L.length nc,.slice (some ⟨pb,po,none⟩) M.length dc,.int .i64 i0,.int .i64 i1] 27 (w.heap.size) (by simp)).bx [.int .i64 k,.int .i64 ca,.int .i64 cb,.int .i64 cc,.int .i64 cd,.int .i64 cp,.int .i64 cq,.int .i64 cr,.int .i64 cs] 29 (w.heap.size+1) (by simp));go_enter Tryz.func4,Tryz.ntmps4
   go_wp2_with fail
   refine (awake32_any _).mono ?_;rintro r w1 ⟨rfl,hb⟩;have H1:Ho w w1 (w.heap.size+1+1) [(w.heap.size+1,[.int .i64 k,.int .i64 ca,.int .i64 cb,.int .i64 cc,.int .i64 cd,.int .i64 cp,.int .i64 cq,.int .i64 cr,.int .i64 cs]),(w.heap.size,[.slice na L.length nc,.slice (some ⟨pb,po,none⟩) M.length dc,.int .i64 i0,.int .i64 i1])]:=Ho.call hoA hb;have hz1:=hb.size
   (try simp at hz1)
   clear hb;have hs1:=H1.size;have h0_1:=(H1.at 1 rfl).c;have hl0_1:=(H1.at 1 rfl).lt
   go_wp2_with fail
   refine (theirs31_any _ (HN.out.kept H1.below) hl).mono ?_;rintro r w2 ⟨⟨u2,rfl,hrow2⟩,hb⟩;obtain ⟨ao,cap,rfl⟩:=row_form6 hrow2;have H2:Ho w w2 (w.heap.size+1+1) [(w.heap.size+1,[.int .i64 k,.int .i64 ca,.int .i64 cb,.int .i64 cc,.int .i64 cd,.int .i64 cp,.int .i64 cq,.int .i64 cr,.int .i64 cs]),(w.heap.size,[.slice na L.length nc,.slice (some ⟨pb,po,none⟩) M.length dc,.int .i64 i0,.int .i64 i1])]:=Ho.call hoA hb;have NO:=Lib.hid (nat_own hrow2);have hz2:=hb.size
   (try simp at hz2)
   clear hb hrow2;clear h0_1 hl0_1;have hs2:=H2.size;have h0_2:=(H2.at 1 rfl).c;have hl0_2:=(H2.at 1 rfl).lt;clear h0_2 hl0_2;have HX:=(H2.bx [.slice ao L.length cap,.slice (some ⟨pb,po,none⟩) M.length dc,.int .i64 i0,.int .i64 i1] 37 (w2.heap.size) rfl).drew;have NX:=Lib.hid (NO.out.kept ((Below.refl _ _).alloc (Nat.le_refl _) (.cells (List.toArray [.slice ao L.length cap,.slice (some ⟨pb,po,none⟩) M.length dc,.int .i64 i0,.int .i64 i1]) 37)).drew)
   go_upto_region 4 with fail
   refine wp_region_held_drew (S:=fun X=>(∀j,X.cell? ⟨w2.heap.size,j,none⟩ = [.slice ao L.length cap,.slice (some ⟨pb,po,none⟩) M.length dc,.int .i64 i0,.int .i64 i1][j]?)∧(∀j,X.cell? ⟨w.heap.size+1,j,none⟩ = [.int .i64 k,.int .i64 ca,.int .i64 cb,.int .i64 cc,.int .i64 cd,.int .i64 cp,.int .i64 cq,.int .i64 cr,.int .i64 cs][j]?)) (by kernel_rfl) ?_ (fun hHeld=>?_)
   ·exact ⟨(HX.at 0 rfl).c,(HX.at 1 rfl).c⟩
   refine wpAnyH_take (i:=0) (oi:=_) (v:=?_) rfl (by kernel_rfl) (by kernel_rfl) (by kernel_rfl) (fun _ _ _ h=>h) (Or.inl ⟨by rfl,?_⟩) (by assumption) ?_
   rotate_left
   ·(intro w hSw;(try dsimp only at hSw);go_simp;all_goals with_reducible rfl)
   try simp only [Act.put,List.getElem_toArray,List.getElem_cons_zero,sS]
   refine wpAnyH_ready (rs:=[1]) (by kernel_rfl) (by simp) ?_;refine AllReadyH.cons (o:=_) rfl (fun K hK=>?_) AllReadyH.nil;simp only [List.getElem_toArray,List.getElem_cons_zero,List.getElem_cons_succ];go_simp
   (go_at_call 8;refine (few31_any _).mono ?_;rintro r w3 ⟨rfl,hb⟩;rw [EF.out];have H3:=HX.call hb;have N3:=Lib.hid (NX.out.kept hb))
   go_wp2_with fail
   refine hK.out _ _ ⟨(H3.at 0 rfl).c,(H3.at 1 rfl).c⟩ (fun hHeld=>?_);clear hK K
   try simp only [Act.put,List.getElem_toArray,List.getElem_cons_zero,List.getElem_cons_succ,sS]
   refine wpAnyH_take (i:=2) (oi:=_) (v:=?_) rfl (by kernel_rfl) (by kernel_rfl) (by kernel_rfl) (fun _ _ _ h=>h) (Or.inl ⟨by rfl,?_⟩) (by assumption) ?_
   rotate_left
   ·(intro w hSw;(try dsimp only at hSw);go_simp;all_goals with_reducible rfl)
   try simp only [Act.put,List.getElem_toArray,List.getElem_cons_zero,List.getElem_cons_succ,sS]
   refine wpAnyH_take (i:=3) (oi:=_) (v:=?_) rfl (by kernel_rfl) (by kernel_rfl) (by kernel_rfl) (fun _ _ _ h=>h) (Or.inl ⟨by rfl,?_⟩) (by assumption) ?_
   rotate_left
   ·(intro w hSw;(try dsimp only at hSw);go_simp;all_goals with_reducible rfl)
   try simp only [Act.put,List.getElem_toArray,List.getElem_cons_zero,List.getElem_cons_succ,sS]
   refine wpAnyH_take (i:=4) (oi:=_) (v:=?_) rfl (by kernel_rfl) (by kernel_rfl) (by kernel_rfl) (fun _ _ _ h=>h) (Or.inl ⟨by rfl,?_⟩) (by assumption) ?_
   rotate_left
   ·(intro w hSw;(try dsimp only at hSw);go_simp;all_goals with_reducible rfl)
   try simp only [Act.put,List.getElem_toArray,List.getElem_cons_zero,List.getElem_cons_succ,sS]
   refine wpAnyH_take (i:=5) (oi:=_) (v:=?_) rfl (by kernel_rfl) (by kernel_rfl) (by kernel_rfl) (fun _ _ _ h=>h) (Or.inl ⟨by rfl,?_⟩) (by assumption) ?_
   rotate_left
   ·(intro w hSw;(try dsimp only at hSw);go_simp;all_goals with_reducible rfl)
   try simp only [Act.put,List.getElem_toArray,List.getElem_cons_zero,List.getElem_cons_succ,sS]
   refine wpAnyH_ready (rs:=[6]) (by kernel_rfl) (by simp) ?_;refine AllReadyH.cons (o:=_) rfl (fun K hK=>?_) AllReadyH.nil;simp only [List.getElem_toArray,List.getElem_cons_zero,List.getElem_cons_succ];go_simp
   (go_at_call 10;refine (theirs32_any ⟨k,ca,cb,cc,cd,cp,cq,cr,cs⟩ _).mono ?_;rintro r w4 ⟨rfl,hb⟩;unfold cellv;have H4:=H3.call hb;have N4:=Lib.hid (N3.out.kept hb))
   go_wp2_with fail
   refine hK.out _ _ ⟨(H4.at 0 rfl).c,(H4.at 1 rfl).c⟩ (fun hHeld=>?_);clear hK K
   try simp only [Act.put,List.getElem_toArray,List.getElem_cons_zero,List.getElem_cons_succ,sS]
   refine wpAnyH_ready (rs:=[7]) (by kernel_rfl) (by simp) ?_;refine AllReadyH.cons (o:=_) rfl (fun K hK=>?_) AllReadyH.nil;simp only [List.getElem_toArray,List.getElem_cons_zero,List.getElem_cons_succ];go_simp
   (go_at_call 9;refine (rvcell_any ⟨k,ca,cb,cc,cd,cp,cq,cr,cs⟩ _ N4.out (HP.out.kept H4.below)).mono ?_;rintro r w5 ⟨rfl,hb⟩;rw [EV.out];have H5:=H4.call hb;have N5:=Lib.hid (N4.out.kept hb))
   go_wp2_with fail
   refine hK.out _ _ ⟨(H5.at 0 rfl).c,(H5.at 1 rfl).c⟩ (fun hHeld=>?_);clear hK K
   try simp only [Act.put,List.getElem_toArray,List.getElem_cons_zero,List.getElem_cons_succ,sS]
   refine wpAnyH_take (i:=8) (oi:=_) (v:=?_) rfl (by kernel_rfl) (by kernel_rfl) (by kernel_rfl) (fun _ _ _ h=>h) (Or.inl ⟨by rfl,?_⟩) (by assumption) ?_
   rotate_left
   ·(intro w hSw;(try dsimp only at hSw);go_simp;all_goals with_reducible rfl)
   try simp only [Act.put,List.getElem_toArray,List.getElem_cons_zero,List.getElem_cons_succ,sS]
   refine wpAnyH_take (i:=9) (oi:=_) (v:=?_) rfl (by kernel_rfl) (by kernel_rfl) (by kernel_rfl) (fun _ _ _ h=>h) (Or.inl ⟨by rfl,?_⟩) (by assumption) ?_
   rotate_left
   ·(intro w hSw;(try dsimp only at hSw);go_simp;all_goals with_reducible rfl)
   try simp only [Act.put,List.getElem_toArray,List.getElem_cons_zero,List.getElem_cons_succ,sS]
   refine wpAnyH_done (by kernel_rfl) ?_ _;obtain ⟨nb,no,rfl,hnb,hN⟩:=N5.out (by omega);have RN5:=(Rs.mk hnb (hN k n HXX.out):Rs w5 nb (no+k*6) [.int .i64 n.a,.int .i64 n.b,.int .i64 n.c,.int .i64 n.d,.int .i64 n.e,.int .i64 n.f]);clear hN N3 N4 N5 NX NO;have h0_5:=(H5.at 2 rfl).c;have h1_5:=(H5.at 1 rfl).c;have h2_5:=(H5.at 0 rfl).c
   go_wp2_with fail
   refine (cpoint_any ⟨k,ca,cb,cc,cd,cp,cq,cr,cs⟩ _ (HN.out.kept H5.below) (HP.out.kept H5.below)).mono ?_;rintro r w6 ⟨rfl,hb⟩;rw [Y0.out];unfold retD;dsimp only;have H6:=H5.call hb;have RN6:=RN5.kept hb;clear hb h0_5 h1_5 h2_5;have hs6:=H6.size;have n6:nb<w6.heap.size:=RN6.lt
   by_cases hpe:pe=0
   ·subst hpe
    go_upto_region 9 with fail
    have H7:=H6.bx [.int .i64 p1,.int .i64 p2,.int .i64 p3,.int .i64 p4,.int .i64 p5,.int .i64 p6] 45 (w6.heap.size) rfl;have RN7:=RN6.alc (.cells (List.toArray [.int .i64 p1,.int .i64 p2,.int .i64 p3,.int .i64 p4,.int .i64 p5,.int .i64 p6]) 45);revert H7 RN7;generalize (w6.alloc (.cells (List.toArray [.int .i64 p1,.int .i64 p2,.int .i64 p3,.int .i64 p4,.int .i64 p5,.int .i64 p6]) 45))=w7;intro H7 RN7;have HG:=H7.up;have hs7:=H7.size;have n7:=RN7.lt;refine region_sets (Pz.I nb no pb po L.length cap M.length dc k w.heap.size w2.heap.size w6.heap.size w7.heap.size nc i0 i1 p1 p2 p3 p4 p5 p6 xl xh xe ca cb cc cd cp cq cr cs n na w) (by kernel_rfl) ?_ (Pz.all nb no pb po L.length cap M.length dc k w.heap.size w2.heap.size w6.heap.size w7.heap.size nc i0 i1 p1 p2 p3 p4 p5 p6 xl xh xe ca cb cc cd cp cq cr cs n na w _ ?_) (Pz.all nb no pb po L.length cap M.length dc k w.heap.size w2.heap.size w6.heap.size w7.heap.size nc i0 i1 p1 p2 p3 p4 p5 p6 xl xh xe ca cb cc cd cp cq cr cs n na w _ ?_)
    ·refine ⟨false,false,false,false,false,false,false,false,false,false,false,false,false,false,undef,undef,undef,undef,undef,undef,undef,undef,undef,undef,undef,undef,undef,0,rfl,by simp only [Act.put,sS],?_⟩;constructor
     ·exact hoA
     ·(first|(simp;done)|(simp;omega))
     ·(omega)
     ·(with_reducible repeat (first|exact RN7|refine Rs.alc ?_ _|refine Rs.drew ?_))
     ·(omega)
     all_goals (intro h;cases h)
    ·intro w' l0 l1 l2 l3 l4 l5 l6 l7 l8 l9 l10 l11 l12 l13 v0 v1 v2 v3 v4 v5 v6 v7 v8 v9 v10 v11 v13 b11 h i hi;have hlt:=ready_lt hi
     match i,hi,hlt with
     |0,hi,_=>
      obtain rfl:l0=false:=rl rfl hi;clear hi hlt;have H:=Lib.hid h;clear h;refine wpOp_shut rfl (fun K hK=>?_)
      try simp only [Act.put,sS]
      go_simp;refine hK.out _ _ ?_;unfold Pz.I;refine ⟨_,_,_,_,_,_,_,_,_,_,_,_,_,_,(.pointer (some ⟨w2.heap.size,0,none⟩)),v1,v2,v3,v4,v5,v6,v7,v8,v9,v10,v11,v13,b11,rfl,?_,?_⟩
      ·kernel_rfl
      ·exact {H.out with ev0:=fun _=>rfl}
     |1,hi,_=>
      obtain rfl:l1=false:=rl rfl hi;obtain rfl:l0=true:=rk rfl hi 0 .data;clear hi hlt;obtain rfl:=h.ev0 rfl;have c:=(h.g.at 1 rfl).c;have H:=Lib.hid h;clear h;refine wpOp_shut rfl (fun K hK=>?_)
      try simp only [Act.put,sS]
      go_simp;refine hK.out _ _ ?_;unfold Pz.I;refine ⟨_,_,_,_,_,_,_,_,_,_,_,_,_,_,(.pointer (some ⟨w2.heap.size,0,none⟩)),(.slice (some ⟨nb,no,none⟩) L.length cap),v2,v3,v4,v5,v6,v7,v8,v9,v10,v11,v13,b11,rfl,?_,?_⟩
      ·kernel_rfl
      ·exact {H.out with ev1:=fun _=>rfl}
     |2,hi,_=>
      obtain rfl:l2=false:=rl rfl hi;clear hi hlt;have H:=Lib.hid h;clear h;refine wpOp_shut rfl (fun K hK=>?_)
      try simp only [Act.put,sS]
      go_simp;refine hK.out _ _ ?_;unfold Pz.I;refine ⟨_,_,_,_,_,_,_,_,_,_,_,_,_,_,v0,v1,(.pointer (some ⟨w.heap.size+1,0,none⟩)),v3,v4,v5,v6,v7,v8,v9,v10,v11,v13,b11,rfl,?_,?_⟩
      ·kernel_rfl
      ·exact {H.out with ev2:=fun _=>rfl}
     |3,hi,_=>
      obtain rfl:l3=false:=rl rfl hi;obtain rfl:l2=true:=rk rfl hi 2 .data;clear hi hlt;obtain rfl:=h.ev2 rfl;have c:=(h.g.at 2 rfl).c;have H:=Lib.hid h;clear h;refine wpOp_shut rfl (fun K hK=>?_)
      try simp only [Act.put,sS]
      go_simp;refine hK.out _ _ ?_;unfold Pz.I;refine ⟨_,_,_,_,_,_,_,_,_,_,_,_,_,_,v0,v1,(.pointer (some ⟨w.heap.size+1,0,none⟩)),(.int .i64 k),v4,v5,v6,v7,v8,v9,v10,v11,v13,b11,rfl,?_,?_⟩
      ·kernel_rfl
      ·exact {H.out with ev3:=fun _=>rfl}
     |4,hi,_=>
      obtain rfl:l4=false:=rl rfl hi;obtain rfl:l1=true:=rk rfl hi 1 .data;obtain rfl:l3=true:=rk rfl hi 3 .data;clear hi hlt;obtain rfl:=h.ev1 rfl;obtain rfl:=h.ev3 rfl;have H:=Lib.hid h;clear h;refine wpOp_shut rfl (fun K hK=>?_)
      try simp only [Act.put,sS]
      go_simp;refine hK.out _ _ ?_;unfold Pz.I;refine ⟨_,_,_,_,_,_,_,_,_,_,_,_,_,_,v0,(.slice (some ⟨nb,no,none⟩) L.length cap),v2,(.int .i64 k),(.pointer (some ⟨nb,no+k*6,none⟩)),v5,v6,v7,v8,v9,v10,v11,v13,b11,rfl,?_,?_⟩
      ·kernel_rfl
      ·exact {H.out with ev4:=fun _=>rfl}
     |5,hi,_=>
      obtain rfl:l5=false:=rl rfl hi;obtain rfl:l4=true:=rk rfl hi 4 .data;clear hi hlt;obtain rfl:=h.ev4 rfl;have c0:w'.cell? ⟨nb,no+k*6,none⟩=some (.int .i64 n.a):=h.u0.c 0 (by simp);have c1:w'.cell? ⟨nb,no+k*6+1,none⟩=some (.int .i64 n.b):=h.u0.c 1 (by simp);have c2:w'.cell? ⟨nb,no+k*6+2,none⟩=some (.int .i64 n.c):=h.u0.c 2 (by simp);have c3:w'.cell? ⟨nb,no+k*6+3,none⟩=some (.int .i64 n.d):=h.u0.c 3 (by simp);have c4:w'.cell? ⟨nb,no+k*6+4,none⟩=some (.int .i64 n.e):=h.u0.c 4 (by simp);have c5:w'.cell? ⟨nb,no+k*6+5,none⟩=some (.int .i64 n.f):=h.u0.c 5 (by simp);have H:=Lib.hid h;clear h;refine wpOp_shut rfl (fun K hK=>?_)
      try simp only [Act.put,sS]
      go_simp;refine hK.out _ _ ?_;unfold Pz.I;refine ⟨_,_,_,_,_,_,_,_,_,_,_,_,_,_,v0,v1,v2,v3,(.pointer (some ⟨nb,no+k*6,none⟩)),((dv n)),v6,v7,v8,v9,v10,v11,v13,b11,rfl,?_,?_⟩
      ·kernel_rfl
      ·exact {H.out with ev5:=fun _=>rfl}
     |6,hi,_=>
      obtain rfl:l6=false:=rl rfl hi;clear hi hlt;have c:=(h.g.at 0 rfl).c;have H:=Lib.hid h;clear h;refine wpOp_shut rfl (fun K hK=>?_)
      try simp only [Act.put,sS]
      go_simp;refine hK.out _ _ ?_;unfold Pz.I;refine ⟨_,_,_,_,_,_,_,_,_,_,_,_,_,_,v0,v1,v2,v3,v4,v5,(.agg #[.int .i64 p1,.int .i64 p2,.int .i64 p3,.int .i64 p4,.int .i64 p5,.int .i64 p6]),v7,v8,v9,v10,v11,v13,b11,rfl,?_,?_⟩
      ·kernel_rfl
      ·exact {H.out with ev6:=fun _=>rfl}
     |7,hi,_=>
      obtain rfl:l7=false:=rl rfl hi;obtain rfl:l5=true:=rk rfl hi 5 .data;obtain rfl:l6=true:=rk rfl hi 6 .data;clear hi hlt;obtain rfl:=h.ev5 rfl;obtain rfl:=h.ev6 rfl;have H:=Lib.hid h;clear h;refine wpOp_shut rfl (fun K hK=>?_)
      try simp only [Act.put,sS]
      go_simp;refine (rfdot_any n ⟨p1,p2,p3,p4,p5,p6⟩ _).mono ?_;rintro e wY ⟨rfl,hb⟩;rw [X3.out];dsimp only
      try go_simp
      refine hK.out _ _ ?_;unfold Pz.I;refine ⟨_,_,_,_,_,_,_,_,_,_,_,_,_,_,v0,v1,v2,v3,v4,((dv n)),(.agg #[.int .i64 p1,.int .i64 p2,.int .i64 p3,.int .i64 p4,.int .i64 p5,.int .i64 p6]),(.tuple #[(iv xl xh),.int .i64 xe]),v8,v9,v10,v11,v13,b11,rfl,?_,?_⟩
      ·kernel_rfl
      ·exact {(H.out.kept hb) with ev7:=fun _=>rfl}
     |8,hi,_=>
      obtain rfl:l8=false:=rl rfl hi;obtain rfl:l7=true:=rk rfl hi 7 .data;clear hi hlt;obtain rfl:=h.ev7 rfl;have H:=Lib.hid h;clear h;refine wpOp_shut rfl (fun K hK=>?_)
      try simp only [Act.put,sS]
      go_simp;refine hK.out _ _ ?_;unfold Pz.I;refine ⟨_,_,_,_,_,_,_,_,_,_,_,_,_,_,v0,v1,v2,v3,v4,v5,v6,(.tuple #[(iv xl xh),.int .i64 xe]),(.tuple #[(iv xl xh),.int .i64 xe]),v9,v10,v11,v13,b11,rfl,?_,?_⟩
      ·kernel_rfl
      ·exact {H.out with ev8:=fun _=>rfl}
     |9,hi,_=>
      obtain rfl:l9=false:=rl rfl hi;obtain rfl:l8=true:=rk rfl hi 8 .data;clear hi hlt;obtain rfl:=h.ev8 rfl;have H:=Lib.hid h;clear h;refine wpOp_shut rfl (fun K hK=>?_)
      try simp only [Act.put,sS]
      go_simp;refine hK.out _ _ ?_;unfold Pz.I;refine ⟨_,_,_,_,_,_,_,_,_,_,_,_,_,_,v0,v1,v2,v3,v4,v5,v6,v7,(.tuple #[(iv xl xh),.int .i64 xe]),((iv xl xh)),v10,v11,v13,b11,rfl,?_,?_⟩
      ·kernel_rfl
      ·exact {H.out with ev9:=fun _=>rfl}
     |10,hi,_=>
      obtain rfl:l10=false:=rl rfl hi;obtain rfl:l8=true:=rk rfl hi 8 .data;clear hi hlt;obtain rfl:=h.ev8 rfl;have H:=Lib.hid h;clear h;refine wpOp_shut rfl (fun K hK=>?_)
      try simp only [Act.put,sS]
      go_simp;refine hK.out _ _ ?_;unfold Pz.I;refine ⟨_,_,_,_,_,_,_,_,_,_,_,_,_,_,v0,v1,v2,v3,v4,v5,v6,v7,(.tuple #[(iv xl xh),.int .i64 xe]),v9,(.int .i64 xe),v11,v13,b11,rfl,?_,?_⟩
      ·kernel_rfl
      ·exact {H.out with ev10:=fun _=>rfl}
     |11,hi,_=>
      obtain rfl:l11=false:=rl rfl hi;clear hi hlt;have H:=Lib.hid h;clear h;refine wpOp_shut rfl (fun K hK=>?_)
      try simp only [Act.put,sS]
      go_simp;refine hK.out _ _ ?_;unfold Pz.I;refine ⟨_,_,_,_,_,_,_,_,_,_,_,_,_,_,v0,v1,v2,v3,v4,v5,v6,v7,v8,v9,v10,(.pointer (some ⟨w'.heap.size,0,none⟩)),v13,w'.heap.size,rfl,?_,?_⟩
      ·kernel_rfl
      ·have h:=H.out;have h2:=h.kept ((Below.refl _ _).alloc (Nat.le_refl _) (.cells (List.toArray [.int .i64 0,.int .i64 0]) 25));exact {h2 with ev11:=fun _=>rfl,g11:=fun _=>h.sz,t11:=fun _=>by simp,o11:=fun p=>rfl,z11:=fun _ _=>Bx.new rfl,s11:=fun p=>(nomatch (h.o11 p))}
     |12,hi,_=>
      obtain rfl:l12=false:=rl rfl hi;obtain rfl:l11=true:=rk rfl hi 11 .phase;obtain rfl:l9=true:=rk rfl hi 9 .phase;obtain rfl:l7=true:=rk rfl hi 7 .phase;obtain rfl:l0=true:=rk rfl hi 0 .phase;obtain rfl:l1=true:=rk rfl hi 1 .phase;obtain rfl:l2=true:=rk rfl hi 2 .phase;obtain rfl:l3=true:=rk rfl hi 3 .phase;obtain rfl:l4=true:=rk rfl hi 4 .phase;obtain rfl:l5=true:=rk rfl hi 5 .phase;obtain rfl:l6=true:=rk rfl hi 6 .phase;obtain rfl:l8=true:=rk rfl hi 8 .phase;clear hi hlt;obtain rfl:=h.ev11 rfl;obtain rfl:=h.ev9 rfl;obtain rfl:=h.ev7 rfl;obtain rfl:=h.ev0 rfl;obtain rfl:=h.ev1 rfl;obtain rfl:=h.ev2 rfl;obtain rfl:=h.ev3 rfl;obtain rfl:=h.ev4 rfl;obtain rfl:=h.ev5 rfl;obtain rfl:=h.ev6 rfl;obtain rfl:=h.ev8 rfl;have bz:=h.z11 rfl rfl;have c:=bz.c;have f:=bz.f;clear bz;have H:=Lib.hid h;clear h;refine wpOp_shut rfl (fun K hK=>?_)
      try simp only [Act.put,sS]
      go_simp;refine hK.out _ _ ?_;unfold Pz.I;refine ⟨_,_,_,_,_,_,_,_,_,_,_,_,_,_,(.pointer (some ⟨w2.heap.size,0,none⟩)),(.slice (some ⟨nb,no,none⟩) L.length cap),(.pointer (some ⟨w.heap.size+1,0,none⟩)),(.int .i64 k),(.pointer (some ⟨nb,no+k*6,none⟩)),((dv n)),(.agg #[.int .i64 p1,.int .i64 p2,.int .i64 p3,.int .i64 p4,.int .i64 p5,.int .i64 p6]),(.tuple #[(iv xl xh),.int .i64 xe]),(.tuple #[(iv xl xh),.int .i64 xe]),((iv xl xh)),v10,(.pointer (some ⟨b11,0,none⟩)),v13,b11,rfl,?_,?_⟩
      ·kernel_rfl
      ·have h:=H.out;have gb:=h.g11 rfl;have gm:=Nat.le_trans h.mn gb;exact {h with g:=((h.g.put gm).put gm),sz:=by simpa using h.sz,o11:=fun _=>rfl,z11:=fun _ p=>(nomatch p),s11:=fun _=>(((h.z11 rfl rfl).put).put),t11:=fun p=>by simpa using h.t11 p,u0:=((h.u0.set (Nat.ne_of_lt (Nat.lt_of_lt_of_le h.un0 gb))).set (Nat.ne_of_lt (Nat.lt_of_lt_of_le h.un0 gb)))}
     |13,hi,_=>
      obtain rfl:l13=false:=rl rfl hi;obtain rfl:l10=true:=rk rfl hi 10 .phase;obtain rfl:l12=true:=rk rfl hi 12 .phase;obtain rfl:l0=true:=rk rfl hi 0 .phase;obtain rfl:l1=true:=rk rfl hi 1 .phase;obtain rfl:l2=true:=rk rfl hi 2 .phase;obtain rfl:l3=true:=rk rfl hi 3 .phase;obtain rfl:l4=true:=rk rfl hi 4 .phase;obtain rfl:l5=true:=rk rfl hi 5 .phase;obtain rfl:l6=true:=rk rfl hi 6 .phase;obtain rfl:l7=true:=rk rfl hi 7 .phase;obtain rfl:l8=true:=rk rfl hi 8 .phase;obtain rfl:l9=true:=rk rfl hi 9 .phase;obtain rfl:l11=true:=rk rfl hi 11 .phase;clear hi hlt;obtain rfl:=h.ev10 rfl;obtain rfl:=h.ev0 rfl;obtain rfl:=h.ev1 rfl;obtain rfl:=h.ev2 rfl;obtain rfl:=h.ev3 rfl;obtain rfl:=h.ev4 rfl;obtain rfl:=h.ev5 rfl;obtain rfl:=h.ev6 rfl;obtain rfl:=h.ev7 rfl;obtain rfl:=h.ev8 rfl;obtain rfl:=h.ev9 rfl;obtain rfl:=h.ev11 rfl;have H:=Lib.hid h;clear h;refine wpOp_shut rfl (fun K hK=>?_)
      try simp only [Act.put,sS]
      go_simp;refine hK.out _ _ ?_;unfold Pz.I;refine ⟨_,_,_,_,_,_,_,_,_,_,_,_,_,_,(.pointer (some ⟨w2.heap.size,0,none⟩)),(.slice (some ⟨nb,no,none⟩) L.length cap),(.pointer (some ⟨w.heap.size+1,0,none⟩)),(.int .i64 k),(.pointer (some ⟨nb,no+k*6,none⟩)),((dv n)),(.agg #[.int .i64 p1,.int .i64 p2,.int .i64 p3,.int .i64 p4,.int .i64 p5,.int .i64 p6]),(.tuple #[(iv xl xh),.int .i64 xe]),(.tuple #[(iv xl xh),.int .i64 xe]),((iv xl xh)),(.int .i64 xe),(.pointer (some ⟨b11,0,none⟩)),(.int .i64 xe),b11,rfl,?_,?_⟩
      ·kernel_rfl
      ·exact {H.out with ev13:=fun _=>rfl}
     |i+14,_,hlt=>exact absurd hlt (by simp)
    ·intro w' l0 l1 l2 l3 l4 l5 l6 l7 l8 l9 l10 l11 l12 l13 v0 v1 v2 v3 v4 v5 v6 v7 v8 v9 v10 v11 v13 b11 h hn;obtain rfl:l0=true:=nr 0 rfl hn;obtain rfl:l1=true:=nr 1 rfl hn;obtain rfl:l2=true:=nr 2 rfl hn;obtain rfl:l3=true:=nr 3 rfl hn;obtain rfl:l4=true:=nr 4 rfl hn;obtain rfl:l5=true:=nr 5 rfl hn;obtain rfl:l6=true:=nr 6 rfl hn;obtain rfl:l7=true:=nr 7 rfl hn;obtain rfl:l8=true:=nr 8 rfl hn;obtain rfl:l9=true:=nr 9 rfl hn;obtain rfl:l10=true:=nr 10 rfl hn;obtain rfl:l11=true:=nr 11 rfl hn;obtain rfl:l12=true:=nr 12 rfl hn;obtain rfl:l13=true:=nr 13 rfl hn;clear hn;obtain rfl:=h.ev0 rfl;obtain rfl:=h.ev1 rfl;obtain rfl:=h.ev2 rfl;obtain rfl:=h.ev3 rfl;obtain rfl:=h.ev4 rfl;obtain rfl:=h.ev5 rfl;obtain rfl:=h.ev6 rfl;obtain rfl:=h.ev7 rfl;obtain rfl:=h.ev8 rfl;obtain rfl:=h.ev9 rfl;obtain rfl:=h.ev10 rfl;obtain rfl:=h.ev11 rfl;obtain rfl:=h.ev13 rfl;simp only [Act.put,sS]
     rename World=>w8
     have H8:=h.g;have B8:=h.s11 rfl;have hz8:=h.sz;have e8:=h.g11 rfl;clear h;have x8:=B8.c;have y8:=B8.lt;have RP8:=RP.kept H8.below;have c0:w8.cell? ⟨pb,po+k*2,none⟩=some (.int .i64 dl):=RP8.c 0 (by simp);have c1:w8.cell? ⟨pb,po+k*2+1,none⟩=some (.int .i64 dh):=RP8.c 1 (by simp);have z8:=RP8.lt;have o8:=(H8.at 1 rfl).c;have k8:=(H8.at 2 rfl).c;have ol8:=(H8.at 1 rfl).lt;have kl8:=(H8.at 2 rfl).lt
     by_cases hxe:xe=0
     ·subst hxe;obtain ⟨l1,l2⟩:=PLN.out rfl rfl
      go_wp2_with fail
      go_quiet (fail)
      all_goals go_wp2_with fail
      all_goals go_ret
      all_goals exact ⟨rfl,bdrewN' H8.below _⟩
     ·have nx:(xe != 0)=true:=by simpa using hxe
      go_wp2_with fail
      go_quiet (fail)
      all_goals go_wp2_with fail
      all_goals go_ret
      all_goals exact ⟨rfl,bdrewN' H8.below _⟩
   ·have np:(pe != 0)=true:=by simpa using hpe
    go_wp2_with fail
    go_ret
    exact ⟨rfl,(H6.alc _).below⟩
end Go.Proofs.YtiecdgcdcpmgaaaGreat.Iv
