/- Texts PCe2, PCe4, PCe5, PRw. -/
import Derived.Test.YtiecdgcdcpmgaaaGreatM06
import Derived.Test.YtiecdgcdcpmgaaaGreatM12
import Derived.Test.YtiecdgcdcpmgaaaGreatM17
import Derived.Test.YtiecdgcdcpmgaaaGreatM25
import Derived.LoopTactic
import Derived.Test.YtiecdgcdcpmgaaaGreatM20
import Derived.Test.YtiecdgcdcpmgaaaGreatM23
import Derived.Test.YtiecdgcdcpmgaaaGreatM21

/- Contracts of cell.Valid and cell.Point. -/
namespace Go.Proofs.YtiecdgcdcpmgaaaGreat.Iv
open Go.RowKit
attribute [local go_sem] Oper.semAt_some
def vCell (L:List D) (M:List (Int × Int)) (i0 i1:Int) (c:CV):Bool:=
 vBody L M i0 i1 && (decide (0≤c.f∧c.f<(L.length:Int)) && (decide (0<(nthD L c.f).e) && (vC c && (cone c.p c.q && cone c.r c.s))))
def nthP (M:List (Int × Int)) (k:Int):Int × Int:=(M[k.toNat]?).getD (0,0)
noncomputable def pointV (L:List D) (M:List (Int × Int)) (i0 i1:Int) (c:CV):RD:=
 if vCell L M i0 i1 c=true then pointR (nthD L c.f) (nthP M c.f).1 (nthP M c.f).2 c.a c.b c.c c.d else ⟨zD,1⟩
set_option maxRecDepth 100000 in
set_option maxHeartbeats 8000000 in
theorem vcell_any {na da:Option Addr} {nc dc:Nat} {L:List D} {M:List (Int × Int)} {i0 i1:Int} (c:CV) (w:World) (hn:NAt w na L) (hp:PAt w da M) :
  Calls Tryz.prog 25 #[.agg #[.slice na L.length nc,.slice da M.length dc,.int .i64 i0,.int .i64 i1],cellv c] w fun e w'=>e = .returned (.bool (vCell L M i0 i1 c))∧Below w.heap.size w w':=by
 unfold cellv;have HN:=Lib.hid hn;have HP:=Lib.hid hp;cases hB:vBody L M i0 i1
 ·rw [show vCell L M i0 i1 c=false from by simp [vCell,hB]];have EB:=Lib.hid hB;clear hB;have H0:=(((Ho.nil w).bx [.slice na L.length nc,.slice da M.length dc,.int .i64 i0,.int .i64 i1] 27 (w.heap.size) (by simp)).bx [.int .i64 c.f,.int .i64 c.a,.int .i64 c.b,.int .i64 c.c,.int .i64 c.d,.int .i64 c.p,.int .i64 c.q,.int .i64 c.r,.int .i64 c.s] 29 (w.heap.size+1) (by simp));clear hn hp;have HZ0:Ho w ((w.alloc (.cells (List.toArray [.slice na L.length nc,.slice da M.length dc,.int .i64 i0,.int .i64 i1]) 27)).alloc (.cells (List.toArray [.int .i64 c.f,.int .i64 c.a,.int .i64 c.b,.int .i64 c.c,.int .i64 c.d,.int .i64 c.p,.int .i64 c.q,.int .i64 c.r,.int .i64 c.s]) 29)) (w.heap.size+1+1) [(w.heap.size+1,[.int .i64 c.f,.int .i64 c.a,.int .i64 c.b,.int .i64 c.c,.int .i64 c.d,.int .i64 c.p,.int .i64 c.q,.int .i64 c.r,.int .i64 c.s]),(w.heap.size,[.slice na L.length nc,.slice da M.length dc,.int .i64 i0,.int .i64 i1])]:=hoA;go_enter Tryz.func25,Tryz.ntmps25
  go_wp2_with fail
  refine (vbody_any _ (HN.out.kept HZ0.below) (HP.out.kept HZ0.below)).mono ?_;rintro r w1 ⟨rfl,hb⟩;rw [EB.out];have H1:Ho w w1 (w.heap.size+1+1) [(w.heap.size+1,[.int .i64 c.f,.int .i64 c.a,.int .i64 c.b,.int .i64 c.c,.int .i64 c.d,.int .i64 c.p,.int .i64 c.q,.int .i64 c.r,.int .i64 c.s]),(w.heap.size,[.slice na L.length nc,.slice da M.length dc,.int .i64 i0,.int .i64 i1])]:=Ho.call hoA hb;have hs1:=H1.size;have hz1:=hb.size
  (try simp at hz1)
  clear hb;have h0_1:=(H1.at 1 rfl).c;have h1_1:=(H1.at 0 rfl).c;have zx1:=ai (zq (w.heap.size) (w1.heap.size))<|zq (w.heap.size+1) (w1.heap.size)
  go_wp2_with fail
  go_ret
  exact ⟨rfl,H1.below⟩
 ·have EB:=Lib.hid hB
  by_cases hf0:c.f<0
  ·rw [show vCell L M i0 i1 c=false from by rw [vCell,hB,decide_eq_false (p:=0≤c.f∧c.f<(L.length:Int)) (by omega)];rfl];clear hB;have H0:=(((Ho.nil w).bx [.slice na L.length nc,.slice da M.length dc,.int .i64 i0,.int .i64 i1] 27 (w.heap.size) (by simp)).bx [.int .i64 c.f,.int .i64 c.a,.int .i64 c.b,.int .i64 c.c,.int .i64 c.d,.int .i64 c.p,.int .i64 c.q,.int .i64 c.r,.int .i64 c.s] 29 (w.heap.size+1) (by simp));clear hn hp;have HZ0:Ho w ((w.alloc (.cells (List.toArray [.slice na L.length nc,.slice da M.length dc,.int .i64 i0,.int .i64 i1]) 27)).alloc (.cells (List.toArray [.int .i64 c.f,.int .i64 c.a,.int .i64 c.b,.int .i64 c.c,.int .i64 c.d,.int .i64 c.p,.int .i64 c.q,.int .i64 c.r,.int .i64 c.s]) 29)) (w.heap.size+1+1) [(w.heap.size+1,[.int .i64 c.f,.int .i64 c.a,.int .i64 c.b,.int .i64 c.c,.int .i64 c.d,.int .i64 c.p,.int .i64 c.q,.int .i64 c.r,.int .i64 c.s]),(w.heap.size,[.slice na L.length nc,.slice da M.length dc,.int .i64 i0,.int .i64 i1])]:=hoA;go_enter Tryz.func25,Tryz.ntmps25
   go_wp2_with fail
   refine (vbody_any _ (HN.out.kept HZ0.below) (HP.out.kept HZ0.below)).mono ?_;rintro r w1 ⟨rfl,hb⟩;rw [EB.out];have H1:Ho w w1 (w.heap.size+1+1) [(w.heap.size+1,[.int .i64 c.f,.int .i64 c.a,.int .i64 c.b,.int .i64 c.c,.int .i64 c.d,.int .i64 c.p,.int .i64 c.q,.int .i64 c.r,.int .i64 c.s]),(w.heap.size,[.slice na L.length nc,.slice da M.length dc,.int .i64 i0,.int .i64 i1])]:=Ho.call hoA hb;have hs1:=H1.size;have hz1:=hb.size
   (try simp at hz1)
   clear hb;have h0_1:=(H1.at 1 rfl).c;have h1_1:=(H1.at 0 rfl).c;have zx1:=ai (zq (w.heap.size) (w1.heap.size))<|zq (w.heap.size+1) (w1.heap.size)
   go_wp2_with fail
   go_ret
   exact ⟨rfl,H1.below⟩
  ·by_cases hf1:(L.length:Int)≤c.f
   ·rw [show vCell L M i0 i1 c=false from by rw [vCell,hB,decide_eq_false (p:=0≤c.f∧c.f<(L.length:Int)) (by omega)];rfl];clear hB;have H0:=(((Ho.nil w).bx [.slice na L.length nc,.slice da M.length dc,.int .i64 i0,.int .i64 i1] 27 (w.heap.size) (by simp)).bx [.int .i64 c.f,.int .i64 c.a,.int .i64 c.b,.int .i64 c.c,.int .i64 c.d,.int .i64 c.p,.int .i64 c.q,.int .i64 c.r,.int .i64 c.s] 29 (w.heap.size+1) (by simp));clear hn hp;have HZ0:Ho w ((w.alloc (.cells (List.toArray [.slice na L.length nc,.slice da M.length dc,.int .i64 i0,.int .i64 i1]) 27)).alloc (.cells (List.toArray [.int .i64 c.f,.int .i64 c.a,.int .i64 c.b,.int .i64 c.c,.int .i64 c.d,.int .i64 c.p,.int .i64 c.q,.int .i64 c.r,.int .i64 c.s]) 29)) (w.heap.size+1+1) [(w.heap.size+1,[.int .i64 c.f,.int .i64 c.a,.int .i64 c.b,.int .i64 c.c,.int .i64 c.d,.int .i64 c.p,.int .i64 c.q,.int .i64 c.r,.int .i64 c.s]),(w.heap.size,[.slice na L.length nc,.slice da M.length dc,.int .i64 i0,.int .i64 i1])]:=hoA;go_enter Tryz.func25,Tryz.ntmps25
    go_wp2_with fail
    refine (vbody_any _ (HN.out.kept HZ0.below) (HP.out.kept HZ0.below)).mono ?_;rintro r w1 ⟨rfl,hb⟩;rw [EB.out];have H1:Ho w w1 (w.heap.size+1+1) [(w.heap.size+1,[.int .i64 c.f,.int .i64 c.a,.int .i64 c.b,.int .i64 c.c,.int .i64 c.d,.int .i64 c.p,.int .i64 c.q,.int .i64 c.r,.int .i64 c.s]),(w.heap.size,[.slice na L.length nc,.slice da M.length dc,.int .i64 i0,.int .i64 i1])]:=Ho.call hoA hb;have hs1:=H1.size;have hz1:=hb.size
    (try simp at hz1)
    clear hb;have h0_1:=(H1.at 1 rfl).c;have h1_1:=(H1.at 0 rfl).c;have zx1:=ai (zq (w.heap.size) (w1.heap.size))<|zq (w.heap.size+1) (w1.heap.size)
    go_wp2_with fail
    go_ret
    exact ⟨rfl,H1.below⟩
   ·obtain ⟨cf,ca,cb,cc,cd,cp,cq,cr,cs⟩:=c;dsimp only at hf0 hf1 ⊢;obtain ⟨k,rfl⟩:∃k:Nat,cf=(k:Int):=⟨cf.toNat,by omega⟩
    have hk:k<L.length:=by omega
    obtain ⟨n,hx⟩:∃n,L[k]? = some n:=⟨L[k],List.getElem?_eq_getElem hk⟩
    have hnn:nthD L (k:Int)=n:=by rw [nthD,Int.toNat_natCast,hx];rfl
    have hv:vCell L M i0 i1 ⟨k,ca,cb,cc,cd,cp,cq,cr,cs⟩=(decide (0<n.e) && (vC ⟨k,ca,cb,cc,cd,cp,cq,cr,cs⟩ && (cone cp cq && cone cr cs))):=by
     rw [vCell];dsimp only;rw [hB,decide_eq_true (p:=0≤(k:Int)∧(k:Int)<(L.length:Int)) ⟨by omega,by omega⟩,hnn];rfl
    rw [hv];obtain ⟨nb,no,rfl,hnb,hN⟩:=hn (by omega);have RN0:=(Rs.mk hnb (hN k n hx):Rs w nb (no+k*6) [.int .i64 n.a,.int .i64 n.b,.int .i64 n.c,.int .i64 n.d,.int .i64 n.e,.int .i64 n.f])
    have hlt':(k:Int)<(L.length:Int):=by omega
    have hge':(0:Int)≤(k:Int):=by omega
    clear hB hv hnn hN hn hp hx hf0 hf1
    by_cases hz:n.e≤0
    ·rw [decide_eq_false (p:=0<n.e) (by omega),Bool.false_and];have H0:=(((Ho.nil w).bx [.slice (some ⟨nb,no,none⟩) L.length nc,.slice da M.length dc,.int .i64 i0,.int .i64 i1] 27 (w.heap.size) (by simp)).bx [.int .i64 k,.int .i64 ca,.int .i64 cb,.int .i64 cc,.int .i64 cd,.int .i64 cp,.int .i64 cq,.int .i64 cr,.int .i64 cs] 29 (w.heap.size+1) (by simp));have HZ0:Ho w ((w.alloc (.cells (List.toArray [.slice (some ⟨nb,no,none⟩) L.length nc,.slice da M.length dc,.int .i64 i0,.int .i64 i1]) 27)).alloc (.cells (List.toArray [.int .i64 k,.int .i64 ca,.int .i64 cb,.int .i64 cc,.int .i64 cd,.int .i64 cp,.int .i64 cq,.int .i64 cr,.int .i64 cs]) 29)) (w.heap.size+1+1) [(w.heap.size+1,[.int .i64 k,.int .i64 ca,.int .i64 cb,.int .i64 cc,.int .i64 cd,.int .i64 cp,.int .i64 cq,.int .i64 cr,.int .i64 cs]),(w.heap.size,[.slice (some ⟨nb,no,none⟩) L.length nc,.slice da M.length dc,.int .i64 i0,.int .i64 i1])]:=hoA;go_enter Tryz.func25,Tryz.ntmps25
     go_wp2_with fail
     refine (vbody_any _ (HN.out.kept HZ0.below) (HP.out.kept HZ0.below)).mono ?_;rintro r w1 ⟨rfl,hb⟩;rw [EB.out];have H1:Ho w w1 (w.heap.size+1+1) [(w.heap.size+1,[.int .i64 k,.int .i64 ca,.int .i64 cb,.int .i64 cc,.int .i64 cd,.int .i64 cp,.int .i64 cq,.int .i64 cr,.int .i64 cs]),(w.heap.size,[.slice (some ⟨nb,no,none⟩) L.length nc,.slice da M.length dc,.int .i64 i0,.int .i64 i1])]:=Ho.call hoA hb;have hs1:=H1.size;have hz1:=hb.size
     (try simp at hz1)
     clear hb;have h0_1:=(H1.at 1 rfl).c;have h1_1:=(H1.at 0 rfl).c;have zx1:=ai (zq (w.heap.size) (w1.heap.size))<|zq (w.heap.size+1) (w1.heap.size);have RN1:=RN0.kept H1.below;have n1_4:w1.cell? ⟨nb,no+k*6+4,none⟩=some (.int .i64 n.e):=RN1.c 4 (by simp)
     go_wp2_with fail
     go_ret
     exact ⟨rfl,H1.below⟩
    ·rw [decide_eq_true (p:=0<n.e) (by omega),Bool.true_and];cases hC:vC ⟨k,ca,cb,cc,cd,cp,cq,cr,cs⟩
     ·have EC:=Lib.hid hC;clear hC;rw [Bool.false_and];have H0:=(((Ho.nil w).bx [.slice (some ⟨nb,no,none⟩) L.length nc,.slice da M.length dc,.int .i64 i0,.int .i64 i1] 27 (w.heap.size) (by simp)).bx [.int .i64 k,.int .i64 ca,.int .i64 cb,.int .i64 cc,.int .i64 cd,.int .i64 cp,.int .i64 cq,.int .i64 cr,.int .i64 cs] 29 (w.heap.size+1) (by simp));have HZ0:Ho w ((w.alloc (.cells (List.toArray [.slice (some ⟨nb,no,none⟩) L.length nc,.slice da M.length dc,.int .i64 i0,.int .i64 i1]) 27)).alloc (.cells (List.toArray [.int .i64 k,.int .i64 ca,.int .i64 cb,.int .i64 cc,.int .i64 cd,.int .i64 cp,.int .i64 cq,.int .i64 cr,.int .i64 cs]) 29)) (w.heap.size+1+1) [(w.heap.size+1,[.int .i64 k,.int .i64 ca,.int .i64 cb,.int .i64 cc,.int .i64 cd,.int .i64 cp,.int .i64 cq,.int .i64 cr,.int .i64 cs]),(w.heap.size,[.slice (some ⟨nb,no,none⟩) L.length nc,.slice da M.length dc,.int .i64 i0,.int .i64 i1])]:=hoA;go_enter Tryz.func25,Tryz.ntmps25
      go_wp2_with fail
      refine (vbody_any _ (HN.out.kept HZ0.below) (HP.out.kept HZ0.below)).mono ?_;rintro r w1 ⟨rfl,hb⟩;rw [EB.out];have H1:Ho w w1 (w.heap.size+1+1) [(w.heap.size+1,[.int .i64 k,.int .i64 ca,.int .i64 cb,.int .i64 cc,.int .i64 cd,.int .i64 cp,.int .i64 cq,.int .i64 cr,.int .i64 cs]),(w.heap.size,[.slice (some ⟨nb,no,none⟩) L.length nc,.slice da M.length dc,.int .i64 i0,.int .i64 i1])]:=Ho.call hoA hb;have hs1:=H1.size;have hz1:=hb.size
      (try simp at hz1)
      clear hb;have h0_1:=(H1.at 1 rfl).c;have h1_1:=(H1.at 0 rfl).c;have zx1:=ai (zq (w.heap.size) (w1.heap.size))<|zq (w.heap.size+1) (w1.heap.size);have RN1:=RN0.kept H1.below;have n1_4:w1.cell? ⟨nb,no+k*6+4,none⟩=some (.int .i64 n.e):=RN1.c 4 (by simp)
      go_wp2_with fail
      refine (vints_any ⟨k,ca,cb,cc,cd,cp,cq,cr,cs⟩ _).mono ?_;rintro r w2 ⟨rfl,hb⟩;rw [EC.out];have H2:Ho w w2 (w.heap.size+1+1) [(w.heap.size+1,[.int .i64 k,.int .i64 ca,.int .i64 cb,.int .i64 cc,.int .i64 cd,.int .i64 cp,.int .i64 cq,.int .i64 cr,.int .i64 cs]),(w.heap.size,[.slice (some ⟨nb,no,none⟩) L.length nc,.slice da M.length dc,.int .i64 i0,.int .i64 i1])]:=Ho.call hoA hb;clear h0_1 h1_1 zx1;have hs2:=H2.size;have hz2:=hb.size
      (try simp at hz2)
      clear hb;have h0_2:=(H2.at 1 rfl).c;have h1_2:=(H2.at 0 rfl).c;have zx2:=ai (zq (w.heap.size) (w2.heap.size))<|zq (w.heap.size+1) (w2.heap.size)
      go_wp2_with fail
      go_ret
      exact ⟨rfl,H2.below⟩
     ·have EC:=Lib.hid hC;clear hC;rw [Bool.true_and];cases h1:cone cp cq
      ·have E1:=Lib.hid h1;clear h1;rw [Bool.false_and];have H0:=(((Ho.nil w).bx [.slice (some ⟨nb,no,none⟩) L.length nc,.slice da M.length dc,.int .i64 i0,.int .i64 i1] 27 (w.heap.size) (by simp)).bx [.int .i64 k,.int .i64 ca,.int .i64 cb,.int .i64 cc,.int .i64 cd,.int .i64 cp,.int .i64 cq,.int .i64 cr,.int .i64 cs] 29 (w.heap.size+1) (by simp));have HZ0:Ho w ((w.alloc (.cells (List.toArray [.slice (some ⟨nb,no,none⟩) L.length nc,.slice da M.length dc,.int .i64 i0,.int .i64 i1]) 27)).alloc (.cells (List.toArray [.int .i64 k,.int .i64 ca,.int .i64 cb,.int .i64 cc,.int .i64 cd,.int .i64 cp,.int .i64 cq,.int .i64 cr,.int .i64 cs]) 29)) (w.heap.size+1+1) [(w.heap.size+1,[.int .i64 k,.int .i64 ca,.int .i64 cb,.int .i64 cc,.int .i64 cd,.int .i64 cp,.int .i64 cq,.int .i64 cr,.int .i64 cs]),(w.heap.size,[.slice (some ⟨nb,no,none⟩) L.length nc,.slice da M.length dc,.int .i64 i0,.int .i64 i1])]:=hoA;go_enter Tryz.func25,Tryz.ntmps25
       go_wp2_with fail
       refine (vbody_any _ (HN.out.kept HZ0.below) (HP.out.kept HZ0.below)).mono ?_;rintro r w1 ⟨rfl,hb⟩;rw [EB.out];have H1:Ho w w1 (w.heap.size+1+1) [(w.heap.size+1,[.int .i64 k,.int .i64 ca,.int .i64 cb,.int .i64 cc,.int .i64 cd,.int .i64 cp,.int .i64 cq,.int .i64 cr,.int .i64 cs]),(w.heap.size,[.slice (some ⟨nb,no,none⟩) L.length nc,.slice da M.length dc,.int .i64 i0,.int .i64 i1])]:=Ho.call hoA hb;have hs1:=H1.size;have hz1:=hb.size
       (try simp at hz1)
       clear hb;have h0_1:=(H1.at 1 rfl).c;have h1_1:=(H1.at 0 rfl).c;have zx1:=ai (zq (w.heap.size) (w1.heap.size))<|zq (w.heap.size+1) (w1.heap.size);have RN1:=RN0.kept H1.below;have n1_4:w1.cell? ⟨nb,no+k*6+4,none⟩=some (.int .i64 n.e):=RN1.c 4 (by simp)
       go_wp2_with fail
       refine (vints_any ⟨k,ca,cb,cc,cd,cp,cq,cr,cs⟩ _).mono ?_;rintro r w2 ⟨rfl,hb⟩;rw [EC.out];have H2:Ho w w2 (w.heap.size+1+1) [(w.heap.size+1,[.int .i64 k,.int .i64 ca,.int .i64 cb,.int .i64 cc,.int .i64 cd,.int .i64 cp,.int .i64 cq,.int .i64 cr,.int .i64 cs]),(w.heap.size,[.slice (some ⟨nb,no,none⟩) L.length nc,.slice da M.length dc,.int .i64 i0,.int .i64 i1])]:=Ho.call hoA hb;clear h0_1 h1_1 zx1;have hs2:=H2.size;have hz2:=hb.size
       (try simp at hz2)
       clear hb;have h0_2:=(H2.at 1 rfl).c;have h1_2:=(H2.at 0 rfl).c;have zx2:=ai (zq (w.heap.size) (w2.heap.size))<|zq (w.heap.size+1) (w2.heap.size)
       go_wp2_with fail
       refine (cone_any cp cq _).mono ?_;rintro r w3 ⟨rfl,hb⟩;rw [E1.out];have H3:Ho w w3 (w.heap.size+1+1) [(w.heap.size+1,[.int .i64 k,.int .i64 ca,.int .i64 cb,.int .i64 cc,.int .i64 cd,.int .i64 cp,.int .i64 cq,.int .i64 cr,.int .i64 cs]),(w.heap.size,[.slice (some ⟨nb,no,none⟩) L.length nc,.slice da M.length dc,.int .i64 i0,.int .i64 i1])]:=Ho.call hoA hb;clear h0_2 h1_2 zx2;have hs3:=H3.size;have hz3:=hb.size
       (try simp at hz3)
       clear hb;have h0_3:=(H3.at 1 rfl).c;have h1_3:=(H3.at 0 rfl).c;have zx3:=ai (zq (w.heap.size) (w3.heap.size))<|zq (w.heap.size+1) (w3.heap.size)
       go_wp2_with fail
       go_ret
       exact ⟨rfl,H3.below⟩
      ·have E1:=Lib.hid h1;clear h1;rw [Bool.true_and];have H0:=(((Ho.nil w).bx [.slice (some ⟨nb,no,none⟩) L.length nc,.slice da M.length dc,.int .i64 i0,.int .i64 i1] 27 (w.heap.size) (by simp)).bx [.int .i64 k,.int .i64 ca,.int .i64 cb,.int .i64 cc,.int .i64 cd,.int .i64 cp,.int .i64 cq,.int .i64 cr,.int .i64 cs] 29 (w.heap.size+1) (by simp));have HZ0:Ho w ((w.alloc (.cells (List.toArray [.slice (some ⟨nb,no,none⟩) L.length nc,.slice da M.length dc,.int .i64 i0,.int .i64 i1]) 27)).alloc (.cells (List.toArray [.int .i64 k,.int .i64 ca,.int .i64 cb,.int .i64 cc,.int .i64 cd,.int .i64 cp,.int .i64 cq,.int .i64 cr,.int .i64 cs]) 29)) (w.heap.size+1+1) [(w.heap.size+1,[.int .i64 k,.int .i64 ca,.int .i64 cb,.int .i64 cc,.int .i64 cd,.int .i64 cp,.int .i64 cq,.int .i64 cr,.int .i64 cs]),(w.heap.size,[.slice (some ⟨nb,no,none⟩) L.length nc,.slice da M.length dc,.int .i64 i0,.int .i64 i1])]:=hoA;go_enter Tryz.func25,Tryz.ntmps25
       go_wp2_with fail
       refine (vbody_any _ (HN.out.kept HZ0.below) (HP.out.kept HZ0.below)).mono ?_;rintro r w1 ⟨rfl,hb⟩;rw [EB.out];have H1:Ho w w1 (w.heap.size+1+1) [(w.heap.size+1,[.int .i64 k,.int .i64 ca,.int .i64 cb,.int .i64 cc,.int .i64 cd,.int .i64 cp,.int .i64 cq,.int .i64 cr,.int .i64 cs]),(w.heap.size,[.slice (some ⟨nb,no,none⟩) L.length nc,.slice da M.length dc,.int .i64 i0,.int .i64 i1])]:=Ho.call hoA hb;have hs1:=H1.size;have hz1:=hb.size
       (try simp at hz1)
       clear hb;have h0_1:=(H1.at 1 rfl).c;have h1_1:=(H1.at 0 rfl).c;have zx1:=ai (zq (w.heap.size) (w1.heap.size))<|zq (w.heap.size+1) (w1.heap.size);have RN1:=RN0.kept H1.below;have n1_4:w1.cell? ⟨nb,no+k*6+4,none⟩=some (.int .i64 n.e):=RN1.c 4 (by simp)
       go_wp2_with fail
       refine (vints_any ⟨k,ca,cb,cc,cd,cp,cq,cr,cs⟩ _).mono ?_;rintro r w2 ⟨rfl,hb⟩;rw [EC.out];have H2:Ho w w2 (w.heap.size+1+1) [(w.heap.size+1,[.int .i64 k,.int .i64 ca,.int .i64 cb,.int .i64 cc,.int .i64 cd,.int .i64 cp,.int .i64 cq,.int .i64 cr,.int .i64 cs]),(w.heap.size,[.slice (some ⟨nb,no,none⟩) L.length nc,.slice da M.length dc,.int .i64 i0,.int .i64 i1])]:=Ho.call hoA hb;clear h0_1 h1_1 zx1;have hs2:=H2.size;have hz2:=hb.size
       (try simp at hz2)
       clear hb;have h0_2:=(H2.at 1 rfl).c;have h1_2:=(H2.at 0 rfl).c;have zx2:=ai (zq (w.heap.size) (w2.heap.size))<|zq (w.heap.size+1) (w2.heap.size)
       go_wp2_with fail
       refine (cone_any cp cq _).mono ?_;rintro r w3 ⟨rfl,hb⟩;rw [E1.out];have H3:Ho w w3 (w.heap.size+1+1) [(w.heap.size+1,[.int .i64 k,.int .i64 ca,.int .i64 cb,.int .i64 cc,.int .i64 cd,.int .i64 cp,.int .i64 cq,.int .i64 cr,.int .i64 cs]),(w.heap.size,[.slice (some ⟨nb,no,none⟩) L.length nc,.slice da M.length dc,.int .i64 i0,.int .i64 i1])]:=Ho.call hoA hb;clear h0_2 h1_2 zx2;have hs3:=H3.size;have hz3:=hb.size
       (try simp at hz3)
       clear hb;have h0_3:=(H3.at 1 rfl).c;have h1_3:=(H3.at 0 rfl).c;have zx3:=ai (zq (w.heap.size) (w3.heap.size))<|zq (w.heap.size+1) (w3.heap.size)
       go_wp2_with fail
       refine (cone_any cr cs _).mono ?_;rintro r w4 ⟨rfl,hb⟩;have H4:Ho w w4 (w.heap.size+1+1) [(w.heap.size+1,[.int .i64 k,.int .i64 ca,.int .i64 cb,.int .i64 cc,.int .i64 cd,.int .i64 cp,.int .i64 cq,.int .i64 cr,.int .i64 cs]),(w.heap.size,[.slice (some ⟨nb,no,none⟩) L.length nc,.slice da M.length dc,.int .i64 i0,.int .i64 i1])]:=Ho.call hoA hb;clear h0_3 h1_3 zx3;have hs4:=H4.size;have hz4:=hb.size
       (try simp at hz4)
       clear hb;have h0_4:=(H4.at 1 rfl).c;have h1_4:=(H4.at 0 rfl).c;have zx4:=ai (zq (w.heap.size) (w4.heap.size))<|zq (w.heap.size+1) (w4.heap.size)
       go_wp2_with fail
       go_ret
       exact ⟨rfl,H4.below⟩
theorem vcell_at {L:List D} {M:List (Int × Int)} {i0 i1:Int} {c:CV} (h:vCell L M i0 i1 c=true):∃k:Nat,c.f=(k:Int)∧∃n,L[k]? = some n∧∃dl dh,M[k]? = some (dl,dh):=by
 simp only [vCell,vBody,Bool.and_eq_true,decide_eq_true_eq] at h;obtain ⟨⟨⟨h1,h2,h3⟩,_⟩,⟨h4,h5⟩,_⟩:=h;refine ⟨c.f.toNat,by omega,L[c.f.toNat],List.getElem?_eq_getElem (by omega),M[c.f.toNat].1,M[c.f.toNat].2,?_⟩;rw [List.getElem?_eq_getElem (by omega)]
set_option maxRecDepth 100000 in
set_option maxHeartbeats 8000000 in
theorem cpoint_any {na da:Option Addr} {nc dc:Nat} {L:List D} {M:List (Int × Int)} {i0 i1:Int} (c:CV) (w:World) (hn:NAt w na L) (hp:PAt w da M) :
  Calls Tryz.prog 17 #[.agg #[.slice na L.length nc,.slice da M.length dc,.int .i64 i0,.int .i64 i1],cellv c] w fun e w'=>e=retD (pointV L M i0 i1 c)∧Below w.heap.size w w':=by
 unfold cellv;have HN:=Lib.hid hn;have HP:=Lib.hid hp;cases hV:vCell L M i0 i1 c
 ·rw [show pointV L M i0 i1 c=⟨zD,1⟩ from if_neg (by rw [hV];decide)];have EV:=Lib.hid hV;clear hV hn hp;have H0:=(((Ho.nil w).bx [.slice na L.length nc,.slice da M.length dc,.int .i64 i0,.int .i64 i1] 27 (w.heap.size) (by simp)).bx [.int .i64 c.f,.int .i64 c.a,.int .i64 c.b,.int .i64 c.c,.int .i64 c.d,.int .i64 c.p,.int .i64 c.q,.int .i64 c.r,.int .i64 c.s] 29 (w.heap.size+1) (by simp));have o_0:Bx (((w.alloc (.cells (List.toArray [.slice na L.length nc,.slice da M.length dc,.int .i64 i0,.int .i64 i1]) 27)).alloc (.cells (List.toArray [.int .i64 c.f,.int .i64 c.a,.int .i64 c.b,.int .i64 c.c,.int .i64 c.d,.int .i64 c.p,.int .i64 c.q,.int .i64 c.r,.int .i64 c.s]) 29)).alloc (.cells (List.toArray [.int .i64 0,.int .i64 0,.int .i64 0,.int .i64 0,.int .i64 0,.int .i64 0]) 45)) (w.heap.size+1+1) [.int .i64 0,.int .i64 0,.int .i64 0,.int .i64 0,.int .i64 0,.int .i64 0]:=bxA;have HZ0:Ho w (((w.alloc (.cells (List.toArray [.slice na L.length nc,.slice da M.length dc,.int .i64 i0,.int .i64 i1]) 27)).alloc (.cells (List.toArray [.int .i64 c.f,.int .i64 c.a,.int .i64 c.b,.int .i64 c.c,.int .i64 c.d,.int .i64 c.p,.int .i64 c.q,.int .i64 c.r,.int .i64 c.s]) 29)).alloc (.cells (List.toArray [.int .i64 0,.int .i64 0,.int .i64 0,.int .i64 0,.int .i64 0,.int .i64 0]) 45)) (w.heap.size+1+1) [(w.heap.size+1,[.int .i64 c.f,.int .i64 c.a,.int .i64 c.b,.int .i64 c.c,.int .i64 c.d,.int .i64 c.p,.int .i64 c.q,.int .i64 c.r,.int .i64 c.s]),(w.heap.size,[.slice na L.length nc,.slice da M.length dc,.int .i64 i0,.int .i64 i1])]:=hoA;go_enter Tryz.func17,Tryz.ntmps17;have o_0c:=o_0.c;have o_0f:=o_0.f
  go_wp2_with fail
  refine (vcell_any c _ (HN.out.kept HZ0.below) (HP.out.kept HZ0.below)).mono ?_;rintro r w1 ⟨rfl,hb⟩;rw [EV.out];have H1:Ho w w1 (w.heap.size+1+1) [(w.heap.size+1,[.int .i64 c.f,.int .i64 c.a,.int .i64 c.b,.int .i64 c.c,.int .i64 c.d,.int .i64 c.p,.int .i64 c.q,.int .i64 c.r,.int .i64 c.s]),(w.heap.size,[.slice na L.length nc,.slice da M.length dc,.int .i64 i0,.int .i64 i1])]:=Ho.call hoA hb;have o_1:=bxK o_0 hb;clear o_0c o_0f;have hs1:=H1.size;have hz1:=hb.size
  (try simp at hz1)
  clear hb;have h0_1:=(H1.at 1 rfl).c;have h1_1:=(H1.at 0 rfl).c;have o_1c:=o_1.c;have o_1f:=o_1.f;have o_1l:=o_1.lt;have zx1:=ai (zq (w.heap.size+1+1) (w1.heap.size))<|ai (zq (w.heap.size) (w1.heap.size))<|ai (zq (w.heap.size+1) (w1.heap.size))<|ai (zp (w.heap.size+1+1) (w.heap.size))<|zp (w.heap.size+1+1) (w.heap.size+1)
  go_wp2_with fail
  refine bodyPost_box (b:=w.heap.size+1+1) (cs:=[.int .i64 0,.int .i64 0,.int .i64 0,.int .i64 0,.int .i64 0,.int .i64 0]) (v:=.tuple #[dv zD,.int .i64 1]) bxA (fun X hX=>by simp [zD,results,Tryz.results17,go_sem,hX]) rfl ⟨rfl,by
   refine Ho.below (n:=w.heap.size+1+1) (l:=[(w.heap.size+1,[.int .i64 c.f,.int .i64 c.a,.int .i64 c.b,.int .i64 c.c,.int .i64 c.d,.int .i64 c.p,.int .i64 c.q,.int .i64 c.r,.int .i64 c.s]),(w.heap.size,[.slice na L.length nc,.slice da M.length dc,.int .i64 i0,.int .i64 i1])]) ?_
   exact hoA⟩
 ·rw [show pointV L M i0 i1 c=pointR (nthD L c.f) (nthP M c.f).1 (nthP M c.f).2 c.a c.b c.c c.d from if_pos hV];have EV:=Lib.hid hV;obtain ⟨k,hk,n,hx,dl,dh,hy⟩:=vcell_at hV;obtain ⟨⟨⟨d0,d1,d2,d3,d4,d5⟩,e2⟩,h2⟩:∃r:RD,pointR n dl dh c.a c.b c.c c.d=r:=⟨_,rfl⟩;have HR:=Lib.hid (show pointR (nthD L c.f) (nthP M c.f).1 (nthP M c.f).2 c.a c.b c.c c.d=⟨⟨d0,d1,d2,d3,d4,d5⟩,e2⟩ from by rw [nthD,nthP,hk,Int.toNat_natCast,hx,hy];exact h2);rw [HR.out];have X2:=Lib.hid h2;have HK:=Lib.hid hk;have HX:=Lib.hid hx;have HY:=Lib.hid hy;clear hV hn hp h2 hx hy hk;have H0:=(((Ho.nil w).bx [.slice na L.length nc,.slice da M.length dc,.int .i64 i0,.int .i64 i1] 27 (w.heap.size) (by simp)).bx [.int .i64 c.f,.int .i64 c.a,.int .i64 c.b,.int .i64 c.c,.int .i64 c.d,.int .i64 c.p,.int .i64 c.q,.int .i64 c.r,.int .i64 c.s] 29 (w.heap.size+1) (by simp));have o_0:Bx (((w.alloc (.cells (List.toArray [.slice na L.length nc,.slice da M.length dc,.int .i64 i0,.int .i64 i1]) 27)).alloc (.cells (List.toArray [.int .i64 c.f,.int .i64 c.a,.int .i64 c.b,.int .i64 c.c,.int .i64 c.d,.int .i64 c.p,.int .i64 c.q,.int .i64 c.r,.int .i64 c.s]) 29)).alloc (.cells (List.toArray [.int .i64 0,.int .i64 0,.int .i64 0,.int .i64 0,.int .i64 0,.int .i64 0]) 45)) (w.heap.size+1+1) [.int .i64 0,.int .i64 0,.int .i64 0,.int .i64 0,.int .i64 0,.int .i64 0]:=bxA;have HZ0:Ho w (((w.alloc (.cells (List.toArray [.slice na L.length nc,.slice da M.length dc,.int .i64 i0,.int .i64 i1]) 27)).alloc (.cells (List.toArray [.int .i64 c.f,.int .i64 c.a,.int .i64 c.b,.int .i64 c.c,.int .i64 c.d,.int .i64 c.p,.int .i64 c.q,.int .i64 c.r,.int .i64 c.s]) 29)).alloc (.cells (List.toArray [.int .i64 0,.int .i64 0,.int .i64 0,.int .i64 0,.int .i64 0,.int .i64 0]) 45)) (w.heap.size+1+1) [(w.heap.size+1,[.int .i64 c.f,.int .i64 c.a,.int .i64 c.b,.int .i64 c.c,.int .i64 c.d,.int .i64 c.p,.int .i64 c.q,.int .i64 c.r,.int .i64 c.s]),(w.heap.size,[.slice na L.length nc,.slice da M.length dc,.int .i64 i0,.int .i64 i1])]:=hoA;go_enter Tryz.func17,Tryz.ntmps17;have o_0c:=o_0.c;have o_0f:=o_0.f
  go_wp2_with fail
  refine (vcell_any c _ (HN.out.kept HZ0.below) (HP.out.kept HZ0.below)).mono ?_;rintro r w1 ⟨rfl,hb⟩;rw [EV.out];have H1:Ho w w1 (w.heap.size+1+1) [(w.heap.size+1,[.int .i64 c.f,.int .i64 c.a,.int .i64 c.b,.int .i64 c.c,.int .i64 c.d,.int .i64 c.p,.int .i64 c.q,.int .i64 c.r,.int .i64 c.s]),(w.heap.size,[.slice na L.length nc,.slice da M.length dc,.int .i64 i0,.int .i64 i1])]:=Ho.call hoA hb;have o_1:=bxK o_0 hb;clear o_0c o_0f;have hs1:=H1.size;have hz1:=hb.size
  (try simp at hz1)
  clear hb;have h0_1:=(H1.at 1 rfl).c;have h1_1:=(H1.at 0 rfl).c;have o_1c:=o_1.c;have o_1f:=o_1.f;have o_1l:=o_1.lt;have zx1:=ai (zq (w.heap.size+1+1) (w1.heap.size))<|ai (zq (w.heap.size) (w1.heap.size))<|ai (zq (w.heap.size+1) (w1.heap.size))<|ai (zp (w.heap.size+1+1) (w.heap.size))<|zp (w.heap.size+1+1) (w.heap.size+1);rw [HK.out] at h1_1
  go_wp2_with fail
  refine (point_any (k:=k) (i0:=i0) (i1:=i1) (ul:=c.p) (uh:=c.q) (vl:=c.r) (vh:=c.s) _ (HN.out.kept H1.below) (HP.out.kept H1.below) HX.out HY.out).mono ?_;rintro r w2 ⟨rfl,hb⟩;rw [X2.out];have H2:Ho w w2 (w.heap.size+1+1) [(w.heap.size+1,[.int .i64 c.f,.int .i64 c.a,.int .i64 c.b,.int .i64 c.c,.int .i64 c.d,.int .i64 c.p,.int .i64 c.q,.int .i64 c.r,.int .i64 c.s]),(w.heap.size,[.slice na L.length nc,.slice da M.length dc,.int .i64 i0,.int .i64 i1])]:=Ho.call hoA hb;have o_2:=bxK o_1 hb;clear h0_1 h1_1 o_1c o_1f zx1;have hs2:=H2.size;have hz2:=hb.size
  (try simp at hz2)
  clear hb;have h0_2:=(H2.at 1 rfl).c;have h1_2:=(H2.at 0 rfl).c;have o_2c:=o_2.c;have o_2f:=o_2.f;have o_2l:=o_2.lt;have zx2:=ai (zq (w.heap.size+1+1) (w2.heap.size))<|ai (zq (w.heap.size) (w2.heap.size))<|ai (zq (w.heap.size+1) (w2.heap.size))<|ai (zp (w.heap.size+1+1) (w.heap.size))<|zp (w.heap.size+1+1) (w.heap.size+1)
  go_wp2_with fail
  refine bodyPost_box (b:=w.heap.size+1+1) (cs:=[.int .i64 d0,.int .i64 d1,.int .i64 d2,.int .i64 d3,.int .i64 d4,.int .i64 d5]) (v:=.tuple #[.agg #[.int .i64 d0,.int .i64 d1,.int .i64 d2,.int .i64 d3,.int .i64 d4,.int .i64 d5],.int .i64 e2]) bxA (fun X hX=>by simp [results,Tryz.results17,go_sem,hX]) rfl ⟨rfl,by
   refine Ho.below (n:=w.heap.size+1+1) (l:=[(w.heap.size+1,[.int .i64 c.f,.int .i64 c.a,.int .i64 c.b,.int .i64 c.c,.int .i64 c.d,.int .i64 c.p,.int .i64 c.q,.int .i64 c.r,.int .i64 c.s]),(w.heap.size,[.slice na L.length nc,.slice da M.length dc,.int .i64 i0,.int .i64 i1])]) ?_
   exact hoA⟩
end Go.Proofs.YtiecdgcdcpmgaaaGreat.Iv

/- Contract of cell.Covers. -/
namespace Go.Proofs.YtiecdgcdcpmgaaaGreat.Iv
open Go.RowKit
attribute [local go_sem] Oper.semAt_some
def coverL (f:Int) (t:D):Int→List (D × Int × Int)→Int→Int × Int
 |_,[],kd=>(kd,0)
 |i,x::l,kd=>if i=f then coverL f t (i+1) l kd else if (gapR x.1 x.2.1 x.2.2 t).e=0 then coverL f t (i+1) l (kindS kd (gapR x.1 x.2.1 x.2.2 t)) else (0,(gapR x.1 x.2.1 x.2.2 t).e)
noncomputable def coverR (L:List D) (M:List (Int × Int)) (i0 i1:Int) (c:CV):Int × Int:=
 if (pointV L M i0 i1 c).e=0 then coverL c.f (pointV L M i0 i1 c).d 0 (L.zip M) 1 else (0,(pointV L M i0 i1 c).e)
theorem drop_some {α : Type} {l:List α} {k:Nat} {x : α} (h:l[k]? = some x):l.drop k=x::l.drop (k+1):=by
 obtain ⟨h1,h2⟩:=List.getElem?_eq_some_iff.1 h;rw [List.drop_eq_getElem_cons h1,h2]
theorem point_len {L:List D} {M:List (Int × Int)} {i0 i1:Int} {c:CV} (h:(pointV L M i0 i1 c).e=0):M.length=L.length∧L.length≤100:=by
 by_cases hv:vCell L M i0 i1 c=true
 ·simp only [vCell,vBody,Bool.and_eq_true,decide_eq_true_eq] at hv;exact ⟨hv.1.1.2.2,hv.1.1.2.1⟩
 ·rw [show pointV L M i0 i1 c=⟨zD,1⟩ from if_neg hv] at h;cases h
set_option maxRecDepth 100000 in
set_option maxHeartbeats 16000000 in
theorem covers_any {na da:Option Addr} {nc dc:Nat} {L:List D} {M:List (Int × Int)} {i0 i1:Int} (c:CV) (w:World) (hn:NAt w na L) (hp:PAt w da M) :
  Calls Tryz.prog 24 #[.agg #[.slice na L.length nc,.slice da M.length dc,.int .i64 i0,.int .i64 i1],cellv c] w fun e w'=>e = .returned (.tuple #[.int .i64 (coverR L M i0 i1 c).1,.int .i64 (coverR L M i0 i1 c).2])∧Below w.heap.size w w':=by
 unfold cellv;have HN:=Lib.hid hn;have HP:=Lib.hid hp;clear hn hp;obtain ⟨⟨⟨d0,d1,d2,d3,d4,d5⟩,e1⟩,h1⟩:∃r:RD,pointV L M i0 i1 c=r:=⟨_,rfl⟩;have HL:=Lib.hid (show e1=0→M.length=L.length∧L.length≤100 from fun h=>point_len (i0:=i0) (i1:=i1) (c:=c) (by rw [h1];exact h));have HR:=Lib.hid (show coverR L M i0 i1 c=if e1=0 then coverL c.f ⟨d0,d1,d2,d3,d4,d5⟩ 0 (L.zip M) 1 else (0,e1) from by unfold coverR;rw [h1]);have X1:=Lib.hid h1;clear h1;have H0:=(((Ho.nil w).bx [.slice na L.length nc,.slice da M.length dc,.int .i64 i0,.int .i64 i1] 27 (w.heap.size) (by simp)).bx [.int .i64 c.f,.int .i64 c.a,.int .i64 c.b,.int .i64 c.c,.int .i64 c.d,.int .i64 c.p,.int .i64 c.q,.int .i64 c.r,.int .i64 c.s] 29 (w.heap.size+1) (by simp));have HZ0:Ho w ((w.alloc (.cells (List.toArray [.slice na L.length nc,.slice da M.length dc,.int .i64 i0,.int .i64 i1]) 27)).alloc (.cells (List.toArray [.int .i64 c.f,.int .i64 c.a,.int .i64 c.b,.int .i64 c.c,.int .i64 c.d,.int .i64 c.p,.int .i64 c.q,.int .i64 c.r,.int .i64 c.s]) 29)) (w.heap.size+1+1) [(w.heap.size+1,[.int .i64 c.f,.int .i64 c.a,.int .i64 c.b,.int .i64 c.c,.int .i64 c.d,.int .i64 c.p,.int .i64 c.q,.int .i64 c.r,.int .i64 c.s]),(w.heap.size,[.slice na L.length nc,.slice da M.length dc,.int .i64 i0,.int .i64 i1])]:=hoA;go_enter Tryz.func24,Tryz.ntmps24
 go_wp2_with fail
 refine (cpoint_any c _ (HN.out.kept HZ0.below) (HP.out.kept HZ0.below)).mono ?_;rintro r w1 ⟨rfl,hb⟩;rw [X1.out];have H1:Ho w w1 (w.heap.size+1+1) [(w.heap.size+1,[.int .i64 c.f,.int .i64 c.a,.int .i64 c.b,.int .i64 c.c,.int .i64 c.d,.int .i64 c.p,.int .i64 c.q,.int .i64 c.r,.int .i64 c.s]),(w.heap.size,[.slice na L.length nc,.slice da M.length dc,.int .i64 i0,.int .i64 i1])]:=Ho.call hoA hb;have hs1:=H1.size;have hz1:=hb.size
 (try simp at hz1)
 clear hb;have h0_1:=(H1.at 1 rfl).c;have h1_1:=(H1.at 0 rfl).c;have zx1:=ai (zq (w.heap.size) (w1.heap.size))<|zq (w.heap.size+1) (w1.heap.size)
 by_cases he1:e1=0
 ·have HR1:=Lib.hid (HR.out.trans (if_pos he1));subst he1;obtain ⟨hM,hL⟩:=HL.out rfl;have H2:Ho w ((w1.alloc (.cells (List.toArray [.int .i64 d0,.int .i64 d1,.int .i64 d2,.int .i64 d3,.int .i64 d4,.int .i64 d5]) 45)).alloc (.cells (List.toArray [.int .i64 1]) 3)) (w.heap.size+1+1) [(w.heap.size+1,[.int .i64 c.f,.int .i64 c.a,.int .i64 c.b,.int .i64 c.c,.int .i64 c.d,.int .i64 c.p,.int .i64 c.q,.int .i64 c.r,.int .i64 c.s]),(w.heap.size,[.slice na L.length nc,.slice da M.length dc,.int .i64 i0,.int .i64 i1])]:=hoA
  have A2:Rd ((w1.alloc (.cells (List.toArray [.int .i64 d0,.int .i64 d1,.int .i64 d2,.int .i64 d3,.int .i64 d4,.int .i64 d5]) 45)).alloc (.cells (List.toArray [.int .i64 1]) 3)) w1.heap.size [.int .i64 d0,.int .i64 d1,.int .i64 d2,.int .i64 d3,.int .i64 d4,.int .i64 d5]:=by
   have:Bx ((w1.alloc (.cells (List.toArray [.int .i64 d0,.int .i64 d1,.int .i64 d2,.int .i64 d3,.int .i64 d4,.int .i64 d5]) 45)).alloc (.cells (List.toArray [.int .i64 1]) 3)) w1.heap.size [.int .i64 d0,.int .i64 d1,.int .i64 d2,.int .i64 d3,.int .i64 d4,.int .i64 d5]:=bxA;exact this.rd
  have K2:Ce ((w1.alloc (.cells (List.toArray [.int .i64 d0,.int .i64 d1,.int .i64 d2,.int .i64 d3,.int .i64 d4,.int .i64 d5]) 45)).alloc (.cells (List.toArray [.int .i64 1]) 3)) (w1.heap.size+1) 1:=Bx.ce (by
   (with_reducible refine Bx.new ?_;(· (simp;done))))
  have hs2:((w1.alloc (.cells (List.toArray [.int .i64 d0,.int .i64 d1,.int .i64 d2,.int .i64 d3,.int .i64 d4,.int .i64 d5]) 45)).alloc (.cells (List.toArray [.int .i64 1]) 3)).heap.size=w1.heap.size+1+1:=by simp
  go_wp2_with fail
  go_loopw [25] (fun i wr=>∃(k:Nat) (kd:Int),k≤L.length∧i = .int .i64 k∧coverL c.f ⟨d0,d1,d2,d3,d4,d5⟩ k ((L.zip M).drop k) kd=coverL c.f ⟨d0,d1,d2,d3,d4,d5⟩ 0 (L.zip M) 1∧Step w.heap.size ((w1.alloc (.cells (List.toArray [.int .i64 d0,.int .i64 d1,.int .i64 d2,.int .i64 d3,.int .i64 d4,.int .i64 d5]) 45)).alloc (.cells (List.toArray [.int .i64 1]) 3)) (w1.heap.size+1) kd wr) (fun i _=>L.length - (intOf i).toNat)
  case atStart=>exact ⟨0,1,Nat.zero_le _,rfl,rfl,Step.beg K2.v⟩
  case round=>
   obtain ⟨k,kd,hk,rfl,hc,st⟩:=hrel;have HC:=Lib.hid hc;have ST:=Lib.hid st;have Hr:Ho w wr (w.heap.size+1+1) [(w.heap.size+1,[.int .i64 c.f,.int .i64 c.a,.int .i64 c.b,.int .i64 c.c,.int .i64 c.d,.int .i64 c.p,.int .i64 c.q,.int .i64 c.r,.int .i64 c.s]),(w.heap.size,[.slice na L.length nc,.slice da M.length dc,.int .i64 i0,.int .i64 i1])]:=H2.step st (by omega);have Ar:Rd wr w1.heap.size [.int .i64 d0,.int .i64 d1,.int .i64 d2,.int .i64 d3,.int .i64 d4,.int .i64 d5]:=A2.step st (by omega);have Kr:Ce wr (w1.heap.size+1) kd:=K2.step st;clear hc st hs1 hz1 H1;have x0:=(Hr.at 1 rfl).c;have x1:=(Hr.at 0 rfl).c;have z0:=Kr.v;have i15:IntKind.i64.wrap ((k:Int)+1)=(k:Int)+1:=IntWalk.i64_in _ (by omega);rcases Nat.lt_or_ge k L.length with hlt|hge
   ·obtain ⟨n,hx⟩:∃x,L[k]? = some x:=⟨_,List.getElem?_eq_getElem hlt⟩;obtain ⟨⟨p,q⟩,hy⟩:∃x,M[k]? = some x:=⟨_,List.getElem?_eq_getElem (by rw [hM];exact hlt)⟩;have HX:=Lib.hid hx;have HY:=Lib.hid hy;have HZ:=Lib.hid (show (L.zip M).drop k=(n,(p,q))::(L.zip M).drop (k+1) from drop_some (List.getElem?_zip_eq_some.2 ⟨hx,hy⟩))
    have hlt':(k:Int)<(L.length:Int):=by omega
    clear hx hy
    by_cases hf:(k:Int)=c.f
    ·go_wp2_with fail
     go_roundw
     case rel=>
      refine ⟨k+1,kd,hlt,by (simp;omega),?_,ST.out⟩;have:=HC.out;rw [HZ.out,coverL,if_pos hf] at this;exact this
     case measure=>simp only [intOf];omega
    ·have hf':((k:Int) == c.f)=false:=beq_eq_false_iff_ne.2 hf;obtain ⟨⟨g1,g2,g3⟩,hg⟩:∃r:R,gapR n p q ⟨d0,d1,d2,d3,d4,d5⟩=r:=⟨_,rfl⟩;have G1:=Lib.hid hg;clear hg
     go_wp2_with fail
     refine (cover1_any (t:=⟨d0,d1,d2,d3,d4,d5⟩) w.heap.size _ (HN.out.kept Hr.below) (HP.out.kept Hr.below) HX.out HY.out (Hr.at 1 rfl) Ar Kr).mono ?_;rintro e w3 ⟨rfl,s3⟩;rw [G1.out] at s3 ⊢;dsimp only;have H3:Ho w w3 (w.heap.size+1+1) [(w.heap.size+1,[.int .i64 c.f,.int .i64 c.a,.int .i64 c.b,.int .i64 c.c,.int .i64 c.d,.int .i64 c.p,.int .i64 c.q,.int .i64 c.r,.int .i64 c.s]),(w.heap.size,[.slice na L.length nc,.slice da M.length dc,.int .i64 i0,.int .i64 i1])]:=Hr.step s3 (by omega);have S3:=Lib.hid (Step.and ST.out s3);clear s3 x0 x1 z0
     by_cases hg3:g3=0
     ·subst hg3
      go_wp2_with fail
      go_roundw
      case rel=>
       refine ⟨k+1,kindS kd ⟨g1,g2,0⟩,hlt,by simp,?_,S3.out⟩;have:=HC.out;rw [HZ.out,coverL,if_neg hf] at this;dsimp only at this;rw [G1.out] at this;rw [if_pos rfl] at this;exact this
      case measure=>simp only [intOf];omega
     ·have ng3:(g3 != 0)=true:=by simpa using hg3
      go_wp2_with fail
      refine bodyPost_ret (v:=.tuple #[.int .i64 0,.int .i64 g3]) (by simp [results,Tryz.results24,go_sem]) rfl ⟨?_,H3.below⟩;have:=HC.out;rw [HZ.out,coverL,if_neg hf] at this;dsimp only at this;rw [G1.out] at this;rw [if_neg hg3] at this;rw [HR1.out,←this]
   ·obtain rfl:k=L.length:=by omega
    go_wp2_with fail
    refine bodyPost_ret (v:=.tuple #[.int .i64 kd,.int .i64 0]) (by simp [results,Tryz.results24,go_sem]) rfl ⟨?_,Hr.below⟩;have:=HC.out;rw [List.drop_eq_nil_of_le (by rw [List.length_zip];omega),coverL] at this;rw [HR1.out,←this]
 ·have ne1:(e1 != 0)=true:=by simpa using he1
  go_wp2_with fail
  refine bodyPost_ret (v:=.tuple #[.int .i64 0,.int .i64 e1]) (by simp [results,Tryz.results24,go_sem]) rfl ⟨by rw [HR.out,if_neg he1],(by (with_reducible repeat (first|exact H1.below|refine Below.alloc ?_ (by have:=H1.below.size;first|omega|(simp<;>omega)) _)))⟩
end Go.Proofs.YtiecdgcdcpmgaaaGreat.Iv

/- Contract of cell.Trace. -/
namespace Go.Proofs.YtiecdgcdcpmgaaaGreat.Iv
open Go.RowKit
attribute [local go_sem] Oper.semAt_some
noncomputable def traceR (L:List D) (M:List (Int × Int)) (i0 i1:Int) (c:CV) (most:Int):FO:=
 if vCell L M i0 i1 c=true then
  if 0≤most∧most≤20 then
   if (coverR L M i0 i1 c).2=0 then
    if (coverR L M i0 i1 c).1=1 then
     if (ofR c.p c.q c.r c.s).e=0 then
      if (enterR L M i0 i1 c.f (pointV L M i0 i1 c).d (ofR c.p c.q c.r c.s).d).e=0 then
       followV L M i0 i1 (enterR L M i0 i1 c.f (pointV L M i0 i1 c).d (ofR c.p c.q c.r c.s).d).a (enterR L M i0 i1 c.f (pointV L M i0 i1 c).d (ofR c.p c.q c.r c.s).d).v (enterR L M i0 i1 c.f (pointV L M i0 i1 c).d (ofR c.p c.q c.r c.s).d).lo (enterR L M i0 i1 c.f (pointV L M i0 i1 c).d (ofR c.p c.q c.r c.s).d).hi most
      else ⟨unk,[],0⟩
     else ⟨unk,[],0⟩
    else ⟨⟨0,zD,0,0⟩,[],9⟩
   else ⟨⟨0,zD,0,0⟩,[],(coverR L M i0 i1 c).2⟩
  else ⟨⟨0,zD,0,0⟩,[],2⟩
 else ⟨⟨0,zD,0,0⟩,[],1⟩
theorem Bx.put10 {W:World} {b:Nat} {p0 p1 p2 p3 p4 p5 p6 p7 p8 p9 u0 u1 u2 u3 u4 u5 u6 u7 u8 u9:Value} (h:Bx W b [p0,p1,p2,p3,p4,p5,p6,p7,p8,p9]):Bx ((((((((((W.setCell ⟨b,0,none⟩ u0).setCell ⟨b,1,none⟩ u1).setCell ⟨b,2,none⟩ u2).setCell ⟨b,3,none⟩ u3).setCell ⟨b,4,none⟩ u4).setCell ⟨b,5,none⟩ u5).setCell ⟨b,6,none⟩ u6).setCell ⟨b,7,none⟩ u7).setCell ⟨b,8,none⟩ u8).setCell ⟨b,9,none⟩ u9) b [u0,u1,u2,u3,u4,u5,u6,u7,u8,u9]:=h.put.put.put.put.put.put.put.put.put.put
theorem row_put10 {W:World} {b base size n:Nat} {e:TypeId} {u u0 u1 u2 u3 u4 u5 u6 u7 u8 u9:Value} {xs:List Value} (h:W.ownsRow base e size u n xs) (hb:b<base):((((((((((W.setCell ⟨b,0,none⟩ u0).setCell ⟨b,1,none⟩ u1).setCell ⟨b,2,none⟩ u2).setCell ⟨b,3,none⟩ u3).setCell ⟨b,4,none⟩ u4).setCell ⟨b,5,none⟩ u5).setCell ⟨b,6,none⟩ u6).setCell ⟨b,7,none⟩ u7).setCell ⟨b,8,none⟩ u8).setCell ⟨b,9,none⟩ u9).ownsRow base e size u n xs:=(row_set (row_set (row_set (row_set (row_set (row_set (row_set (row_set (row_set (row_set h hb) hb) hb) hb) hb) hb) hb) hb) hb) hb)
set_option maxRecDepth 100000 in
set_option maxHeartbeats 16000000 in
theorem ctrace_any {na da:Option Addr} {nc dc:Nat} {L:List D} {M:List (Int × Int)} {i0 i1:Int} (c:CV) (most:Int) (w:World) (hn:NAt w na L) (hp:PAt w da M) :
  Calls Tryz.prog 11 #[.agg #[.slice na L.length nc,.slice da M.length dc,.int .i64 i0,.int .i64 i1],cellv c,.int .i64 most] w fun e w'=>
   (∃u,e = .returned (.tuple #[.agg (lcells (traceR L M i0 i1 c most).lv u).toArray,.int .i64 (traceR L M i0 i1 c most).e])∧w'.ownsRow w.heap.size 3 1 u (traceR L M i0 i1 c most).fs.length (ivals (traceR L M i0 i1 c most).fs))∧Below w.heap.size w w':=by
 unfold cellv;have HN:=Lib.hid hn;have HP:=Lib.hid hp;clear hn hp;cases hV:vCell L M i0 i1 c
 ·have HT:=Lib.hid (show traceR L M i0 i1 c most=⟨⟨0,zD,0,0⟩,[],1⟩ from if_neg (by rw [hV];decide));have EV:=Lib.hid hV;clear hV;have H0:=(((Ho.nil w).bx [.slice na L.length nc,.slice da M.length dc,.int .i64 i0,.int .i64 i1] 27 (w.heap.size) (by simp)).bx [.int .i64 c.f,.int .i64 c.a,.int .i64 c.b,.int .i64 c.c,.int .i64 c.d,.int .i64 c.p,.int .i64 c.q,.int .i64 c.r,.int .i64 c.s] 29 (w.heap.size+1) (by simp));have o_0:Bx (((w.alloc (.cells (List.toArray [.slice na L.length nc,.slice da M.length dc,.int .i64 i0,.int .i64 i1]) 27)).alloc (.cells (List.toArray [.int .i64 c.f,.int .i64 c.a,.int .i64 c.b,.int .i64 c.c,.int .i64 c.d,.int .i64 c.p,.int .i64 c.q,.int .i64 c.r,.int .i64 c.s]) 29)).alloc (.cells (List.toArray [.int .i64 0,.slice none 0 0,.int .i64 0,.int .i64 0,.int .i64 0,.int .i64 0,.int .i64 0,.int .i64 0,.int .i64 0,.int .i64 0]) 47)) (w.heap.size+1+1) [.int .i64 0,.slice none 0 0,.int .i64 0,.int .i64 0,.int .i64 0,.int .i64 0,.int .i64 0,.int .i64 0,.int .i64 0,.int .i64 0]:=bxA;have HZ0:Ho w (((w.alloc (.cells (List.toArray [.slice na L.length nc,.slice da M.length dc,.int .i64 i0,.int .i64 i1]) 27)).alloc (.cells (List.toArray [.int .i64 c.f,.int .i64 c.a,.int .i64 c.b,.int .i64 c.c,.int .i64 c.d,.int .i64 c.p,.int .i64 c.q,.int .i64 c.r,.int .i64 c.s]) 29)).alloc (.cells (List.toArray [.int .i64 0,.slice none 0 0,.int .i64 0,.int .i64 0,.int .i64 0,.int .i64 0,.int .i64 0,.int .i64 0,.int .i64 0,.int .i64 0]) 47)) (w.heap.size+1+1) [(w.heap.size+1,[.int .i64 c.f,.int .i64 c.a,.int .i64 c.b,.int .i64 c.c,.int .i64 c.d,.int .i64 c.p,.int .i64 c.q,.int .i64 c.r,.int .i64 c.s]),(w.heap.size,[.slice na L.length nc,.slice da M.length dc,.int .i64 i0,.int .i64 i1])]:=hoA;go_enter Tryz.func11,Tryz.ntmps11;have o_0c:=o_0.c;have o_0f:=o_0.f
  go_wp2_with fail
  refine (vcell_any c _ (HN.out.kept HZ0.below) (HP.out.kept HZ0.below)).mono ?_;rintro r w1 ⟨rfl,hb⟩;rw [EV.out];have H1:Ho w w1 (w.heap.size+1+1) [(w.heap.size+1,[.int .i64 c.f,.int .i64 c.a,.int .i64 c.b,.int .i64 c.c,.int .i64 c.d,.int .i64 c.p,.int .i64 c.q,.int .i64 c.r,.int .i64 c.s]),(w.heap.size,[.slice na L.length nc,.slice da M.length dc,.int .i64 i0,.int .i64 i1])]:=Ho.call hoA hb;have o_1:=bxK o_0 hb;clear o_0c o_0f;have hs1:=H1.size;have hz1:=hb.size
  (try simp at hz1)
  clear hb;have h0_1:=(H1.at 1 rfl).c;have h1_1:=(H1.at 0 rfl).c;have o_1c:=o_1.c;have o_1f:=o_1.f;have o_1l:=o_1.lt;have zx1:=ai (zq (w.heap.size+1+1) (w1.heap.size))<|ai (zq (w.heap.size) (w1.heap.size))<|ai (zq (w.heap.size+1) (w1.heap.size))<|ai (zp (w.heap.size+1+1) (w.heap.size))<|zp (w.heap.size+1+1) (w.heap.size+1)
  go_wp2_with fail
  refine bodyPost_box (b:=w.heap.size+1+1) (cs:=[.int .i64 0,.slice none 0 0,.int .i64 0,.int .i64 0,.int .i64 0,.int .i64 0,.int .i64 0,.int .i64 0,.int .i64 0,.int .i64 0]) (v:=.tuple #[.agg (List.toArray [.int .i64 0,.slice none 0 0,.int .i64 0,.int .i64 0,.int .i64 0,.int .i64 0,.int .i64 0,.int .i64 0,.int .i64 0,.int .i64 0]),.int .i64 1]) (by
   (repeat (first|with_reducible exact o_1|(with_reducible refine Bx.new ?_;(· (simp;done)))|with_reducible apply Bx.put10|with_reducible refine Bx.set ?_ (by omega)|with_reducible refine Bx.alc ?_ _|with_reducible refine Bx.drew ?_))) (fun X hX=>by simp [results,Tryz.results11,go_sem,hX]) rfl ⟨⟨.slice none 0 0,by rw [HT.out];rfl,by rw [HT.out];exact World.ownsRow_nil _ _ _ _⟩,by
   refine Ho.below (n:=w.heap.size+1+1) (l:=[(w.heap.size+1,[.int .i64 c.f,.int .i64 c.a,.int .i64 c.b,.int .i64 c.c,.int .i64 c.d,.int .i64 c.p,.int .i64 c.q,.int .i64 c.r,.int .i64 c.s]),(w.heap.size,[.slice na L.length nc,.slice da M.length dc,.int .i64 i0,.int .i64 i1])]) ?_
   exact hoA⟩
 ·by_cases hm:0≤most∧most≤20
  ·have EV:=Lib.hid hV;obtain ⟨k,hk,n,hx,dl,dh,hy⟩:=vcell_at hV;obtain ⟨⟨kd,ce⟩,h2⟩:∃r:Int × Int,coverR L M i0 i1 c=r:=⟨_,rfl⟩;obtain ⟨⟨⟨d0,d1,d2,d3,d4,d5⟩,pe⟩,h3⟩:∃r:RD,pointR n dl dh c.a c.b c.c c.d=r:=⟨_,rfl⟩
   have hpv:pointV L M i0 i1 c=⟨⟨d0,d1,d2,d3,d4,d5⟩,pe⟩:=by rw [show pointV L M i0 i1 c=pointR (nthD L c.f) (nthP M c.f).1 (nthP M c.f).2 c.a c.b c.c c.d from if_pos hV,nthD,nthP,hk,Int.toNat_natCast,hx,hy];exact h3
   obtain ⟨⟨⟨g0,g1,g2,g3,g4,g5⟩,e3⟩,h4⟩:∃r:RD,ofR c.p c.q c.r c.s=r:=⟨_,rfl⟩;obtain ⟨⟨⟨x0,x1,x2,x3,x4,x5⟩,⟨y0,y1,y2,y3,y4,y5⟩,lo,hi,e4⟩,h5⟩:∃r:EN,enterR L M i0 i1 c.f ⟨d0,d1,d2,d3,d4,d5⟩ ⟨g0,g1,g2,g3,g4,g5⟩=r:=⟨_,rfl⟩
   have HT:=Lib.hid (show traceR L M i0 i1 c most=if ce=0 then (if kd=1 then (if e3=0 then (if e4=0 then followV L M i0 i1 ⟨x0,x1,x2,x3,x4,x5⟩ ⟨y0,y1,y2,y3,y4,y5⟩ lo hi most else ⟨unk,[],0⟩) else ⟨unk,[],0⟩) else ⟨⟨0,zD,0,0⟩,[],9⟩) else ⟨⟨0,zD,0,0⟩,[],ce⟩ from by
    rw [traceR,if_pos hV,if_pos hm,h2,hpv,h4];dsimp only
    rw [h5])
   have X2:=Lib.hid h2;have X3:=Lib.hid h3;have X4:=Lib.hid h4;have X5:=Lib.hid h5;have HK:=Lib.hid hk;have HX:=Lib.hid hx;have HY:=Lib.hid hy;obtain ⟨hm0,hm1⟩:=hm
   have hm0':¬(most<0):=by omega
   have hm1':¬(20<most):=by omega
   clear hV h2 h3 h4 h5 hk hx hy hpv;have H0:=(((Ho.nil w).bx [.slice na L.length nc,.slice da M.length dc,.int .i64 i0,.int .i64 i1] 27 (w.heap.size) (by simp)).bx [.int .i64 c.f,.int .i64 c.a,.int .i64 c.b,.int .i64 c.c,.int .i64 c.d,.int .i64 c.p,.int .i64 c.q,.int .i64 c.r,.int .i64 c.s] 29 (w.heap.size+1) (by simp));have o_0:Bx (((w.alloc (.cells (List.toArray [.slice na L.length nc,.slice da M.length dc,.int .i64 i0,.int .i64 i1]) 27)).alloc (.cells (List.toArray [.int .i64 c.f,.int .i64 c.a,.int .i64 c.b,.int .i64 c.c,.int .i64 c.d,.int .i64 c.p,.int .i64 c.q,.int .i64 c.r,.int .i64 c.s]) 29)).alloc (.cells (List.toArray [.int .i64 0,.slice none 0 0,.int .i64 0,.int .i64 0,.int .i64 0,.int .i64 0,.int .i64 0,.int .i64 0,.int .i64 0,.int .i64 0]) 47)) (w.heap.size+1+1) [.int .i64 0,.slice none 0 0,.int .i64 0,.int .i64 0,.int .i64 0,.int .i64 0,.int .i64 0,.int .i64 0,.int .i64 0,.int .i64 0]:=bxA;have HZ0:Ho w (((w.alloc (.cells (List.toArray [.slice na L.length nc,.slice da M.length dc,.int .i64 i0,.int .i64 i1]) 27)).alloc (.cells (List.toArray [.int .i64 c.f,.int .i64 c.a,.int .i64 c.b,.int .i64 c.c,.int .i64 c.d,.int .i64 c.p,.int .i64 c.q,.int .i64 c.r,.int .i64 c.s]) 29)).alloc (.cells (List.toArray [.int .i64 0,.slice none 0 0,.int .i64 0,.int .i64 0,.int .i64 0,.int .i64 0,.int .i64 0,.int .i64 0,.int .i64 0,.int .i64 0]) 47)) (w.heap.size+1+1) [(w.heap.size+1,[.int .i64 c.f,.int .i64 c.a,.int .i64 c.b,.int .i64 c.c,.int .i64 c.d,.int .i64 c.p,.int .i64 c.q,.int .i64 c.r,.int .i64 c.s]),(w.heap.size,[.slice na L.length nc,.slice da M.length dc,.int .i64 i0,.int .i64 i1])]:=hoA;go_enter Tryz.func11,Tryz.ntmps11;have o_0c:=o_0.c;have o_0f:=o_0.f
   go_wp2_with fail
   refine (vcell_any c _ (HN.out.kept HZ0.below) (HP.out.kept HZ0.below)).mono ?_;rintro r w1 ⟨rfl,hb⟩;rw [EV.out];have H1:Ho w w1 (w.heap.size+1+1) [(w.heap.size+1,[.int .i64 c.f,.int .i64 c.a,.int .i64 c.b,.int .i64 c.c,.int .i64 c.d,.int .i64 c.p,.int .i64 c.q,.int .i64 c.r,.int .i64 c.s]),(w.heap.size,[.slice na L.length nc,.slice da M.length dc,.int .i64 i0,.int .i64 i1])]:=Ho.call hoA hb;have o_1:=bxK o_0 hb;clear o_0c o_0f;have hs1:=H1.size;have hz1:=hb.size
   (try simp at hz1)
   clear hb;have h0_1:=(H1.at 1 rfl).c;have h1_1:=(H1.at 0 rfl).c;have o_1c:=o_1.c;have o_1f:=o_1.f;have o_1l:=o_1.lt;have zx1:=ai (zq (w.heap.size+1+1) (w1.heap.size))<|ai (zq (w.heap.size) (w1.heap.size))<|ai (zq (w.heap.size+1) (w1.heap.size))<|ai (zp (w.heap.size+1+1) (w.heap.size))<|zp (w.heap.size+1+1) (w.heap.size+1)
   go_wp2_with fail
   refine (covers_any c _ (HN.out.kept H1.below) (HP.out.kept H1.below)).mono ?_;rintro r w2 ⟨rfl,hb⟩;rw [X2.out];dsimp only;have H2:Ho w w2 (w.heap.size+1+1) [(w.heap.size+1,[.int .i64 c.f,.int .i64 c.a,.int .i64 c.b,.int .i64 c.c,.int .i64 c.d,.int .i64 c.p,.int .i64 c.q,.int .i64 c.r,.int .i64 c.s]),(w.heap.size,[.slice na L.length nc,.slice da M.length dc,.int .i64 i0,.int .i64 i1])]:=Ho.call hoA hb;have o_2:=bxK o_1 hb;clear h0_1 h1_1 o_1c o_1f zx1;have hs2:=H2.size;have hz2:=hb.size
   (try simp at hz2)
   clear hb;have h0_2:=(H2.at 1 rfl).c;have h1_2:=(H2.at 0 rfl).c;have o_2c:=o_2.c;have o_2f:=o_2.f;have o_2l:=o_2.lt;have zx2:=ai (zq (w.heap.size+1+1) (w2.heap.size))<|ai (zq (w.heap.size) (w2.heap.size))<|ai (zq (w.heap.size+1) (w2.heap.size))<|ai (zp (w.heap.size+1+1) (w.heap.size))<|zp (w.heap.size+1+1) (w.heap.size+1)
   by_cases hce:ce=0
   ·have HTa:=Lib.hid (HT.out.trans (if_pos hce));subst hce
    by_cases hkd:kd=1
    ·have HTb:=Lib.hid (HTa.out.trans (if_pos hkd));subst hkd;rw [HK.out] at h1_2
     go_wp2_with fail
     refine (point_any (k:=k) (i0:=i0) (i1:=i1) (ul:=c.p) (uh:=c.q) (vl:=c.r) (vh:=c.s) _ (HN.out.kept (by (with_reducible repeat (first|exact H2.below|refine Below.alloc ?_ (by have:=H2.below.size;first|omega|(simp<;>omega)) _)))) (HP.out.kept (by (with_reducible repeat (first|exact H2.below|refine Below.alloc ?_ (by have:=H2.below.size;first|omega|(simp<;>omega)) _)))) HX.out HY.out).mono ?_;rintro r w3 ⟨rfl,hb⟩;rw [X3.out];unfold retD;dsimp only;have H3:Ho w w3 (w.heap.size+1+1) [(w.heap.size+1,[.int .i64 c.f,.int .i64 c.a,.int .i64 c.b,.int .i64 c.c,.int .i64 c.d,.int .i64 c.p,.int .i64 c.q,.int .i64 c.r,.int .i64 c.s]),(w.heap.size,[.slice na L.length nc,.slice da M.length dc,.int .i64 i0,.int .i64 i1])]:=Ho.call hoA hb;have o_3:=bxK o_2 hb;have u_3:Bx w3 (w2.heap.size) [.int .i64 3,.slice none 0 0,.int .i64 0,.int .i64 0,.int .i64 0,.int .i64 0,.int .i64 0,.int .i64 0,.int .i64 0,.int .i64 0]:=Bx.kept bxA hb;clear h0_2 h1_2 o_2c o_2f zx2;have hs3:=H3.size;have hz3:=hb.size
     (try simp at hz3)
     clear hb;have h0_3:=(H3.at 1 rfl).c;have h1_3:=(H3.at 0 rfl).c;have o_3c:=o_3.c;have o_3f:=o_3.f;have o_3l:=o_3.lt;have u_3c:=u_3.c;have u_3f:=u_3.f;have u_3l:=u_3.lt;have zx3:=ai (zq (w.heap.size+1+1) (w3.heap.size))<|ai (zq (w2.heap.size) (w3.heap.size))<|ai (zq (w.heap.size) (w3.heap.size))<|ai (zq (w.heap.size+1) (w3.heap.size))<|ai (zp (w.heap.size+1+1) (w2.heap.size))<|ai (zp (w.heap.size+1+1) (w.heap.size))<|ai (zp (w.heap.size+1+1) (w.heap.size+1))<|ai (zp (w2.heap.size) (w.heap.size))<|zp (w2.heap.size) (w.heap.size+1)
     go_wp2_with fail
     refine (of_any c.p c.q c.r c.s _).mono ?_;rintro r w4 ⟨rfl,hb⟩;rw [X4.out];unfold retD;dsimp only;have H4:Ho w w4 (w.heap.size+1+1) [(w.heap.size+1,[.int .i64 c.f,.int .i64 c.a,.int .i64 c.b,.int .i64 c.c,.int .i64 c.d,.int .i64 c.p,.int .i64 c.q,.int .i64 c.r,.int .i64 c.s]),(w.heap.size,[.slice na L.length nc,.slice da M.length dc,.int .i64 i0,.int .i64 i1])]:=Ho.call hoA hb;have o_4:=bxK o_3 hb;have u_4:=bxK u_3 hb;have p_4:Bx w4 (w3.heap.size) [.int .i64 d0,.int .i64 d1,.int .i64 d2,.int .i64 d3,.int .i64 d4,.int .i64 d5]:=Bx.kept bxA hb;clear h0_3 h1_3 o_3c o_3f u_3c u_3f zx3;have hs4:=H4.size;have hz4:=hb.size
     (try simp at hz4)
     clear hb;have h0_4:=(H4.at 1 rfl).c;have h1_4:=(H4.at 0 rfl).c;have o_4c:=o_4.c;have o_4f:=o_4.f;have o_4l:=o_4.lt;have u_4c:=u_4.c;have u_4f:=u_4.f;have u_4l:=u_4.lt;have p_4c:=p_4.c;have p_4f:=p_4.f;have p_4l:=p_4.lt;have zx4:=ai (zq (w.heap.size+1+1) (w4.heap.size))<|ai (zq (w2.heap.size) (w4.heap.size))<|ai (zq (w3.heap.size) (w4.heap.size))<|ai (zq (w.heap.size) (w4.heap.size))<|ai (zq (w.heap.size+1) (w4.heap.size))<|ai (zp (w.heap.size+1+1) (w2.heap.size))<|ai (zp (w.heap.size+1+1) (w3.heap.size))<|ai (zp (w.heap.size+1+1) (w.heap.size))<|ai (zp (w.heap.size+1+1) (w.heap.size+1))<|ai (zp (w2.heap.size) (w3.heap.size))<|ai (zp (w2.heap.size) (w.heap.size))<|ai (zp (w2.heap.size) (w.heap.size+1))<|ai (zp (w3.heap.size) (w.heap.size))<|zp (w3.heap.size) (w.heap.size+1)
     by_cases he3:e3=0
     ·have HTc:=Lib.hid (HTb.out.trans (if_pos he3));subst he3
      go_wp2_with fail
      refine (enter_any (face:=c.f) (a:=⟨d0,d1,d2,d3,d4,d5⟩) (v:=⟨g0,g1,g2,g3,g4,g5⟩) _ (HN.out.kept (by (with_reducible repeat (first|exact H4.below|refine Below.alloc ?_ (by have:=H4.below.size;first|omega|(simp<;>omega)) _)))) (HP.out.kept (by (with_reducible repeat (first|exact H4.below|refine Below.alloc ?_ (by have:=H4.below.size;first|omega|(simp<;>omega)) _))))).mono ?_;rintro r w5 ⟨rfl,hb⟩;rw [X5.out];unfold retN rv;dsimp only;have H5:Ho w w5 (w.heap.size+1+1) [(w.heap.size+1,[.int .i64 c.f,.int .i64 c.a,.int .i64 c.b,.int .i64 c.c,.int .i64 c.d,.int .i64 c.p,.int .i64 c.q,.int .i64 c.r,.int .i64 c.s]),(w.heap.size,[.slice na L.length nc,.slice da M.length dc,.int .i64 i0,.int .i64 i1])]:=Ho.call hoA hb;have o_5:=bxK o_4 hb;have u_5:=bxK u_4 hb;have p_5:=bxK p_4 hb;have d_5:Bx w5 (w4.heap.size) [.int .i64 g0,.int .i64 g1,.int .i64 g2,.int .i64 g3,.int .i64 g4,.int .i64 g5]:=Bx.kept bxA hb;clear h0_4 h1_4 o_4c o_4f u_4c u_4f p_4c p_4f zx4;have hs5:=H5.size;have hz5:=hb.size
      (try simp at hz5)
      clear hb;have h0_5:=(H5.at 1 rfl).c;have h1_5:=(H5.at 0 rfl).c;have o_5c:=o_5.c;have o_5f:=o_5.f;have o_5l:=o_5.lt;have u_5c:=u_5.c;have u_5f:=u_5.f;have u_5l:=u_5.lt;have p_5c:=p_5.c;have p_5f:=p_5.f;have p_5l:=p_5.lt;have d_5c:=d_5.c;have d_5f:=d_5.f;have d_5l:=d_5.lt;have zx5:=ai (zp (w.heap.size+1+1) (w5.heap.size))<|ai (zp (w.heap.size+1+1) (w5.heap.size+1))<|ai (zl (w.heap.size+1+1) (w5.heap.size))<|ai (by omega:w.heap.size+1+1<w5.heap.size+1+1)<|ai (zp (w2.heap.size) (w5.heap.size))<|ai (zp (w2.heap.size) (w5.heap.size+1))<|ai (zl (w2.heap.size) (w5.heap.size))<|ai (by omega:w2.heap.size<w5.heap.size+1+1)<|ai (zp (w3.heap.size) (w5.heap.size))<|ai (zp (w3.heap.size) (w5.heap.size+1))<|ai (zl (w3.heap.size) (w5.heap.size))<|ai (by omega:w3.heap.size<w5.heap.size+1+1)<|ai (zp (w4.heap.size) (w5.heap.size))<|ai (zp (w4.heap.size) (w5.heap.size+1))<|ai (zl (w4.heap.size) (w5.heap.size))<|ai (by omega:w4.heap.size<w5.heap.size+1+1)<|ai (zp (w.heap.size) (w5.heap.size))<|ai (zp (w.heap.size) (w5.heap.size+1))<|ai (zl (w.heap.size) (w5.heap.size))<|ai (by omega:w.heap.size<w5.heap.size+1+1)<|ai (zp (w.heap.size+1) (w5.heap.size))<|ai (zp (w.heap.size+1) (w5.heap.size+1))<|ai (zl (w.heap.size+1) (w5.heap.size))<|ai (by omega:w.heap.size+1<w5.heap.size+1+1)<|ai (zp (w.heap.size+1+1) (w2.heap.size))<|ai (zp (w.heap.size+1+1) (w3.heap.size))<|ai (zp (w.heap.size+1+1) (w4.heap.size))<|ai (zp (w.heap.size+1+1) (w.heap.size))<|ai (zp (w.heap.size+1+1) (w.heap.size+1))<|ai (zp (w2.heap.size) (w3.heap.size))<|ai (zp (w2.heap.size) (w4.heap.size))<|ai (zp (w2.heap.size) (w.heap.size))<|ai (zp (w2.heap.size) (w.heap.size+1))<|ai (zp (w3.heap.size) (w4.heap.size))<|ai (zp (w3.heap.size) (w.heap.size))<|ai (zp (w3.heap.size) (w.heap.size+1))<|ai (zp (w4.heap.size) (w.heap.size))<|zp (w4.heap.size) (w.heap.size+1)
      by_cases he4:e4=0
      ·have HTd:=Lib.hid (HTc.out.trans (if_pos he4));subst he4;obtain ⟨⟨⟨fk,⟨f0,f1,f2,f3,f4,f5⟩,fl,fh⟩,fs,fe⟩,hf⟩:∃r:FO,followV L M i0 i1 ⟨x0,x1,x2,x3,x4,x5⟩ ⟨y0,y1,y2,y3,y4,y5⟩ lo hi most=r:=⟨_,rfl⟩;have HTe:=Lib.hid (HTd.out.trans hf);have X6:=Lib.hid hf;clear hf
       go_wp2_with fail
       refine (follow_any (gl:=lo) (gh:=hi) (most:=most) (a:=⟨x0,x1,x2,x3,x4,x5⟩) (v:=⟨y0,y1,y2,y3,y4,y5⟩) _ (HN.out.kept (by (with_reducible repeat (first|exact H5.below|refine Below.alloc ?_ (by have:=H5.below.size;first|omega|(simp<;>omega)) _)))) (HP.out.kept (by (with_reducible repeat (first|exact H5.below|refine Below.alloc ?_ (by have:=H5.below.size;first|omega|(simp<;>omega)) _))))).mono ?_;rintro r w6 ⟨⟨u,rfl,hrow⟩,hb⟩;rw [X6.out] at hrow ⊢;unfold lcells;dsimp only at hrow ⊢;obtain ⟨ao,cap,rfl⟩:=row_form hrow;have H6:Ho w w6 (w.heap.size+1+1) [(w.heap.size+1,[.int .i64 c.f,.int .i64 c.a,.int .i64 c.b,.int .i64 c.c,.int .i64 c.d,.int .i64 c.p,.int .i64 c.q,.int .i64 c.r,.int .i64 c.s]),(w.heap.size,[.slice na L.length nc,.slice da M.length dc,.int .i64 i0,.int .i64 i1])]:=Ho.call hoA hb;have o_6:=bxK o_5 hb;have hrow2:=row_down (base':=w.heap.size+1+1+1) hrow (by have:=H5.size;simp;omega);clear hb hrow;clear h0_5 h1_5 o_5c o_5f u_5c u_5f p_5c p_5f d_5c d_5f zx5;have o6c:=o_6.c;have o6f:=o_6.f;have o6l:=o_6.lt;have HRW:=Lib.hid hrow2;clear hrow2
       go_wp2_with fail
       refine bodyPost_box (b:=w.heap.size+1+1) (cs:=[.int .i64 fk,.slice ao fs.length cap,.int .i64 f0,.int .i64 f1,.int .i64 f2,.int .i64 f3,.int .i64 f4,.int .i64 f5,.int .i64 fl,.int .i64 fh]) (v:=.tuple #[.agg (List.toArray [.int .i64 fk,.slice ao fs.length cap,.int .i64 f0,.int .i64 f1,.int .i64 f2,.int .i64 f3,.int .i64 f4,.int .i64 f5,.int .i64 fl,.int .i64 fh]),.int .i64 fe]) (by
        (repeat (first|with_reducible exact o_6|(with_reducible refine Bx.new ?_;(· (simp;done)))|with_reducible apply Bx.put10|with_reducible refine Bx.set ?_ (by omega)|with_reducible refine Bx.alc ?_ _|with_reducible refine Bx.drew ?_))) (fun X hX=>by simp [results,Tryz.results11,go_sem,hX]) rfl ⟨⟨.slice ao fs.length cap,by rw [HTe.out];rfl,by
        rw [HTe.out]
        exact row_down (row_put10 HRW.out (by omega)) (by omega)⟩,by
        refine Ho.below (n:=w.heap.size+1+1) (l:=[(w.heap.size+1,[.int .i64 c.f,.int .i64 c.a,.int .i64 c.b,.int .i64 c.c,.int .i64 c.d,.int .i64 c.p,.int .i64 c.q,.int .i64 c.r,.int .i64 c.s]),(w.heap.size,[.slice na L.length nc,.slice da M.length dc,.int .i64 i0,.int .i64 i1])]) ?_
        exact hoA⟩
      ·have ne5:(e4 != 0)=true:=by simpa using he4
       have HTn:=Lib.hid (HTc.out.trans (if_neg he4))
       go_wp2_with fail
       refine bodyPost_box (b:=w.heap.size+1+1) (cs:=[.int .i64 3,.slice none 0 0,.int .i64 0,.int .i64 0,.int .i64 0,.int .i64 0,.int .i64 0,.int .i64 0,.int .i64 0,.int .i64 0]) (v:=.tuple #[.agg (List.toArray [.int .i64 3,.slice none 0 0,.int .i64 0,.int .i64 0,.int .i64 0,.int .i64 0,.int .i64 0,.int .i64 0,.int .i64 0,.int .i64 0]),.int .i64 0]) (by
        (repeat (first|with_reducible exact o_5|(with_reducible refine Bx.new ?_;(· (simp;done)))|with_reducible apply Bx.put10|with_reducible refine Bx.set ?_ (by omega)|with_reducible refine Bx.alc ?_ _|with_reducible refine Bx.drew ?_))) (fun X hX=>by simp [results,Tryz.results11,go_sem,hX]) rfl ⟨⟨.slice none 0 0,by rw [HTn.out];rfl,by rw [HTn.out];exact World.ownsRow_nil _ _ _ _⟩,by
        refine Ho.below (n:=w.heap.size+1+1) (l:=[(w.heap.size+1,[.int .i64 c.f,.int .i64 c.a,.int .i64 c.b,.int .i64 c.c,.int .i64 c.d,.int .i64 c.p,.int .i64 c.q,.int .i64 c.r,.int .i64 c.s]),(w.heap.size,[.slice na L.length nc,.slice da M.length dc,.int .i64 i0,.int .i64 i1])]) ?_
        exact hoA⟩
     ·have ne4:(e3 != 0)=true:=by simpa using he3
      have HTn:=Lib.hid (HTb.out.trans (if_neg he3))
      go_wp2_with fail
      refine bodyPost_box (b:=w.heap.size+1+1) (cs:=[.int .i64 3,.slice none 0 0,.int .i64 0,.int .i64 0,.int .i64 0,.int .i64 0,.int .i64 0,.int .i64 0,.int .i64 0,.int .i64 0]) (v:=.tuple #[.agg (List.toArray [.int .i64 3,.slice none 0 0,.int .i64 0,.int .i64 0,.int .i64 0,.int .i64 0,.int .i64 0,.int .i64 0,.int .i64 0,.int .i64 0]),.int .i64 0]) (by
       (repeat (first|with_reducible exact o_4|(with_reducible refine Bx.new ?_;(· (simp;done)))|with_reducible apply Bx.put10|with_reducible refine Bx.set ?_ (by omega)|with_reducible refine Bx.alc ?_ _|with_reducible refine Bx.drew ?_))) (fun X hX=>by simp [results,Tryz.results11,go_sem,hX]) rfl ⟨⟨.slice none 0 0,by rw [HTn.out];rfl,by rw [HTn.out];exact World.ownsRow_nil _ _ _ _⟩,by
       refine Ho.below (n:=w.heap.size+1+1) (l:=[(w.heap.size+1,[.int .i64 c.f,.int .i64 c.a,.int .i64 c.b,.int .i64 c.c,.int .i64 c.d,.int .i64 c.p,.int .i64 c.q,.int .i64 c.r,.int .i64 c.s]),(w.heap.size,[.slice na L.length nc,.slice da M.length dc,.int .i64 i0,.int .i64 i1])]) ?_
       exact hoA⟩
    ·have ne3:(kd != 1)=true:=by simpa using hkd
     have HTn:=Lib.hid (HTa.out.trans (if_neg hkd))
     go_wp2_with fail
     refine bodyPost_box (b:=w.heap.size+1+1) (cs:=[.int .i64 0,.slice none 0 0,.int .i64 0,.int .i64 0,.int .i64 0,.int .i64 0,.int .i64 0,.int .i64 0,.int .i64 0,.int .i64 0]) (v:=.tuple #[.agg (List.toArray [.int .i64 0,.slice none 0 0,.int .i64 0,.int .i64 0,.int .i64 0,.int .i64 0,.int .i64 0,.int .i64 0,.int .i64 0,.int .i64 0]),.int .i64 9]) (by
      (repeat (first|with_reducible exact o_2|(with_reducible refine Bx.new ?_;(· (simp;done)))|with_reducible apply Bx.put10|with_reducible refine Bx.set ?_ (by omega)|with_reducible refine Bx.alc ?_ _|with_reducible refine Bx.drew ?_))) (fun X hX=>by simp [results,Tryz.results11,go_sem,hX]) rfl ⟨⟨.slice none 0 0,by rw [HTn.out];rfl,by rw [HTn.out];exact World.ownsRow_nil _ _ _ _⟩,by
      refine Ho.below (n:=w.heap.size+1+1) (l:=[(w.heap.size+1,[.int .i64 c.f,.int .i64 c.a,.int .i64 c.b,.int .i64 c.c,.int .i64 c.d,.int .i64 c.p,.int .i64 c.q,.int .i64 c.r,.int .i64 c.s]),(w.heap.size,[.slice na L.length nc,.slice da M.length dc,.int .i64 i0,.int .i64 i1])]) ?_
      exact hoA⟩
   ·have ne2:(ce != 0)=true:=by simpa using hce
    have HTn:=Lib.hid (HT.out.trans (if_neg hce))
    go_wp2_with fail
    refine bodyPost_box (b:=w.heap.size+1+1) (cs:=[.int .i64 0,.slice none 0 0,.int .i64 0,.int .i64 0,.int .i64 0,.int .i64 0,.int .i64 0,.int .i64 0,.int .i64 0,.int .i64 0]) (v:=.tuple #[.agg (List.toArray [.int .i64 0,.slice none 0 0,.int .i64 0,.int .i64 0,.int .i64 0,.int .i64 0,.int .i64 0,.int .i64 0,.int .i64 0,.int .i64 0]),.int .i64 ce]) (by
     (repeat (first|with_reducible exact o_2|(with_reducible refine Bx.new ?_;(· (simp;done)))|with_reducible apply Bx.put10|with_reducible refine Bx.set ?_ (by omega)|with_reducible refine Bx.alc ?_ _|with_reducible refine Bx.drew ?_))) (fun X hX=>by simp [results,Tryz.results11,go_sem,hX]) rfl ⟨⟨.slice none 0 0,by rw [HTn.out];rfl,by rw [HTn.out];exact World.ownsRow_nil _ _ _ _⟩,by
     refine Ho.below (n:=w.heap.size+1+1) (l:=[(w.heap.size+1,[.int .i64 c.f,.int .i64 c.a,.int .i64 c.b,.int .i64 c.c,.int .i64 c.d,.int .i64 c.p,.int .i64 c.q,.int .i64 c.r,.int .i64 c.s]),(w.heap.size,[.slice na L.length nc,.slice da M.length dc,.int .i64 i0,.int .i64 i1])]) ?_
     exact hoA⟩
  ·have HT:=Lib.hid (show traceR L M i0 i1 c most=⟨⟨0,zD,0,0⟩,[],2⟩ from (if_pos hV).trans (if_neg hm));have EV:=Lib.hid hV;clear hV
   by_cases hm0:most<0
   ·clear hm;have H0:=(((Ho.nil w).bx [.slice na L.length nc,.slice da M.length dc,.int .i64 i0,.int .i64 i1] 27 (w.heap.size) (by simp)).bx [.int .i64 c.f,.int .i64 c.a,.int .i64 c.b,.int .i64 c.c,.int .i64 c.d,.int .i64 c.p,.int .i64 c.q,.int .i64 c.r,.int .i64 c.s] 29 (w.heap.size+1) (by simp));have o_0:Bx (((w.alloc (.cells (List.toArray [.slice na L.length nc,.slice da M.length dc,.int .i64 i0,.int .i64 i1]) 27)).alloc (.cells (List.toArray [.int .i64 c.f,.int .i64 c.a,.int .i64 c.b,.int .i64 c.c,.int .i64 c.d,.int .i64 c.p,.int .i64 c.q,.int .i64 c.r,.int .i64 c.s]) 29)).alloc (.cells (List.toArray [.int .i64 0,.slice none 0 0,.int .i64 0,.int .i64 0,.int .i64 0,.int .i64 0,.int .i64 0,.int .i64 0,.int .i64 0,.int .i64 0]) 47)) (w.heap.size+1+1) [.int .i64 0,.slice none 0 0,.int .i64 0,.int .i64 0,.int .i64 0,.int .i64 0,.int .i64 0,.int .i64 0,.int .i64 0,.int .i64 0]:=bxA;have HZ0:Ho w (((w.alloc (.cells (List.toArray [.slice na L.length nc,.slice da M.length dc,.int .i64 i0,.int .i64 i1]) 27)).alloc (.cells (List.toArray [.int .i64 c.f,.int .i64 c.a,.int .i64 c.b,.int .i64 c.c,.int .i64 c.d,.int .i64 c.p,.int .i64 c.q,.int .i64 c.r,.int .i64 c.s]) 29)).alloc (.cells (List.toArray [.int .i64 0,.slice none 0 0,.int .i64 0,.int .i64 0,.int .i64 0,.int .i64 0,.int .i64 0,.int .i64 0,.int .i64 0,.int .i64 0]) 47)) (w.heap.size+1+1) [(w.heap.size+1,[.int .i64 c.f,.int .i64 c.a,.int .i64 c.b,.int .i64 c.c,.int .i64 c.d,.int .i64 c.p,.int .i64 c.q,.int .i64 c.r,.int .i64 c.s]),(w.heap.size,[.slice na L.length nc,.slice da M.length dc,.int .i64 i0,.int .i64 i1])]:=hoA;go_enter Tryz.func11,Tryz.ntmps11;have o_0c:=o_0.c;have o_0f:=o_0.f
    go_wp2_with fail
    refine (vcell_any c _ (HN.out.kept HZ0.below) (HP.out.kept HZ0.below)).mono ?_;rintro r w1 ⟨rfl,hb⟩;rw [EV.out];have H1:Ho w w1 (w.heap.size+1+1) [(w.heap.size+1,[.int .i64 c.f,.int .i64 c.a,.int .i64 c.b,.int .i64 c.c,.int .i64 c.d,.int .i64 c.p,.int .i64 c.q,.int .i64 c.r,.int .i64 c.s]),(w.heap.size,[.slice na L.length nc,.slice da M.length dc,.int .i64 i0,.int .i64 i1])]:=Ho.call hoA hb;have o_1:=bxK o_0 hb;clear o_0c o_0f;have hs1:=H1.size;have hz1:=hb.size
    (try simp at hz1)
    clear hb;have h0_1:=(H1.at 1 rfl).c;have h1_1:=(H1.at 0 rfl).c;have o_1c:=o_1.c;have o_1f:=o_1.f;have o_1l:=o_1.lt;have zx1:=ai (zq (w.heap.size+1+1) (w1.heap.size))<|ai (zq (w.heap.size) (w1.heap.size))<|ai (zq (w.heap.size+1) (w1.heap.size))<|ai (zp (w.heap.size+1+1) (w.heap.size))<|zp (w.heap.size+1+1) (w.heap.size+1)
    go_wp2_with fail
    refine bodyPost_box (b:=w.heap.size+1+1) (cs:=[.int .i64 0,.slice none 0 0,.int .i64 0,.int .i64 0,.int .i64 0,.int .i64 0,.int .i64 0,.int .i64 0,.int .i64 0,.int .i64 0]) (v:=.tuple #[.agg (List.toArray [.int .i64 0,.slice none 0 0,.int .i64 0,.int .i64 0,.int .i64 0,.int .i64 0,.int .i64 0,.int .i64 0,.int .i64 0,.int .i64 0]),.int .i64 2]) (by
     (repeat (first|with_reducible exact o_1|(with_reducible refine Bx.new ?_;(· (simp;done)))|with_reducible apply Bx.put10|with_reducible refine Bx.set ?_ (by omega)|with_reducible refine Bx.alc ?_ _|with_reducible refine Bx.drew ?_))) (fun X hX=>by simp [results,Tryz.results11,go_sem,hX]) rfl ⟨⟨.slice none 0 0,by rw [HT.out];rfl,by rw [HT.out];exact World.ownsRow_nil _ _ _ _⟩,by
     refine Ho.below (n:=w.heap.size+1+1) (l:=[(w.heap.size+1,[.int .i64 c.f,.int .i64 c.a,.int .i64 c.b,.int .i64 c.c,.int .i64 c.d,.int .i64 c.p,.int .i64 c.q,.int .i64 c.r,.int .i64 c.s]),(w.heap.size,[.slice na L.length nc,.slice da M.length dc,.int .i64 i0,.int .i64 i1])]) ?_
     exact hoA⟩
   ·have hm1:20<most:=by omega
    clear hm;have H0:=(((Ho.nil w).bx [.slice na L.length nc,.slice da M.length dc,.int .i64 i0,.int .i64 i1] 27 (w.heap.size) (by simp)).bx [.int .i64 c.f,.int .i64 c.a,.int .i64 c.b,.int .i64 c.c,.int .i64 c.d,.int .i64 c.p,.int .i64 c.q,.int .i64 c.r,.int .i64 c.s] 29 (w.heap.size+1) (by simp));have o_0:Bx (((w.alloc (.cells (List.toArray [.slice na L.length nc,.slice da M.length dc,.int .i64 i0,.int .i64 i1]) 27)).alloc (.cells (List.toArray [.int .i64 c.f,.int .i64 c.a,.int .i64 c.b,.int .i64 c.c,.int .i64 c.d,.int .i64 c.p,.int .i64 c.q,.int .i64 c.r,.int .i64 c.s]) 29)).alloc (.cells (List.toArray [.int .i64 0,.slice none 0 0,.int .i64 0,.int .i64 0,.int .i64 0,.int .i64 0,.int .i64 0,.int .i64 0,.int .i64 0,.int .i64 0]) 47)) (w.heap.size+1+1) [.int .i64 0,.slice none 0 0,.int .i64 0,.int .i64 0,.int .i64 0,.int .i64 0,.int .i64 0,.int .i64 0,.int .i64 0,.int .i64 0]:=bxA;have HZ0:Ho w (((w.alloc (.cells (List.toArray [.slice na L.length nc,.slice da M.length dc,.int .i64 i0,.int .i64 i1]) 27)).alloc (.cells (List.toArray [.int .i64 c.f,.int .i64 c.a,.int .i64 c.b,.int .i64 c.c,.int .i64 c.d,.int .i64 c.p,.int .i64 c.q,.int .i64 c.r,.int .i64 c.s]) 29)).alloc (.cells (List.toArray [.int .i64 0,.slice none 0 0,.int .i64 0,.int .i64 0,.int .i64 0,.int .i64 0,.int .i64 0,.int .i64 0,.int .i64 0,.int .i64 0]) 47)) (w.heap.size+1+1) [(w.heap.size+1,[.int .i64 c.f,.int .i64 c.a,.int .i64 c.b,.int .i64 c.c,.int .i64 c.d,.int .i64 c.p,.int .i64 c.q,.int .i64 c.r,.int .i64 c.s]),(w.heap.size,[.slice na L.length nc,.slice da M.length dc,.int .i64 i0,.int .i64 i1])]:=hoA;go_enter Tryz.func11,Tryz.ntmps11;have o_0c:=o_0.c;have o_0f:=o_0.f
    go_wp2_with fail
    refine (vcell_any c _ (HN.out.kept HZ0.below) (HP.out.kept HZ0.below)).mono ?_;rintro r w1 ⟨rfl,hb⟩;rw [EV.out];have H1:Ho w w1 (w.heap.size+1+1) [(w.heap.size+1,[.int .i64 c.f,.int .i64 c.a,.int .i64 c.b,.int .i64 c.c,.int .i64 c.d,.int .i64 c.p,.int .i64 c.q,.int .i64 c.r,.int .i64 c.s]),(w.heap.size,[.slice na L.length nc,.slice da M.length dc,.int .i64 i0,.int .i64 i1])]:=Ho.call hoA hb;have o_1:=bxK o_0 hb;clear o_0c o_0f;have hs1:=H1.size;have hz1:=hb.size
    (try simp at hz1)
    clear hb;have h0_1:=(H1.at 1 rfl).c;have h1_1:=(H1.at 0 rfl).c;have o_1c:=o_1.c;have o_1f:=o_1.f;have o_1l:=o_1.lt;have zx1:=ai (zq (w.heap.size+1+1) (w1.heap.size))<|ai (zq (w.heap.size) (w1.heap.size))<|ai (zq (w.heap.size+1) (w1.heap.size))<|ai (zp (w.heap.size+1+1) (w.heap.size))<|zp (w.heap.size+1+1) (w.heap.size+1)
    go_wp2_with fail
    refine bodyPost_box (b:=w.heap.size+1+1) (cs:=[.int .i64 0,.slice none 0 0,.int .i64 0,.int .i64 0,.int .i64 0,.int .i64 0,.int .i64 0,.int .i64 0,.int .i64 0,.int .i64 0]) (v:=.tuple #[.agg (List.toArray [.int .i64 0,.slice none 0 0,.int .i64 0,.int .i64 0,.int .i64 0,.int .i64 0,.int .i64 0,.int .i64 0,.int .i64 0,.int .i64 0]),.int .i64 2]) (by
     (repeat (first|with_reducible exact o_1|(with_reducible refine Bx.new ?_;(· (simp;done)))|with_reducible apply Bx.put10|with_reducible refine Bx.set ?_ (by omega)|with_reducible refine Bx.alc ?_ _|with_reducible refine Bx.drew ?_))) (fun X hX=>by simp [results,Tryz.results11,go_sem,hX]) rfl ⟨⟨.slice none 0 0,by rw [HT.out];rfl,by rw [HT.out];exact World.ownsRow_nil _ _ _ _⟩,by
     refine Ho.below (n:=w.heap.size+1+1) (l:=[(w.heap.size+1,[.int .i64 c.f,.int .i64 c.a,.int .i64 c.b,.int .i64 c.c,.int .i64 c.d,.int .i64 c.p,.int .i64 c.q,.int .i64 c.r,.int .i64 c.s]),(w.heap.size,[.slice na L.length nc,.slice da M.length dc,.int .i64 i0,.int .i64 i1])]) ?_
     exact hoA⟩
end Go.Proofs.YtiecdgcdcpmgaaaGreat.Iv

/- Contracts of culetref32.half and culetref32.Valid. -/
namespace Go.Proofs.YtiecdgcdcpmgaaaGreat.Iv
open Go.RowKit
attribute [local go_sem] Oper.semAt_some
def hfB (a b:Int):Bool:=vB a b && cone a b
set_option maxRecDepth 100000 in
set_option maxHeartbeats 8000000 in
theorem half_any (a b:Int) (w:World):Calls Tryz.prog 28 #[iv a b] w fun e w'=>e = .returned (.bool (hfB a b))∧Below w.heap.size w w':=by
 cases h1:vB a b
 ·rw [show hfB a b=false from by simp [hfB,h1]];have E1:=Lib.hid h1;clear h1;have H0:=((Ho.nil w).bx [.int .i64 a,.int .i64 b] 25 (w.heap.size) (by simp));go_enter Tryz.func28,Tryz.ntmps28
  go_wp2_with fail
  refine (rvalid_below a b _).mono ?_;rintro r w1 ⟨rfl,hb⟩;rw [E1.out];have H1:Ho w w1 (w.heap.size+1) [(w.heap.size,[.int .i64 a,.int .i64 b])]:=Ho.call hoA hb;have hs1:=H1.size;have hz1:=hb.size
  (try simp at hz1)
  clear hb;have h0_1:=(H1.at 0 rfl).c;have zx1:=zq (w.heap.size) (w1.heap.size)
  go_wp2_with fail
  go_ret
  exact ⟨rfl,H1.below⟩
 ·by_cases h2 : -8388608≤a
  ·rw [show hfB a b=decide (b≤8388608) from by simp [hfB,cone,h1,h2]];have E1:=Lib.hid h1;clear h1;have H0:=((Ho.nil w).bx [.int .i64 a,.int .i64 b] 25 (w.heap.size) (by simp));go_enter Tryz.func28,Tryz.ntmps28
   go_wp2_with fail
   refine (rvalid_below a b _).mono ?_;rintro r w1 ⟨rfl,hb⟩;rw [E1.out];have H1:Ho w w1 (w.heap.size+1) [(w.heap.size,[.int .i64 a,.int .i64 b])]:=Ho.call hoA hb;have hs1:=H1.size;have hz1:=hb.size
   (try simp at hz1)
   clear hb;have h0_1:=(H1.at 0 rfl).c;have zx1:=zq (w.heap.size) (w1.heap.size)
   go_wp2_with fail
   go_ret
   exact ⟨rfl,H1.below⟩
  ·rw [show hfB a b=false from by simp [hfB,cone,h2]];have E1:=Lib.hid h1;clear h1;have H0:=((Ho.nil w).bx [.int .i64 a,.int .i64 b] 25 (w.heap.size) (by simp));go_enter Tryz.func28,Tryz.ntmps28
   go_wp2_with fail
   refine (rvalid_below a b _).mono ?_;rintro r w1 ⟨rfl,hb⟩;rw [E1.out];have H1:Ho w w1 (w.heap.size+1) [(w.heap.size,[.int .i64 a,.int .i64 b])]:=Ho.call hoA hb;have hs1:=H1.size;have hz1:=hb.size
   (try simp at hz1)
   clear hb;have h0_1:=(H1.at 0 rfl).c;have zx1:=zq (w.heap.size) (w1.heap.size)
   go_wp2_with fail
   go_ret
   exact ⟨rfl,H1.below⟩
set_option maxRecDepth 100000 in
set_option maxHeartbeats 8000000 in
theorem rvcell_any {na da:Option Addr} {nc dc:Nat} {L:List D} {M:List (Int × Int)} {i0 i1:Int} (c:CV) (w:World) (hn:NAt w na L) (hp:PAt w da M) :
  Calls Tryz.prog 9 #[.agg #[.slice na L.length nc,.slice da M.length dc,.int .i64 i0,.int .i64 i1],cellv c] w fun e w'=>e = .returned (.bool (vCell L M i0 i1 c))∧Below w.heap.size w w':=by
 unfold cellv;have HN:=Lib.hid hn;have HP:=Lib.hid hp;cases hB:vBody L M i0 i1
 ·rw [show vCell L M i0 i1 c=false from by simp [vCell,hB]];have EB:=Lib.hid hB;clear hB;have H0:=(((Ho.nil w).bx [.slice na L.length nc,.slice da M.length dc,.int .i64 i0,.int .i64 i1] 37 (w.heap.size) (by simp)).bx [.int .i64 c.f,.int .i64 c.a,.int .i64 c.b,.int .i64 c.c,.int .i64 c.d,.int .i64 c.p,.int .i64 c.q,.int .i64 c.r,.int .i64 c.s] 41 (w.heap.size+1) (by simp));clear hn hp;have HZ0:Ho w ((w.alloc (.cells (List.toArray [.slice na L.length nc,.slice da M.length dc,.int .i64 i0,.int .i64 i1]) 37)).alloc (.cells (List.toArray [.int .i64 c.f,.int .i64 c.a,.int .i64 c.b,.int .i64 c.c,.int .i64 c.d,.int .i64 c.p,.int .i64 c.q,.int .i64 c.r,.int .i64 c.s]) 41)) (w.heap.size+1+1) [(w.heap.size+1,[.int .i64 c.f,.int .i64 c.a,.int .i64 c.b,.int .i64 c.c,.int .i64 c.d,.int .i64 c.p,.int .i64 c.q,.int .i64 c.r,.int .i64 c.s]),(w.heap.size,[.slice na L.length nc,.slice da M.length dc,.int .i64 i0,.int .i64 i1])]:=hoA;go_enter Tryz.func9,Tryz.ntmps9
  go_wp2_with fail
  refine (rvbody_any _ (HN.out.kept HZ0.below) (HP.out.kept HZ0.below)).mono ?_;rintro r w1 ⟨rfl,hb⟩;rw [EB.out];have H1:Ho w w1 (w.heap.size+1+1) [(w.heap.size+1,[.int .i64 c.f,.int .i64 c.a,.int .i64 c.b,.int .i64 c.c,.int .i64 c.d,.int .i64 c.p,.int .i64 c.q,.int .i64 c.r,.int .i64 c.s]),(w.heap.size,[.slice na L.length nc,.slice da M.length dc,.int .i64 i0,.int .i64 i1])]:=Ho.call hoA hb;have hs1:=H1.size;have hz1:=hb.size
  (try simp at hz1)
  clear hb;have h0_1:=(H1.at 1 rfl).c;have h1_1:=(H1.at 0 rfl).c;have zx1:=ai (zq (w.heap.size) (w1.heap.size))<|zq (w.heap.size+1) (w1.heap.size)
  go_wp2_with fail
  go_ret
  exact ⟨rfl,H1.below⟩
 ·have EB:=Lib.hid hB
  by_cases hf0:c.f<0
  ·rw [show vCell L M i0 i1 c=false from by rw [vCell,hB,decide_eq_false (p:=0≤c.f∧c.f<(L.length:Int)) (by omega)];rfl];clear hB;have H0:=(((Ho.nil w).bx [.slice na L.length nc,.slice da M.length dc,.int .i64 i0,.int .i64 i1] 37 (w.heap.size) (by simp)).bx [.int .i64 c.f,.int .i64 c.a,.int .i64 c.b,.int .i64 c.c,.int .i64 c.d,.int .i64 c.p,.int .i64 c.q,.int .i64 c.r,.int .i64 c.s] 41 (w.heap.size+1) (by simp));clear hn hp;have HZ0:Ho w ((w.alloc (.cells (List.toArray [.slice na L.length nc,.slice da M.length dc,.int .i64 i0,.int .i64 i1]) 37)).alloc (.cells (List.toArray [.int .i64 c.f,.int .i64 c.a,.int .i64 c.b,.int .i64 c.c,.int .i64 c.d,.int .i64 c.p,.int .i64 c.q,.int .i64 c.r,.int .i64 c.s]) 41)) (w.heap.size+1+1) [(w.heap.size+1,[.int .i64 c.f,.int .i64 c.a,.int .i64 c.b,.int .i64 c.c,.int .i64 c.d,.int .i64 c.p,.int .i64 c.q,.int .i64 c.r,.int .i64 c.s]),(w.heap.size,[.slice na L.length nc,.slice da M.length dc,.int .i64 i0,.int .i64 i1])]:=hoA;go_enter Tryz.func9,Tryz.ntmps9
   go_wp2_with fail
   refine (rvbody_any _ (HN.out.kept HZ0.below) (HP.out.kept HZ0.below)).mono ?_;rintro r w1 ⟨rfl,hb⟩;rw [EB.out];have H1:Ho w w1 (w.heap.size+1+1) [(w.heap.size+1,[.int .i64 c.f,.int .i64 c.a,.int .i64 c.b,.int .i64 c.c,.int .i64 c.d,.int .i64 c.p,.int .i64 c.q,.int .i64 c.r,.int .i64 c.s]),(w.heap.size,[.slice na L.length nc,.slice da M.length dc,.int .i64 i0,.int .i64 i1])]:=Ho.call hoA hb;have hs1:=H1.size;have hz1:=hb.size
   (try simp at hz1)
   clear hb;have h0_1:=(H1.at 1 rfl).c;have h1_1:=(H1.at 0 rfl).c;have zx1:=ai (zq (w.heap.size) (w1.heap.size))<|zq (w.heap.size+1) (w1.heap.size)
   go_wp2_with fail
   go_ret
   exact ⟨rfl,H1.below⟩
  ·by_cases hf1:(L.length:Int)≤c.f
   ·rw [show vCell L M i0 i1 c=false from by rw [vCell,hB,decide_eq_false (p:=0≤c.f∧c.f<(L.length:Int)) (by omega)];rfl];clear hB;have H0:=(((Ho.nil w).bx [.slice na L.length nc,.slice da M.length dc,.int .i64 i0,.int .i64 i1] 37 (w.heap.size) (by simp)).bx [.int .i64 c.f,.int .i64 c.a,.int .i64 c.b,.int .i64 c.c,.int .i64 c.d,.int .i64 c.p,.int .i64 c.q,.int .i64 c.r,.int .i64 c.s] 41 (w.heap.size+1) (by simp));clear hn hp;have HZ0:Ho w ((w.alloc (.cells (List.toArray [.slice na L.length nc,.slice da M.length dc,.int .i64 i0,.int .i64 i1]) 37)).alloc (.cells (List.toArray [.int .i64 c.f,.int .i64 c.a,.int .i64 c.b,.int .i64 c.c,.int .i64 c.d,.int .i64 c.p,.int .i64 c.q,.int .i64 c.r,.int .i64 c.s]) 41)) (w.heap.size+1+1) [(w.heap.size+1,[.int .i64 c.f,.int .i64 c.a,.int .i64 c.b,.int .i64 c.c,.int .i64 c.d,.int .i64 c.p,.int .i64 c.q,.int .i64 c.r,.int .i64 c.s]),(w.heap.size,[.slice na L.length nc,.slice da M.length dc,.int .i64 i0,.int .i64 i1])]:=hoA;go_enter Tryz.func9,Tryz.ntmps9
    go_wp2_with fail
    refine (rvbody_any _ (HN.out.kept HZ0.below) (HP.out.kept HZ0.below)).mono ?_;rintro r w1 ⟨rfl,hb⟩;rw [EB.out];have H1:Ho w w1 (w.heap.size+1+1) [(w.heap.size+1,[.int .i64 c.f,.int .i64 c.a,.int .i64 c.b,.int .i64 c.c,.int .i64 c.d,.int .i64 c.p,.int .i64 c.q,.int .i64 c.r,.int .i64 c.s]),(w.heap.size,[.slice na L.length nc,.slice da M.length dc,.int .i64 i0,.int .i64 i1])]:=Ho.call hoA hb;have hs1:=H1.size;have hz1:=hb.size
    (try simp at hz1)
    clear hb;have h0_1:=(H1.at 1 rfl).c;have h1_1:=(H1.at 0 rfl).c;have zx1:=ai (zq (w.heap.size) (w1.heap.size))<|zq (w.heap.size+1) (w1.heap.size)
    go_wp2_with fail
    go_ret
    exact ⟨rfl,H1.below⟩
   ·obtain ⟨cf,ca,cb,cc,cd,cp,cq,cr,cs⟩:=c;dsimp only at hf0 hf1 ⊢;obtain ⟨k,rfl⟩:∃k:Nat,cf=(k:Int):=⟨cf.toNat,by omega⟩
    have hk:k<L.length:=by omega
    obtain ⟨n,hx⟩:∃n,L[k]? = some n:=⟨L[k],List.getElem?_eq_getElem hk⟩
    have hnn:nthD L (k:Int)=n:=by rw [nthD,Int.toNat_natCast,hx];rfl
    have hv:vCell L M i0 i1 ⟨k,ca,cb,cc,cd,cp,cq,cr,cs⟩=(decide (0<n.e) && (vB ca cb && (vB cc cd && (hfB cp cq && hfB cr cs)))):=by
     rw [vCell];dsimp only;rw [hB,decide_eq_true (p:=0≤(k:Int)∧(k:Int)<(L.length:Int)) ⟨by omega,by omega⟩,hnn];unfold vC hfB;dsimp only;cases vB ca cb<;>cases vB cc cd<;>cases vB cp cq<;>cases vB cr cs<;>cases cone cp cq<;>cases cone cr cs<;>rfl
    rw [hv];obtain ⟨nb,no,rfl,hnb,hN⟩:=hn (by omega);have RN0:=(Rs.mk hnb (hN k n hx):Rs w nb (no+k*6) [.int .i64 n.a,.int .i64 n.b,.int .i64 n.c,.int .i64 n.d,.int .i64 n.e,.int .i64 n.f])
    have hlt':(k:Int)<(L.length:Int):=by omega
    have hge':(0:Int)≤(k:Int):=by omega
    clear hB hv hnn hN hn hp hx hf0 hf1
    by_cases hz:n.e≤0
    ·rw [decide_eq_false (p:=0<n.e) (by omega),Bool.false_and];have H0:=(((Ho.nil w).bx [.slice (some ⟨nb,no,none⟩) L.length nc,.slice da M.length dc,.int .i64 i0,.int .i64 i1] 37 (w.heap.size) (by simp)).bx [.int .i64 k,.int .i64 ca,.int .i64 cb,.int .i64 cc,.int .i64 cd,.int .i64 cp,.int .i64 cq,.int .i64 cr,.int .i64 cs] 41 (w.heap.size+1) (by simp));have HZ0:Ho w ((w.alloc (.cells (List.toArray [.slice (some ⟨nb,no,none⟩) L.length nc,.slice da M.length dc,.int .i64 i0,.int .i64 i1]) 37)).alloc (.cells (List.toArray [.int .i64 k,.int .i64 ca,.int .i64 cb,.int .i64 cc,.int .i64 cd,.int .i64 cp,.int .i64 cq,.int .i64 cr,.int .i64 cs]) 41)) (w.heap.size+1+1) [(w.heap.size+1,[.int .i64 k,.int .i64 ca,.int .i64 cb,.int .i64 cc,.int .i64 cd,.int .i64 cp,.int .i64 cq,.int .i64 cr,.int .i64 cs]),(w.heap.size,[.slice (some ⟨nb,no,none⟩) L.length nc,.slice da M.length dc,.int .i64 i0,.int .i64 i1])]:=hoA;go_enter Tryz.func9,Tryz.ntmps9
     go_wp2_with fail
     refine (rvbody_any _ (HN.out.kept HZ0.below) (HP.out.kept HZ0.below)).mono ?_;rintro r w1 ⟨rfl,hb⟩;rw [EB.out];have H1:Ho w w1 (w.heap.size+1+1) [(w.heap.size+1,[.int .i64 k,.int .i64 ca,.int .i64 cb,.int .i64 cc,.int .i64 cd,.int .i64 cp,.int .i64 cq,.int .i64 cr,.int .i64 cs]),(w.heap.size,[.slice (some ⟨nb,no,none⟩) L.length nc,.slice da M.length dc,.int .i64 i0,.int .i64 i1])]:=Ho.call hoA hb;have hs1:=H1.size;have hz1:=hb.size
     (try simp at hz1)
     clear hb;have h0_1:=(H1.at 1 rfl).c;have h1_1:=(H1.at 0 rfl).c;have zx1:=ai (zq (w.heap.size) (w1.heap.size))<|zq (w.heap.size+1) (w1.heap.size);have RN1:=RN0.kept H1.below;have n1_4:w1.cell? ⟨nb,no+k*6+4,none⟩=some (.int .i64 n.e):=RN1.c 4 (by simp)
     go_wp2_with fail
     go_ret
     exact ⟨rfl,H1.below⟩
    ·rw [decide_eq_true (p:=0<n.e) (by omega),Bool.true_and];cases h1:vB ca cb
     ·have E1:=Lib.hid h1;clear h1;rw [Bool.false_and];have H0:=(((Ho.nil w).bx [.slice (some ⟨nb,no,none⟩) L.length nc,.slice da M.length dc,.int .i64 i0,.int .i64 i1] 37 (w.heap.size) (by simp)).bx [.int .i64 k,.int .i64 ca,.int .i64 cb,.int .i64 cc,.int .i64 cd,.int .i64 cp,.int .i64 cq,.int .i64 cr,.int .i64 cs] 41 (w.heap.size+1) (by simp));have HZ0:Ho w ((w.alloc (.cells (List.toArray [.slice (some ⟨nb,no,none⟩) L.length nc,.slice da M.length dc,.int .i64 i0,.int .i64 i1]) 37)).alloc (.cells (List.toArray [.int .i64 k,.int .i64 ca,.int .i64 cb,.int .i64 cc,.int .i64 cd,.int .i64 cp,.int .i64 cq,.int .i64 cr,.int .i64 cs]) 41)) (w.heap.size+1+1) [(w.heap.size+1,[.int .i64 k,.int .i64 ca,.int .i64 cb,.int .i64 cc,.int .i64 cd,.int .i64 cp,.int .i64 cq,.int .i64 cr,.int .i64 cs]),(w.heap.size,[.slice (some ⟨nb,no,none⟩) L.length nc,.slice da M.length dc,.int .i64 i0,.int .i64 i1])]:=hoA;go_enter Tryz.func9,Tryz.ntmps9
      go_wp2_with fail
      refine (rvbody_any _ (HN.out.kept HZ0.below) (HP.out.kept HZ0.below)).mono ?_;rintro r w1 ⟨rfl,hb⟩;rw [EB.out];have H1:Ho w w1 (w.heap.size+1+1) [(w.heap.size+1,[.int .i64 k,.int .i64 ca,.int .i64 cb,.int .i64 cc,.int .i64 cd,.int .i64 cp,.int .i64 cq,.int .i64 cr,.int .i64 cs]),(w.heap.size,[.slice (some ⟨nb,no,none⟩) L.length nc,.slice da M.length dc,.int .i64 i0,.int .i64 i1])]:=Ho.call hoA hb;have hs1:=H1.size;have hz1:=hb.size
      (try simp at hz1)
      clear hb;have h0_1:=(H1.at 1 rfl).c;have h1_1:=(H1.at 0 rfl).c;have zx1:=ai (zq (w.heap.size) (w1.heap.size))<|zq (w.heap.size+1) (w1.heap.size);have RN1:=RN0.kept H1.below;have n1_4:w1.cell? ⟨nb,no+k*6+4,none⟩=some (.int .i64 n.e):=RN1.c 4 (by simp)
      go_wp2_with fail
      refine (rvalid_below ca cb _).mono ?_;rintro r w2 ⟨rfl,hb⟩;rw [E1.out];have H2:Ho w w2 (w.heap.size+1+1) [(w.heap.size+1,[.int .i64 k,.int .i64 ca,.int .i64 cb,.int .i64 cc,.int .i64 cd,.int .i64 cp,.int .i64 cq,.int .i64 cr,.int .i64 cs]),(w.heap.size,[.slice (some ⟨nb,no,none⟩) L.length nc,.slice da M.length dc,.int .i64 i0,.int .i64 i1])]:=Ho.call hoA hb;clear h0_1 h1_1 zx1;have hs2:=H2.size;have hz2:=hb.size
      (try simp at hz2)
      clear hb;have h0_2:=(H2.at 1 rfl).c;have h1_2:=(H2.at 0 rfl).c;have zx2:=ai (zq (w.heap.size) (w2.heap.size))<|zq (w.heap.size+1) (w2.heap.size)
      go_wp2_with fail
      go_ret
      exact ⟨rfl,H2.below⟩
     ·have E1:=Lib.hid h1;clear h1;rw [Bool.true_and];cases h2:vB cc cd
      ·have E2:=Lib.hid h2;clear h2;rw [Bool.false_and];have H0:=(((Ho.nil w).bx [.slice (some ⟨nb,no,none⟩) L.length nc,.slice da M.length dc,.int .i64 i0,.int .i64 i1] 37 (w.heap.size) (by simp)).bx [.int .i64 k,.int .i64 ca,.int .i64 cb,.int .i64 cc,.int .i64 cd,.int .i64 cp,.int .i64 cq,.int .i64 cr,.int .i64 cs] 41 (w.heap.size+1) (by simp));have HZ0:Ho w ((w.alloc (.cells (List.toArray [.slice (some ⟨nb,no,none⟩) L.length nc,.slice da M.length dc,.int .i64 i0,.int .i64 i1]) 37)).alloc (.cells (List.toArray [.int .i64 k,.int .i64 ca,.int .i64 cb,.int .i64 cc,.int .i64 cd,.int .i64 cp,.int .i64 cq,.int .i64 cr,.int .i64 cs]) 41)) (w.heap.size+1+1) [(w.heap.size+1,[.int .i64 k,.int .i64 ca,.int .i64 cb,.int .i64 cc,.int .i64 cd,.int .i64 cp,.int .i64 cq,.int .i64 cr,.int .i64 cs]),(w.heap.size,[.slice (some ⟨nb,no,none⟩) L.length nc,.slice da M.length dc,.int .i64 i0,.int .i64 i1])]:=hoA;go_enter Tryz.func9,Tryz.ntmps9
       go_wp2_with fail
       refine (rvbody_any _ (HN.out.kept HZ0.below) (HP.out.kept HZ0.below)).mono ?_;rintro r w1 ⟨rfl,hb⟩;rw [EB.out];have H1:Ho w w1 (w.heap.size+1+1) [(w.heap.size+1,[.int .i64 k,.int .i64 ca,.int .i64 cb,.int .i64 cc,.int .i64 cd,.int .i64 cp,.int .i64 cq,.int .i64 cr,.int .i64 cs]),(w.heap.size,[.slice (some ⟨nb,no,none⟩) L.length nc,.slice da M.length dc,.int .i64 i0,.int .i64 i1])]:=Ho.call hoA hb;have hs1:=H1.size;have hz1:=hb.size
       (try simp at hz1)
       clear hb;have h0_1:=(H1.at 1 rfl).c;have h1_1:=(H1.at 0 rfl).c;have zx1:=ai (zq (w.heap.size) (w1.heap.size))<|zq (w.heap.size+1) (w1.heap.size);have RN1:=RN0.kept H1.below;have n1_4:w1.cell? ⟨nb,no+k*6+4,none⟩=some (.int .i64 n.e):=RN1.c 4 (by simp)
       go_wp2_with fail
       refine (rvalid_below ca cb _).mono ?_;rintro r w2 ⟨rfl,hb⟩;rw [E1.out];have H2:Ho w w2 (w.heap.size+1+1) [(w.heap.size+1,[.int .i64 k,.int .i64 ca,.int .i64 cb,.int .i64 cc,.int .i64 cd,.int .i64 cp,.int .i64 cq,.int .i64 cr,.int .i64 cs]),(w.heap.size,[.slice (some ⟨nb,no,none⟩) L.length nc,.slice da M.length dc,.int .i64 i0,.int .i64 i1])]:=Ho.call hoA hb;clear h0_1 h1_1 zx1;have hs2:=H2.size;have hz2:=hb.size
       (try simp at hz2)
       clear hb;have h0_2:=(H2.at 1 rfl).c;have h1_2:=(H2.at 0 rfl).c;have zx2:=ai (zq (w.heap.size) (w2.heap.size))<|zq (w.heap.size+1) (w2.heap.size)
       go_wp2_with fail
       refine (rvalid_below cc cd _).mono ?_;rintro r w3 ⟨rfl,hb⟩;rw [E2.out];have H3:Ho w w3 (w.heap.size+1+1) [(w.heap.size+1,[.int .i64 k,.int .i64 ca,.int .i64 cb,.int .i64 cc,.int .i64 cd,.int .i64 cp,.int .i64 cq,.int .i64 cr,.int .i64 cs]),(w.heap.size,[.slice (some ⟨nb,no,none⟩) L.length nc,.slice da M.length dc,.int .i64 i0,.int .i64 i1])]:=Ho.call hoA hb;clear h0_2 h1_2 zx2;have hs3:=H3.size;have hz3:=hb.size
       (try simp at hz3)
       clear hb;have h0_3:=(H3.at 1 rfl).c;have h1_3:=(H3.at 0 rfl).c;have zx3:=ai (zq (w.heap.size) (w3.heap.size))<|zq (w.heap.size+1) (w3.heap.size)
       go_wp2_with fail
       go_ret
       exact ⟨rfl,H3.below⟩
      ·have E2:=Lib.hid h2;clear h2;rw [Bool.true_and];cases h3:hfB cp cq
       ·have E3:=Lib.hid h3;clear h3;rw [Bool.false_and];have H0:=(((Ho.nil w).bx [.slice (some ⟨nb,no,none⟩) L.length nc,.slice da M.length dc,.int .i64 i0,.int .i64 i1] 37 (w.heap.size) (by simp)).bx [.int .i64 k,.int .i64 ca,.int .i64 cb,.int .i64 cc,.int .i64 cd,.int .i64 cp,.int .i64 cq,.int .i64 cr,.int .i64 cs] 41 (w.heap.size+1) (by simp));have HZ0:Ho w ((w.alloc (.cells (List.toArray [.slice (some ⟨nb,no,none⟩) L.length nc,.slice da M.length dc,.int .i64 i0,.int .i64 i1]) 37)).alloc (.cells (List.toArray [.int .i64 k,.int .i64 ca,.int .i64 cb,.int .i64 cc,.int .i64 cd,.int .i64 cp,.int .i64 cq,.int .i64 cr,.int .i64 cs]) 41)) (w.heap.size+1+1) [(w.heap.size+1,[.int .i64 k,.int .i64 ca,.int .i64 cb,.int .i64 cc,.int .i64 cd,.int .i64 cp,.int .i64 cq,.int .i64 cr,.int .i64 cs]),(w.heap.size,[.slice (some ⟨nb,no,none⟩) L.length nc,.slice da M.length dc,.int .i64 i0,.int .i64 i1])]:=hoA;go_enter Tryz.func9,Tryz.ntmps9
        go_wp2_with fail
        refine (rvbody_any _ (HN.out.kept HZ0.below) (HP.out.kept HZ0.below)).mono ?_;rintro r w1 ⟨rfl,hb⟩;rw [EB.out];have H1:Ho w w1 (w.heap.size+1+1) [(w.heap.size+1,[.int .i64 k,.int .i64 ca,.int .i64 cb,.int .i64 cc,.int .i64 cd,.int .i64 cp,.int .i64 cq,.int .i64 cr,.int .i64 cs]),(w.heap.size,[.slice (some ⟨nb,no,none⟩) L.length nc,.slice da M.length dc,.int .i64 i0,.int .i64 i1])]:=Ho.call hoA hb;have hs1:=H1.size;have hz1:=hb.size
        (try simp at hz1)
        clear hb;have h0_1:=(H1.at 1 rfl).c;have h1_1:=(H1.at 0 rfl).c;have zx1:=ai (zq (w.heap.size) (w1.heap.size))<|zq (w.heap.size+1) (w1.heap.size);have RN1:=RN0.kept H1.below;have n1_4:w1.cell? ⟨nb,no+k*6+4,none⟩=some (.int .i64 n.e):=RN1.c 4 (by simp)
        go_wp2_with fail
        refine (rvalid_below ca cb _).mono ?_;rintro r w2 ⟨rfl,hb⟩;rw [E1.out];have H2:Ho w w2 (w.heap.size+1+1) [(w.heap.size+1,[.int .i64 k,.int .i64 ca,.int .i64 cb,.int .i64 cc,.int .i64 cd,.int .i64 cp,.int .i64 cq,.int .i64 cr,.int .i64 cs]),(w.heap.size,[.slice (some ⟨nb,no,none⟩) L.length nc,.slice da M.length dc,.int .i64 i0,.int .i64 i1])]:=Ho.call hoA hb;clear h0_1 h1_1 zx1;have hs2:=H2.size;have hz2:=hb.size
        (try simp at hz2)
        clear hb;have h0_2:=(H2.at 1 rfl).c;have h1_2:=(H2.at 0 rfl).c;have zx2:=ai (zq (w.heap.size) (w2.heap.size))<|zq (w.heap.size+1) (w2.heap.size)
        go_wp2_with fail
        refine (rvalid_below cc cd _).mono ?_;rintro r w3 ⟨rfl,hb⟩;rw [E2.out];have H3:Ho w w3 (w.heap.size+1+1) [(w.heap.size+1,[.int .i64 k,.int .i64 ca,.int .i64 cb,.int .i64 cc,.int .i64 cd,.int .i64 cp,.int .i64 cq,.int .i64 cr,.int .i64 cs]),(w.heap.size,[.slice (some ⟨nb,no,none⟩) L.length nc,.slice da M.length dc,.int .i64 i0,.int .i64 i1])]:=Ho.call hoA hb;clear h0_2 h1_2 zx2;have hs3:=H3.size;have hz3:=hb.size
        (try simp at hz3)
        clear hb;have h0_3:=(H3.at 1 rfl).c;have h1_3:=(H3.at 0 rfl).c;have zx3:=ai (zq (w.heap.size) (w3.heap.size))<|zq (w.heap.size+1) (w3.heap.size)
        go_wp2_with fail
        refine (half_any cp cq _).mono ?_;rintro r w4 ⟨rfl,hb⟩;rw [E3.out];have H4:Ho w w4 (w.heap.size+1+1) [(w.heap.size+1,[.int .i64 k,.int .i64 ca,.int .i64 cb,.int .i64 cc,.int .i64 cd,.int .i64 cp,.int .i64 cq,.int .i64 cr,.int .i64 cs]),(w.heap.size,[.slice (some ⟨nb,no,none⟩) L.length nc,.slice da M.length dc,.int .i64 i0,.int .i64 i1])]:=Ho.call hoA hb;clear h0_3 h1_3 zx3;have hs4:=H4.size;have hz4:=hb.size
        (try simp at hz4)
        clear hb;have h0_4:=(H4.at 1 rfl).c;have h1_4:=(H4.at 0 rfl).c;have zx4:=ai (zq (w.heap.size) (w4.heap.size))<|zq (w.heap.size+1) (w4.heap.size)
        go_wp2_with fail
        go_ret
        exact ⟨rfl,H4.below⟩
       ·have E3:=Lib.hid h3;clear h3;rw [Bool.true_and];have H0:=(((Ho.nil w).bx [.slice (some ⟨nb,no,none⟩) L.length nc,.slice da M.length dc,.int .i64 i0,.int .i64 i1] 37 (w.heap.size) (by simp)).bx [.int .i64 k,.int .i64 ca,.int .i64 cb,.int .i64 cc,.int .i64 cd,.int .i64 cp,.int .i64 cq,.int .i64 cr,.int .i64 cs] 41 (w.heap.size+1) (by simp));have HZ0:Ho w ((w.alloc (.cells (List.toArray [.slice (some ⟨nb,no,none⟩) L.length nc,.slice da M.length dc,.int .i64 i0,.int .i64 i1]) 37)).alloc (.cells (List.toArray [.int .i64 k,.int .i64 ca,.int .i64 cb,.int .i64 cc,.int .i64 cd,.int .i64 cp,.int .i64 cq,.int .i64 cr,.int .i64 cs]) 41)) (w.heap.size+1+1) [(w.heap.size+1,[.int .i64 k,.int .i64 ca,.int .i64 cb,.int .i64 cc,.int .i64 cd,.int .i64 cp,.int .i64 cq,.int .i64 cr,.int .i64 cs]),(w.heap.size,[.slice (some ⟨nb,no,none⟩) L.length nc,.slice da M.length dc,.int .i64 i0,.int .i64 i1])]:=hoA;go_enter Tryz.func9,Tryz.ntmps9
        go_wp2_with fail
        refine (rvbody_any _ (HN.out.kept HZ0.below) (HP.out.kept HZ0.below)).mono ?_;rintro r w1 ⟨rfl,hb⟩;rw [EB.out];have H1:Ho w w1 (w.heap.size+1+1) [(w.heap.size+1,[.int .i64 k,.int .i64 ca,.int .i64 cb,.int .i64 cc,.int .i64 cd,.int .i64 cp,.int .i64 cq,.int .i64 cr,.int .i64 cs]),(w.heap.size,[.slice (some ⟨nb,no,none⟩) L.length nc,.slice da M.length dc,.int .i64 i0,.int .i64 i1])]:=Ho.call hoA hb;have hs1:=H1.size;have hz1:=hb.size
        (try simp at hz1)
        clear hb;have h0_1:=(H1.at 1 rfl).c;have h1_1:=(H1.at 0 rfl).c;have zx1:=ai (zq (w.heap.size) (w1.heap.size))<|zq (w.heap.size+1) (w1.heap.size);have RN1:=RN0.kept H1.below;have n1_4:w1.cell? ⟨nb,no+k*6+4,none⟩=some (.int .i64 n.e):=RN1.c 4 (by simp)
        go_wp2_with fail
        refine (rvalid_below ca cb _).mono ?_;rintro r w2 ⟨rfl,hb⟩;rw [E1.out];have H2:Ho w w2 (w.heap.size+1+1) [(w.heap.size+1,[.int .i64 k,.int .i64 ca,.int .i64 cb,.int .i64 cc,.int .i64 cd,.int .i64 cp,.int .i64 cq,.int .i64 cr,.int .i64 cs]),(w.heap.size,[.slice (some ⟨nb,no,none⟩) L.length nc,.slice da M.length dc,.int .i64 i0,.int .i64 i1])]:=Ho.call hoA hb;clear h0_1 h1_1 zx1;have hs2:=H2.size;have hz2:=hb.size
        (try simp at hz2)
        clear hb;have h0_2:=(H2.at 1 rfl).c;have h1_2:=(H2.at 0 rfl).c;have zx2:=ai (zq (w.heap.size) (w2.heap.size))<|zq (w.heap.size+1) (w2.heap.size)
        go_wp2_with fail
        refine (rvalid_below cc cd _).mono ?_;rintro r w3 ⟨rfl,hb⟩;rw [E2.out];have H3:Ho w w3 (w.heap.size+1+1) [(w.heap.size+1,[.int .i64 k,.int .i64 ca,.int .i64 cb,.int .i64 cc,.int .i64 cd,.int .i64 cp,.int .i64 cq,.int .i64 cr,.int .i64 cs]),(w.heap.size,[.slice (some ⟨nb,no,none⟩) L.length nc,.slice da M.length dc,.int .i64 i0,.int .i64 i1])]:=Ho.call hoA hb;clear h0_2 h1_2 zx2;have hs3:=H3.size;have hz3:=hb.size
        (try simp at hz3)
        clear hb;have h0_3:=(H3.at 1 rfl).c;have h1_3:=(H3.at 0 rfl).c;have zx3:=ai (zq (w.heap.size) (w3.heap.size))<|zq (w.heap.size+1) (w3.heap.size)
        go_wp2_with fail
        refine (half_any cp cq _).mono ?_;rintro r w4 ⟨rfl,hb⟩;rw [E3.out];have H4:Ho w w4 (w.heap.size+1+1) [(w.heap.size+1,[.int .i64 k,.int .i64 ca,.int .i64 cb,.int .i64 cc,.int .i64 cd,.int .i64 cp,.int .i64 cq,.int .i64 cr,.int .i64 cs]),(w.heap.size,[.slice (some ⟨nb,no,none⟩) L.length nc,.slice da M.length dc,.int .i64 i0,.int .i64 i1])]:=Ho.call hoA hb;clear h0_3 h1_3 zx3;have hs4:=H4.size;have hz4:=hb.size
        (try simp at hz4)
        clear hb;have h0_4:=(H4.at 1 rfl).c;have h1_4:=(H4.at 0 rfl).c;have zx4:=ai (zq (w.heap.size) (w4.heap.size))<|zq (w.heap.size+1) (w4.heap.size)
        go_wp2_with fail
        refine (half_any cr cs _).mono ?_;rintro r w5 ⟨rfl,hb⟩;have H5:Ho w w5 (w.heap.size+1+1) [(w.heap.size+1,[.int .i64 k,.int .i64 ca,.int .i64 cb,.int .i64 cc,.int .i64 cd,.int .i64 cp,.int .i64 cq,.int .i64 cr,.int .i64 cs]),(w.heap.size,[.slice (some ⟨nb,no,none⟩) L.length nc,.slice da M.length dc,.int .i64 i0,.int .i64 i1])]:=Ho.call hoA hb;clear h0_4 h1_4 zx4;have hs5:=H5.size;have hz5:=hb.size
        (try simp at hz5)
        clear hb;have h0_5:=(H5.at 1 rfl).c;have h1_5:=(H5.at 0 rfl).c;have zx5:=ai (zq (w.heap.size) (w5.heap.size))<|zq (w.heap.size+1) (w5.heap.size)
        go_wp2_with fail
        go_ret
        exact ⟨rfl,H5.below⟩
end Go.Proofs.YtiecdgcdcpmgaaaGreat.Iv
