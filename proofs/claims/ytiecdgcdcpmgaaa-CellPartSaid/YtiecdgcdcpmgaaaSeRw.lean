/- Contracts of culetref32.half and culetref32.Valid. -/
import Derived.Test.YtiecdgcdcpmgaaaM26
import Derived.Test.YtiecdgcdcpmgaaaSeRv
import Derived.Test.YtiecdgcdcpmgaaaSeDj
import Derived.Test.YtiecdgcdcpmgaaaSeDkM
import Derived.Test.YtiecdgcdcpmgaaaSeDrb
import Derived.Test.YtiecdgcdcpmgaaaSeDsM
import Derived.Test.YtiecdgcdcpmgaaaSeIeM
import Derived.Test.YtiecdgcdcpmgaaaSeInM
import Derived.Test.YtiecdgcdcpmgaaaSeRf1
import Derived.Test.YtiecdgcdcpmgaaaSeRf2
import Derived.Test.YtiecdgcdcpmgaaaM06
namespace Go.Proofs.Ytiecdgcdcpmgaaa.Iv
open Go.RowKit
attribute [local go_sem] Oper.semAt_some
def hfB (a b:Int):Bool:=vB a b && cone a b
set_option maxRecDepth 100000 in
set_option maxHeartbeats 8000000 in
theorem half_any (a b:Int) (w:World):Calls Try.prog 34 #[iv a b] w fun e w'=>e = .returned (.bool (hfB a b))∧Below w.heap.size w w':=by
 cases h1:vB a b
 ·rw [show hfB a b=false from by simp [hfB,h1]];have E1:=Lib.hid h1;clear h1;have H0:=((Ho.nil w).bx [.int .i64 a,.int .i64 b] 25 (w.heap.size) (by simp));go_enter Try.func34,Try.ntmps34
  go_wp2_with fail
  refine (rvalid_below a b _).mono ?_;rintro r w1 ⟨rfl,hb⟩;rw [E1.out];have H1:Ho w w1 (w.heap.size+1) [(w.heap.size,[.int .i64 a,.int .i64 b])]:=Ho.call hoA hb;have hs1:=H1.size;have hz1:=hb.size
  (try simp at hz1)
  clear hb;have h0_1:=(H1.at 0 rfl).c;have zx1:=zq (w.heap.size) (w1.heap.size)
  go_wp2_with fail
  go_ret
  exact ⟨rfl,H1.below⟩
 ·by_cases h2 : -8388608≤a
  ·rw [show hfB a b=decide (b≤8388608) from by simp [hfB,cone,h1,h2]];have E1:=Lib.hid h1;clear h1;have H0:=((Ho.nil w).bx [.int .i64 a,.int .i64 b] 25 (w.heap.size) (by simp));go_enter Try.func34,Try.ntmps34
   go_wp2_with fail
   refine (rvalid_below a b _).mono ?_;rintro r w1 ⟨rfl,hb⟩;rw [E1.out];have H1:Ho w w1 (w.heap.size+1) [(w.heap.size,[.int .i64 a,.int .i64 b])]:=Ho.call hoA hb;have hs1:=H1.size;have hz1:=hb.size
   (try simp at hz1)
   clear hb;have h0_1:=(H1.at 0 rfl).c;have zx1:=zq (w.heap.size) (w1.heap.size)
   go_wp2_with fail
   go_ret
   exact ⟨rfl,H1.below⟩
  ·rw [show hfB a b=false from by simp [hfB,cone,h2]];have E1:=Lib.hid h1;clear h1;have H0:=((Ho.nil w).bx [.int .i64 a,.int .i64 b] 25 (w.heap.size) (by simp));go_enter Try.func34,Try.ntmps34
   go_wp2_with fail
   refine (rvalid_below a b _).mono ?_;rintro r w1 ⟨rfl,hb⟩;rw [E1.out];have H1:Ho w w1 (w.heap.size+1) [(w.heap.size,[.int .i64 a,.int .i64 b])]:=Ho.call hoA hb;have hs1:=H1.size;have hz1:=hb.size
   (try simp at hz1)
   clear hb;have h0_1:=(H1.at 0 rfl).c;have zx1:=zq (w.heap.size) (w1.heap.size)
   go_wp2_with fail
   go_ret
   exact ⟨rfl,H1.below⟩
set_option maxRecDepth 100000 in
set_option maxHeartbeats 8000000 in
theorem rvcell_any {na da:Option Addr} {nc dc:Nat} {L:List D} {M:List (Int × Int)} {i0 i1:Int} (c:CV) (w:World) (hn:NAt w na L) (hp:PAt w da M) :
  Calls Try.prog 13 #[.agg #[.slice na L.length nc,.slice da M.length dc,.int .i64 i0,.int .i64 i1],cellv c] w fun e w'=>e = .returned (.bool (vCell L M i0 i1 c))∧Below w.heap.size w w':=by
 unfold cellv;have HN:=Lib.hid hn;have HP:=Lib.hid hp;cases hB:vBody L M i0 i1
 ·rw [show vCell L M i0 i1 c=false from by simp [vCell,hB]];have EB:=Lib.hid hB;clear hB;have H0:=(((Ho.nil w).bx [.slice na L.length nc,.slice da M.length dc,.int .i64 i0,.int .i64 i1] 36 (w.heap.size) (by simp)).bx [.int .i64 c.f,.int .i64 c.a,.int .i64 c.b,.int .i64 c.c,.int .i64 c.d,.int .i64 c.p,.int .i64 c.q,.int .i64 c.r,.int .i64 c.s] 40 (w.heap.size+1) (by simp));clear hn hp;have HZ0:Ho w ((w.alloc (.cells (List.toArray [.slice na L.length nc,.slice da M.length dc,.int .i64 i0,.int .i64 i1]) 36)).alloc (.cells (List.toArray [.int .i64 c.f,.int .i64 c.a,.int .i64 c.b,.int .i64 c.c,.int .i64 c.d,.int .i64 c.p,.int .i64 c.q,.int .i64 c.r,.int .i64 c.s]) 40)) (w.heap.size+1+1) [(w.heap.size+1,[.int .i64 c.f,.int .i64 c.a,.int .i64 c.b,.int .i64 c.c,.int .i64 c.d,.int .i64 c.p,.int .i64 c.q,.int .i64 c.r,.int .i64 c.s]),(w.heap.size,[.slice na L.length nc,.slice da M.length dc,.int .i64 i0,.int .i64 i1])]:=hoA;go_enter Try.func13,Try.ntmps13
  go_wp2_with fail
  refine (rvbody_any _ (HN.out.kept HZ0.below) (HP.out.kept HZ0.below)).mono ?_;rintro r w1 ⟨rfl,hb⟩;rw [EB.out];have H1:Ho w w1 (w.heap.size+1+1) [(w.heap.size+1,[.int .i64 c.f,.int .i64 c.a,.int .i64 c.b,.int .i64 c.c,.int .i64 c.d,.int .i64 c.p,.int .i64 c.q,.int .i64 c.r,.int .i64 c.s]),(w.heap.size,[.slice na L.length nc,.slice da M.length dc,.int .i64 i0,.int .i64 i1])]:=Ho.call hoA hb;have hs1:=H1.size;have hz1:=hb.size
  (try simp at hz1)
  clear hb;have h0_1:=(H1.at 1 rfl).c;have h1_1:=(H1.at 0 rfl).c;have zx1:=ai (zq (w.heap.size) (w1.heap.size))<|zq (w.heap.size+1) (w1.heap.size)
  go_wp2_with fail
  go_ret
  exact ⟨rfl,H1.below⟩
 ·have EB:=Lib.hid hB
  by_cases hf0:c.f<0
  ·rw [show vCell L M i0 i1 c=false from by rw [vCell,hB,decide_eq_false (p:=0≤c.f∧c.f<(L.length:Int)) (by omega)];rfl];clear hB;have H0:=(((Ho.nil w).bx [.slice na L.length nc,.slice da M.length dc,.int .i64 i0,.int .i64 i1] 36 (w.heap.size) (by simp)).bx [.int .i64 c.f,.int .i64 c.a,.int .i64 c.b,.int .i64 c.c,.int .i64 c.d,.int .i64 c.p,.int .i64 c.q,.int .i64 c.r,.int .i64 c.s] 40 (w.heap.size+1) (by simp));clear hn hp;have HZ0:Ho w ((w.alloc (.cells (List.toArray [.slice na L.length nc,.slice da M.length dc,.int .i64 i0,.int .i64 i1]) 36)).alloc (.cells (List.toArray [.int .i64 c.f,.int .i64 c.a,.int .i64 c.b,.int .i64 c.c,.int .i64 c.d,.int .i64 c.p,.int .i64 c.q,.int .i64 c.r,.int .i64 c.s]) 40)) (w.heap.size+1+1) [(w.heap.size+1,[.int .i64 c.f,.int .i64 c.a,.int .i64 c.b,.int .i64 c.c,.int .i64 c.d,.int .i64 c.p,.int .i64 c.q,.int .i64 c.r,.int .i64 c.s]),(w.heap.size,[.slice na L.length nc,.slice da M.length dc,.int .i64 i0,.int .i64 i1])]:=hoA;go_enter Try.func13,Try.ntmps13
   go_wp2_with fail
   refine (rvbody_any _ (HN.out.kept HZ0.below) (HP.out.kept HZ0.below)).mono ?_;rintro r w1 ⟨rfl,hb⟩;rw [EB.out];have H1:Ho w w1 (w.heap.size+1+1) [(w.heap.size+1,[.int .i64 c.f,.int .i64 c.a,.int .i64 c.b,.int .i64 c.c,.int .i64 c.d,.int .i64 c.p,.int .i64 c.q,.int .i64 c.r,.int .i64 c.s]),(w.heap.size,[.slice na L.length nc,.slice da M.length dc,.int .i64 i0,.int .i64 i1])]:=Ho.call hoA hb;have hs1:=H1.size;have hz1:=hb.size
   (try simp at hz1)
   clear hb;have h0_1:=(H1.at 1 rfl).c;have h1_1:=(H1.at 0 rfl).c;have zx1:=ai (zq (w.heap.size) (w1.heap.size))<|zq (w.heap.size+1) (w1.heap.size)
   go_wp2_with fail
   go_ret
   exact ⟨rfl,H1.below⟩
  ·by_cases hf1:(L.length:Int)≤c.f
   ·rw [show vCell L M i0 i1 c=false from by rw [vCell,hB,decide_eq_false (p:=0≤c.f∧c.f<(L.length:Int)) (by omega)];rfl];clear hB;have H0:=(((Ho.nil w).bx [.slice na L.length nc,.slice da M.length dc,.int .i64 i0,.int .i64 i1] 36 (w.heap.size) (by simp)).bx [.int .i64 c.f,.int .i64 c.a,.int .i64 c.b,.int .i64 c.c,.int .i64 c.d,.int .i64 c.p,.int .i64 c.q,.int .i64 c.r,.int .i64 c.s] 40 (w.heap.size+1) (by simp));clear hn hp;have HZ0:Ho w ((w.alloc (.cells (List.toArray [.slice na L.length nc,.slice da M.length dc,.int .i64 i0,.int .i64 i1]) 36)).alloc (.cells (List.toArray [.int .i64 c.f,.int .i64 c.a,.int .i64 c.b,.int .i64 c.c,.int .i64 c.d,.int .i64 c.p,.int .i64 c.q,.int .i64 c.r,.int .i64 c.s]) 40)) (w.heap.size+1+1) [(w.heap.size+1,[.int .i64 c.f,.int .i64 c.a,.int .i64 c.b,.int .i64 c.c,.int .i64 c.d,.int .i64 c.p,.int .i64 c.q,.int .i64 c.r,.int .i64 c.s]),(w.heap.size,[.slice na L.length nc,.slice da M.length dc,.int .i64 i0,.int .i64 i1])]:=hoA;go_enter Try.func13,Try.ntmps13
    go_wp2_with fail
    refine (rvbody_any _ (HN.out.kept HZ0.below) (HP.out.kept HZ0.below)).mono ?_;rintro r w1 ⟨rfl,hb⟩;rw [EB.out];have H1:Ho w w1 (w.heap.size+1+1) [(w.heap.size+1,[.int .i64 c.f,.int .i64 c.a,.int .i64 c.b,.int .i64 c.c,.int .i64 c.d,.int .i64 c.p,.int .i64 c.q,.int .i64 c.r,.int .i64 c.s]),(w.heap.size,[.slice na L.length nc,.slice da M.length dc,.int .i64 i0,.int .i64 i1])]:=Ho.call hoA hb;have hs1:=H1.size;have hz1:=hb.size
    (try simp at hz1)
    clear hb;have h0_1:=(H1.at 1 rfl).c;have h1_1:=(H1.at 0 rfl).c;have zx1:=ai (zq (w.heap.size) (w1.heap.size))<|zq (w.heap.size+1) (w1.heap.size)
    go_wp2_with fail
    go_ret
    exact ⟨rfl,H1.below⟩
   ·obtain ⟨cf,ca,cb,cc,cd,cp,cq,cr,cs⟩:=c;dsimp only at hf0 hf1 ⊢;obtain ⟨k,rfl⟩:∃k:Nat,cf=(k:Int):=⟨cf.toNat,by omega⟩
    have hk:k<L.length:=by omega
    obtain ⟨n,hx⟩:∃n,L[k]? = some n:=⟨L[k],List.getElem?_eq_getElem hk⟩
    have hnn:nthD L (k:Int)=n:=by rw [nthD,Int.toNat_natCast,hx];rfl
    have hv:vCell L M i0 i1 ⟨k,ca,cb,cc,cd,cp,cq,cr,cs⟩=(decide (0<n.e) && (vB ca cb && (vB cc cd && (hfB cp cq && hfB cr cs)))):=by
     rw [vCell];dsimp only;rw [hB,decide_eq_true (p:=0≤(k:Int)∧(k:Int)<(L.length:Int)) ⟨by omega,by omega⟩,hnn];unfold vC hfB;dsimp only;cases vB ca cb<;>cases vB cc cd<;>cases vB cp cq<;>cases vB cr cs<;>cases cone cp cq<;>cases cone cr cs<;>rfl
    rw [hv];obtain ⟨nb,no,rfl,hnb,hN⟩:=hn (by omega);have RN0:=(Rs.mk hnb (hN k n hx):Rs w nb (no+k*6) [.int .i64 n.a,.int .i64 n.b,.int .i64 n.c,.int .i64 n.d,.int .i64 n.e,.int .i64 n.f])
    have hlt':(k:Int)<(L.length:Int):=by omega
    have hge':(0:Int)≤(k:Int):=by omega
    clear hB hv hnn hN hn hp hx hf0 hf1
    by_cases hz:n.e≤0
    ·rw [decide_eq_false (p:=0<n.e) (by omega),Bool.false_and];have H0:=(((Ho.nil w).bx [.slice (some ⟨nb,no,none⟩) L.length nc,.slice da M.length dc,.int .i64 i0,.int .i64 i1] 36 (w.heap.size) (by simp)).bx [.int .i64 k,.int .i64 ca,.int .i64 cb,.int .i64 cc,.int .i64 cd,.int .i64 cp,.int .i64 cq,.int .i64 cr,.int .i64 cs] 40 (w.heap.size+1) (by simp));have HZ0:Ho w ((w.alloc (.cells (List.toArray [.slice (some ⟨nb,no,none⟩) L.length nc,.slice da M.length dc,.int .i64 i0,.int .i64 i1]) 36)).alloc (.cells (List.toArray [.int .i64 k,.int .i64 ca,.int .i64 cb,.int .i64 cc,.int .i64 cd,.int .i64 cp,.int .i64 cq,.int .i64 cr,.int .i64 cs]) 40)) (w.heap.size+1+1) [(w.heap.size+1,[.int .i64 k,.int .i64 ca,.int .i64 cb,.int .i64 cc,.int .i64 cd,.int .i64 cp,.int .i64 cq,.int .i64 cr,.int .i64 cs]),(w.heap.size,[.slice (some ⟨nb,no,none⟩) L.length nc,.slice da M.length dc,.int .i64 i0,.int .i64 i1])]:=hoA;go_enter Try.func13,Try.ntmps13
     go_wp2_with fail
     refine (rvbody_any _ (HN.out.kept HZ0.below) (HP.out.kept HZ0.below)).mono ?_;rintro r w1 ⟨rfl,hb⟩;rw [EB.out];have H1:Ho w w1 (w.heap.size+1+1) [(w.heap.size+1,[.int .i64 k,.int .i64 ca,.int .i64 cb,.int .i64 cc,.int .i64 cd,.int .i64 cp,.int .i64 cq,.int .i64 cr,.int .i64 cs]),(w.heap.size,[.slice (some ⟨nb,no,none⟩) L.length nc,.slice da M.length dc,.int .i64 i0,.int .i64 i1])]:=Ho.call hoA hb;have hs1:=H1.size;have hz1:=hb.size
     (try simp at hz1)
     clear hb;have h0_1:=(H1.at 1 rfl).c;have h1_1:=(H1.at 0 rfl).c;have zx1:=ai (zq (w.heap.size) (w1.heap.size))<|zq (w.heap.size+1) (w1.heap.size);have RN1:=RN0.kept H1.below;have n1_4:w1.cell? ⟨nb,no+k*6+4,none⟩=some (.int .i64 n.e):=RN1.c 4 (by simp)
     go_wp2_with fail
     go_ret
     exact ⟨rfl,H1.below⟩
    ·rw [decide_eq_true (p:=0<n.e) (by omega),Bool.true_and];cases h1:vB ca cb
     ·have E1:=Lib.hid h1;clear h1;rw [Bool.false_and];have H0:=(((Ho.nil w).bx [.slice (some ⟨nb,no,none⟩) L.length nc,.slice da M.length dc,.int .i64 i0,.int .i64 i1] 36 (w.heap.size) (by simp)).bx [.int .i64 k,.int .i64 ca,.int .i64 cb,.int .i64 cc,.int .i64 cd,.int .i64 cp,.int .i64 cq,.int .i64 cr,.int .i64 cs] 40 (w.heap.size+1) (by simp));have HZ0:Ho w ((w.alloc (.cells (List.toArray [.slice (some ⟨nb,no,none⟩) L.length nc,.slice da M.length dc,.int .i64 i0,.int .i64 i1]) 36)).alloc (.cells (List.toArray [.int .i64 k,.int .i64 ca,.int .i64 cb,.int .i64 cc,.int .i64 cd,.int .i64 cp,.int .i64 cq,.int .i64 cr,.int .i64 cs]) 40)) (w.heap.size+1+1) [(w.heap.size+1,[.int .i64 k,.int .i64 ca,.int .i64 cb,.int .i64 cc,.int .i64 cd,.int .i64 cp,.int .i64 cq,.int .i64 cr,.int .i64 cs]),(w.heap.size,[.slice (some ⟨nb,no,none⟩) L.length nc,.slice da M.length dc,.int .i64 i0,.int .i64 i1])]:=hoA;go_enter Try.func13,Try.ntmps13
      go_wp2_with fail
      refine (rvbody_any _ (HN.out.kept HZ0.below) (HP.out.kept HZ0.below)).mono ?_;rintro r w1 ⟨rfl,hb⟩;rw [EB.out];have H1:Ho w w1 (w.heap.size+1+1) [(w.heap.size+1,[.int .i64 k,.int .i64 ca,.int .i64 cb,.int .i64 cc,.int .i64 cd,.int .i64 cp,.int .i64 cq,.int .i64 cr,.int .i64 cs]),(w.heap.size,[.slice (some ⟨nb,no,none⟩) L.length nc,.slice da M.length dc,.int .i64 i0,.int .i64 i1])]:=Ho.call hoA hb;have hs1:=H1.size;have hz1:=hb.size
      (try simp at hz1)
      clear hb;have h0_1:=(H1.at 1 rfl).c;have h1_1:=(H1.at 0 rfl).c;have zx1:=ai (zq (w.heap.size) (w1.heap.size))<|zq (w.heap.size+1) (w1.heap.size);have RN1:=RN0.kept H1.below;have n1_4:w1.cell? ⟨nb,no+k*6+4,none⟩=some (.int .i64 n.e):=RN1.c 4 (by simp)
      go_wp2_with fail
      refine (rvalid_below ca cb _).mono ?_;rintro r w2 ⟨rfl,hb⟩;rw [E1.out];have H2:Ho w w2 (w.heap.size+1+1) [(w.heap.size+1,[.int .i64 k,.int .i64 ca,.int .i64 cb,.int .i64 cc,.int .i64 cd,.int .i64 cp,.int .i64 cq,.int .i64 cr,.int .i64 cs]),(w.heap.size,[.slice (some ⟨nb,no,none⟩) L.length nc,.slice da M.length dc,.int .i64 i0,.int .i64 i1])]:=Ho.call hoA hb;clear h0_1 h1_1 zx1;have hs2:=H2.size;have hz2:=hb.size
      (try simp at hz2)
      clear hb;have h0_2:=(H2.at 1 rfl).c;have h1_2:=(H2.at 0 rfl).c;have zx2:=ai (zq (w.heap.size) (w2.heap.size))<|zq (w.heap.size+1) (w2.heap.size)
      go_wp2_with fail
      go_ret
      exact ⟨rfl,H2.below⟩
     ·have E1:=Lib.hid h1;clear h1;rw [Bool.true_and];cases h2:vB cc cd
      ·have E2:=Lib.hid h2;clear h2;rw [Bool.false_and];have H0:=(((Ho.nil w).bx [.slice (some ⟨nb,no,none⟩) L.length nc,.slice da M.length dc,.int .i64 i0,.int .i64 i1] 36 (w.heap.size) (by simp)).bx [.int .i64 k,.int .i64 ca,.int .i64 cb,.int .i64 cc,.int .i64 cd,.int .i64 cp,.int .i64 cq,.int .i64 cr,.int .i64 cs] 40 (w.heap.size+1) (by simp));have HZ0:Ho w ((w.alloc (.cells (List.toArray [.slice (some ⟨nb,no,none⟩) L.length nc,.slice da M.length dc,.int .i64 i0,.int .i64 i1]) 36)).alloc (.cells (List.toArray [.int .i64 k,.int .i64 ca,.int .i64 cb,.int .i64 cc,.int .i64 cd,.int .i64 cp,.int .i64 cq,.int .i64 cr,.int .i64 cs]) 40)) (w.heap.size+1+1) [(w.heap.size+1,[.int .i64 k,.int .i64 ca,.int .i64 cb,.int .i64 cc,.int .i64 cd,.int .i64 cp,.int .i64 cq,.int .i64 cr,.int .i64 cs]),(w.heap.size,[.slice (some ⟨nb,no,none⟩) L.length nc,.slice da M.length dc,.int .i64 i0,.int .i64 i1])]:=hoA;go_enter Try.func13,Try.ntmps13
       go_wp2_with fail
       refine (rvbody_any _ (HN.out.kept HZ0.below) (HP.out.kept HZ0.below)).mono ?_;rintro r w1 ⟨rfl,hb⟩;rw [EB.out];have H1:Ho w w1 (w.heap.size+1+1) [(w.heap.size+1,[.int .i64 k,.int .i64 ca,.int .i64 cb,.int .i64 cc,.int .i64 cd,.int .i64 cp,.int .i64 cq,.int .i64 cr,.int .i64 cs]),(w.heap.size,[.slice (some ⟨nb,no,none⟩) L.length nc,.slice da M.length dc,.int .i64 i0,.int .i64 i1])]:=Ho.call hoA hb;have hs1:=H1.size;have hz1:=hb.size
       (try simp at hz1)
       clear hb;have h0_1:=(H1.at 1 rfl).c;have h1_1:=(H1.at 0 rfl).c;have zx1:=ai (zq (w.heap.size) (w1.heap.size))<|zq (w.heap.size+1) (w1.heap.size);have RN1:=RN0.kept H1.below;have n1_4:w1.cell? ⟨nb,no+k*6+4,none⟩=some (.int .i64 n.e):=RN1.c 4 (by simp)
       go_wp2_with fail
       refine (rvalid_below ca cb _).mono ?_;rintro r w2 ⟨rfl,hb⟩;rw [E1.out];have H2:Ho w w2 (w.heap.size+1+1) [(w.heap.size+1,[.int .i64 k,.int .i64 ca,.int .i64 cb,.int .i64 cc,.int .i64 cd,.int .i64 cp,.int .i64 cq,.int .i64 cr,.int .i64 cs]),(w.heap.size,[.slice (some ⟨nb,no,none⟩) L.length nc,.slice da M.length dc,.int .i64 i0,.int .i64 i1])]:=Ho.call hoA hb;clear h0_1 h1_1 zx1;have hs2:=H2.size;have hz2:=hb.size
       (try simp at hz2)
       clear hb;have h0_2:=(H2.at 1 rfl).c;have h1_2:=(H2.at 0 rfl).c;have zx2:=ai (zq (w.heap.size) (w2.heap.size))<|zq (w.heap.size+1) (w2.heap.size)
       go_wp2_with fail
       refine (rvalid_below cc cd _).mono ?_;rintro r w3 ⟨rfl,hb⟩;rw [E2.out];have H3:Ho w w3 (w.heap.size+1+1) [(w.heap.size+1,[.int .i64 k,.int .i64 ca,.int .i64 cb,.int .i64 cc,.int .i64 cd,.int .i64 cp,.int .i64 cq,.int .i64 cr,.int .i64 cs]),(w.heap.size,[.slice (some ⟨nb,no,none⟩) L.length nc,.slice da M.length dc,.int .i64 i0,.int .i64 i1])]:=Ho.call hoA hb;clear h0_2 h1_2 zx2;have hs3:=H3.size;have hz3:=hb.size
       (try simp at hz3)
       clear hb;have h0_3:=(H3.at 1 rfl).c;have h1_3:=(H3.at 0 rfl).c;have zx3:=ai (zq (w.heap.size) (w3.heap.size))<|zq (w.heap.size+1) (w3.heap.size)
       go_wp2_with fail
       go_ret
       exact ⟨rfl,H3.below⟩
      ·have E2:=Lib.hid h2;clear h2;rw [Bool.true_and];cases h3:hfB cp cq
       ·have E3:=Lib.hid h3;clear h3;rw [Bool.false_and];have H0:=(((Ho.nil w).bx [.slice (some ⟨nb,no,none⟩) L.length nc,.slice da M.length dc,.int .i64 i0,.int .i64 i1] 36 (w.heap.size) (by simp)).bx [.int .i64 k,.int .i64 ca,.int .i64 cb,.int .i64 cc,.int .i64 cd,.int .i64 cp,.int .i64 cq,.int .i64 cr,.int .i64 cs] 40 (w.heap.size+1) (by simp));have HZ0:Ho w ((w.alloc (.cells (List.toArray [.slice (some ⟨nb,no,none⟩) L.length nc,.slice da M.length dc,.int .i64 i0,.int .i64 i1]) 36)).alloc (.cells (List.toArray [.int .i64 k,.int .i64 ca,.int .i64 cb,.int .i64 cc,.int .i64 cd,.int .i64 cp,.int .i64 cq,.int .i64 cr,.int .i64 cs]) 40)) (w.heap.size+1+1) [(w.heap.size+1,[.int .i64 k,.int .i64 ca,.int .i64 cb,.int .i64 cc,.int .i64 cd,.int .i64 cp,.int .i64 cq,.int .i64 cr,.int .i64 cs]),(w.heap.size,[.slice (some ⟨nb,no,none⟩) L.length nc,.slice da M.length dc,.int .i64 i0,.int .i64 i1])]:=hoA;go_enter Try.func13,Try.ntmps13
        go_wp2_with fail
        refine (rvbody_any _ (HN.out.kept HZ0.below) (HP.out.kept HZ0.below)).mono ?_;rintro r w1 ⟨rfl,hb⟩;rw [EB.out];have H1:Ho w w1 (w.heap.size+1+1) [(w.heap.size+1,[.int .i64 k,.int .i64 ca,.int .i64 cb,.int .i64 cc,.int .i64 cd,.int .i64 cp,.int .i64 cq,.int .i64 cr,.int .i64 cs]),(w.heap.size,[.slice (some ⟨nb,no,none⟩) L.length nc,.slice da M.length dc,.int .i64 i0,.int .i64 i1])]:=Ho.call hoA hb;have hs1:=H1.size;have hz1:=hb.size
        (try simp at hz1)
        clear hb;have h0_1:=(H1.at 1 rfl).c;have h1_1:=(H1.at 0 rfl).c;have zx1:=ai (zq (w.heap.size) (w1.heap.size))<|zq (w.heap.size+1) (w1.heap.size);have RN1:=RN0.kept H1.below;have n1_4:w1.cell? ⟨nb,no+k*6+4,none⟩=some (.int .i64 n.e):=RN1.c 4 (by simp)
        go_wp2_with fail
        refine (rvalid_below ca cb _).mono ?_;rintro r w2 ⟨rfl,hb⟩;rw [E1.out];have H2:Ho w w2 (w.heap.size+1+1) [(w.heap.size+1,[.int .i64 k,.int .i64 ca,.int .i64 cb,.int .i64 cc,.int .i64 cd,.int .i64 cp,.int .i64 cq,.int .i64 cr,.int .i64 cs]),(w.heap.size,[.slice (some ⟨nb,no,none⟩) L.length nc,.slice da M.length dc,.int .i64 i0,.int .i64 i1])]:=Ho.call hoA hb;clear h0_1 h1_1 zx1;have hs2:=H2.size;have hz2:=hb.size
        (try simp at hz2)
        clear hb;have h0_2:=(H2.at 1 rfl).c;have h1_2:=(H2.at 0 rfl).c;have zx2:=ai (zq (w.heap.size) (w2.heap.size))<|zq (w.heap.size+1) (w2.heap.size)
        go_wp2_with fail
        refine (rvalid_below cc cd _).mono ?_;rintro r w3 ⟨rfl,hb⟩;rw [E2.out];have H3:Ho w w3 (w.heap.size+1+1) [(w.heap.size+1,[.int .i64 k,.int .i64 ca,.int .i64 cb,.int .i64 cc,.int .i64 cd,.int .i64 cp,.int .i64 cq,.int .i64 cr,.int .i64 cs]),(w.heap.size,[.slice (some ⟨nb,no,none⟩) L.length nc,.slice da M.length dc,.int .i64 i0,.int .i64 i1])]:=Ho.call hoA hb;clear h0_2 h1_2 zx2;have hs3:=H3.size;have hz3:=hb.size
        (try simp at hz3)
        clear hb;have h0_3:=(H3.at 1 rfl).c;have h1_3:=(H3.at 0 rfl).c;have zx3:=ai (zq (w.heap.size) (w3.heap.size))<|zq (w.heap.size+1) (w3.heap.size)
        go_wp2_with fail
        refine (half_any cp cq _).mono ?_;rintro r w4 ⟨rfl,hb⟩;rw [E3.out];have H4:Ho w w4 (w.heap.size+1+1) [(w.heap.size+1,[.int .i64 k,.int .i64 ca,.int .i64 cb,.int .i64 cc,.int .i64 cd,.int .i64 cp,.int .i64 cq,.int .i64 cr,.int .i64 cs]),(w.heap.size,[.slice (some ⟨nb,no,none⟩) L.length nc,.slice da M.length dc,.int .i64 i0,.int .i64 i1])]:=Ho.call hoA hb;clear h0_3 h1_3 zx3;have hs4:=H4.size;have hz4:=hb.size
        (try simp at hz4)
        clear hb;have h0_4:=(H4.at 1 rfl).c;have h1_4:=(H4.at 0 rfl).c;have zx4:=ai (zq (w.heap.size) (w4.heap.size))<|zq (w.heap.size+1) (w4.heap.size)
        go_wp2_with fail
        go_ret
        exact ⟨rfl,H4.below⟩
       ·have E3:=Lib.hid h3;clear h3;rw [Bool.true_and];have H0:=(((Ho.nil w).bx [.slice (some ⟨nb,no,none⟩) L.length nc,.slice da M.length dc,.int .i64 i0,.int .i64 i1] 36 (w.heap.size) (by simp)).bx [.int .i64 k,.int .i64 ca,.int .i64 cb,.int .i64 cc,.int .i64 cd,.int .i64 cp,.int .i64 cq,.int .i64 cr,.int .i64 cs] 40 (w.heap.size+1) (by simp));have HZ0:Ho w ((w.alloc (.cells (List.toArray [.slice (some ⟨nb,no,none⟩) L.length nc,.slice da M.length dc,.int .i64 i0,.int .i64 i1]) 36)).alloc (.cells (List.toArray [.int .i64 k,.int .i64 ca,.int .i64 cb,.int .i64 cc,.int .i64 cd,.int .i64 cp,.int .i64 cq,.int .i64 cr,.int .i64 cs]) 40)) (w.heap.size+1+1) [(w.heap.size+1,[.int .i64 k,.int .i64 ca,.int .i64 cb,.int .i64 cc,.int .i64 cd,.int .i64 cp,.int .i64 cq,.int .i64 cr,.int .i64 cs]),(w.heap.size,[.slice (some ⟨nb,no,none⟩) L.length nc,.slice da M.length dc,.int .i64 i0,.int .i64 i1])]:=hoA;go_enter Try.func13,Try.ntmps13
        go_wp2_with fail
        refine (rvbody_any _ (HN.out.kept HZ0.below) (HP.out.kept HZ0.below)).mono ?_;rintro r w1 ⟨rfl,hb⟩;rw [EB.out];have H1:Ho w w1 (w.heap.size+1+1) [(w.heap.size+1,[.int .i64 k,.int .i64 ca,.int .i64 cb,.int .i64 cc,.int .i64 cd,.int .i64 cp,.int .i64 cq,.int .i64 cr,.int .i64 cs]),(w.heap.size,[.slice (some ⟨nb,no,none⟩) L.length nc,.slice da M.length dc,.int .i64 i0,.int .i64 i1])]:=Ho.call hoA hb;have hs1:=H1.size;have hz1:=hb.size
        (try simp at hz1)
        clear hb;have h0_1:=(H1.at 1 rfl).c;have h1_1:=(H1.at 0 rfl).c;have zx1:=ai (zq (w.heap.size) (w1.heap.size))<|zq (w.heap.size+1) (w1.heap.size);have RN1:=RN0.kept H1.below;have n1_4:w1.cell? ⟨nb,no+k*6+4,none⟩=some (.int .i64 n.e):=RN1.c 4 (by simp)
        go_wp2_with fail
        refine (rvalid_below ca cb _).mono ?_;rintro r w2 ⟨rfl,hb⟩;rw [E1.out];have H2:Ho w w2 (w.heap.size+1+1) [(w.heap.size+1,[.int .i64 k,.int .i64 ca,.int .i64 cb,.int .i64 cc,.int .i64 cd,.int .i64 cp,.int .i64 cq,.int .i64 cr,.int .i64 cs]),(w.heap.size,[.slice (some ⟨nb,no,none⟩) L.length nc,.slice da M.length dc,.int .i64 i0,.int .i64 i1])]:=Ho.call hoA hb;clear h0_1 h1_1 zx1;have hs2:=H2.size;have hz2:=hb.size
        (try simp at hz2)
        clear hb;have h0_2:=(H2.at 1 rfl).c;have h1_2:=(H2.at 0 rfl).c;have zx2:=ai (zq (w.heap.size) (w2.heap.size))<|zq (w.heap.size+1) (w2.heap.size)
        go_wp2_with fail
        refine (rvalid_below cc cd _).mono ?_;rintro r w3 ⟨rfl,hb⟩;rw [E2.out];have H3:Ho w w3 (w.heap.size+1+1) [(w.heap.size+1,[.int .i64 k,.int .i64 ca,.int .i64 cb,.int .i64 cc,.int .i64 cd,.int .i64 cp,.int .i64 cq,.int .i64 cr,.int .i64 cs]),(w.heap.size,[.slice (some ⟨nb,no,none⟩) L.length nc,.slice da M.length dc,.int .i64 i0,.int .i64 i1])]:=Ho.call hoA hb;clear h0_2 h1_2 zx2;have hs3:=H3.size;have hz3:=hb.size
        (try simp at hz3)
        clear hb;have h0_3:=(H3.at 1 rfl).c;have h1_3:=(H3.at 0 rfl).c;have zx3:=ai (zq (w.heap.size) (w3.heap.size))<|zq (w.heap.size+1) (w3.heap.size)
        go_wp2_with fail
        refine (half_any cp cq _).mono ?_;rintro r w4 ⟨rfl,hb⟩;rw [E3.out];have H4:Ho w w4 (w.heap.size+1+1) [(w.heap.size+1,[.int .i64 k,.int .i64 ca,.int .i64 cb,.int .i64 cc,.int .i64 cd,.int .i64 cp,.int .i64 cq,.int .i64 cr,.int .i64 cs]),(w.heap.size,[.slice (some ⟨nb,no,none⟩) L.length nc,.slice da M.length dc,.int .i64 i0,.int .i64 i1])]:=Ho.call hoA hb;clear h0_3 h1_3 zx3;have hs4:=H4.size;have hz4:=hb.size
        (try simp at hz4)
        clear hb;have h0_4:=(H4.at 1 rfl).c;have h1_4:=(H4.at 0 rfl).c;have zx4:=ai (zq (w.heap.size) (w4.heap.size))<|zq (w.heap.size+1) (w4.heap.size)
        go_wp2_with fail
        refine (half_any cr cs _).mono ?_;rintro r w5 ⟨rfl,hb⟩;have H5:Ho w w5 (w.heap.size+1+1) [(w.heap.size+1,[.int .i64 k,.int .i64 ca,.int .i64 cb,.int .i64 cc,.int .i64 cd,.int .i64 cp,.int .i64 cq,.int .i64 cr,.int .i64 cs]),(w.heap.size,[.slice (some ⟨nb,no,none⟩) L.length nc,.slice da M.length dc,.int .i64 i0,.int .i64 i1])]:=Ho.call hoA hb;clear h0_4 h1_4 zx4;have hs5:=H5.size;have hz5:=hb.size
        (try simp at hz5)
        clear hb;have h0_5:=(H5.at 1 rfl).c;have h1_5:=(H5.at 0 rfl).c;have zx5:=ai (zq (w.heap.size) (w5.heap.size))<|zq (w.heap.size+1) (w5.heap.size)
        go_wp2_with fail
        go_ret
        exact ⟨rfl,H5.below⟩
end Go.Proofs.Ytiecdgcdcpmgaaa.Iv
