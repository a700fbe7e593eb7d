/- The example of layer 32 holds: all rays of the cell leak through the lower face. -/
import Derived.Test.YtiecdgcdcpmgaaaSeExb
import Derived.Test.YtiecdgcdcpmgaaaSeCr2
import Derived.Test.YtiecdgcdcpmgaaaSeDj
import Derived.Test.YtiecdgcdcpmgaaaSeDkM
import Derived.Test.YtiecdgcdcpmgaaaSeDrb
import Derived.Test.YtiecdgcdcpmgaaaSeDsM
import Derived.Test.YtiecdgcdcpmgaaaSeEx
import Derived.Test.YtiecdgcdcpmgaaaSeIeM
import Derived.Test.YtiecdgcdcpmgaaaSeInM
import Derived.Test.YtiecdgcdcpmgaaaSeRf1
import Derived.Test.YtiecdgcdcpmgaaaSeRf2
import Derived.Test.YtiecdgcdcpmgaaaSeVs1
import Derived.Test.YtiecdgcdcpmgaaaM06
namespace Go.Proofs.Ytiecdgcdcpmgaaa.Iv
open Go.RowKit
attribute [local go_sem] Oper.semAt_some
set_option maxRecDepth 1000000 in
theorem ex_cv:(coverR cubeL cubeM 33554432 33554432 exC).1=1∧(coverR cubeL cubeM 33554432 33554432 exC).2=0:=by decide +kernel
set_option maxRecDepth 1000000 in
theorem ex_tr:(traceR cubeL cubeM 33554432 33554432 exC 3).lv.k=2∧(traceR cubeL cubeM 33554432 33554432 exC 3).fs = [5]∧(traceR cubeL cubeM 33554432 33554432 exC 3).e=0:=by decide +kernel
theorem ex_vc:vCell cubeL cubeM 33554432 33554432 exC=true:=by decide +kernel
set_option maxRecDepth 100000 in
set_option maxHeartbeats 8000000 in
theorem awake32_any (w:World):Calls Try.prog 9 #[] w fun e w'=>e = .returned (.bool true)∧Below w.heap.size w w':=by
 obtain ⟨⟨ck,ce⟩,hs⟩:∃r:Int × Int,coverR cubeL cubeM 33554432 33554432 exC=r:=⟨_,rfl⟩;have h1:=ex_cv;rw [hs] at h1;dsimp only at h1;obtain ⟨rfl,rfl⟩:=h1;obtain ⟨⟨⟨tk,o,lo,hi⟩,fs,te⟩,hh⟩:∃r:FO,traceR cubeL cubeM 33554432 33554432 exC 3=r:=⟨_,rfl⟩;have h2:=ex_tr;rw [hh] at h2;dsimp only at h2;obtain ⟨rfl,rfl,rfl⟩:=h2;have XC:=Lib.hid hs;have XT:=Lib.hid hh;clear hs hh;go_enter Try.func9,Try.ntmps9
 go_wp2_with fail
 refine (ex32_any _).mono ?_;rintro e w1 ⟨⟨nb,cap,db,rfl,hn,hp⟩,b1'⟩;unfold cellv exC;dsimp only;have H1:=Lib.hid (Bx.rd (cs:=[.slice (some ⟨nb,0,none⟩) 6 cap,.slice (some ⟨db,0,none⟩) 6 6,.int .i64 33554432,.int .i64 33554432]) (W:=(w1.alloc (.cells (List.toArray [.slice (some ⟨nb,0,none⟩) 6 cap,.slice (some ⟨db,0,none⟩) 6 6,.int .i64 33554432,.int .i64 33554432]) 27)).alloc (.cells (List.toArray [.int .i64 2,.int .i64 (-8388608),.int .i64 8388608,.int .i64 (-8388608),.int .i64 8388608,.int .i64 0,.int .i64 0,.int .i64 0,.int .i64 0]) 29)) (b:=w1.heap.size) bxA);have C1:Rd ((w1.alloc (.cells (List.toArray [.slice (some ⟨nb,0,none⟩) 6 cap,.slice (some ⟨db,0,none⟩) 6 6,.int .i64 33554432,.int .i64 33554432]) 27)).alloc (.cells (List.toArray [.int .i64 2,.int .i64 (-8388608),.int .i64 8388608,.int .i64 (-8388608),.int .i64 8388608,.int .i64 0,.int .i64 0,.int .i64 0,.int .i64 0]) 29)) (w1.heap.size+1) [.int .i64 2,.int .i64 (-8388608),.int .i64 8388608,.int .i64 (-8388608),.int .i64 8388608,.int .i64 0,.int .i64 0,.int .i64 0,.int .i64 0]:=Bx.rd bxA;have B1:=H1.out;have HN:=Lib.hid (((hn.kept ((Below.refl _ _).alloc (Nat.le_refl _) (.cells (List.toArray [.slice (some ⟨nb,0,none⟩) 6 cap,.slice (some ⟨db,0,none⟩) 6 6,.int .i64 33554432,.int .i64 33554432]) 27)))).kept ((Below.refl _ _).alloc (Nat.le_refl _) (.cells (List.toArray [.int .i64 2,.int .i64 (-8388608),.int .i64 8388608,.int .i64 (-8388608),.int .i64 8388608,.int .i64 0,.int .i64 0,.int .i64 0,.int .i64 0]) 29)));have HP:=Lib.hid (((hp.kept ((Below.refl _ _).alloc (Nat.le_refl _) (.cells (List.toArray [.slice (some ⟨nb,0,none⟩) 6 cap,.slice (some ⟨db,0,none⟩) 6 6,.int .i64 33554432,.int .i64 33554432]) 27)))).kept ((Below.refl _ _).alloc (Nat.le_refl _) (.cells (List.toArray [.int .i64 2,.int .i64 (-8388608),.int .i64 8388608,.int .i64 (-8388608),.int .i64 8388608,.int .i64 0,.int .i64 0,.int .i64 0,.int .i64 0]) 29)));have HB:=Lib.hid ((b1'.alloc b1'.size (.cells (List.toArray [.slice (some ⟨nb,0,none⟩) 6 cap,.slice (some ⟨db,0,none⟩) 6 6,.int .i64 33554432,.int .i64 33554432]) 27)).alloc (by have:=b1'.size;simp;omega) (.cells (List.toArray [.int .i64 2,.int .i64 (-8388608),.int .i64 8388608,.int .i64 (-8388608),.int .i64 8388608,.int .i64 0,.int .i64 0,.int .i64 0,.int .i64 0]) 29));clear hn hp b1' H1
 go_wp2_with fail
 refine (covers_any (L:=cubeL) (M:=cubeM) exC _ HN.out HP.out).mono ?_;rintro e w2 ⟨rfl,hb⟩;rw [XC.out];dsimp only;have C2:=C1.kept hb;have B2:=B1.kept hb;have N2:=Lib.hid (HN.out.kept hb);have P2:=Lib.hid (HP.out.kept hb);have HB2:=Lib.hid (HB.out.trans (hb.mono HB.out.size));clear hb B1 C1;have cc:=C2.c;have bc:=B2.c
 go_wp2_with fail
 refine (ctrace_any (L:=cubeL) (M:=cubeM) exC 3 _ N2.out P2.out).mono ?_;rintro e w3 ⟨⟨u,rfl,hrow⟩,hb⟩;rw [XT.out] at hrow ⊢;dsimp only [lcells] at hrow ⊢;obtain ⟨g,cp,rfl,h5,h6⟩:=hrow.form (by decide)
 have R3:Rs w3 g 0 [.int .i64 5]:=Rs.mk h6 (fun j hj=>by
  obtain rfl:j=0:=by simpa using hj
  have:=hrow.cells (g:=g) rfl 0 (.int .i64 5) rfl
  simpa [Addr.add] using this)
 have C3:=C2.kept hb;have B3:=B2.kept hb;have N3:=Lib.hid (N2.out.kept hb);have P3:=Lib.hid (P2.out.kept hb);have HB3:=Lib.hid (HB2.out.trans (hb.mono HB2.out.size));clear hb hrow B2 C2 cc bc;have cc:=C3.c;have cl:=C3.lt;have bc:=B3.c;have bl:=B3.lt;have r0:w3.cell? ⟨g,0,none⟩=some (.int .i64 5):=R3.c 0 (by simp);have rl:=R3.lt;have NA:=Lib.hid (N3.out.kept ((Below.refl _ _).alloc (Nat.le_refl _) (.cells (List.toArray [.int .i64 2,.slice (some ⟨g,0,none⟩) 1 cp,.int .i64 o.a,.int .i64 o.b,.int .i64 o.c,.int .i64 o.d,.int .i64 o.e,.int .i64 o.f,.int .i64 lo,.int .i64 hi]) 71)));have PA:=Lib.hid (P3.out.kept ((Below.refl _ _).alloc (Nat.le_refl _) (.cells (List.toArray [.int .i64 2,.slice (some ⟨g,0,none⟩) 1 cp,.int .i64 o.a,.int .i64 o.b,.int .i64 o.c,.int .i64 o.d,.int .i64 o.e,.int .i64 o.f,.int .i64 lo,.int .i64 hi]) 71)));have HB4:=Lib.hid (HB3.out.alloc HB3.out.size (.cells (List.toArray [.int .i64 2,.slice (some ⟨g,0,none⟩) 1 cp,.int .i64 o.a,.int .i64 o.b,.int .i64 o.c,.int .i64 o.d,.int .i64 o.e,.int .i64 o.f,.int .i64 lo,.int .i64 hi]) 71))
 go_wp2_with fail
 refine (vcell_any (L:=cubeL) (M:=cubeM) exC _ NA.out PA.out).mono ?_;rintro e w4 ⟨rfl,hb⟩;rw [ex_vc];have HB5:=Lib.hid (HB4.out.trans (hb.mono HB4.out.size));clear hb
 go_wp2_with fail
 go_ret
 exact ⟨rfl,HB5.out⟩
end Go.Proofs.Ytiecdgcdcpmgaaa.Iv
