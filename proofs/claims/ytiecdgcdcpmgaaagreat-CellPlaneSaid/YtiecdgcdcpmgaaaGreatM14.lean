/- Texts PDsM, PDi, PDra, PDrc, PDrd, PDs, PCr1. -/
import Derived.Test.YtiecdgcdcpmgaaaGreatM13
import Derived.Test.YtiecdgcdcpmgaaaGreatM07
import Derived.Test.YtiecdgcdcpmgaaaGreatM06
import Derived.Test.YtiecdgcdcpmgaaaGreatM12
import Derived.Test.YtiecdgcdcpmgaaaGreatM01
import Derived.Deep.QuietTactic
import Derived.BigQuiet
import Derived.LoopTactic

/- Plain facts: with the ratio 1, the box of the refracted ray contains that of the ray, and the cosines meet. -/
namespace Go.Proofs.YtiecdgcdcpmgaaaGreat.Iv
theorem goOn0 (r:R):goOn 0 r=r:=if_pos rfl
theorem goOn_e {e:Int} {r:R} (h:(goOn e r).e=0):e=0:=by
 by_cases c:e=0
 ·exact c
 ·rw [goOn,if_neg c] at h;exact absurd h c
theorem sub_v {a b c d:Int} (h:(subR a b c d).e=0):subR a b c d=⟨a - d,b - c,0⟩∧vB a b=true∧vB c d=true∧-1073741824≤a - d∧b - c≤1073741824:=by
 rw [subR] at h ⊢;split at h
 ·rename_i v;rw [if_pos v]
  by_cases c':a - d < -1073741824∨1073741824<b - c
  ·rw [within_no c'] at h;exact absurd h (by decide)
  ·exact ⟨within_yes (by omega) (by omega),v.1,v.2,by omega,by omega⟩
 ·exact absurd h (by decide)
theorem add_v {a b c d:Int} (h:(addR a b c d).e=0):addR a b c d=⟨a+c,b+d,0⟩∧vB a b=true∧vB c d=true∧-1073741824≤a+c∧b+d≤1073741824:=by
 rw [addR] at h ⊢;split at h
 ·rename_i v;rw [if_pos v]
  by_cases c':a+c < -1073741824∨1073741824<b+d
  ·rw [within_no c'] at h;exact absurd h (by decide)
  ·exact ⟨within_yes (by omega) (by omega),v.1,v.2,by omega,by omega⟩
 ·exact absurd h (by decide)
theorem comb_v {r s t:R} (h:(comb r s t).e=0):r.e=0∧s.e=0∧t.e=0∧comb r s t=⟨⟨r.lo,r.hi,s.lo,s.hi,t.lo,t.hi⟩,0⟩:=by
 unfold comb at h ⊢
 by_cases h1:r.e=0
 ·rw [if_pos h1] at h ⊢
  by_cases h2:s.e=0
  ·rw [if_pos h2] at h ⊢
   by_cases h3:t.e=0
   ·rw [if_pos h3];exact ⟨h1,h2,h3,rfl⟩
   ·rw [if_neg h3] at h;exact absurd h h3
  ·rw [if_neg h2] at h;exact absurd h h2
 ·rw [if_neg h1] at h;exact absurd h h1
end Go.Proofs.YtiecdgcdcpmgaaaGreat.Iv

/- Contracts of package refraction's dot and Reflect. -/
namespace Go.Proofs.YtiecdgcdcpmgaaaGreat.Iv
open Go.RowKit
set_option maxRecDepth 100000 in
set_option maxHeartbeats 4000000 in
theorem rdot_any (B c:Nat) (e:Int) (s t:D) (w:World) (hc:w.cell? ⟨c,0,none⟩=some (.int .i64 e)) (hf:w.frozen? ⟨c,0,none⟩=false) :
  Calls Tryz.prog 113 #[.pointer (some ⟨c,0,none⟩),dv s,dv t] w fun r w'=>r = .returned (iv (goOn e (dotR s t)).lo (goOn e (dotR s t)).hi)∧Step B w c (goOn e (dotR s t)).e w':=by
 by_cases he:e=0
 ·subst he;rw [show goOn 0 (dotR s t)=dotR s t from if_pos rfl];obtain ⟨⟨p,q,ee⟩,hd⟩:∃r:R,dotR s t=r:=⟨_,rfl⟩;have HD:=Lib.hid (show retR (dotR s t) = .returned (.tuple #[iv p q,.int .i64 ee]) from by rw [hd]);rw [hd];clear hd;have H0:=(((Ho.nil w).bx [.int .i64 s.a,.int .i64 s.b,.int .i64 s.c,.int .i64 s.d,.int .i64 s.e,.int .i64 s.f] 45 (w.heap.size) (by simp)).bx [.int .i64 t.a,.int .i64 t.b,.int .i64 t.c,.int .i64 t.d,.int .i64 t.e,.int .i64 t.f] 45 (w.heap.size+1) (by simp))
  have o_0:Bx (((w.alloc (.cells (List.toArray [.int .i64 s.a,.int .i64 s.b,.int .i64 s.c,.int .i64 s.d,.int .i64 s.e,.int .i64 s.f]) 45)).alloc (.cells (List.toArray [.int .i64 t.a,.int .i64 t.b,.int .i64 t.c,.int .i64 t.d,.int .i64 t.e,.int .i64 t.f]) 45)).alloc (.cells (List.toArray [.int .i64 0,.int .i64 0]) 25)) (w.heap.size+1+1) [.int .i64 0,.int .i64 0]:=by
   (repeat (first|with_reducible exact Bx.new (by simp)|with_reducible apply Bx.put6|with_reducible apply Bx.put2|with_reducible apply Bx.put1|with_reducible refine Bx.set ?_ (by omega)|with_reducible refine Bx.alc ?_ _|with_reducible refine Bx.drew ?_))
  have C_0:Ce (((w.alloc (.cells (List.toArray [.int .i64 s.a,.int .i64 s.b,.int .i64 s.c,.int .i64 s.d,.int .i64 s.e,.int .i64 s.f]) 45)).alloc (.cells (List.toArray [.int .i64 t.a,.int .i64 t.b,.int .i64 t.c,.int .i64 t.d,.int .i64 t.e,.int .i64 t.f]) 45)).alloc (.cells (List.toArray [.int .i64 0,.int .i64 0]) 25)) c 0:=by
   have C:Ce w c 0:=⟨World.block_lt_of_cell? w _ hc,hc,hf⟩
   (with_reducible repeat (first|exact C|refine Ce.alc ?_ _|refine Ce.drew ?_|refine Ce.set ?_ (by omega)))
  have S_0:Step B w c 0 (((w.alloc (.cells (List.toArray [.int .i64 s.a,.int .i64 s.b,.int .i64 s.c,.int .i64 s.d,.int .i64 s.e,.int .i64 s.f]) 45)).alloc (.cells (List.toArray [.int .i64 t.a,.int .i64 t.b,.int .i64 t.c,.int .i64 t.d,.int .i64 t.e,.int .i64 t.f]) 45)).alloc (.cells (List.toArray [.int .i64 0,.int .i64 0]) 25)):=by
   have S:=Step.beg (B:=B) hc
   (with_reducible repeat (first|exact S|refine Step.alk ?_ _))
  have clt:c<w.heap.size:=World.block_lt_of_cell? w _ hc;go_enter Tryz.func113,Tryz.ntmps113;have o_0c:=o_0.c;have o_0f:=o_0.f;have C_0v:=C_0.v;have C_0f:=C_0.f;have zx0:=zp (w.heap.size+1+1) c
  go_wp2_with fail
  refine (ddot_any s t _).mono ?_;rintro r w1 ⟨rfl,hb⟩;rw [HD.out];have H1:Ho w w1 (w.heap.size+1+1) [(w.heap.size+1,[.int .i64 t.a,.int .i64 t.b,.int .i64 t.c,.int .i64 t.d,.int .i64 t.e,.int .i64 t.f]),(w.heap.size,[.int .i64 s.a,.int .i64 s.b,.int .i64 s.c,.int .i64 s.d,.int .i64 s.e,.int .i64 s.f])]:=Ho.call hoA hb;have o_1:=bxK o_0 hb
  have C_1:Ce w1 c 0:=Ce.kept (by
   (with_reducible repeat (first|exact C_0|refine Ce.alc ?_ _|refine Ce.drew ?_|refine Ce.set ?_ (by omega)))) hb
  have S_1:Step B w c 0 w1:=Step.kall (by
   (with_reducible repeat (first|exact S_0|refine Step.alk ?_ _|refine Step.drow ?_|refine Step.owns ?_ (by omega) (by omega)|apply Step.putc))) hb
  clear o_0c o_0f C_0v C_0f zx0;have hs1:=H1.size;have hz1:=hb.size
  (try simp at hz1)
  clear hb;have h0_1:=(H1.at 1 rfl).c;have h1_1:=(H1.at 0 rfl).c;have o_1c:=o_1.c;have o_1f:=o_1.f;have o_1l:=o_1.lt;have C_1v:=C_1.v;have C_1f:=C_1.f;have C_1l:=C_1.lt;have zx1:=ai (zq (w.heap.size+1+1) (w1.heap.size))<|ai (zq c (w1.heap.size))<|ai (zq (w.heap.size) (w1.heap.size))<|ai (zq (w.heap.size+1) (w1.heap.size))<|ai (zp (w.heap.size+1+1) c)<|ai (zp (w.heap.size+1+1) (w.heap.size))<|ai (zp (w.heap.size+1+1) (w.heap.size+1))<|ai (zp c (w.heap.size))<|zp c (w.heap.size+1)
  go_wp2_with fail
  refine bodyPost_box (b:=w.heap.size+1+1) (cs:=[.int .i64 p,.int .i64 q]) (v:=iv p q) (by
   (with_reducible repeat (first|exact o_1|apply Bx.put6|apply Bx.put2|apply Bx.put1|refine Bx.set ?_ (by omega)|refine Bx.alc ?_ _|refine Bx.drew ?_))) (fun X hX=>by simp [results,Tryz.results113,go_sem,hX]) rfl ⟨rfl,by
   (with_reducible repeat (first|exact S_1|refine Step.alk ?_ _|refine Step.drow ?_|refine Step.owns ?_ (by omega) (by omega)|apply Step.putc))⟩
 ·rw [show goOn e (dotR s t)=⟨0,0,e⟩ from if_neg he]
  have he':(e == 0)=false:=by simpa using he
  have H0:=(((Ho.nil w).bx [.int .i64 s.a,.int .i64 s.b,.int .i64 s.c,.int .i64 s.d,.int .i64 s.e,.int .i64 s.f] 45 (w.heap.size) (by simp)).bx [.int .i64 t.a,.int .i64 t.b,.int .i64 t.c,.int .i64 t.d,.int .i64 t.e,.int .i64 t.f] 45 (w.heap.size+1) (by simp))
  have o_0:Bx (((w.alloc (.cells (List.toArray [.int .i64 s.a,.int .i64 s.b,.int .i64 s.c,.int .i64 s.d,.int .i64 s.e,.int .i64 s.f]) 45)).alloc (.cells (List.toArray [.int .i64 t.a,.int .i64 t.b,.int .i64 t.c,.int .i64 t.d,.int .i64 t.e,.int .i64 t.f]) 45)).alloc (.cells (List.toArray [.int .i64 0,.int .i64 0]) 25)) (w.heap.size+1+1) [.int .i64 0,.int .i64 0]:=by
   (repeat (first|with_reducible exact Bx.new (by simp)|with_reducible apply Bx.put6|with_reducible apply Bx.put2|with_reducible apply Bx.put1|with_reducible refine Bx.set ?_ (by omega)|with_reducible refine Bx.alc ?_ _|with_reducible refine Bx.drew ?_))
  have C_0:Ce (((w.alloc (.cells (List.toArray [.int .i64 s.a,.int .i64 s.b,.int .i64 s.c,.int .i64 s.d,.int .i64 s.e,.int .i64 s.f]) 45)).alloc (.cells (List.toArray [.int .i64 t.a,.int .i64 t.b,.int .i64 t.c,.int .i64 t.d,.int .i64 t.e,.int .i64 t.f]) 45)).alloc (.cells (List.toArray [.int .i64 0,.int .i64 0]) 25)) c e:=by
   have C:Ce w c e:=⟨World.block_lt_of_cell? w _ hc,hc,hf⟩
   (with_reducible repeat (first|exact C|refine Ce.alc ?_ _|refine Ce.drew ?_|refine Ce.set ?_ (by omega)))
  have S_0:Step B w c e (((w.alloc (.cells (List.toArray [.int .i64 s.a,.int .i64 s.b,.int .i64 s.c,.int .i64 s.d,.int .i64 s.e,.int .i64 s.f]) 45)).alloc (.cells (List.toArray [.int .i64 t.a,.int .i64 t.b,.int .i64 t.c,.int .i64 t.d,.int .i64 t.e,.int .i64 t.f]) 45)).alloc (.cells (List.toArray [.int .i64 0,.int .i64 0]) 25)):=by
   have S:=Step.beg (B:=B) hc
   (with_reducible repeat (first|exact S|refine Step.alk ?_ _))
  have clt:c<w.heap.size:=World.block_lt_of_cell? w _ hc;go_enter Tryz.func113,Tryz.ntmps113;have o_0c:=o_0.c;have o_0f:=o_0.f;have C_0v:=C_0.v;have C_0f:=C_0.f;have zx0:=zp (w.heap.size+1+1) c
  go_wp2_with fail
  refine bodyPost_box (b:=w.heap.size+1+1) (cs:=[.int .i64 0,.int .i64 0]) (v:=iv 0 0) (by
   (with_reducible repeat (first|exact o_0|apply Bx.put6|apply Bx.put2|apply Bx.put1|refine Bx.set ?_ (by omega)|refine Bx.alc ?_ _|refine Bx.drew ?_))) (fun X hX=>by simp [results,Tryz.results113,go_sem,hX]) rfl ⟨rfl,by
   (with_reducible repeat (first|exact S_0|refine Step.alk ?_ _|refine Step.drow ?_|refine Step.owns ?_ (by omega) (by omega)|apply Step.putc))⟩
structure Rr (s t:D) (p1 q1 p2 q2 e1 e2 e3 e4 d0 d1 d2 d3 d4 d5 x0 x1 x2 x3 x4 x5:Int) (nb cb c:Nat) (w0 w:World) (l0 l1 l2 l3 l4 l5 l6 l7 l8 l9 l10 l11:Bool) (v0 v1 v2 v3 v4 v5 v6 v7 v8 v9 v10:Value) (b10:Nat):Prop where
 g:Ho w0 w (nb+1+1) [(nb+1,[.int .i64 t.a,.int .i64 t.b,.int .i64 t.c,.int .i64 t.d,.int .i64 t.e,.int .i64 t.f]),(nb,[.int .i64 s.a,.int .i64 s.b,.int .i64 s.c,.int .i64 s.d,.int .i64 s.e,.int .i64 s.f])]
 sz:(cb+1)≤w.heap.size
 mn:(nb+1+1)≤(cb+1)
 u0:Bx w (nb+1+1) [.int .i64 0,.int .i64 0,.int .i64 0,.int .i64 0,.int .i64 0,.int .i64 0]
 un0:(nb+1+1)<(cb+1)
 uc0:¬((nb+1+1)=c)
 u1:Bx w cb [.int .i64 p1,.int .i64 q1]
 un1:cb<(cb+1)
 uc1:¬(cb=c)
 mc:(nb+1+1)≤c
 cn:c<(cb+1)
 q8:l8=true→l7=true
 q9:l9=true→l8=true
 k0:l7=false→Ce w c e1
 k1:l7=true→l8=false→Ce w c e2
 k2:l8=true→l9=false→Ce w c e3
 k3:l9=true→Ce w c e4
 e0:l0=true→v0 = .func (.func 112) #[.pointer (some ⟨c,0,none⟩)] #[]
 e1:l1=true→v1=(dv s)
 e2:l2=true→v2 = .func (.func 111) #[.pointer (some ⟨c,0,none⟩)] #[]
 e3:l3=true→v3=(dv t)
 e4:l4=true→v4 = .func (.func 110) #[.pointer (some ⟨c,0,none⟩)] #[]
 e5:l5=true→v5=(iv p1 q1)
 e6:l6=true→v6=(iv p1 q1)
 e7:l7=true→v7=(iv p2 q2)
 e8:l8=true→v8=(dv ⟨d0,d1,d2,d3,d4,d5⟩)
 e9:l9=true→v9=(dv ⟨x0,x1,x2,x3,x4,x5⟩)
 e10:l10=true→v10 = .pointer (some ⟨b10,0,none⟩)
 g10:l10=true→(cb+1)≤b10
 t10:l10=true→b10<w.heap.size
 o10:l11=true→l10=true
 z10:l10=true→l11=false→Bx w b10 [.int .i64 0,.int .i64 0,.int .i64 0,.int .i64 0,.int .i64 0,.int .i64 0]
 s10:l11=true→Bx w b10 [.int .i64 x0,.int .i64 x1,.int .i64 x2,.int .i64 x3,.int .i64 x4,.int .i64 x5]
theorem Rr.kept {s t:D} {p1 q1 p2 q2 e1 e2 e3 e4 d0 d1 d2 d3 d4 d5 x0 x1 x2 x3 x4 x5:Int} {nb cb c:Nat} {w0 w:World} {l0 l1 l2 l3 l4 l5 l6 l7 l8 l9 l10 l11:Bool} {v0 v1 v2 v3 v4 v5 v6 v7 v8 v9 v10:Value} {b10:Nat} {w':World} (h:Rr s t p1 q1 p2 q2 e1 e2 e3 e4 d0 d1 d2 d3 d4 d5 x0 x1 x2 x3 x4 x5 nb cb c w0 w l0 l1 l2 l3 l4 l5 l6 l7 l8 l9 l10 l11 v0 v1 v2 v3 v4 v5 v6 v7 v8 v9 v10 b10) (hb:Below w.heap.size w w'):Rr s t p1 q1 p2 q2 e1 e2 e3 e4 d0 d1 d2 d3 d4 d5 x0 x1 x2 x3 x4 x5 nb cb c w0 w' l0 l1 l2 l3 l4 l5 l6 l7 l8 l9 l10 l11 v0 v1 v2 v3 v4 v5 v6 v7 v8 v9 v10 b10:=
 {h with g:=h.g.call hb,sz:=Nat.le_trans h.sz hb.size,u0:=h.u0.kept hb,u1:=h.u1.kept hb,k0:=fun p0=>(h.k0 p0).kept hb,k1:=fun p0 p1=>(h.k1 p0 p1).kept hb,k2:=fun p0 p1=>(h.k2 p0 p1).kept hb,k3:=fun p0=>(h.k3 p0).kept hb,t10:=fun p=>Nat.lt_of_lt_of_le (h.t10 p) hb.size,z10:=fun p q=>(h.z10 p q).kept hb,s10:=fun p=>(h.s10 p).kept hb}
def Rr.I (s t:D) (p1 q1 p2 q2 e1 e2 e3 e4 d0 d1 d2 d3 d4 d5 x0 x1 x2 x3 x4 x5:Int) (nb cb c:Nat) (w0:World):Act→Array Bool→Act→World→Prop:=fun a0 L a w=>∃(l0 l1 l2 l3 l4 l5 l6 l7 l8 l9 l10 l11:Bool) (v0 v1 v2 v3 v4 v5 v6 v7 v8 v9 v10:Value) (b10:Nat),L=#[l0,l1,l2,l3,l4,l5,l6,l7,l8,l9,l10,l11]∧a=(((((((((((a0.put (some 24) v0).put (some 25) v1).put (some 26) v2).put (some 27) v3).put (some 28) v4).put (some 29) v5).put (some 30) v6).put (some 31) v7).put (some 32) v8).put (some 33) v9).put (some 11) v10)∧Rr s t p1 q1 p2 q2 e1 e2 e3 e4 d0 d1 d2 d3 d4 d5 x0 x1 x2 x3 x4 x5 nb cb c w0 w l0 l1 l2 l3 l4 l5 l6 l7 l8 l9 l10 l11 v0 v1 v2 v3 v4 v5 v6 v7 v8 v9 v10 b10
def reflG (s t:D):RD:=
 let g1:=goOn 0 (dotR s t)
 let g2:=goOn g1.e (addR g1.lo g1.hi g1.lo g1.hi)
 let g3:=goOnD g2.e (scaleD t g2.lo g2.hi)
 goOnD g3.e (subD s g3.d)
def reflR (s t:D):RD:=if (vD s && vD t)=true then reflG s t else ⟨zD,1⟩
set_option maxRecDepth 100000 in
set_option maxHeartbeats 4000000 in
theorem reflect_any (s t:D) (w:World) :
  Calls Tryz.prog 80 #[dv s,dv t] w fun e w'=>e=retD (reflR s t)∧Below w.heap.size w w':=by
 cases hv:(vD s && vD t)
 ·rw [show reflR s t=⟨zD,1⟩ from if_neg (by rw [hv];decide)];have HV:=Lib.hid hv;clear hv;have H0:=(((Ho.nil w).bx [.int .i64 s.a,.int .i64 s.b,.int .i64 s.c,.int .i64 s.d,.int .i64 s.e,.int .i64 s.f] 45 (w.heap.size) (by simp)).bx [.int .i64 t.a,.int .i64 t.b,.int .i64 t.c,.int .i64 t.d,.int .i64 t.e,.int .i64 t.f] 45 (w.heap.size+1) (by simp))
  have o_0:Bx (((w.alloc (.cells (List.toArray [.int .i64 s.a,.int .i64 s.b,.int .i64 s.c,.int .i64 s.d,.int .i64 s.e,.int .i64 s.f]) 45)).alloc (.cells (List.toArray [.int .i64 t.a,.int .i64 t.b,.int .i64 t.c,.int .i64 t.d,.int .i64 t.e,.int .i64 t.f]) 45)).alloc (.cells (List.toArray [.int .i64 0,.int .i64 0,.int .i64 0,.int .i64 0,.int .i64 0,.int .i64 0]) 45)) (w.heap.size+1+1) [.int .i64 0,.int .i64 0,.int .i64 0,.int .i64 0,.int .i64 0,.int .i64 0]:=by
   (repeat (first|with_reducible exact Bx.new (by simp)|with_reducible apply Bx.put6|with_reducible apply Bx.put2|with_reducible apply Bx.put1|with_reducible refine Bx.set ?_ (by omega)|with_reducible refine Bx.alc ?_ _|with_reducible refine Bx.drew ?_))
  go_enter Tryz.func80,Tryz.ntmps80;have o_0c:=o_0.c;have o_0f:=o_0.f
  go_wp2_with fail
  refine (vray_any s t _).mono ?_;rintro r w1 ⟨rfl,hb⟩;rw [HV.out];have H1:Ho w w1 (w.heap.size+1+1) [(w.heap.size+1,[.int .i64 t.a,.int .i64 t.b,.int .i64 t.c,.int .i64 t.d,.int .i64 t.e,.int .i64 t.f]),(w.heap.size,[.int .i64 s.a,.int .i64 s.b,.int .i64 s.c,.int .i64 s.d,.int .i64 s.e,.int .i64 s.f])]:=Ho.call hoA hb;have o_1:=bxK o_0 hb;clear o_0c o_0f;have hs1:=H1.size;have hz1:=hb.size
  (try simp at hz1)
  clear hb;have h0_1:=(H1.at 1 rfl).c;have h1_1:=(H1.at 0 rfl).c;have o_1c:=o_1.c;have o_1f:=o_1.f;have o_1l:=o_1.lt;have zx1:=ai (zq (w.heap.size+1+1) (w1.heap.size))<|ai (zq (w.heap.size) (w1.heap.size))<|ai (zq (w.heap.size+1) (w1.heap.size))<|ai (zp (w.heap.size+1+1) (w.heap.size))<|zp (w.heap.size+1+1) (w.heap.size+1)
  go_wp2_with fail
  refine bodyPost_box (b:=w.heap.size+1+1) (cs:=[.int .i64 0,.int .i64 0,.int .i64 0,.int .i64 0,.int .i64 0,.int .i64 0]) (v:=.tuple #[dv zD,.int .i64 1]) (by
   (with_reducible repeat (first|exact o_1|apply Bx.put6|apply Bx.put2|apply Bx.put1|refine Bx.set ?_ (by omega)|refine Bx.alc ?_ _|refine Bx.drew ?_))) (fun X hX=>by simp [zD,results,Tryz.results80,go_sem,hX]) rfl ⟨rfl,by
   refine Ho.below (n:=w.heap.size+1+1) (l:=[(w.heap.size+1,[.int .i64 t.a,.int .i64 t.b,.int .i64 t.c,.int .i64 t.d,.int .i64 t.e,.int .i64 t.f]),(w.heap.size,[.int .i64 s.a,.int .i64 s.b,.int .i64 s.c,.int .i64 s.d,.int .i64 s.e,.int .i64 s.f])]) ?_
   exact hoA⟩
 ·rw [show reflR s t=reflG s t from if_pos hv];obtain ⟨⟨p1,q1,e1⟩,h1⟩:∃r:R,goOn 0 (dotR s t)=r:=⟨_,rfl⟩;obtain ⟨⟨p2,q2,e2⟩,h2⟩:∃r:R,goOn e1 (addR p1 q1 p1 q1)=r:=⟨_,rfl⟩;obtain ⟨⟨⟨d0,d1,d2,d3,d4,d5⟩,e3⟩,h3⟩:∃r:RD,goOnD e2 (scaleD t p2 q2)=r:=⟨_,rfl⟩;obtain ⟨⟨⟨x0,x1,x2,x3,x4,x5⟩,e4⟩,h4⟩:∃r:RD,goOnD e3 (subD s ⟨d0,d1,d2,d3,d4,d5⟩)=r:=⟨_,rfl⟩;rw [show reflG s t=⟨⟨x0,x1,x2,x3,x4,x5⟩,e4⟩ from by unfold reflG;simp only [h1,h2,h3,h4]];have HV:=Lib.hid hv;have E1:=Lib.hid h1;have E2:=Lib.hid h2;have E3:=Lib.hid h3;have E4:=Lib.hid h4;clear hv h1 h2 h3 h4;have H0:=(((Ho.nil w).bx [.int .i64 s.a,.int .i64 s.b,.int .i64 s.c,.int .i64 s.d,.int .i64 s.e,.int .i64 s.f] 45 (w.heap.size) (by simp)).bx [.int .i64 t.a,.int .i64 t.b,.int .i64 t.c,.int .i64 t.d,.int .i64 t.e,.int .i64 t.f] 45 (w.heap.size+1) (by simp))
  have o_0:Bx (((w.alloc (.cells (List.toArray [.int .i64 s.a,.int .i64 s.b,.int .i64 s.c,.int .i64 s.d,.int .i64 s.e,.int .i64 s.f]) 45)).alloc (.cells (List.toArray [.int .i64 t.a,.int .i64 t.b,.int .i64 t.c,.int .i64 t.d,.int .i64 t.e,.int .i64 t.f]) 45)).alloc (.cells (List.toArray [.int .i64 0,.int .i64 0,.int .i64 0,.int .i64 0,.int .i64 0,.int .i64 0]) 45)) (w.heap.size+1+1) [.int .i64 0,.int .i64 0,.int .i64 0,.int .i64 0,.int .i64 0,.int .i64 0]:=by
   (repeat (first|with_reducible exact Bx.new (by simp)|with_reducible apply Bx.put6|with_reducible apply Bx.put2|with_reducible apply Bx.put1|with_reducible refine Bx.set ?_ (by omega)|with_reducible refine Bx.alc ?_ _|with_reducible refine Bx.drew ?_))
  go_enter Tryz.func80,Tryz.ntmps80;have o_0c:=o_0.c;have o_0f:=o_0.f
  go_wp2_with fail
  refine (vray_any s t _).mono ?_;rintro r w1 ⟨rfl,hb⟩;rw [HV.out];have H1:Ho w w1 (w.heap.size+1+1) [(w.heap.size+1,[.int .i64 t.a,.int .i64 t.b,.int .i64 t.c,.int .i64 t.d,.int .i64 t.e,.int .i64 t.f]),(w.heap.size,[.int .i64 s.a,.int .i64 s.b,.int .i64 s.c,.int .i64 s.d,.int .i64 s.e,.int .i64 s.f])]:=Ho.call hoA hb;have o_1:=bxK o_0 hb;clear o_0c o_0f;have hs1:=H1.size;have hz1:=hb.size
  (try simp at hz1)
  clear hb;have h0_1:=(H1.at 1 rfl).c;have h1_1:=(H1.at 0 rfl).c;have o_1c:=o_1.c;have o_1f:=o_1.f;have o_1l:=o_1.lt;have zx1:=ai (zq (w.heap.size+1+1) (w1.heap.size))<|ai (zq (w.heap.size) (w1.heap.size))<|ai (zq (w.heap.size+1) (w1.heap.size))<|ai (zp (w.heap.size+1+1) (w.heap.size))<|zp (w.heap.size+1+1) (w.heap.size+1)
  go_wp2_with fail
  refine (rdot_any w.heap.size w1.heap.size 0 s t _ (by simp [go_sem]) (by simp [go_sem])).mono ?_;rintro r w2 ⟨rfl,st⟩;rw [E1.out];rw [E1.out] at st;have H2:Ho w w2 (w.heap.size+1+1) [(w.heap.size+1,[.int .i64 t.a,.int .i64 t.b,.int .i64 t.c,.int .i64 t.d,.int .i64 t.e,.int .i64 t.f]),(w.heap.size,[.int .i64 s.a,.int .i64 s.b,.int .i64 s.c,.int .i64 s.d,.int .i64 s.e,.int .i64 s.f])]:=Ho.step hoA st (by omega);have o_2:Bx w2 (w.heap.size+1+1) [.int .i64 0,.int .i64 0,.int .i64 0,.int .i64 0,.int .i64 0,.int .i64 0]:=Bx.step bxB st (by omega)
  have C_2:Ce w2 (w1.heap.size) e1:=Ce.step (e:=0) (by
   exact Bx.ce (by
    (repeat (first|with_reducible exact Bx.new (by simp)|with_reducible apply Bx.put6|with_reducible apply Bx.put2|with_reducible apply Bx.put1|with_reducible refine Bx.set ?_ (by omega)|with_reducible refine Bx.alc ?_ _|with_reducible refine Bx.drew ?_)))) st
  clear h0_1 h1_1 o_1c o_1f zx1;have hs2:=H2.size;have hz2:=st.size
  (try simp at hz2)
  clear st;have h0_2:=(H2.at 1 rfl).c;have h1_2:=(H2.at 0 rfl).c;have o_2c:=o_2.c;have o_2f:=o_2.f;have o_2l:=o_2.lt;have C_2v:=C_2.v;have C_2f:=C_2.f;have C_2l:=C_2.lt;have zx2:=ai (zq (w.heap.size+1+1) (w2.heap.size))<|ai (zq (w1.heap.size) (w2.heap.size))<|ai (zq (w.heap.size) (w2.heap.size))<|ai (zq (w.heap.size+1) (w2.heap.size))<|ai (zp (w.heap.size+1+1) (w1.heap.size))<|ai (zp (w.heap.size+1+1) (w.heap.size))<|ai (zp (w.heap.size+1+1) (w.heap.size+1))<|ai (zp (w1.heap.size) (w.heap.size))<|zp (w1.heap.size) (w.heap.size+1)
  go_upto_region 6 with fail
  refine region_sets (Rr.I s t p1 q1 p2 q2 e1 e2 e3 e4 d0 d1 d2 d3 d4 d5 x0 x1 x2 x3 x4 x5 w.heap.size w2.heap.size w1.heap.size w) (by kernel_rfl) ?_ ?_ ?_
  ·refine ⟨false,false,false,false,false,false,false,false,false,false,false,false,undef,undef,undef,undef,undef,undef,undef,undef,undef,undef,undef,0,rfl,by simp only [Act.put,sS],?_⟩;constructor
   ·exact hoA
   ·(simp;done)
   ·(omega)
   ·exact bxB
   ·(omega)
   ·(omega)
   ·(repeat (first|with_reducible exact Bx.new (by simp)|with_reducible apply Bx.put6|with_reducible apply Bx.put2|with_reducible apply Bx.put1|with_reducible refine Bx.set ?_ (by omega)|with_reducible refine Bx.alc ?_ _|with_reducible refine Bx.drew ?_))
   ·(omega)
   ·(omega)
   ·(omega)
   ·(omega)
   ·(intro h;cases h)
   ·(intro h;cases h)
   ·(intro _;(with_reducible repeat (first|exact C_2|refine Ce.alc ?_ _|refine Ce.drew ?_|refine Ce.set ?_ (by omega))))
   all_goals (intro h;cases h)
  ·intro L a' w' hI i hi;obtain ⟨l0,l1,l2,l3,l4,l5,l6,l7,l8,l9,l10,l11,v0,v1,v2,v3,v4,v5,v6,v7,v8,v9,v10,b10,rfl,rfl,h⟩:=hI;have hlt:=ready_lt hi
   match i,hi,hlt with
   |0,hi,_=>
    obtain rfl:l0=false:=rl rfl hi;clear hi hlt;have H:=Lib.hid h;clear h;refine wpOp_shut rfl (fun K hK=>?_)
    try simp only [Act.put,sS]
    go_simp;refine hK.out _ _ ?_;unfold Rr.I;refine ⟨_,_,_,_,_,_,_,_,_,_,_,_,(.func (.func 112) #[.pointer (some ⟨w1.heap.size,0,none⟩)] #[]),v1,v2,v3,v4,v5,v6,v7,v8,v9,v10,b10,rfl,?_,?_⟩
    ·simp only [Act.put,sS]
    ·exact {H.out with e0:=fun _=>rfl}
   |1,hi,_=>
    obtain rfl:l1=false:=rl rfl hi;clear hi hlt;have c:=(h.g.at 1 rfl).c;have H:=Lib.hid h;clear h;refine wpOp_shut rfl (fun K hK=>?_)
    try simp only [Act.put,sS]
    go_simp;refine hK.out _ _ ?_;unfold Rr.I;refine ⟨_,_,_,_,_,_,_,_,_,_,_,_,v0,((dv s)),v2,v3,v4,v5,v6,v7,v8,v9,v10,b10,rfl,?_,?_⟩
    ·simp only [Act.put,sS]
    ·exact {H.out with e1:=fun _=>rfl}
   |2,hi,_=>
    obtain rfl:l2=false:=rl rfl hi;clear hi hlt;have H:=Lib.hid h;clear h;refine wpOp_shut rfl (fun K hK=>?_)
    try simp only [Act.put,sS]
    go_simp;refine hK.out _ _ ?_;unfold Rr.I;refine ⟨_,_,_,_,_,_,_,_,_,_,_,_,v0,v1,(.func (.func 111) #[.pointer (some ⟨w1.heap.size,0,none⟩)] #[]),v3,v4,v5,v6,v7,v8,v9,v10,b10,rfl,?_,?_⟩
    ·simp only [Act.put,sS]
    ·exact {H.out with e2:=fun _=>rfl}
   |3,hi,_=>
    obtain rfl:l3=false:=rl rfl hi;clear hi hlt;have c:=(h.g.at 0 rfl).c;have H:=Lib.hid h;clear h;refine wpOp_shut rfl (fun K hK=>?_)
    try simp only [Act.put,sS]
    go_simp;refine hK.out _ _ ?_;unfold Rr.I;refine ⟨_,_,_,_,_,_,_,_,_,_,_,_,v0,v1,v2,((dv t)),v4,v5,v6,v7,v8,v9,v10,b10,rfl,?_,?_⟩
    ·simp only [Act.put,sS]
    ·exact {H.out with e3:=fun _=>rfl}
   |4,hi,_=>
    obtain rfl:l4=false:=rl rfl hi;clear hi hlt;have H:=Lib.hid h;clear h;refine wpOp_shut rfl (fun K hK=>?_)
    try simp only [Act.put,sS]
    go_simp;refine hK.out _ _ ?_;unfold Rr.I;refine ⟨_,_,_,_,_,_,_,_,_,_,_,_,v0,v1,v2,v3,(.func (.func 110) #[.pointer (some ⟨w1.heap.size,0,none⟩)] #[]),v5,v6,v7,v8,v9,v10,b10,rfl,?_,?_⟩
    ·simp only [Act.put,sS]
    ·exact {H.out with e4:=fun _=>rfl}
   |5,hi,_=>
    obtain rfl:l5=false:=rl rfl hi;clear hi hlt;have c:=h.u1.c;have H:=Lib.hid h;clear h;refine wpOp_shut rfl (fun K hK=>?_)
    try simp only [Act.put,sS]
    go_simp;refine hK.out _ _ ?_;unfold Rr.I;refine ⟨_,_,_,_,_,_,_,_,_,_,_,_,v0,v1,v2,v3,v4,((iv p1 q1)),v6,v7,v8,v9,v10,b10,rfl,?_,?_⟩
    ·simp only [Act.put,sS]
    ·exact {H.out with e5:=fun _=>rfl}
   |6,hi,_=>
    obtain rfl:l6=false:=rl rfl hi;clear hi hlt;have c:=h.u1.c;have H:=Lib.hid h;clear h;refine wpOp_shut rfl (fun K hK=>?_)
    try simp only [Act.put,sS]
    go_simp;refine hK.out _ _ ?_;unfold Rr.I;refine ⟨_,_,_,_,_,_,_,_,_,_,_,_,v0,v1,v2,v3,v4,v5,((iv p1 q1)),v7,v8,v9,v10,b10,rfl,?_,?_⟩
    ·simp only [Act.put,sS]
    ·exact {H.out with e6:=fun _=>rfl}
   |7,hi,_=>
    obtain rfl:l7=false:=rl rfl hi;obtain rfl:l4=true:=rk rfl hi 4 .data;obtain rfl:l5=true:=rk rfl hi 5 .data;obtain rfl:l6=true:=rk rfl hi 6 .data;clear hi hlt;obtain rfl:=h.e4 rfl;obtain rfl:=h.e5 rfl;obtain rfl:=h.e6 rfl;have CK:=h.k0 rfl;have H:=Lib.hid h;clear h;refine wpOp_shut rfl (fun K hK=>?_)
    try simp only [Act.put,sS]
    go_simp;refine (num_add w.heap.size w1.heap.size p1 q1 p1 q1 e1 _ CK.v CK.f).mono ?_;rintro e wY ⟨rfl,st⟩;rw [E2.out];rw [E2.out] at st;dsimp only;dsimp only at st
    try go_simp
    refine hK.out _ _ ?_;unfold Rr.I;refine ⟨_,_,_,_,_,_,_,_,_,_,_,_,v0,v1,v2,v3,(.func (.func 110) #[.pointer (some ⟨w1.heap.size,0,none⟩)] #[]),((iv p1 q1)),((iv p1 q1)),((iv p2 q2)),v8,v9,v10,b10,rfl,?_,?_⟩
    ·simp only [Act.put,sS]
    ·have h:=H.out;exact {h with g:=h.g.step st h.mc,sz:=Nat.le_trans h.sz st.size,e7:=fun _=>rfl,u0:=h.u0.step st h.uc0,u1:=h.u1.step st h.uc1,k0:=fun p0=>(nomatch p0),k1:=fun p0 p1=>CK.step st,k2:=fun p0 p1=>(nomatch (h.q8 p0)),k3:=fun p0=>(nomatch (h.q8 (h.q9 p0))),q8:=fun _=>rfl,t10:=fun p=>Nat.lt_of_lt_of_le (h.t10 p) st.size,z10:=fun p r=>(h.z10 p r).step st (Nat.ne_of_gt (Nat.lt_of_lt_of_le h.cn (h.g10 p))),s10:=fun p=>(h.s10 p).step st (Nat.ne_of_gt (Nat.lt_of_lt_of_le h.cn (h.g10 (h.o10 p))))}
   |8,hi,_=>
    obtain rfl:l8=false:=rl rfl hi;obtain rfl:l2=true:=rk rfl hi 2 .data;obtain rfl:l3=true:=rk rfl hi 3 .data;obtain rfl:l7=true:=rk rfl hi 7 .chain;clear hi hlt;obtain rfl:=h.e2 rfl;obtain rfl:=h.e3 rfl;obtain rfl:=h.e7 rfl;have CK:=h.k1 rfl rfl;have H:=Lib.hid h;clear h;refine wpOp_shut rfl (fun K hK=>?_)
    try simp only [Act.put,sS]
    go_simp;refine (rscale_any w.heap.size w1.heap.size e2 t p2 q2 _ CK.v CK.f).mono ?_;rintro e wY ⟨rfl,st⟩;rw [E3.out];rw [E3.out] at st;dsimp only;dsimp only at st
    try go_simp
    refine hK.out _ _ ?_;unfold Rr.I;refine ⟨_,_,_,_,_,_,_,_,_,_,_,_,v0,v1,(.func (.func 111) #[.pointer (some ⟨w1.heap.size,0,none⟩)] #[]),((dv t)),v4,v5,v6,((iv p2 q2)),((dv ⟨d0,d1,d2,d3,d4,d5⟩)),v9,v10,b10,rfl,?_,?_⟩
    ·simp only [Act.put,sS]
    ·have h:=H.out;exact {h with g:=h.g.step st h.mc,sz:=Nat.le_trans h.sz st.size,e8:=fun _=>rfl,u0:=h.u0.step st h.uc0,u1:=h.u1.step st h.uc1,k0:=fun p0=>(nomatch (Eq.trans (Eq.symm (rfl:true=true)) p0)),k1:=fun p0 p1=>(nomatch p1),k2:=fun p0 p1=>CK.step st,k3:=fun p0=>(nomatch (h.q9 p0)),q8:=fun _=>rfl,q9:=fun _=>rfl,t10:=fun p=>Nat.lt_of_lt_of_le (h.t10 p) st.size,z10:=fun p r=>(h.z10 p r).step st (Nat.ne_of_gt (Nat.lt_of_lt_of_le h.cn (h.g10 p))),s10:=fun p=>(h.s10 p).step st (Nat.ne_of_gt (Nat.lt_of_lt_of_le h.cn (h.g10 (h.o10 p))))}
   |9,hi,_=>
    obtain rfl:l9=false:=rl rfl hi;obtain rfl:l0=true:=rk rfl hi 0 .data;obtain rfl:l1=true:=rk rfl hi 1 .data;obtain rfl:l8=true:=rk rfl hi 8 .chain;clear hi hlt;obtain rfl:=h.e0 rfl;obtain rfl:=h.e1 rfl;obtain rfl:=h.e8 rfl;have CK:=h.k2 rfl rfl;have H:=Lib.hid h;clear h;refine wpOp_shut rfl (fun K hK=>?_)
    try simp only [Act.put,sS]
    go_simp;refine (rvec_sub w.heap.size w1.heap.size e3 s ⟨d0,d1,d2,d3,d4,d5⟩ _ CK.v CK.f).mono ?_;rintro e wY ⟨rfl,st⟩;rw [E4.out];rw [E4.out] at st;dsimp only;dsimp only at st
    try go_simp
    refine hK.out _ _ ?_;unfold Rr.I;refine ⟨_,_,_,_,_,_,_,_,_,_,_,_,(.func (.func 112) #[.pointer (some ⟨w1.heap.size,0,none⟩)] #[]),((dv s)),v2,v3,v4,v5,v6,v7,((dv ⟨d0,d1,d2,d3,d4,d5⟩)),((dv ⟨x0,x1,x2,x3,x4,x5⟩)),v10,b10,rfl,?_,?_⟩
    ·simp only [Act.put,sS]
    ·have h:=H.out;exact {h with g:=h.g.step st h.mc,sz:=Nat.le_trans h.sz st.size,e9:=fun _=>rfl,u0:=h.u0.step st h.uc0,u1:=h.u1.step st h.uc1,k0:=fun p0=>(nomatch (Eq.trans (Eq.symm (h.q8 rfl)) p0)),k1:=fun p0 p1=>(nomatch (Eq.trans (Eq.symm (rfl:true=true)) p1)),k2:=fun p0 p1=>(nomatch p1),k3:=fun p0=>CK.step st,q9:=fun _=>rfl,t10:=fun p=>Nat.lt_of_lt_of_le (h.t10 p) st.size,z10:=fun p r=>(h.z10 p r).step st (Nat.ne_of_gt (Nat.lt_of_lt_of_le h.cn (h.g10 p))),s10:=fun p=>(h.s10 p).step st (Nat.ne_of_gt (Nat.lt_of_lt_of_le h.cn (h.g10 (h.o10 p))))}
   |10,hi,_=>
    obtain rfl:l10=false:=rl rfl hi;clear hi hlt;have H:=Lib.hid h;clear h;refine wpOp_shut rfl (fun K hK=>?_)
    try simp only [Act.put,sS]
    go_simp;refine hK.out _ _ ?_;unfold Rr.I;refine ⟨_,_,_,_,_,_,_,_,_,_,_,_,v0,v1,v2,v3,v4,v5,v6,v7,v8,v9,(.pointer (some ⟨w'.heap.size,0,none⟩)),w'.heap.size,rfl,?_,?_⟩
    ·simp only [Act.put,sS]
    ·have h:=H.out;have h2:=h.kept ((Below.refl _ _).alloc (Nat.le_refl _) (.cells (List.toArray [.int .i64 0,.int .i64 0,.int .i64 0,.int .i64 0,.int .i64 0,.int .i64 0]) 45));exact {h2 with e10:=fun _=>rfl,g10:=fun _=>h.sz,t10:=fun _=>by simp,o10:=fun p=>rfl,z10:=fun _ _=>Bx.new rfl,s10:=fun p=>(nomatch (h.o10 p))}
   |11,hi,_=>
    obtain rfl:l11=false:=rl rfl hi;obtain rfl:l10=true:=rk rfl hi 10 .phase;obtain rfl:l9=true:=rk rfl hi 9 .phase;obtain rfl:l0=true:=rk rfl hi 0 .phase;obtain rfl:l1=true:=rk rfl hi 1 .phase;obtain rfl:l2=true:=rk rfl hi 2 .phase;obtain rfl:l3=true:=rk rfl hi 3 .phase;obtain rfl:l4=true:=rk rfl hi 4 .phase;obtain rfl:l5=true:=rk rfl hi 5 .phase;obtain rfl:l6=true:=rk rfl hi 6 .phase;obtain rfl:l7=true:=rk rfl hi 7 .phase;obtain rfl:l8=true:=rk rfl hi 8 .phase;clear hi hlt;obtain rfl:=h.e10 rfl;obtain rfl:=h.e9 rfl;obtain rfl:=h.e0 rfl;obtain rfl:=h.e1 rfl;obtain rfl:=h.e2 rfl;obtain rfl:=h.e3 rfl;obtain rfl:=h.e4 rfl;obtain rfl:=h.e5 rfl;obtain rfl:=h.e6 rfl;obtain rfl:=h.e7 rfl;obtain rfl:=h.e8 rfl;have bz:=h.z10 rfl rfl;have c:=bz.c;have f:=bz.f;clear bz;have H:=Lib.hid h;clear h;refine wpOp_shut rfl (fun K hK=>?_)
    try simp only [Act.put,sS]
    go_simp;refine hK.out _ _ ?_;unfold Rr.I;refine ⟨_,_,_,_,_,_,_,_,_,_,_,_,(.func (.func 112) #[.pointer (some ⟨w1.heap.size,0,none⟩)] #[]),((dv s)),(.func (.func 111) #[.pointer (some ⟨w1.heap.size,0,none⟩)] #[]),((dv t)),(.func (.func 110) #[.pointer (some ⟨w1.heap.size,0,none⟩)] #[]),((iv p1 q1)),((iv p1 q1)),((iv p2 q2)),((dv ⟨d0,d1,d2,d3,d4,d5⟩)),((dv ⟨x0,x1,x2,x3,x4,x5⟩)),(.pointer (some ⟨b10,0,none⟩)),b10,rfl,?_,?_⟩
    ·simp only [Act.put,sS]
    ·have h:=H.out;have gb:=h.g10 rfl;have gm:=Nat.le_trans h.mn gb;exact {h with g:=((((((h.g.put gm).put gm).put gm).put gm).put gm).put gm),sz:=by simpa using h.sz,o10:=fun _=>rfl,z10:=fun _ p=>(nomatch p),s10:=fun _=>(((((((h.z10 rfl rfl).put).put).put).put).put).put),t10:=fun p=>by simpa using h.t10 p,u0:=((((((h.u0.set (Nat.ne_of_lt (Nat.lt_of_lt_of_le h.un0 gb))).set (Nat.ne_of_lt (Nat.lt_of_lt_of_le h.un0 gb))).set (Nat.ne_of_lt (Nat.lt_of_lt_of_le h.un0 gb))).set (Nat.ne_of_lt (Nat.lt_of_lt_of_le h.un0 gb))).set (Nat.ne_of_lt (Nat.lt_of_lt_of_le h.un0 gb))).set (Nat.ne_of_lt (Nat.lt_of_lt_of_le h.un0 gb))),u1:=((((((h.u1.set (Nat.ne_of_lt (Nat.lt_of_lt_of_le h.un1 gb))).set (Nat.ne_of_lt (Nat.lt_of_lt_of_le h.un1 gb))).set (Nat.ne_of_lt (Nat.lt_of_lt_of_le h.un1 gb))).set (Nat.ne_of_lt (Nat.lt_of_lt_of_le h.un1 gb))).set (Nat.ne_of_lt (Nat.lt_of_lt_of_le h.un1 gb))).set (Nat.ne_of_lt (Nat.lt_of_lt_of_le h.un1 gb))),k0:=fun p0=>(((((((h.k0 p0).set (Nat.ne_of_lt (Nat.lt_of_lt_of_le h.cn gb))).set (Nat.ne_of_lt (Nat.lt_of_lt_of_le h.cn gb))).set (Nat.ne_of_lt (Nat.lt_of_lt_of_le h.cn gb))).set (Nat.ne_of_lt (Nat.lt_of_lt_of_le h.cn gb))).set (Nat.ne_of_lt (Nat.lt_of_lt_of_le h.cn gb))).set (Nat.ne_of_lt (Nat.lt_of_lt_of_le h.cn gb))),k1:=fun p0 p1=>(((((((h.k1 p0 p1).set (Nat.ne_of_lt (Nat.lt_of_lt_of_le h.cn gb))).set (Nat.ne_of_lt (Nat.lt_of_lt_of_le h.cn gb))).set (Nat.ne_of_lt (Nat.lt_of_lt_of_le h.cn gb))).set (Nat.ne_of_lt (Nat.lt_of_lt_of_le h.cn gb))).set (Nat.ne_of_lt (Nat.lt_of_lt_of_le h.cn gb))).set (Nat.ne_of_lt (Nat.lt_of_lt_of_le h.cn gb))),k2:=fun p0 p1=>(((((((h.k2 p0 p1).set (Nat.ne_of_lt (Nat.lt_of_lt_of_le h.cn gb))).set (Nat.ne_of_lt (Nat.lt_of_lt_of_le h.cn gb))).set (Nat.ne_of_lt (Nat.lt_of_lt_of_le h.cn gb))).set (Nat.ne_of_lt (Nat.lt_of_lt_of_le h.cn gb))).set (Nat.ne_of_lt (Nat.lt_of_lt_of_le h.cn gb))).set (Nat.ne_of_lt (Nat.lt_of_lt_of_le h.cn gb))),k3:=fun p0=>(((((((h.k3 p0).set (Nat.ne_of_lt (Nat.lt_of_lt_of_le h.cn gb))).set (Nat.ne_of_lt (Nat.lt_of_lt_of_le h.cn gb))).set (Nat.ne_of_lt (Nat.lt_of_lt_of_le h.cn gb))).set (Nat.ne_of_lt (Nat.lt_of_lt_of_le h.cn gb))).set (Nat.ne_of_lt (Nat.lt_of_lt_of_le h.cn gb))).set (Nat.ne_of_lt (Nat.lt_of_lt_of_le h.cn gb)))}
   |i+12,_,hlt=>exact absurd hlt (by simp)
  ·intro L a' w' hI hn;obtain ⟨l0,l1,l2,l3,l4,l5,l6,l7,l8,l9,l10,l11,v0,v1,v2,v3,v4,v5,v6,v7,v8,v9,v10,b10,rfl,rfl,h⟩:=hI;obtain rfl:l0=true:=nr 0 rfl hn;obtain rfl:l1=true:=nr 1 rfl hn;obtain rfl:l2=true:=nr 2 rfl hn;obtain rfl:l3=true:=nr 3 rfl hn;obtain rfl:l4=true:=nr 4 rfl hn;obtain rfl:l5=true:=nr 5 rfl hn;obtain rfl:l6=true:=nr 6 rfl hn;obtain rfl:l7=true:=nr 7 rfl hn;obtain rfl:l8=true:=nr 8 rfl hn;obtain rfl:l9=true:=nr 9 rfl hn;obtain rfl:l10=true:=nr 10 rfl hn;obtain rfl:l11=true:=nr 11 rfl hn;clear hn;obtain rfl:=h.e0 rfl;obtain rfl:=h.e1 rfl;obtain rfl:=h.e2 rfl;obtain rfl:=h.e3 rfl;obtain rfl:=h.e4 rfl;obtain rfl:=h.e5 rfl;obtain rfl:=h.e6 rfl;obtain rfl:=h.e7 rfl;obtain rfl:=h.e8 rfl;obtain rfl:=h.e9 rfl;obtain rfl:=h.e10 rfl;simp only [Act.put,sS];have GA:=h.g;have BA:=h.s10 rfl;have CA:=h.k3 rfl;have OA:=h.u0;have gA:=h.g10 rfl;clear h
   have nA:¬(b10=w.heap.size+1+1):=by omega
   have nC:¬(w1.heap.size=w.heap.size+1+1):=by omega
   have oc:=OA.c;have of:=OA.f;have hl:=OA.lt;clear h0_2 h1_2 o_2c o_2f C_2v C_2f zx2
   go_upto_region 7 with fail
   go_region_held3 (fun X=>(∀j,X.cell? ⟨b10,j,none⟩ = [.int .i64 x0,.int .i64 x1,.int .i64 x2,.int .i64 x3,.int .i64 x4,.int .i64 x5][j]?)∧X.cell? ⟨w1.heap.size,0,none⟩=some (.int .i64 e4)) (with_reducible first|exact ⟨BA.drew.c,CA.drew.v⟩|exact ⟨((((((BA.set nA).set nA).set nA).set nA).set nA).set nA).drew.c,((((((CA.set nC).set nC).set nC).set nC).set nC).set nC).drew.v⟩) (fail)
   all_goals go_wp2_with fail
   refine bodyPost_box (b:=w.heap.size+1+1) (cs:=[.int .i64 x0,.int .i64 x1,.int .i64 x2,.int .i64 x3,.int .i64 x4,.int .i64 x5]) (v:=.tuple #[dv ⟨x0,x1,x2,x3,x4,x5⟩,.int .i64 e4]) (by
    (with_reducible repeat (first|exact OA|apply Bx.put6|refine Bx.drew ?_))) (fun X hX=>by simp [results,Tryz.results80,go_sem,hX]) rfl ⟨rfl,by
    refine Ho.below (n:=w.heap.size+1+1) (l:=[(w.heap.size+1,[.int .i64 t.a,.int .i64 t.b,.int .i64 t.c,.int .i64 t.d,.int .i64 t.e,.int .i64 t.f]),(w.heap.size,[.int .i64 s.a,.int .i64 s.b,.int .i64 s.c,.int .i64 s.d,.int .i64 s.e,.int .i64 s.f])]) ?_
    exact hoA⟩
end Go.Proofs.YtiecdgcdcpmgaaaGreat.Iv

/- Contract of package refraction's Refract: refract's results, or nothing but the error. -/
namespace Go.Proofs.YtiecdgcdcpmgaaaGreat.Iv
open Go.RowKit
set_option maxRecDepth 100000 in
set_option maxHeartbeats 4000000 in
theorem refr_any (s t:D) (a b:Int) (w:World) :
  Calls Tryz.prog 72 #[dv s,dv t,iv a b] w fun e w'=>e=retF (refrR s t a b)∧Below w.heap.size w w':=by
 have I0:F6 w ((((((w.alloc (.cells #[.int .i64 s.a,.int .i64 s.b,.int .i64 s.c,.int .i64 s.d,.int .i64 s.e,.int .i64 s.f] 45)).alloc (.cells #[.int .i64 t.a,.int .i64 t.b,.int .i64 t.c,.int .i64 t.d,.int .i64 t.e,.int .i64 t.f] 45)).alloc (.cells #[.int .i64 a,.int .i64 b] 25)).alloc (.cells #[.int .i64 0,.int .i64 0,.int .i64 0,.int .i64 0,.int .i64 0,.int .i64 0] 45)).alloc (.cells #[.int .i64 0,.int .i64 0] 25)).alloc (.cells #[.int .i64 0,.int .i64 0] 25)) w.heap.size s t a b 0 0 0 0 0 0 0 0 0 0:=by
  refine ⟨by simp [go_sem],by simp [go_sem],by simp [go_sem],by simp [go_sem],by simp [go_sem],by simp [go_sem],by simp [go_sem],by simp [go_sem],by simp [go_sem],by simp [go_sem],by simp [go_sem],by simp [go_sem],by simp [go_sem],by simp [go_sem],by simp [go_sem],by simp [go_sem],by simp [go_sem],by simp [go_sem],by simp [go_sem],by simp [go_sem],by simp [go_sem],by simp [go_sem],by simp [go_sem],by simp [go_sem],by simp [go_sem],by simp [go_sem],by simp [go_sem],by simp [go_sem],by simp [go_sem],by simp [go_sem],by simp [go_sem],by simp [go_sem],by simp [go_sem],by simp [go_sem],by simp,?_⟩
  ·repeat (first|exact Below.refl _ _|refine Below.alloc ?_ (by first|omega|(simp<;>omega)) _)
 go_enter Tryz.func72,Tryz.ntmps72
 go_wp2_with fail
 refine (refract_any s t a b _).mono ?_;rintro e w1 ⟨⟨⟨⟨d0,d1,d2,d3,d4,d5⟩,p,q,u,v,ee⟩,rfl,HR⟩,hb⟩;have I1:=I0.call hb;clear hb;have HQ:=Lib.hid HR;clear HR;unfold retF;dsimp only;have r0_0_1:=I1.r0_0;have r0_1_1:=I1.r0_1;have r0_2_1:=I1.r0_2;have r0_3_1:=I1.r0_3;have r0_4_1:=I1.r0_4;have r0_5_1:=I1.r0_5;have r1_0_1:=I1.r1_0;have r1_1_1:=I1.r1_1;have r1_2_1:=I1.r1_2;have r1_3_1:=I1.r1_3;have r1_4_1:=I1.r1_4;have r1_5_1:=I1.r1_5;have r2_0_1:=I1.r2_0;have r2_1_1:=I1.r2_1;have v3_0_1:=I1.v3_0;have f3_0_1:=I1.f3_0;have v3_1_1:=I1.v3_1;have f3_1_1:=I1.f3_1;have v3_2_1:=I1.v3_2;have f3_2_1:=I1.f3_2;have v3_3_1:=I1.v3_3;have f3_3_1:=I1.f3_3;have v3_4_1:=I1.v3_4;have f3_4_1:=I1.f3_4;have v3_5_1:=I1.v3_5;have f3_5_1:=I1.f3_5;have v4_0_1:=I1.v4_0;have f4_0_1:=I1.f4_0;have v4_1_1:=I1.v4_1;have f4_1_1:=I1.f4_1;have v5_0_1:=I1.v5_0;have f5_0_1:=I1.f5_0;have v5_1_1:=I1.v5_1;have f5_1_1:=I1.f5_1;have sz_1:=I1.size
 by_cases hE:ee=0
 ·subst hE
  go_wp2_with fail
  go_region_held3 (fun w'=>w'.cell? ⟨w.heap.size+1+1+1,0,none⟩=some (.int .i64 d0)∧w'.cell? ⟨w.heap.size+1+1+1,1,none⟩=some (.int .i64 d1)∧w'.cell? ⟨w.heap.size+1+1+1,2,none⟩=some (.int .i64 d2)∧w'.cell? ⟨w.heap.size+1+1+1,3,none⟩=some (.int .i64 d3)∧w'.cell? ⟨w.heap.size+1+1+1,4,none⟩=some (.int .i64 d4)∧w'.cell? ⟨w.heap.size+1+1+1,5,none⟩=some (.int .i64 d5)∧w'.cell? ⟨w.heap.size+1+1+1+1,0,none⟩=some (.int .i64 p)∧w'.cell? ⟨w.heap.size+1+1+1+1,1,none⟩=some (.int .i64 q)∧w'.cell? ⟨w.heap.size+1+1+1+1+1,0,none⟩=some (.int .i64 u)∧w'.cell? ⟨w.heap.size+1+1+1+1+1,1,none⟩=some (.int .i64 v)) (with_reducible first|exact (((I1.set3 d0 d1 d2 d3 d4 d5).set4 p q).set5 u v).drew.res|exact ((((I1.set3 d0 d1 d2 d3 d4 d5).set4 p q).set5 u v).set3 (d0) (d1) (d2) (d3) (d4) (d5)).drew.res|exact (((((I1.set3 d0 d1 d2 d3 d4 d5).set4 p q).set5 u v).set3 (d0) (d1) (d2) (d3) (d4) (d5)).set4 (p) (q)).drew.res|exact ((((((I1.set3 d0 d1 d2 d3 d4 d5).set4 p q).set5 u v).set3 (d0) (d1) (d2) (d3) (d4) (d5)).set4 (p) (q)).set5 (u) (v)).drew.res)
   (fail)
  all_goals go_wp2_with fail
  have K:=((((((I1.set3 d0 d1 d2 d3 d4 d5).set4 p q).set5 u v).set3 d0 d1 d2 d3 d4 d5).set4 p q).set5 u v).drew.res;have KB:=((((((I1.set3 d0 d1 d2 d3 d4 d5).set4 p q).set5 u v).set3 d0 d1 d2 d3 d4 d5).set4 p q).set5 u v).drew.below;revert K KB;generalize ((((((((((((((((((((w1.setCell ⟨w.heap.size+1+1+1,0,none⟩ (.int .i64 d0)).setCell ⟨w.heap.size+1+1+1,1,none⟩ (.int .i64 d1)).setCell ⟨w.heap.size+1+1+1,2,none⟩ (.int .i64 d2)).setCell ⟨w.heap.size+1+1+1,3,none⟩ (.int .i64 d3)).setCell ⟨w.heap.size+1+1+1,4,none⟩ (.int .i64 d4)).setCell ⟨w.heap.size+1+1+1,5,none⟩ (.int .i64 d5)).setCell ⟨w.heap.size+1+1+1+1,0,none⟩ (.int .i64 p)).setCell ⟨w.heap.size+1+1+1+1,1,none⟩ (.int .i64 q)).setCell ⟨w.heap.size+1+1+1+1+1,0,none⟩ (.int .i64 u)).setCell ⟨w.heap.size+1+1+1+1+1,1,none⟩ (.int .i64 v)).setCell ⟨w.heap.size+1+1+1,0,none⟩ (.int .i64 d0)).setCell ⟨w.heap.size+1+1+1,1,none⟩ (.int .i64 d1)).setCell ⟨w.heap.size+1+1+1,2,none⟩ (.int .i64 d2)).setCell ⟨w.heap.size+1+1+1,3,none⟩ (.int .i64 d3)).setCell ⟨w.heap.size+1+1+1,4,none⟩ (.int .i64 d4)).setCell ⟨w.heap.size+1+1+1,5,none⟩ (.int .i64 d5)).setCell ⟨w.heap.size+1+1+1+1,0,none⟩ (.int .i64 p)).setCell ⟨w.heap.size+1+1+1+1,1,none⟩ (.int .i64 q)).setCell ⟨w.heap.size+1+1+1+1+1,0,none⟩ (.int .i64 u)).setCell ⟨w.heap.size+1+1+1+1+1,1,none⟩ (.int .i64 v)).drew=X;intro K KB;obtain ⟨kk0,kk1,kk2,kk3,kk4,kk5,kk6,kk7,kk8,kk9⟩:=K;exact bodyPost_ret (v:=.tuple #[dv ⟨d0,d1,d2,d3,d4,d5⟩,iv p q,iv u v,.int .i64 0]) (by simp [results,Tryz.results72,go_sem,kk0,kk1,kk2,kk3,kk4,kk5,kk6,kk7,kk8,kk9]) rfl ⟨by rw [←HQ.out];rfl,KB⟩
 ·have hE':(ee == 0)=false:=by simpa using hE
  go_wp2_with fail
  have K:=((((((I1.set3 d0 d1 d2 d3 d4 d5).set4 p q).set5 u v).set3 0 0 0 0 0 0).set4 0 0).set5 0 0).res;have KB:=((((((I1.set3 d0 d1 d2 d3 d4 d5).set4 p q).set5 u v).set3 0 0 0 0 0 0).set4 0 0).set5 0 0).below;revert K KB;generalize ((((((((((((((((((((w1.setCell ⟨w.heap.size+1+1+1,0,none⟩ (.int .i64 d0)).setCell ⟨w.heap.size+1+1+1,1,none⟩ (.int .i64 d1)).setCell ⟨w.heap.size+1+1+1,2,none⟩ (.int .i64 d2)).setCell ⟨w.heap.size+1+1+1,3,none⟩ (.int .i64 d3)).setCell ⟨w.heap.size+1+1+1,4,none⟩ (.int .i64 d4)).setCell ⟨w.heap.size+1+1+1,5,none⟩ (.int .i64 d5)).setCell ⟨w.heap.size+1+1+1+1,0,none⟩ (.int .i64 p)).setCell ⟨w.heap.size+1+1+1+1,1,none⟩ (.int .i64 q)).setCell ⟨w.heap.size+1+1+1+1+1,0,none⟩ (.int .i64 u)).setCell ⟨w.heap.size+1+1+1+1+1,1,none⟩ (.int .i64 v)).setCell ⟨w.heap.size+1+1+1,0,none⟩ (.int .i64 0)).setCell ⟨w.heap.size+1+1+1,1,none⟩ (.int .i64 0)).setCell ⟨w.heap.size+1+1+1,2,none⟩ (.int .i64 0)).setCell ⟨w.heap.size+1+1+1,3,none⟩ (.int .i64 0)).setCell ⟨w.heap.size+1+1+1,4,none⟩ (.int .i64 0)).setCell ⟨w.heap.size+1+1+1,5,none⟩ (.int .i64 0)).setCell ⟨w.heap.size+1+1+1+1,0,none⟩ (.int .i64 0)).setCell ⟨w.heap.size+1+1+1+1,1,none⟩ (.int .i64 0)).setCell ⟨w.heap.size+1+1+1+1+1,0,none⟩ (.int .i64 0)).setCell ⟨w.heap.size+1+1+1+1+1,1,none⟩ (.int .i64 0))=X;intro K KB;obtain ⟨kk0,kk1,kk2,kk3,kk4,kk5,kk6,kk7,kk8,kk9⟩:=K;exact bodyPost_ret (v:=.tuple #[dv ⟨0,0,0,0,0,0⟩,iv 0 0,iv 0 0,.int .i64 ee]) (by simp [results,Tryz.results72,go_sem,kk0,kk1,kk2,kk3,kk4,kk5,kk6,kk7,kk8,kk9]) rfl ⟨by rw [←HQ.out,show cleanF ⟨⟨d0,d1,d2,d3,d4,d5⟩,p,q,u,v,ee⟩=failF ee from if_neg hE];rfl,KB⟩
end Go.Proofs.YtiecdgcdcpmgaaaGreat.Iv

/- The example's numbers. -/
namespace Go.Proofs.YtiecdgcdcpmgaaaGreat.Iv
abbrev upD:D:=⟨0,0,0,0,16777216,16777216⟩
end Go.Proofs.YtiecdgcdcpmgaaaGreat.Iv

/- The example holds. -/
namespace Go.Proofs.YtiecdgcdcpmgaaaGreat.Iv
open Go.RowKit
structure Z6 (W:World) (b:Nat):Prop where
 z0:W.cell? ⟨b,0,none⟩=some (.int .i64 0)
 f0:W.frozen? ⟨b,0,none⟩=false
 z1:W.cell? ⟨b,1,none⟩=some (.int .i64 0)
 f1:W.frozen? ⟨b,1,none⟩=false
 z2:W.cell? ⟨b,2,none⟩=some (.int .i64 0)
 f2:W.frozen? ⟨b,2,none⟩=false
 z3:W.cell? ⟨b,3,none⟩=some (.int .i64 0)
 f3:W.frozen? ⟨b,3,none⟩=false
 z4:W.cell? ⟨b,4,none⟩=some (.int .i64 0)
 f4:W.frozen? ⟨b,4,none⟩=false
 z5:W.cell? ⟨b,5,none⟩=some (.int .i64 0)
 f5:W.frozen? ⟨b,5,none⟩=false
 lt:b<W.heap.size
theorem Z6.new {W:World} {b:Nat} {t:TypeId} (hb:b=W.heap.size):Z6 (W.alloc (.cells #[.int .i64 0,.int .i64 0,.int .i64 0,.int .i64 0,.int .i64 0,.int .i64 0] t)) b:=by
 subst hb;constructor<;>simp [go_sem]
theorem Z6.kept {W W':World} {b:Nat} (h:Z6 W b) (hb:Below W.heap.size W W'):Z6 W' b:=
 ⟨(hb.cell (p:=⟨b,0,none⟩) h.lt).trans h.z0,(hb.frozen (p:=⟨b,0,none⟩) h.lt).trans h.f0,(hb.cell (p:=⟨b,1,none⟩) h.lt).trans h.z1,(hb.frozen (p:=⟨b,1,none⟩) h.lt).trans h.f1,(hb.cell (p:=⟨b,2,none⟩) h.lt).trans h.z2,(hb.frozen (p:=⟨b,2,none⟩) h.lt).trans h.f2,(hb.cell (p:=⟨b,3,none⟩) h.lt).trans h.z3,(hb.frozen (p:=⟨b,3,none⟩) h.lt).trans h.f3,(hb.cell (p:=⟨b,4,none⟩) h.lt).trans h.z4,(hb.frozen (p:=⟨b,4,none⟩) h.lt).trans h.f4,(hb.cell (p:=⟨b,5,none⟩) h.lt).trans h.z5,(hb.frozen (p:=⟨b,5,none⟩) h.lt).trans h.f5,Nat.lt_of_lt_of_le h.lt hb.size⟩
theorem Z6.fin {W:World} {b:Nat} (h:Z6 W b) (p q r s t u:Value):At ((((((W.setCell ⟨b,0,none⟩ p).setCell ⟨b,1,none⟩ q).setCell ⟨b,2,none⟩ r).setCell ⟨b,3,none⟩ s).setCell ⟨b,4,none⟩ t).setCell ⟨b,5,none⟩ u) b [p,q,r,s,t,u]:=by
 have z0:=h.z0;have z1:=h.z1;have z2:=h.z2;have z3:=h.z3;have z4:=h.z4;have z5:=h.z5;have lt:=h.lt;refine ⟨by simpa using lt,fun j v hv=>?_⟩;rcases j with _|_|_|_|_|_|j
 all_goals (simp at hv)
 all_goals (subst hv;simp [go_sem, *])
theorem Z6.alc {W:World} {b:Nat} (h:Z6 W b) (o:Obj):Z6 (W.alloc o) b:=h.kept ((Below.refl _ _).alloc (Nat.le_refl _) o)
theorem Z6.drew {W:World} {b:Nat} (h:Z6 W b):Z6 W.drew b:=h.kept (Below.refl _ _).drew
theorem Zn.alc {W:World} {b:Nat} (h:Zn W b) (o:Obj):Zn (W.alloc o) b:=h.kept ((Below.refl _ _).alloc (Nat.le_refl _) o)
theorem Zn.drew {W:World} {b:Nat} (h:Zn W b):Zn W.drew b:=h.kept (Below.refl _ _).drew
structure Ga (w0 W:World) (b1:Nat):Prop where
 T:At W b1 [.int .i64 33554432,.int .i64 33554432]
 ge:w0.heap.size≤b1
 below:Below w0.heap.size w0 W
theorem Ga.call {w0 W W':World} {b1:Nat} (h:Ga w0 W b1) (hb:Below W.heap.size W W'):Ga w0 W' b1:=⟨h.T.kept hb,h.ge,h.below.trans (hb.mono (by have:=h.T.1;have:=h.ge;omega))⟩
theorem Ga.alc {w0 W:World} {b1:Nat} (h:Ga w0 W b1) (o:Obj):Ga w0 (W.alloc o) b1:=h.call ((Below.refl _ _).alloc (Nat.le_refl _) o)
theorem Ga.drew {w0 W:World} {b1:Nat} (h:Ga w0 W b1):Ga w0 W.drew b1:=h.call (Below.refl _ _).drew
theorem Ga.put {w0 W:World} {b1 d i:Nat} {u:Value} (h:Ga w0 W b1) (lt:b1<d):Ga w0 (W.setCell ⟨d,i,none⟩ u) b1:=⟨h.T.set (Nat.ne_of_lt lt),h.ge,h.below.setCell (by have:=h.ge;dsimp only;omega) _⟩
structure S3 (b1:Nat) (w0 w:World) (l0 l1 l2 l3 l4 l5 l6 l7 l8 l9 l10 l11 l12 l13 l14 l15:Bool) (v0 v1 v2 v3 v4 v5 v6 v7 v8 v9 v10 v11 v15:Value) (b9 b10 b11:Nat):Prop where
 g:Ga w0 w b1
 e0:l0=true→v0=(dv upD)
 e1:l1=true→v1=(dv upD)
 e2:l2=true→v2=iv 33554432 33554432
 e3:l3=true→v3 = .tuple #[dv upD,(iv 16777216 16777216),(iv 16777216 16777216),.int .i64 0]
 e4:l4=true→v4 = .tuple #[dv upD,(iv 16777216 16777216),(iv 16777216 16777216),.int .i64 0]
 e5:l5=true→v5=dv upD
 e6:l6=true→v6=(iv 16777216 16777216)
 e7:l7=true→v7=(iv 16777216 16777216)
 e8:l8=true→v8 = .int .i64 0
 e9:l9=true→v9 = .pointer (some ⟨b9,0,none⟩)
 e10:l10=true→v10 = .pointer (some ⟨b10,0,none⟩)
 e11:l11=true→v11 = .pointer (some ⟨b11,0,none⟩)
 e15:l15=true→v15 = .int .i64 0
 g9:l9=true→b1+1≤b9
 t9:l9=true→b9<w.heap.size
 o9:l12=true→l9=true
 z9:l9=true→l12=false→Bx w b9 [.int .i64 0,.int .i64 0,.int .i64 0,.int .i64 0,.int .i64 0,.int .i64 0]
 s9:l12=true→Bx w b9 [.int .i64 0,.int .i64 0,.int .i64 0,.int .i64 0,.int .i64 16777216,.int .i64 16777216]
 g10:l10=true→b1+1≤b10
 t10:l10=true→b10<w.heap.size
 o10:l13=true→l10=true
 z10:l10=true→l13=false→Bx w b10 [.int .i64 0,.int .i64 0]
 s10:l13=true→Bx w b10 [.int .i64 16777216,.int .i64 16777216]
 g11:l11=true→b1+1≤b11
 t11:l11=true→b11<w.heap.size
 o11:l14=true→l11=true
 z11:l11=true→l14=false→Bx w b11 [.int .i64 0,.int .i64 0]
 s11:l14=true→Bx w b11 [.int .i64 16777216,.int .i64 16777216]
 d9_10:l9=true→l10=true→¬(b9=b10)
 d9_11:l9=true→l11=true→¬(b9=b11)
 d10_11:l10=true→l11=true→¬(b10=b11)
theorem S3.kept {b1:Nat} {w0 w:World} {l0 l1 l2 l3 l4 l5 l6 l7 l8 l9 l10 l11 l12 l13 l14 l15:Bool} {v0 v1 v2 v3 v4 v5 v6 v7 v8 v9 v10 v11 v15:Value} {b9 b10 b11:Nat} {w':World} (h:S3 b1 w0 w l0 l1 l2 l3 l4 l5 l6 l7 l8 l9 l10 l11 l12 l13 l14 l15 v0 v1 v2 v3 v4 v5 v6 v7 v8 v9 v10 v11 v15 b9 b10 b11) (hb:Below w.heap.size w w'):S3 b1 w0 w' l0 l1 l2 l3 l4 l5 l6 l7 l8 l9 l10 l11 l12 l13 l14 l15 v0 v1 v2 v3 v4 v5 v6 v7 v8 v9 v10 v11 v15 b9 b10 b11:=
 {h with g:=h.g.call hb,t9:=fun p=>Nat.lt_of_lt_of_le (h.t9 p) hb.size,z9:=fun p q=>(h.z9 p q).kept hb,s9:=fun p=>(h.s9 p).kept hb,t10:=fun p=>Nat.lt_of_lt_of_le (h.t10 p) hb.size,z10:=fun p q=>(h.z10 p q).kept hb,s10:=fun p=>(h.s10 p).kept hb,t11:=fun p=>Nat.lt_of_lt_of_le (h.t11 p) hb.size,z11:=fun p q=>(h.z11 p q).kept hb,s11:=fun p=>(h.s11 p).kept hb}
end Go.Proofs.YtiecdgcdcpmgaaaGreat.Iv

/- RefractionStraight: with the ratio 1, the box of the refracted ray contains that of the ray. -/
namespace Go.Proofs.YtiecdgcdcpmgaaaGreat.Iv
open Go.RowKit
structure S7 (s t:D) (d0 d1 d2 d3 d4 d5 p q u v er:Int) (b0 b1 n0:Nat) (w0 w:World) (l0 l1 l2 l3 l4 l5 l6 l7 l8 l9 l10 l11 l12 l13 l14 l15:Bool) (v0 v1 v2 v3 v4 v5 v6 v7 v8 v9 v10 v11 v15:Value) (b9 b10 b11:Nat):Prop where
 g:Ho w0 w n0 [(b1,[.int .i64 t.a,.int .i64 t.b,.int .i64 t.c,.int .i64 t.d,.int .i64 t.e,.int .i64 t.f]),(b0,[.int .i64 s.a,.int .i64 s.b,.int .i64 s.c,.int .i64 s.d,.int .i64 s.e,.int .i64 s.f])]
 e0:l0=true→v0=dv s
 e1:l1=true→v1=dv t
 e2:l2=true→v2=(iv 16777216 16777216)
 e3:l3=true→v3 = .tuple #[dv ⟨d0,d1,d2,d3,d4,d5⟩,(iv p q),(iv u v),.int .i64 er]
 e4:l4=true→v4 = .tuple #[dv ⟨d0,d1,d2,d3,d4,d5⟩,(iv p q),(iv u v),.int .i64 er]
 e5:l5=true→v5=dv ⟨d0,d1,d2,d3,d4,d5⟩
 e6:l6=true→v6=(iv p q)
 e7:l7=true→v7=(iv u v)
 e8:l8=true→v8 = .int .i64 er
 e9:l9=true→v9 = .pointer (some ⟨b9,0,none⟩)
 e10:l10=true→v10 = .pointer (some ⟨b10,0,none⟩)
 e11:l11=true→v11 = .pointer (some ⟨b11,0,none⟩)
 e15:l15=true→v15 = .int .i64 er
 g9:l9=true→n0≤b9
 t9:l9=true→b9<w.heap.size
 o9:l12=true→l9=true
 z9:l9=true→l12=false→Bx w b9 [.int .i64 0,.int .i64 0,.int .i64 0,.int .i64 0,.int .i64 0,.int .i64 0]
 s9:l12=true→Bx w b9 [.int .i64 d0,.int .i64 d1,.int .i64 d2,.int .i64 d3,.int .i64 d4,.int .i64 d5]
 g10:l10=true→n0≤b10
 t10:l10=true→b10<w.heap.size
 o10:l13=true→l10=true
 z10:l10=true→l13=false→Bx w b10 [.int .i64 0,.int .i64 0]
 s10:l13=true→Bx w b10 [.int .i64 p,.int .i64 q]
 g11:l11=true→n0≤b11
 t11:l11=true→b11<w.heap.size
 o11:l14=true→l11=true
 z11:l11=true→l14=false→Bx w b11 [.int .i64 0,.int .i64 0]
 s11:l14=true→Bx w b11 [.int .i64 u,.int .i64 v]
 d9_10:l9=true→l10=true→¬(b9=b10)
 d9_11:l9=true→l11=true→¬(b9=b11)
 d10_11:l10=true→l11=true→¬(b10=b11)
theorem S7.kept {s t:D} {d0 d1 d2 d3 d4 d5 p q u v er:Int} {b0 b1 n0:Nat} {w0 w:World} {l0 l1 l2 l3 l4 l5 l6 l7 l8 l9 l10 l11 l12 l13 l14 l15:Bool} {v0 v1 v2 v3 v4 v5 v6 v7 v8 v9 v10 v11 v15:Value} {b9 b10 b11:Nat} {w':World} (h:S7 s t d0 d1 d2 d3 d4 d5 p q u v er b0 b1 n0 w0 w l0 l1 l2 l3 l4 l5 l6 l7 l8 l9 l10 l11 l12 l13 l14 l15 v0 v1 v2 v3 v4 v5 v6 v7 v8 v9 v10 v11 v15 b9 b10 b11) (hb:Below w.heap.size w w'):S7 s t d0 d1 d2 d3 d4 d5 p q u v er b0 b1 n0 w0 w' l0 l1 l2 l3 l4 l5 l6 l7 l8 l9 l10 l11 l12 l13 l14 l15 v0 v1 v2 v3 v4 v5 v6 v7 v8 v9 v10 v11 v15 b9 b10 b11:=
 {h with g:=h.g.call hb,t9:=fun p=>Nat.lt_of_lt_of_le (h.t9 p) hb.size,z9:=fun p q=>(h.z9 p q).kept hb,s9:=fun p=>(h.s9 p).kept hb,t10:=fun p=>Nat.lt_of_lt_of_le (h.t10 p) hb.size,z10:=fun p q=>(h.z10 p q).kept hb,s10:=fun p=>(h.s10 p).kept hb,t11:=fun p=>Nat.lt_of_lt_of_le (h.t11 p) hb.size,z11:=fun p q=>(h.z11 p q).kept hb,s11:=fun p=>(h.s11 p).kept hb}
end Go.Proofs.YtiecdgcdcpmgaaaGreat.Iv

/- Contracts of interval.Split and refine.Axis. -/
namespace Go.Proofs.YtiecdgcdcpmgaaaGreat.Iv
open Go.RowKit
structure R2 where
 a:Int
 b:Int
 c:Int
 d:Int
 e:Int
attribute [local go_sem] Oper.semAt_some idx4_0 idx4_1 idx4_2 idx4_3
theorem bdrewN' {B:Nat} {a w:World} (h:Below B a w) (n:Nat):Below B a (w.drewN n):=h.trans ⟨rfl,rfl,rfl,Nat.le_refl _,fun _ _=>rfl⟩
end Go.Proofs.YtiecdgcdcpmgaaaGreat.Iv
