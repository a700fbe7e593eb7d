/- Texts PRd4. -/
import Derived.Test.YtiecdgcdcpmgaaaGreatM06
import Derived.Test.YtiecdgcdcpmgaaaGreatM20

/- Contract of the reference's operation with boxes: dot. -/
namespace Go.Proofs.YtiecdgcdcpmgaaaGreat.Iv
open Go.RowKit
structure Stdot (s t:D) (p0 q0 p1 q1 p2 q2 E1 E2 E3:Int) (nb c:Nat) (w0 w:World) (l0 l1 l2 l3 l4 l5 l6 l7 l8 l9 l10 l11 l12 l13 l14 l15 l16 l17 l18 l19 l20 l21 l22 l23:Bool) (v0 v1 v2 v3 v4 v5 v6 v7 v8 v9 v10 v11 v12 v13 v14 v15 v16 v17 v18 v19 v20:Value) (b18 b19 b20:Nat):Prop where
 g:Ho w0 w (nb+1+1) [(nb+1,[.int .i64 t.a,.int .i64 t.b,.int .i64 t.c,.int .i64 t.d,.int .i64 t.e,.int .i64 t.f]),(nb,[.int .i64 s.a,.int .i64 s.b,.int .i64 s.c,.int .i64 s.d,.int .i64 s.e,.int .i64 s.f])]
 sz:(c+1)≤w.heap.size
 mn:(nb+1+1)≤(c+1)
 u0:Bx w (nb+1+1) [.int .i64 0,.int .i64 0]
 un0:(nb+1+1)<(c+1)
 uc0:¬((nb+1+1)=c)
 mc:(nb+1+1)≤c
 cn:c<(c+1)
 q11:l11=true→l5=true
 q17:l17=true→l11=true
 k0:l5=false→Ce w c 0
 k1:l5=true→l11=false→Ce w c E1
 k2:l11=true→l17=false→Ce w c E2
 k3:l17=true→Ce w c E3
 e0:l0=true→v0 = .pointer (some ⟨c,0,none⟩)
 e1:l1=true→v1 = .pointer (some ⟨nb,0,none⟩)
 e2:l2=true→v2=(iv s.a s.b)
 e3:l3=true→v3 = .pointer (some ⟨nb+1,0,none⟩)
 e4:l4=true→v4=(iv t.a t.b)
 e5:l5=true→v5=(iv p0 q0)
 e6:l6=true→v6 = .pointer (some ⟨c,0,none⟩)
 e7:l7=true→v7 = .pointer (some ⟨nb,2,none⟩)
 e8:l8=true→v8=(iv s.c s.d)
 e9:l9=true→v9 = .pointer (some ⟨nb+1,2,none⟩)
 e10:l10=true→v10=(iv t.c t.d)
 e11:l11=true→v11=(iv p1 q1)
 e12:l12=true→v12 = .pointer (some ⟨c,0,none⟩)
 e13:l13=true→v13 = .pointer (some ⟨nb,4,none⟩)
 e14:l14=true→v14=(iv s.e s.f)
 e15:l15=true→v15 = .pointer (some ⟨nb+1,4,none⟩)
 e16:l16=true→v16=(iv t.e t.f)
 e17:l17=true→v17=(iv p2 q2)
 e18:l18=true→v18 = .pointer (some ⟨b18,0,none⟩)
 e19:l19=true→v19 = .pointer (some ⟨b19,0,none⟩)
 e20:l20=true→v20 = .pointer (some ⟨b20,0,none⟩)
 g18:l18=true→(c+1)≤b18
 t18:l18=true→b18<w.heap.size
 o18:l21=true→l18=true
 z18:l18=true→l21=false→Bx w b18 [.int .i64 0,.int .i64 0]
 s18:l21=true→Bx w b18 [.int .i64 p0,.int .i64 q0]
 g19:l19=true→(c+1)≤b19
 t19:l19=true→b19<w.heap.size
 o19:l22=true→l19=true
 z19:l19=true→l22=false→Bx w b19 [.int .i64 0,.int .i64 0]
 s19:l22=true→Bx w b19 [.int .i64 p1,.int .i64 q1]
 g20:l20=true→(c+1)≤b20
 t20:l20=true→b20<w.heap.size
 o20:l23=true→l20=true
 z20:l20=true→l23=false→Bx w b20 [.int .i64 0,.int .i64 0]
 s20:l23=true→Bx w b20 [.int .i64 p2,.int .i64 q2]
 d18_19:l18=true→l19=true→¬(b18=b19)
 d18_20:l18=true→l20=true→¬(b18=b20)
 d19_20:l19=true→l20=true→¬(b19=b20)
theorem Stdot.kept {s t:D} {p0 q0 p1 q1 p2 q2 E1 E2 E3:Int} {nb c:Nat} {w0 w:World} {l0 l1 l2 l3 l4 l5 l6 l7 l8 l9 l10 l11 l12 l13 l14 l15 l16 l17 l18 l19 l20 l21 l22 l23:Bool} {v0 v1 v2 v3 v4 v5 v6 v7 v8 v9 v10 v11 v12 v13 v14 v15 v16 v17 v18 v19 v20:Value} {b18 b19 b20:Nat} {w':World} (h:Stdot s t p0 q0 p1 q1 p2 q2 E1 E2 E3 nb c w0 w l0 l1 l2 l3 l4 l5 l6 l7 l8 l9 l10 l11 l12 l13 l14 l15 l16 l17 l18 l19 l20 l21 l22 l23 v0 v1 v2 v3 v4 v5 v6 v7 v8 v9 v10 v11 v12 v13 v14 v15 v16 v17 v18 v19 v20 b18 b19 b20) (hb:Below w.heap.size w w'):Stdot s t p0 q0 p1 q1 p2 q2 E1 E2 E3 nb c w0 w' l0 l1 l2 l3 l4 l5 l6 l7 l8 l9 l10 l11 l12 l13 l14 l15 l16 l17 l18 l19 l20 l21 l22 l23 v0 v1 v2 v3 v4 v5 v6 v7 v8 v9 v10 v11 v12 v13 v14 v15 v16 v17 v18 v19 v20 b18 b19 b20:=
 {h with g:=h.g.call hb,sz:=Nat.le_trans h.sz hb.size,u0:=h.u0.kept hb,k0:=fun p0=>(h.k0 p0).kept hb,k1:=fun p0 p1=>(h.k1 p0 p1).kept hb,k2:=fun p0 p1=>(h.k2 p0 p1).kept hb,k3:=fun p0=>(h.k3 p0).kept hb,t18:=fun p=>Nat.lt_of_lt_of_le (h.t18 p) hb.size,z18:=fun p q=>(h.z18 p q).kept hb,s18:=fun p=>(h.s18 p).kept hb,t19:=fun p=>Nat.lt_of_lt_of_le (h.t19 p) hb.size,z19:=fun p q=>(h.z19 p q).kept hb,s19:=fun p=>(h.s19 p).kept hb,t20:=fun p=>Nat.lt_of_lt_of_le (h.t20 p) hb.size,z20:=fun p q=>(h.z20 p q).kept hb,s20:=fun p=>(h.s20 p).kept hb}
def Stdot.I (s t:D) (p0 q0 p1 q1 p2 q2 E1 E2 E3:Int) (nb c:Nat) (w0:World):Act→Array Bool→Act→World→Prop:=fun aO LX aX w=>∃(l0 l1 l2 l3 l4 l5 l6 l7 l8 l9 l10 l11 l12 l13 l14 l15 l16 l17 l18 l19 l20 l21 l22 l23:Bool) (v0 v1 v2 v3 v4 v5 v6 v7 v8 v9 v10 v11 v12 v13 v14 v15 v16 v17 v18 v19 v20:Value) (b18 b19 b20:Nat),LX=#[l0,l1,l2,l3,l4,l5,l6,l7,l8,l9,l10,l11,l12,l13,l14,l15,l16,l17,l18,l19,l20,l21,l22,l23]∧aX=(((((((((((((((((((((aO.put (some 21) v0).put (some 22) v1).put (some 23) v2).put (some 24) v3).put (some 25) v4).put (some 26) v5).put (some 27) v6).put (some 28) v7).put (some 29) v8).put (some 30) v9).put (some 31) v10).put (some 32) v11).put (some 33) v12).put (some 34) v13).put (some 35) v14).put (some 36) v15).put (some 37) v16).put (some 38) v17).put (some 7) v18).put (some 8) v19).put (some 9) v20)∧Stdot s t p0 q0 p1 q1 p2 q2 E1 E2 E3 nb c w0 w l0 l1 l2 l3 l4 l5 l6 l7 l8 l9 l10 l11 l12 l13 l14 l15 l16 l17 l18 l19 l20 l21 l22 l23 v0 v1 v2 v3 v4 v5 v6 v7 v8 v9 v10 v11 v12 v13 v14 v15 v16 v17 v18 v19 v20 b18 b19 b20
set_option maxRecDepth 100000 in
set_option maxHeartbeats 8000000 in
theorem rfdot_any (s t:D) (w:World) :
  Calls Tryz.prog 18 #[dv s,dv t] w fun e w'=>e=retR (dotR s t)∧Below w.heap.size w w':=by
 cases hs:vD s
 ·rw [show dotR s t=⟨0,0,1⟩ from if_neg (by rw [hs];simp)];have VS:=Lib.hid hs;clear hs;have H0:=(((Ho.nil w).bx [.int .i64 s.a,.int .i64 s.b,.int .i64 s.c,.int .i64 s.d,.int .i64 s.e,.int .i64 s.f] 57 (w.heap.size) (by simp)).bx [.int .i64 t.a,.int .i64 t.b,.int .i64 t.c,.int .i64 t.d,.int .i64 t.e,.int .i64 t.f] 57 (w.heap.size+1) (by simp))
  have o_0:Bx (((w.alloc (.cells (List.toArray [.int .i64 s.a,.int .i64 s.b,.int .i64 s.c,.int .i64 s.d,.int .i64 s.e,.int .i64 s.f]) 57)).alloc (.cells (List.toArray [.int .i64 t.a,.int .i64 t.b,.int .i64 t.c,.int .i64 t.d,.int .i64 t.e,.int .i64 t.f]) 57)).alloc (.cells (List.toArray [.int .i64 0,.int .i64 0]) 25)) (w.heap.size+1+1) [.int .i64 0,.int .i64 0]:=by
   (repeat (first|with_reducible exact Bx.new (by simp)|with_reducible apply Bx.put6|with_reducible apply Bx.put2|with_reducible apply Bx.put1|with_reducible refine Bx.set ?_ (by omega)|with_reducible refine Bx.alc ?_ _|with_reducible refine Bx.drew ?_))
  go_enter Tryz.func18,Tryz.ntmps18;have o_0c:=o_0.c;have o_0f:=o_0.f
  go_wp2_with fail
  refine (rdvalid_any s _).mono ?_;rintro r w1 ⟨rfl,hb⟩;rw [VS.out];have H1:Ho w w1 (w.heap.size+1+1) [(w.heap.size+1,[.int .i64 t.a,.int .i64 t.b,.int .i64 t.c,.int .i64 t.d,.int .i64 t.e,.int .i64 t.f]),(w.heap.size,[.int .i64 s.a,.int .i64 s.b,.int .i64 s.c,.int .i64 s.d,.int .i64 s.e,.int .i64 s.f])]:=Ho.call hoA hb;have o_1:=bxK o_0 hb;clear o_0c o_0f;have hs1:=H1.size;have hz1:=hb.size
  (try simp at hz1)
  clear hb;have h0_1:=(H1.at 1 rfl).c;have h1_1:=(H1.at 0 rfl).c;have o_1c:=o_1.c;have o_1f:=o_1.f;have o_1l:=o_1.lt;have zx1:=ai (zq (w.heap.size+1+1) (w1.heap.size))<|ai (zq (w.heap.size) (w1.heap.size))<|ai (zq (w.heap.size+1) (w1.heap.size))<|ai (zp (w.heap.size+1+1) (w.heap.size))<|zp (w.heap.size+1+1) (w.heap.size+1)
  go_wp2_with fail
  refine bodyPost_box (b:=w.heap.size+1+1) (cs:=[.int .i64 0,.int .i64 0]) (v:=.tuple #[iv 0 0,.int .i64 1]) (by
   (repeat (first|with_reducible exact o_1|with_reducible exact Bx.new (by simp)|with_reducible apply Bx.put6|with_reducible apply Bx.put2|with_reducible apply Bx.put1|with_reducible refine Bx.set ?_ (by omega)|with_reducible refine Bx.alc ?_ _|with_reducible refine Bx.drew ?_))) (fun X hX=>by simp [results,Tryz.results18,go_sem,hX]) rfl ⟨rfl,by
   refine Ho.below (n:=w.heap.size+1+1) (l:=[(w.heap.size+1,[.int .i64 t.a,.int .i64 t.b,.int .i64 t.c,.int .i64 t.d,.int .i64 t.e,.int .i64 t.f]),(w.heap.size,[.int .i64 s.a,.int .i64 s.b,.int .i64 s.c,.int .i64 s.d,.int .i64 s.e,.int .i64 s.f])]) ?_
   exact hoA⟩
 ·cases ht:vD t
  ·rw [show dotR s t=⟨0,0,1⟩ from if_neg (by rw [ht];simp)];have VS:=Lib.hid hs;have VT:=Lib.hid ht;clear hs ht;have H0:=(((Ho.nil w).bx [.int .i64 s.a,.int .i64 s.b,.int .i64 s.c,.int .i64 s.d,.int .i64 s.e,.int .i64 s.f] 57 (w.heap.size) (by simp)).bx [.int .i64 t.a,.int .i64 t.b,.int .i64 t.c,.int .i64 t.d,.int .i64 t.e,.int .i64 t.f] 57 (w.heap.size+1) (by simp))
   have o_0:Bx (((w.alloc (.cells (List.toArray [.int .i64 s.a,.int .i64 s.b,.int .i64 s.c,.int .i64 s.d,.int .i64 s.e,.int .i64 s.f]) 57)).alloc (.cells (List.toArray [.int .i64 t.a,.int .i64 t.b,.int .i64 t.c,.int .i64 t.d,.int .i64 t.e,.int .i64 t.f]) 57)).alloc (.cells (List.toArray [.int .i64 0,.int .i64 0]) 25)) (w.heap.size+1+1) [.int .i64 0,.int .i64 0]:=by
    (repeat (first|with_reducible exact Bx.new (by simp)|with_reducible apply Bx.put6|with_reducible apply Bx.put2|with_reducible apply Bx.put1|with_reducible refine Bx.set ?_ (by omega)|with_reducible refine Bx.alc ?_ _|with_reducible refine Bx.drew ?_))
   go_enter Tryz.func18,Tryz.ntmps18;have o_0c:=o_0.c;have o_0f:=o_0.f
   go_wp2_with fail
   refine (rdvalid_any s _).mono ?_;rintro r w1 ⟨rfl,hb⟩;rw [VS.out];have H1:Ho w w1 (w.heap.size+1+1) [(w.heap.size+1,[.int .i64 t.a,.int .i64 t.b,.int .i64 t.c,.int .i64 t.d,.int .i64 t.e,.int .i64 t.f]),(w.heap.size,[.int .i64 s.a,.int .i64 s.b,.int .i64 s.c,.int .i64 s.d,.int .i64 s.e,.int .i64 s.f])]:=Ho.call hoA hb;have o_1:=bxK o_0 hb;clear o_0c o_0f;have hs1:=H1.size;have hz1:=hb.size
   (try simp at hz1)
   clear hb;have h0_1:=(H1.at 1 rfl).c;have h1_1:=(H1.at 0 rfl).c;have o_1c:=o_1.c;have o_1f:=o_1.f;have o_1l:=o_1.lt;have zx1:=ai (zq (w.heap.size+1+1) (w1.heap.size))<|ai (zq (w.heap.size) (w1.heap.size))<|ai (zq (w.heap.size+1) (w1.heap.size))<|ai (zp (w.heap.size+1+1) (w.heap.size))<|zp (w.heap.size+1+1) (w.heap.size+1)
   go_wp2_with fail
   refine (rdvalid_any t _).mono ?_;rintro r w2 ⟨rfl,hb⟩;rw [VT.out];have H2:Ho w w2 (w.heap.size+1+1) [(w.heap.size+1,[.int .i64 t.a,.int .i64 t.b,.int .i64 t.c,.int .i64 t.d,.int .i64 t.e,.int .i64 t.f]),(w.heap.size,[.int .i64 s.a,.int .i64 s.b,.int .i64 s.c,.int .i64 s.d,.int .i64 s.e,.int .i64 s.f])]:=Ho.call hoA hb;have o_2:=bxK o_1 hb;clear h0_1 h1_1 o_1c o_1f zx1;have hs2:=H2.size;have hz2:=hb.size
   (try simp at hz2)
   clear hb;have h0_2:=(H2.at 1 rfl).c;have h1_2:=(H2.at 0 rfl).c;have o_2c:=o_2.c;have o_2f:=o_2.f;have o_2l:=o_2.lt;have zx2:=ai (zq (w.heap.size+1+1) (w2.heap.size))<|ai (zq (w.heap.size) (w2.heap.size))<|ai (zq (w.heap.size+1) (w2.heap.size))<|ai (zp (w.heap.size+1+1) (w.heap.size))<|zp (w.heap.size+1+1) (w.heap.size+1)
   go_wp2_with fail
   refine bodyPost_box (b:=w.heap.size+1+1) (cs:=[.int .i64 0,.int .i64 0]) (v:=.tuple #[iv 0 0,.int .i64 1]) (by
    (repeat (first|with_reducible exact o_2|with_reducible exact Bx.new (by simp)|with_reducible apply Bx.put6|with_reducible apply Bx.put2|with_reducible apply Bx.put1|with_reducible refine Bx.set ?_ (by omega)|with_reducible refine Bx.alc ?_ _|with_reducible refine Bx.drew ?_))) (fun X hX=>by simp [results,Tryz.results18,go_sem,hX]) rfl ⟨rfl,by
    refine Ho.below (n:=w.heap.size+1+1) (l:=[(w.heap.size+1,[.int .i64 t.a,.int .i64 t.b,.int .i64 t.c,.int .i64 t.d,.int .i64 t.e,.int .i64 t.f]),(w.heap.size,[.int .i64 s.a,.int .i64 s.b,.int .i64 s.c,.int .i64 s.d,.int .i64 s.e,.int .i64 s.f])]) ?_
    exact hoA⟩
  ·obtain ⟨⟨p0,q0,f0⟩,h0⟩:∃r:R,mulR s.a s.b t.a t.b=r:=⟨_,rfl⟩;obtain ⟨⟨p1,q1,f1⟩,h1⟩:∃r:R,mulR s.c s.d t.c t.d=r:=⟨_,rfl⟩;obtain ⟨⟨p2,q2,f2⟩,h2⟩:∃r:R,mulR s.e s.f t.e t.f=r:=⟨_,rfl⟩;obtain ⟨E1,k1⟩:∃E,keepE 0 f0=E:=⟨_,rfl⟩;obtain ⟨E2,k2⟩:∃E,keepE E1 f1=E:=⟨_,rfl⟩;obtain ⟨E3,k3⟩:∃E,keepE E2 f2=E:=⟨_,rfl⟩;obtain ⟨⟨p3,q3,f3⟩,h3⟩:∃r:R,addR p0 q0 p1 q1=r:=⟨_,rfl⟩;obtain ⟨⟨p4,q4,f4⟩,h4⟩:∃r:R,addR p3 q3 p2 q2=r:=⟨_,rfl⟩;obtain ⟨E4,k4⟩:∃E,keepE E3 f3=E:=⟨_,rfl⟩;obtain ⟨E5,k5⟩:∃E,keepE E4 f4=E:=⟨_,rfl⟩;obtain ⟨⟨x,y,ee⟩,hd⟩:∃r:R,dotR s t=r:=⟨_,rfl⟩
   have hk:onlE E5 p4 q4=⟨x,y,ee⟩:=by
    rw [←hd,dotR,if_pos ⟨hs,ht⟩,prodD,←keep_dot,h0,h1,h2];dsimp only;rw [h3];dsimp only;rw [h4];dsimp only;rw [k1,k2,k3,k4,k5]
   have HD:=Lib.hid (show retR (onlE E5 p4 q4) = .returned (.tuple #[iv x y,.int .i64 ee]) from by rw [hk]);rw [hd];clear hd hk;have X0:=Lib.hid h0;have Y1:=Lib.hid k1;have X1:=Lib.hid h1;have Y2:=Lib.hid k2;have X2:=Lib.hid h2;have Y3:=Lib.hid k3;have X3:=Lib.hid h3;have Y4:=Lib.hid k4;have X4:=Lib.hid h4;have Y5:=Lib.hid k5;clear h0 h1 h2 h3 h4 k1 k2 k3 k4 k5;have VS:=Lib.hid hs;have VT:=Lib.hid ht;clear hs ht;have H0:=(((Ho.nil w).bx [.int .i64 s.a,.int .i64 s.b,.int .i64 s.c,.int .i64 s.d,.int .i64 s.e,.int .i64 s.f] 57 (w.heap.size) (by simp)).bx [.int .i64 t.a,.int .i64 t.b,.int .i64 t.c,.int .i64 t.d,.int .i64 t.e,.int .i64 t.f] 57 (w.heap.size+1) (by simp))
   have o_0:Bx (((w.alloc (.cells (List.toArray [.int .i64 s.a,.int .i64 s.b,.int .i64 s.c,.int .i64 s.d,.int .i64 s.e,.int .i64 s.f]) 57)).alloc (.cells (List.toArray [.int .i64 t.a,.int .i64 t.b,.int .i64 t.c,.int .i64 t.d,.int .i64 t.e,.int .i64 t.f]) 57)).alloc (.cells (List.toArray [.int .i64 0,.int .i64 0]) 25)) (w.heap.size+1+1) [.int .i64 0,.int .i64 0]:=by
    (repeat (first|with_reducible exact Bx.new (by simp)|with_reducible apply Bx.put6|with_reducible apply Bx.put2|with_reducible apply Bx.put1|with_reducible refine Bx.set ?_ (by omega)|with_reducible refine Bx.alc ?_ _|with_reducible refine Bx.drew ?_))
   go_enter Tryz.func18,Tryz.ntmps18;have o_0c:=o_0.c;have o_0f:=o_0.f
   go_wp2_with fail
   refine (rdvalid_any s _).mono ?_;rintro r w1 ⟨rfl,hb⟩;rw [VS.out];have H1:Ho w w1 (w.heap.size+1+1) [(w.heap.size+1,[.int .i64 t.a,.int .i64 t.b,.int .i64 t.c,.int .i64 t.d,.int .i64 t.e,.int .i64 t.f]),(w.heap.size,[.int .i64 s.a,.int .i64 s.b,.int .i64 s.c,.int .i64 s.d,.int .i64 s.e,.int .i64 s.f])]:=Ho.call hoA hb;have o_1:=bxK o_0 hb;clear o_0c o_0f;have hs1:=H1.size;have hz1:=hb.size
   (try simp at hz1)
   clear hb;have h0_1:=(H1.at 1 rfl).c;have h1_1:=(H1.at 0 rfl).c;have o_1c:=o_1.c;have o_1f:=o_1.f;have o_1l:=o_1.lt;have zx1:=ai (zq (w.heap.size+1+1) (w1.heap.size))<|ai (zq (w.heap.size) (w1.heap.size))<|ai (zq (w.heap.size+1) (w1.heap.size))<|ai (zp (w.heap.size+1+1) (w.heap.size))<|zp (w.heap.size+1+1) (w.heap.size+1)
   go_wp2_with fail
   refine (rdvalid_any t _).mono ?_;rintro r w2 ⟨rfl,hb⟩;rw [VT.out];have H2:Ho w w2 (w.heap.size+1+1) [(w.heap.size+1,[.int .i64 t.a,.int .i64 t.b,.int .i64 t.c,.int .i64 t.d,.int .i64 t.e,.int .i64 t.f]),(w.heap.size,[.int .i64 s.a,.int .i64 s.b,.int .i64 s.c,.int .i64 s.d,.int .i64 s.e,.int .i64 s.f])]:=Ho.call hoA hb;have o_2:=bxK o_1 hb;clear h0_1 h1_1 o_1c o_1f zx1;have hs2:=H2.size;have hz2:=hb.size
   (try simp at hz2)
   clear hb;have h0_2:=(H2.at 1 rfl).c;have h1_2:=(H2.at 0 rfl).c;have o_2c:=o_2.c;have o_2f:=o_2.f;have o_2l:=o_2.lt;have zx2:=ai (zq (w.heap.size+1+1) (w2.heap.size))<|ai (zq (w.heap.size) (w2.heap.size))<|ai (zq (w.heap.size+1) (w2.heap.size))<|ai (zp (w.heap.size+1+1) (w.heap.size))<|zp (w.heap.size+1+1) (w.heap.size+1)
   go_upto_region 4 with fail
   refine region_sets (Stdot.I s t p0 q0 p1 q1 p2 q2 E1 E2 E3 w.heap.size w2.heap.size w) (by kernel_rfl) ?_ ?_ ?_
   ·refine ⟨false,false,false,false,false,false,false,false,false,false,false,false,false,false,false,false,false,false,false,false,false,false,false,false,undef,undef,undef,undef,undef,undef,undef,undef,undef,undef,undef,undef,undef,undef,undef,undef,undef,undef,undef,undef,undef,0,0,0,rfl,by simp only [Act.put,sS],?_⟩;constructor
    ·exact hoA
    ·(first|(simp;done)|(simp;omega))
    ·(omega)
    ·exact bxB
    ·(omega)
    ·(omega)
    ·(omega)
    ·(omega)
    ·(intro h;cases h)
    ·(intro h;cases h)
    ·(intro _;exact Bx.ce (by
     (repeat (first|with_reducible exact Bx.new (by simp)|with_reducible apply Bx.put6|with_reducible apply Bx.put2|with_reducible apply Bx.put1|with_reducible refine Bx.set ?_ (by omega)|with_reducible refine Bx.alc ?_ _|with_reducible refine Bx.drew ?_))))
    all_goals (intro h;cases h)
   ·intro L a' w' hI i hi;obtain ⟨l0,l1,l2,l3,l4,l5,l6,l7,l8,l9,l10,l11,l12,l13,l14,l15,l16,l17,l18,l19,l20,l21,l22,l23,v0,v1,v2,v3,v4,v5,v6,v7,v8,v9,v10,v11,v12,v13,v14,v15,v16,v17,v18,v19,v20,b18,b19,b20,rfl,rfl,h⟩:=hI;have hlt:=ready_lt hi
    match i,hi,hlt with
    |0,hi,_=>
     obtain rfl:l0=false:=rl rfl hi;clear hi hlt;have H:=Lib.hid h;clear h;refine wpOp_shut rfl (fun K hK=>?_)
     try simp only [Act.put,sS]
     go_simp;refine hK.out _ _ ?_;unfold Stdot.I;refine ⟨_,_,_,_,_,_,_,_,_,_,_,_,_,_,_,_,_,_,_,_,_,_,_,_,(.pointer (some ⟨w2.heap.size,0,none⟩)),v1,v2,v3,v4,v5,v6,v7,v8,v9,v10,v11,v12,v13,v14,v15,v16,v17,v18,v19,v20,b18,b19,b20,rfl,?_,?_⟩
     ·simp only [Act.put,sS]
     ·exact {H.out with e0:=fun _=>rfl}
    |1,hi,_=>
     obtain rfl:l1=false:=rl rfl hi;clear hi hlt;have H:=Lib.hid h;clear h;refine wpOp_shut rfl (fun K hK=>?_)
     try simp only [Act.put,sS]
     go_simp;refine hK.out _ _ ?_;unfold Stdot.I;refine ⟨_,_,_,_,_,_,_,_,_,_,_,_,_,_,_,_,_,_,_,_,_,_,_,_,v0,(.pointer (some ⟨w.heap.size,0,none⟩)),v2,v3,v4,v5,v6,v7,v8,v9,v10,v11,v12,v13,v14,v15,v16,v17,v18,v19,v20,b18,b19,b20,rfl,?_,?_⟩
     ·simp only [Act.put,sS]
     ·exact {H.out with e1:=fun _=>rfl}
    |2,hi,_=>
     obtain rfl:l2=false:=rl rfl hi;obtain rfl:l1=true:=rk rfl hi 1 .data;clear hi hlt;obtain rfl:=h.e1 rfl;have c:=(h.g.at 1 rfl).c;have H:=Lib.hid h;clear h;refine wpOp_shut rfl (fun K hK=>?_)
     try simp only [Act.put,sS]
     go_simp;refine hK.out _ _ ?_;unfold Stdot.I;refine ⟨_,_,_,_,_,_,_,_,_,_,_,_,_,_,_,_,_,_,_,_,_,_,_,_,v0,(.pointer (some ⟨w.heap.size,0,none⟩)),((iv s.a s.b)),v3,v4,v5,v6,v7,v8,v9,v10,v11,v12,v13,v14,v15,v16,v17,v18,v19,v20,b18,b19,b20,rfl,?_,?_⟩
     ·simp only [Act.put,sS]
     ·exact {H.out with e2:=fun _=>rfl}
    |3,hi,_=>
     obtain rfl:l3=false:=rl rfl hi;clear hi hlt;have H:=Lib.hid h;clear h;refine wpOp_shut rfl (fun K hK=>?_)
     try simp only [Act.put,sS]
     go_simp;refine hK.out _ _ ?_;unfold Stdot.I;refine ⟨_,_,_,_,_,_,_,_,_,_,_,_,_,_,_,_,_,_,_,_,_,_,_,_,v0,v1,v2,(.pointer (some ⟨w.heap.size+1,0,none⟩)),v4,v5,v6,v7,v8,v9,v10,v11,v12,v13,v14,v15,v16,v17,v18,v19,v20,b18,b19,b20,rfl,?_,?_⟩
     ·simp only [Act.put,sS]
     ·exact {H.out with e3:=fun _=>rfl}
    |4,hi,_=>
     obtain rfl:l4=false:=rl rfl hi;obtain rfl:l3=true:=rk rfl hi 3 .data;clear hi hlt;obtain rfl:=h.e3 rfl;have c:=(h.g.at 0 rfl).c;have H:=Lib.hid h;clear h;refine wpOp_shut rfl (fun K hK=>?_)
     try simp only [Act.put,sS]
     go_simp;refine hK.out _ _ ?_;unfold Stdot.I;refine ⟨_,_,_,_,_,_,_,_,_,_,_,_,_,_,_,_,_,_,_,_,_,_,_,_,v0,v1,v2,(.pointer (some ⟨w.heap.size+1,0,none⟩)),((iv t.a t.b)),v5,v6,v7,v8,v9,v10,v11,v12,v13,v14,v15,v16,v17,v18,v19,v20,b18,b19,b20,rfl,?_,?_⟩
     ·simp only [Act.put,sS]
     ·exact {H.out with e4:=fun _=>rfl}
    |5,hi,_=>
     obtain rfl:l5=false:=rl rfl hi;obtain rfl:l0=true:=rk rfl hi 0 .data;obtain rfl:l2=true:=rk rfl hi 2 .data;obtain rfl:l4=true:=rk rfl hi 4 .data;clear hi hlt;obtain rfl:=h.e0 rfl;obtain rfl:=h.e2 rfl;obtain rfl:=h.e4 rfl;have CK:=h.k0 rfl;have H:=Lib.hid h;clear h;refine wpOp_shut rfl (fun K hK=>?_)
     try simp only [Act.put,sS]
     go_simp;refine (cmul_any w.heap.size w2.heap.size s.a s.b t.a t.b 0 _ CK.v CK.f).mono ?_;rintro e wY ⟨rfl,st⟩;rw [X0.out];rw [X0.out] at st;dsimp only;dsimp only at st;rw [Y1.out] at st
     try go_simp
     refine hK.out _ _ ?_;unfold Stdot.I;refine ⟨_,_,_,_,_,_,_,_,_,_,_,_,_,_,_,_,_,_,_,_,_,_,_,_,(.pointer (some ⟨w2.heap.size,0,none⟩)),v1,((iv s.a s.b)),v3,((iv t.a t.b)),((iv p0 q0)),v6,v7,v8,v9,v10,v11,v12,v13,v14,v15,v16,v17,v18,v19,v20,b18,b19,b20,rfl,?_,?_⟩
     ·simp only [Act.put,sS]
     ·have h:=H.out;exact {h with g:=h.g.step st h.mc,sz:=Nat.le_trans h.sz st.size,e5:=fun _=>rfl,u0:=h.u0.step st h.uc0,k0:=fun p0=>(nomatch p0),k1:=fun p0 p1=>CK.step st,k2:=fun p0 p1=>(nomatch (h.q11 p0)),k3:=fun p0=>(nomatch (h.q11 (h.q17 p0))),q11:=fun _=>rfl,t18:=fun p=>Nat.lt_of_lt_of_le (h.t18 p) st.size,z18:=fun p r=>(h.z18 p r).step st (Nat.ne_of_gt (Nat.lt_of_lt_of_le h.cn (h.g18 p))),s18:=fun p=>(h.s18 p).step st (Nat.ne_of_gt (Nat.lt_of_lt_of_le h.cn (h.g18 (h.o18 p)))),t19:=fun p=>Nat.lt_of_lt_of_le (h.t19 p) st.size,z19:=fun p r=>(h.z19 p r).step st (Nat.ne_of_gt (Nat.lt_of_lt_of_le h.cn (h.g19 p))),s19:=fun p=>(h.s19 p).step st (Nat.ne_of_gt (Nat.lt_of_lt_of_le h.cn (h.g19 (h.o19 p)))),t20:=fun p=>Nat.lt_of_lt_of_le (h.t20 p) st.size,z20:=fun p r=>(h.z20 p r).step st (Nat.ne_of_gt (Nat.lt_of_lt_of_le h.cn (h.g20 p))),s20:=fun p=>(h.s20 p).step st (Nat.ne_of_gt (Nat.lt_of_lt_of_le h.cn (h.g20 (h.o20 p))))}
    |6,hi,_=>
     obtain rfl:l6=false:=rl rfl hi;clear hi hlt;have H:=Lib.hid h;clear h;refine wpOp_shut rfl (fun K hK=>?_)
     try simp only [Act.put,sS]
     go_simp;refine hK.out _ _ ?_;unfold Stdot.I;refine ⟨_,_,_,_,_,_,_,_,_,_,_,_,_,_,_,_,_,_,_,_,_,_,_,_,v0,v1,v2,v3,v4,v5,(.pointer (some ⟨w2.heap.size,0,none⟩)),v7,v8,v9,v10,v11,v12,v13,v14,v15,v16,v17,v18,v19,v20,b18,b19,b20,rfl,?_,?_⟩
     ·simp only [Act.put,sS]
     ·exact {H.out with e6:=fun _=>rfl}
    |7,hi,_=>
     obtain rfl:l7=false:=rl rfl hi;clear hi hlt;have H:=Lib.hid h;clear h;refine wpOp_shut rfl (fun K hK=>?_)
     try simp only [Act.put,sS]
     go_simp;refine hK.out _ _ ?_;unfold Stdot.I;refine ⟨_,_,_,_,_,_,_,_,_,_,_,_,_,_,_,_,_,_,_,_,_,_,_,_,v0,v1,v2,v3,v4,v5,v6,(.pointer (some ⟨w.heap.size,2,none⟩)),v8,v9,v10,v11,v12,v13,v14,v15,v16,v17,v18,v19,v20,b18,b19,b20,rfl,?_,?_⟩
     ·simp only [Act.put,sS]
     ·exact {H.out with e7:=fun _=>rfl}
    |8,hi,_=>
     obtain rfl:l8=false:=rl rfl hi;obtain rfl:l7=true:=rk rfl hi 7 .data;clear hi hlt;obtain rfl:=h.e7 rfl;have c:=(h.g.at 1 rfl).c;have H:=Lib.hid h;clear h;refine wpOp_shut rfl (fun K hK=>?_)
     try simp only [Act.put,sS]
     go_simp;refine hK.out _ _ ?_;unfold Stdot.I;refine ⟨_,_,_,_,_,_,_,_,_,_,_,_,_,_,_,_,_,_,_,_,_,_,_,_,v0,v1,v2,v3,v4,v5,v6,(.pointer (some ⟨w.heap.size,2,none⟩)),((iv s.c s.d)),v9,v10,v11,v12,v13,v14,v15,v16,v17,v18,v19,v20,b18,b19,b20,rfl,?_,?_⟩
     ·simp only [Act.put,sS]
     ·exact {H.out with e8:=fun _=>rfl}
    |9,hi,_=>
     obtain rfl:l9=false:=rl rfl hi;clear hi hlt;have H:=Lib.hid h;clear h;refine wpOp_shut rfl (fun K hK=>?_)
     try simp only [Act.put,sS]
     go_simp;refine hK.out _ _ ?_;unfold Stdot.I;refine ⟨_,_,_,_,_,_,_,_,_,_,_,_,_,_,_,_,_,_,_,_,_,_,_,_,v0,v1,v2,v3,v4,v5,v6,v7,v8,(.pointer (some ⟨w.heap.size+1,2,none⟩)),v10,v11,v12,v13,v14,v15,v16,v17,v18,v19,v20,b18,b19,b20,rfl,?_,?_⟩
     ·simp only [Act.put,sS]
     ·exact {H.out with e9:=fun _=>rfl}
    |10,hi,_=>
     obtain rfl:l10=false:=rl rfl hi;obtain rfl:l9=true:=rk rfl hi 9 .data;clear hi hlt;obtain rfl:=h.e9 rfl;have c:=(h.g.at 0 rfl).c;have H:=Lib.hid h;clear h;refine wpOp_shut rfl (fun K hK=>?_)
     try simp only [Act.put,sS]
     go_simp;refine hK.out _ _ ?_;unfold Stdot.I;refine ⟨_,_,_,_,_,_,_,_,_,_,_,_,_,_,_,_,_,_,_,_,_,_,_,_,v0,v1,v2,v3,v4,v5,v6,v7,v8,(.pointer (some ⟨w.heap.size+1,2,none⟩)),((iv t.c t.d)),v11,v12,v13,v14,v15,v16,v17,v18,v19,v20,b18,b19,b20,rfl,?_,?_⟩
     ·simp only [Act.put,sS]
     ·exact {H.out with e10:=fun _=>rfl}
    |11,hi,_=>
     obtain rfl:l11=false:=rl rfl hi;obtain rfl:l6=true:=rk rfl hi 6 .data;obtain rfl:l8=true:=rk rfl hi 8 .data;obtain rfl:l10=true:=rk rfl hi 10 .data;obtain rfl:l5=true:=rk rfl hi 5 .chain;clear hi hlt;obtain rfl:=h.e6 rfl;obtain rfl:=h.e8 rfl;obtain rfl:=h.e10 rfl;obtain rfl:=h.e5 rfl;have CK:=h.k1 rfl rfl;have H:=Lib.hid h;clear h;refine wpOp_shut rfl (fun K hK=>?_)
     try simp only [Act.put,sS]
     go_simp;refine (cmul_any w.heap.size w2.heap.size s.c s.d t.c t.d E1 _ CK.v CK.f).mono ?_;rintro e wY ⟨rfl,st⟩;rw [X1.out];rw [X1.out] at st;dsimp only;dsimp only at st;rw [Y2.out] at st
     try go_simp
     refine hK.out _ _ ?_;unfold Stdot.I;refine ⟨_,_,_,_,_,_,_,_,_,_,_,_,_,_,_,_,_,_,_,_,_,_,_,_,v0,v1,v2,v3,v4,((iv p0 q0)),(.pointer (some ⟨w2.heap.size,0,none⟩)),v7,((iv s.c s.d)),v9,((iv t.c t.d)),((iv p1 q1)),v12,v13,v14,v15,v16,v17,v18,v19,v20,b18,b19,b20,rfl,?_,?_⟩
     ·simp only [Act.put,sS]
     ·have h:=H.out;exact {h with g:=h.g.step st h.mc,sz:=Nat.le_trans h.sz st.size,e11:=fun _=>rfl,u0:=h.u0.step st h.uc0,k0:=fun p0=>(nomatch (Eq.trans (Eq.symm (rfl:true=true)) p0)),k1:=fun p0 p1=>(nomatch p1),k2:=fun p0 p1=>CK.step st,k3:=fun p0=>(nomatch (h.q17 p0)),q11:=fun _=>rfl,q17:=fun _=>rfl,t18:=fun p=>Nat.lt_of_lt_of_le (h.t18 p) st.size,z18:=fun p r=>(h.z18 p r).step st (Nat.ne_of_gt (Nat.lt_of_lt_of_le h.cn (h.g18 p))),s18:=fun p=>(h.s18 p).step st (Nat.ne_of_gt (Nat.lt_of_lt_of_le h.cn (h.g18 (h.o18 p)))),t19:=fun p=>Nat.lt_of_lt_of_le (h.t19 p) st.size,z19:=fun p r=>(h.z19 p r).step st (Nat.ne_of_gt (Nat.lt_of_lt_of_le h.cn (h.g19 p))),s19:=fun p=>(h.s19 p).step st (Nat.ne_of_gt (Nat.lt_of_lt_of_le h.cn (h.g19 (h.o19 p)))),t20:=fun p=>Nat.lt_of_lt_of_le (h.t20 p) st.size,z20:=fun p r=>(h.z20 p r).step st (Nat.ne_of_gt (Nat.lt_of_lt_of_le h.cn (h.g20 p))),s20:=fun p=>(h.s20 p).step st (Nat.ne_of_gt (Nat.lt_of_lt_of_le h.cn (h.g20 (h.o20 p))))}
    |12,hi,_=>
     obtain rfl:l12=false:=rl rfl hi;clear hi hlt;have H:=Lib.hid h;clear h;refine wpOp_shut rfl (fun K hK=>?_)
     try simp only [Act.put,sS]
     go_simp;refine hK.out _ _ ?_;unfold Stdot.I;refine ⟨_,_,_,_,_,_,_,_,_,_,_,_,_,_,_,_,_,_,_,_,_,_,_,_,v0,v1,v2,v3,v4,v5,v6,v7,v8,v9,v10,v11,(.pointer (some ⟨w2.heap.size,0,none⟩)),v13,v14,v15,v16,v17,v18,v19,v20,b18,b19,b20,rfl,?_,?_⟩
     ·simp only [Act.put,sS]
     ·exact {H.out with e12:=fun _=>rfl}
    |13,hi,_=>
     obtain rfl:l13=false:=rl rfl hi;clear hi hlt;have H:=Lib.hid h;clear h;refine wpOp_shut rfl (fun K hK=>?_)
     try simp only [Act.put,sS]
     go_simp;refine hK.out _ _ ?_;unfold Stdot.I;refine ⟨_,_,_,_,_,_,_,_,_,_,_,_,_,_,_,_,_,_,_,_,_,_,_,_,v0,v1,v2,v3,v4,v5,v6,v7,v8,v9,v10,v11,v12,(.pointer (some ⟨w.heap.size,4,none⟩)),v14,v15,v16,v17,v18,v19,v20,b18,b19,b20,rfl,?_,?_⟩
     ·simp only [Act.put,sS]
     ·exact {H.out with e13:=fun _=>rfl}
    |14,hi,_=>
     obtain rfl:l14=false:=rl rfl hi;obtain rfl:l13=true:=rk rfl hi 13 .data;clear hi hlt;obtain rfl:=h.e13 rfl;have c:=(h.g.at 1 rfl).c;have H:=Lib.hid h;clear h;refine wpOp_shut rfl (fun K hK=>?_)
     try simp only [Act.put,sS]
     go_simp;refine hK.out _ _ ?_;unfold Stdot.I;refine ⟨_,_,_,_,_,_,_,_,_,_,_,_,_,_,_,_,_,_,_,_,_,_,_,_,v0,v1,v2,v3,v4,v5,v6,v7,v8,v9,v10,v11,v12,(.pointer (some ⟨w.heap.size,4,none⟩)),((iv s.e s.f)),v15,v16,v17,v18,v19,v20,b18,b19,b20,rfl,?_,?_⟩
     ·simp only [Act.put,sS]
     ·exact {H.out with e14:=fun _=>rfl}
    |15,hi,_=>
     obtain rfl:l15=false:=rl rfl hi;clear hi hlt;have H:=Lib.hid h;clear h;refine wpOp_shut rfl (fun K hK=>?_)
     try simp only [Act.put,sS]
     go_simp;refine hK.out _ _ ?_;unfold Stdot.I;refine ⟨_,_,_,_,_,_,_,_,_,_,_,_,_,_,_,_,_,_,_,_,_,_,_,_,v0,v1,v2,v3,v4,v5,v6,v7,v8,v9,v10,v11,v12,v13,v14,(.pointer (some ⟨w.heap.size+1,4,none⟩)),v16,v17,v18,v19,v20,b18,b19,b20,rfl,?_,?_⟩
     ·simp only [Act.put,sS]
     ·exact {H.out with e15:=fun _=>rfl}
    |16,hi,_=>
     obtain rfl:l16=false:=rl rfl hi;obtain rfl:l15=true:=rk rfl hi 15 .data;clear hi hlt;obtain rfl:=h.e15 rfl;have c:=(h.g.at 0 rfl).c;have H:=Lib.hid h;clear h;refine wpOp_shut rfl (fun K hK=>?_)
     try simp only [Act.put,sS]
     go_simp;refine hK.out _ _ ?_;unfold Stdot.I;refine ⟨_,_,_,_,_,_,_,_,_,_,_,_,_,_,_,_,_,_,_,_,_,_,_,_,v0,v1,v2,v3,v4,v5,v6,v7,v8,v9,v10,v11,v12,v13,v14,(.pointer (some ⟨w.heap.size+1,4,none⟩)),((iv t.e t.f)),v17,v18,v19,v20,b18,b19,b20,rfl,?_,?_⟩
     ·simp only [Act.put,sS]
     ·exact {H.out with e16:=fun _=>rfl}
    |17,hi,_=>
     obtain rfl:l17=false:=rl rfl hi;obtain rfl:l12=true:=rk rfl hi 12 .data;obtain rfl:l14=true:=rk rfl hi 14 .data;obtain rfl:l16=true:=rk rfl hi 16 .data;obtain rfl:l11=true:=rk rfl hi 11 .chain;clear hi hlt;obtain rfl:=h.e12 rfl;obtain rfl:=h.e14 rfl;obtain rfl:=h.e16 rfl;obtain rfl:=h.e11 rfl;have CK:=h.k2 rfl rfl;have H:=Lib.hid h;clear h;refine wpOp_shut rfl (fun K hK=>?_)
     try simp only [Act.put,sS]
     go_simp;refine (cmul_any w.heap.size w2.heap.size s.e s.f t.e t.f E2 _ CK.v CK.f).mono ?_;rintro e wY ⟨rfl,st⟩;rw [X2.out];rw [X2.out] at st;dsimp only;dsimp only at st;rw [Y3.out] at st
     try go_simp
     refine hK.out _ _ ?_;unfold Stdot.I;refine ⟨_,_,_,_,_,_,_,_,_,_,_,_,_,_,_,_,_,_,_,_,_,_,_,_,v0,v1,v2,v3,v4,v5,v6,v7,v8,v9,v10,((iv p1 q1)),(.pointer (some ⟨w2.heap.size,0,none⟩)),v13,((iv s.e s.f)),v15,((iv t.e t.f)),((iv p2 q2)),v18,v19,v20,b18,b19,b20,rfl,?_,?_⟩
     ·simp only [Act.put,sS]
     ·have h:=H.out;exact {h with g:=h.g.step st h.mc,sz:=Nat.le_trans h.sz st.size,e17:=fun _=>rfl,u0:=h.u0.step st h.uc0,k0:=fun p0=>(nomatch (Eq.trans (Eq.symm (h.q11 rfl)) p0)),k1:=fun p0 p1=>(nomatch (Eq.trans (Eq.symm (rfl:true=true)) p1)),k2:=fun p0 p1=>(nomatch p1),k3:=fun p0=>CK.step st,q17:=fun _=>rfl,t18:=fun p=>Nat.lt_of_lt_of_le (h.t18 p) st.size,z18:=fun p r=>(h.z18 p r).step st (Nat.ne_of_gt (Nat.lt_of_lt_of_le h.cn (h.g18 p))),s18:=fun p=>(h.s18 p).step st (Nat.ne_of_gt (Nat.lt_of_lt_of_le h.cn (h.g18 (h.o18 p)))),t19:=fun p=>Nat.lt_of_lt_of_le (h.t19 p) st.size,z19:=fun p r=>(h.z19 p r).step st (Nat.ne_of_gt (Nat.lt_of_lt_of_le h.cn (h.g19 p))),s19:=fun p=>(h.s19 p).step st (Nat.ne_of_gt (Nat.lt_of_lt_of_le h.cn (h.g19 (h.o19 p)))),t20:=fun p=>Nat.lt_of_lt_of_le (h.t20 p) st.size,z20:=fun p r=>(h.z20 p r).step st (Nat.ne_of_gt (Nat.lt_of_lt_of_le h.cn (h.g20 p))),s20:=fun p=>(h.s20 p).step st (Nat.ne_of_gt (Nat.lt_of_lt_of_le h.cn (h.g20 (h.o20 p))))}
    |18,hi,_=>
     obtain rfl:l18=false:=rl rfl hi;clear hi hlt;have H:=Lib.hid h;clear h;refine wpOp_shut rfl (fun K hK=>?_)
     try simp only [Act.put,sS]
     go_simp;refine hK.out _ _ ?_;unfold Stdot.I;refine ⟨_,_,_,_,_,_,_,_,_,_,_,_,_,_,_,_,_,_,_,_,_,_,_,_,v0,v1,v2,v3,v4,v5,v6,v7,v8,v9,v10,v11,v12,v13,v14,v15,v16,v17,(.pointer (some ⟨w'.heap.size,0,none⟩)),v19,v20,w'.heap.size,b19,b20,rfl,?_,?_⟩
     ·simp only [Act.put,sS]
     ·have h:=H.out;have h2:=h.kept ((Below.refl _ _).alloc (Nat.le_refl _) (.cells (List.toArray [.int .i64 0,.int .i64 0]) 25));exact {h2 with e18:=fun _=>rfl,g18:=fun _=>h.sz,t18:=fun _=>by simp,o18:=fun p=>rfl,z18:=fun _ _=>Bx.new rfl,s18:=fun p=>(nomatch (h.o18 p)),d18_19:=fun _ p=>Nat.ne_of_gt (h.t19 p),d18_20:=fun _ p=>Nat.ne_of_gt (h.t20 p)}
    |19,hi,_=>
     obtain rfl:l19=false:=rl rfl hi;clear hi hlt;have H:=Lib.hid h;clear h;refine wpOp_shut rfl (fun K hK=>?_)
     try simp only [Act.put,sS]
     go_simp;refine hK.out _ _ ?_;unfold Stdot.I;refine ⟨_,_,_,_,_,_,_,_,_,_,_,_,_,_,_,_,_,_,_,_,_,_,_,_,v0,v1,v2,v3,v4,v5,v6,v7,v8,v9,v10,v11,v12,v13,v14,v15,v16,v17,v18,(.pointer (some ⟨w'.heap.size,0,none⟩)),v20,b18,w'.heap.size,b20,rfl,?_,?_⟩
     ·simp only [Act.put,sS]
     ·have h:=H.out;have h2:=h.kept ((Below.refl _ _).alloc (Nat.le_refl _) (.cells (List.toArray [.int .i64 0,.int .i64 0]) 25));exact {h2 with e19:=fun _=>rfl,g19:=fun _=>h.sz,t19:=fun _=>by simp,o19:=fun p=>rfl,z19:=fun _ _=>Bx.new rfl,s19:=fun p=>(nomatch (h.o19 p)),d18_19:=fun p _=>Nat.ne_of_lt (h.t18 p),d19_20:=fun _ p=>Nat.ne_of_gt (h.t20 p)}
    |20,hi,_=>
     obtain rfl:l20=false:=rl rfl hi;clear hi hlt;have H:=Lib.hid h;clear h;refine wpOp_shut rfl (fun K hK=>?_)
     try simp only [Act.put,sS]
     go_simp;refine hK.out _ _ ?_;unfold Stdot.I;refine ⟨_,_,_,_,_,_,_,_,_,_,_,_,_,_,_,_,_,_,_,_,_,_,_,_,v0,v1,v2,v3,v4,v5,v6,v7,v8,v9,v10,v11,v12,v13,v14,v15,v16,v17,v18,v19,(.pointer (some ⟨w'.heap.size,0,none⟩)),b18,b19,w'.heap.size,rfl,?_,?_⟩
     ·simp only [Act.put,sS]
     ·have h:=H.out;have h2:=h.kept ((Below.refl _ _).alloc (Nat.le_refl _) (.cells (List.toArray [.int .i64 0,.int .i64 0]) 25));exact {h2 with e20:=fun _=>rfl,g20:=fun _=>h.sz,t20:=fun _=>by simp,o20:=fun p=>rfl,z20:=fun _ _=>Bx.new rfl,s20:=fun p=>(nomatch (h.o20 p)),d18_20:=fun p _=>Nat.ne_of_lt (h.t18 p),d19_20:=fun p _=>Nat.ne_of_lt (h.t19 p)}
    |21,hi,_=>
     obtain rfl:l21=false:=rl rfl hi;obtain rfl:l18=true:=rk rfl hi 18 .phase;obtain rfl:l5=true:=rk rfl hi 5 .phase;obtain rfl:l17=true:=rk rfl hi 17 .chain;obtain rfl:l0=true:=rk rfl hi 0 .phase;obtain rfl:l1=true:=rk rfl hi 1 .phase;obtain rfl:l2=true:=rk rfl hi 2 .phase;obtain rfl:l3=true:=rk rfl hi 3 .phase;obtain rfl:l4=true:=rk rfl hi 4 .phase;obtain rfl:l19=true:=rk rfl hi 19 .phase;obtain rfl:l20=true:=rk rfl hi 20 .phase;clear hi hlt;obtain rfl:=h.e18 rfl;obtain rfl:=h.e5 rfl;obtain rfl:=h.e17 rfl;obtain rfl:=h.e0 rfl;obtain rfl:=h.e1 rfl;obtain rfl:=h.e2 rfl;obtain rfl:=h.e3 rfl;obtain rfl:=h.e4 rfl;obtain rfl:=h.e19 rfl;obtain rfl:=h.e20 rfl;have bz:=h.z18 rfl rfl;have c:=bz.c;have f:=bz.f;clear bz;have H:=Lib.hid h;clear h;refine wpOp_shut rfl (fun K hK=>?_)
     try simp only [Act.put,sS]
     go_simp;refine hK.out _ _ ?_;unfold Stdot.I;refine ⟨_,_,_,_,_,_,_,_,_,_,_,_,_,_,_,_,_,_,_,_,_,_,_,_,(.pointer (some ⟨w2.heap.size,0,none⟩)),(.pointer (some ⟨w.heap.size,0,none⟩)),((iv s.a s.b)),(.pointer (some ⟨w.heap.size+1,0,none⟩)),((iv t.a t.b)),((iv p0 q0)),v6,v7,v8,v9,v10,v11,v12,v13,v14,v15,v16,((iv p2 q2)),(.pointer (some ⟨b18,0,none⟩)),(.pointer (some ⟨b19,0,none⟩)),(.pointer (some ⟨b20,0,none⟩)),b18,b19,b20,rfl,?_,?_⟩
     ·simp only [Act.put,sS]
     ·have h:=H.out;have gb:=h.g18 rfl;have gm:=Nat.le_trans h.mn gb;exact {h with g:=((h.g.put gm).put gm),sz:=by simpa using h.sz,o18:=fun _=>rfl,z18:=fun _ p=>(nomatch p),s18:=fun _=>(((h.z18 rfl rfl).put).put),t18:=fun p=>by simpa using h.t18 p,u0:=((h.u0.set (Nat.ne_of_lt (Nat.lt_of_lt_of_le h.un0 gb))).set (Nat.ne_of_lt (Nat.lt_of_lt_of_le h.un0 gb))),k0:=fun p0=>(((h.k0 p0).set (Nat.ne_of_lt (Nat.lt_of_lt_of_le h.cn gb))).set (Nat.ne_of_lt (Nat.lt_of_lt_of_le h.cn gb))),k1:=fun p0 p1=>(((h.k1 p0 p1).set (Nat.ne_of_lt (Nat.lt_of_lt_of_le h.cn gb))).set (Nat.ne_of_lt (Nat.lt_of_lt_of_le h.cn gb))),k2:=fun p0 p1=>(((h.k2 p0 p1).set (Nat.ne_of_lt (Nat.lt_of_lt_of_le h.cn gb))).set (Nat.ne_of_lt (Nat.lt_of_lt_of_le h.cn gb))),k3:=fun p0=>(((h.k3 p0).set (Nat.ne_of_lt (Nat.lt_of_lt_of_le h.cn gb))).set (Nat.ne_of_lt (Nat.lt_of_lt_of_le h.cn gb))),t19:=fun p=>by simpa using h.t19 p,z19:=fun p r=>(((h.z19 p r).set (fun q=>(h.d18_19 rfl p) q.symm)).set (fun q=>(h.d18_19 rfl p) q.symm)),s19:=fun p=>(((h.s19 p).set (fun q=>(h.d18_19 rfl (h.o19 p)) q.symm)).set (fun q=>(h.d18_19 rfl (h.o19 p)) q.symm)),t20:=fun p=>by simpa using h.t20 p,z20:=fun p r=>(((h.z20 p r).set (fun q=>(h.d18_20 rfl p) q.symm)).set (fun q=>(h.d18_20 rfl p) q.symm)),s20:=fun p=>(((h.s20 p).set (fun q=>(h.d18_20 rfl (h.o20 p)) q.symm)).set (fun q=>(h.d18_20 rfl (h.o20 p)) q.symm))}
    |22,hi,_=>
     obtain rfl:l22=false:=rl rfl hi;obtain rfl:l19=true:=rk rfl hi 19 .phase;obtain rfl:l11=true:=rk rfl hi 11 .phase;obtain rfl:l21=true:=rk rfl hi 21 .phase;obtain rfl:l0=true:=rk rfl hi 0 .phase;obtain rfl:l1=true:=rk rfl hi 1 .phase;obtain rfl:l2=true:=rk rfl hi 2 .phase;obtain rfl:l3=true:=rk rfl hi 3 .phase;obtain rfl:l4=true:=rk rfl hi 4 .phase;obtain rfl:l5=true:=rk rfl hi 5 .phase;obtain rfl:l6=true:=rk rfl hi 6 .phase;obtain rfl:l7=true:=rk rfl hi 7 .phase;obtain rfl:l8=true:=rk rfl hi 8 .phase;obtain rfl:l9=true:=rk rfl hi 9 .phase;obtain rfl:l10=true:=rk rfl hi 10 .phase;obtain rfl:l18=true:=rk rfl hi 18 .phase;obtain rfl:l20=true:=rk rfl hi 20 .phase;clear hi hlt;obtain rfl:=h.e19 rfl;obtain rfl:=h.e11 rfl;obtain rfl:=h.e0 rfl;obtain rfl:=h.e1 rfl;obtain rfl:=h.e2 rfl;obtain rfl:=h.e3 rfl;obtain rfl:=h.e4 rfl;obtain rfl:=h.e5 rfl;obtain rfl:=h.e6 rfl;obtain rfl:=h.e7 rfl;obtain rfl:=h.e8 rfl;obtain rfl:=h.e9 rfl;obtain rfl:=h.e10 rfl;obtain rfl:=h.e18 rfl;obtain rfl:=h.e20 rfl;have bz:=h.z19 rfl rfl;have c:=bz.c;have f:=bz.f;clear bz;have H:=Lib.hid h;clear h;refine wpOp_shut rfl (fun K hK=>?_)
     try simp only [Act.put,sS]
     go_simp;refine hK.out _ _ ?_;unfold Stdot.I;refine ⟨_,_,_,_,_,_,_,_,_,_,_,_,_,_,_,_,_,_,_,_,_,_,_,_,(.pointer (some ⟨w2.heap.size,0,none⟩)),(.pointer (some ⟨w.heap.size,0,none⟩)),((iv s.a s.b)),(.pointer (some ⟨w.heap.size+1,0,none⟩)),((iv t.a t.b)),((iv p0 q0)),(.pointer (some ⟨w2.heap.size,0,none⟩)),(.pointer (some ⟨w.heap.size,2,none⟩)),((iv s.c s.d)),(.pointer (some ⟨w.heap.size+1,2,none⟩)),((iv t.c t.d)),((iv p1 q1)),v12,v13,v14,v15,v16,v17,(.pointer (some ⟨b18,0,none⟩)),(.pointer (some ⟨b19,0,none⟩)),(.pointer (some ⟨b20,0,none⟩)),b18,b19,b20,rfl,?_,?_⟩
     ·simp only [Act.put,sS]
     ·have h:=H.out;have gb:=h.g19 rfl;have gm:=Nat.le_trans h.mn gb;exact {h with g:=((h.g.put gm).put gm),sz:=by simpa using h.sz,o19:=fun _=>rfl,z19:=fun _ p=>(nomatch p),s19:=fun _=>(((h.z19 rfl rfl).put).put),t19:=fun p=>by simpa using h.t19 p,u0:=((h.u0.set (Nat.ne_of_lt (Nat.lt_of_lt_of_le h.un0 gb))).set (Nat.ne_of_lt (Nat.lt_of_lt_of_le h.un0 gb))),k0:=fun p0=>(((h.k0 p0).set (Nat.ne_of_lt (Nat.lt_of_lt_of_le h.cn gb))).set (Nat.ne_of_lt (Nat.lt_of_lt_of_le h.cn gb))),k1:=fun p0 p1=>(((h.k1 p0 p1).set (Nat.ne_of_lt (Nat.lt_of_lt_of_le h.cn gb))).set (Nat.ne_of_lt (Nat.lt_of_lt_of_le h.cn gb))),k2:=fun p0 p1=>(((h.k2 p0 p1).set (Nat.ne_of_lt (Nat.lt_of_lt_of_le h.cn gb))).set (Nat.ne_of_lt (Nat.lt_of_lt_of_le h.cn gb))),k3:=fun p0=>(((h.k3 p0).set (Nat.ne_of_lt (Nat.lt_of_lt_of_le h.cn gb))).set (Nat.ne_of_lt (Nat.lt_of_lt_of_le h.cn gb))),t18:=fun p=>by simpa using h.t18 p,z18:=fun p r=>(((h.z18 p r).set (fun q=>(h.d18_19 p rfl) q)).set (fun q=>(h.d18_19 p rfl) q)),s18:=fun p=>(((h.s18 p).set (fun q=>(h.d18_19 (h.o18 p) rfl) q)).set (fun q=>(h.d18_19 (h.o18 p) rfl) q)),t20:=fun p=>by simpa using h.t20 p,z20:=fun p r=>(((h.z20 p r).set (fun q=>(h.d19_20 rfl p) q.symm)).set (fun q=>(h.d19_20 rfl p) q.symm)),s20:=fun p=>(((h.s20 p).set (fun q=>(h.d19_20 rfl (h.o20 p)) q.symm)).set (fun q=>(h.d19_20 rfl (h.o20 p)) q.symm))}
    |23,hi,_=>
     obtain rfl:l23=false:=rl rfl hi;obtain rfl:l20=true:=rk rfl hi 20 .phase;obtain rfl:l17=true:=rk rfl hi 17 .phase;obtain rfl:l22=true:=rk rfl hi 22 .phase;obtain rfl:l0=true:=rk rfl hi 0 .phase;obtain rfl:l1=true:=rk rfl hi 1 .phase;obtain rfl:l2=true:=rk rfl hi 2 .phase;obtain rfl:l3=true:=rk rfl hi 3 .phase;obtain rfl:l4=true:=rk rfl hi 4 .phase;obtain rfl:l5=true:=rk rfl hi 5 .phase;obtain rfl:l6=true:=rk rfl hi 6 .phase;obtain rfl:l7=true:=rk rfl hi 7 .phase;obtain rfl:l8=true:=rk rfl hi 8 .phase;obtain rfl:l9=true:=rk rfl hi 9 .phase;obtain rfl:l10=true:=rk rfl hi 10 .phase;obtain rfl:l11=true:=rk rfl hi 11 .phase;obtain rfl:l12=true:=rk rfl hi 12 .phase;obtain rfl:l13=true:=rk rfl hi 13 .phase;obtain rfl:l14=true:=rk rfl hi 14 .phase;obtain rfl:l15=true:=rk rfl hi 15 .phase;obtain rfl:l16=true:=rk rfl hi 16 .phase;obtain rfl:l18=true:=rk rfl hi 18 .phase;obtain rfl:l19=true:=rk rfl hi 19 .phase;obtain rfl:l21=true:=rk rfl hi 21 .phase;clear hi hlt;obtain rfl:=h.e20 rfl;obtain rfl:=h.e17 rfl;obtain rfl:=h.e0 rfl;obtain rfl:=h.e1 rfl;obtain rfl:=h.e2 rfl;obtain rfl:=h.e3 rfl;obtain rfl:=h.e4 rfl;obtain rfl:=h.e5 rfl;obtain rfl:=h.e6 rfl;obtain rfl:=h.e7 rfl;obtain rfl:=h.e8 rfl;obtain rfl:=h.e9 rfl;obtain rfl:=h.e10 rfl;obtain rfl:=h.e11 rfl;obtain rfl:=h.e12 rfl;obtain rfl:=h.e13 rfl;obtain rfl:=h.e14 rfl;obtain rfl:=h.e15 rfl;obtain rfl:=h.e16 rfl;obtain rfl:=h.e18 rfl;obtain rfl:=h.e19 rfl;have bz:=h.z20 rfl rfl;have c:=bz.c;have f:=bz.f;clear bz;have H:=Lib.hid h;clear h;refine wpOp_shut rfl (fun K hK=>?_)
     try simp only [Act.put,sS]
     go_simp;refine hK.out _ _ ?_;unfold Stdot.I;refine ⟨_,_,_,_,_,_,_,_,_,_,_,_,_,_,_,_,_,_,_,_,_,_,_,_,(.pointer (some ⟨w2.heap.size,0,none⟩)),(.pointer (some ⟨w.heap.size,0,none⟩)),((iv s.a s.b)),(.pointer (some ⟨w.heap.size+1,0,none⟩)),((iv t.a t.b)),((iv p0 q0)),(.pointer (some ⟨w2.heap.size,0,none⟩)),(.pointer (some ⟨w.heap.size,2,none⟩)),((iv s.c s.d)),(.pointer (some ⟨w.heap.size+1,2,none⟩)),((iv t.c t.d)),((iv p1 q1)),(.pointer (some ⟨w2.heap.size,0,none⟩)),(.pointer (some ⟨w.heap.size,4,none⟩)),((iv s.e s.f)),(.pointer (some ⟨w.heap.size+1,4,none⟩)),((iv t.e t.f)),((iv p2 q2)),(.pointer (some ⟨b18,0,none⟩)),(.pointer (some ⟨b19,0,none⟩)),(.pointer (some ⟨b20,0,none⟩)),b18,b19,b20,rfl,?_,?_⟩
     ·simp only [Act.put,sS]
     ·have h:=H.out;have gb:=h.g20 rfl;have gm:=Nat.le_trans h.mn gb;exact {h with g:=((h.g.put gm).put gm),sz:=by simpa using h.sz,o20:=fun _=>rfl,z20:=fun _ p=>(nomatch p),s20:=fun _=>(((h.z20 rfl rfl).put).put),t20:=fun p=>by simpa using h.t20 p,u0:=((h.u0.set (Nat.ne_of_lt (Nat.lt_of_lt_of_le h.un0 gb))).set (Nat.ne_of_lt (Nat.lt_of_lt_of_le h.un0 gb))),k0:=fun p0=>(((h.k0 p0).set (Nat.ne_of_lt (Nat.lt_of_lt_of_le h.cn gb))).set (Nat.ne_of_lt (Nat.lt_of_lt_of_le h.cn gb))),k1:=fun p0 p1=>(((h.k1 p0 p1).set (Nat.ne_of_lt (Nat.lt_of_lt_of_le h.cn gb))).set (Nat.ne_of_lt (Nat.lt_of_lt_of_le h.cn gb))),k2:=fun p0 p1=>(((h.k2 p0 p1).set (Nat.ne_of_lt (Nat.lt_of_lt_of_le h.cn gb))).set (Nat.ne_of_lt (Nat.lt_of_lt_of_le h.cn gb))),k3:=fun p0=>(((h.k3 p0).set (Nat.ne_of_lt (Nat.lt_of_lt_of_le h.cn gb))).set (Nat.ne_of_lt (Nat.lt_of_lt_of_le h.cn gb))),t18:=fun p=>by simpa using h.t18 p,z18:=fun p r=>(((h.z18 p r).set (fun q=>(h.d18_20 p rfl) q)).set (fun q=>(h.d18_20 p rfl) q)),s18:=fun p=>(((h.s18 p).set (fun q=>(h.d18_20 (h.o18 p) rfl) q)).set (fun q=>(h.d18_20 (h.o18 p) rfl) q)),t19:=fun p=>by simpa using h.t19 p,z19:=fun p r=>(((h.z19 p r).set (fun q=>(h.d19_20 p rfl) q)).set (fun q=>(h.d19_20 p rfl) q)),s19:=fun p=>(((h.s19 p).set (fun q=>(h.d19_20 (h.o19 p) rfl) q)).set (fun q=>(h.d19_20 (h.o19 p) rfl) q))}
    |i+24,_,hlt=>exact absurd hlt (by simp)
   ·intro L a' w' hI hn;obtain ⟨l0,l1,l2,l3,l4,l5,l6,l7,l8,l9,l10,l11,l12,l13,l14,l15,l16,l17,l18,l19,l20,l21,l22,l23,v0,v1,v2,v3,v4,v5,v6,v7,v8,v9,v10,v11,v12,v13,v14,v15,v16,v17,v18,v19,v20,b18,b19,b20,rfl,rfl,h⟩:=hI;obtain rfl:l0=true:=nr 0 rfl hn;obtain rfl:l1=true:=nr 1 rfl hn;obtain rfl:l2=true:=nr 2 rfl hn;obtain rfl:l3=true:=nr 3 rfl hn;obtain rfl:l4=true:=nr 4 rfl hn;obtain rfl:l5=true:=nr 5 rfl hn;obtain rfl:l6=true:=nr 6 rfl hn;obtain rfl:l7=true:=nr 7 rfl hn;obtain rfl:l8=true:=nr 8 rfl hn;obtain rfl:l9=true:=nr 9 rfl hn;obtain rfl:l10=true:=nr 10 rfl hn;obtain rfl:l11=true:=nr 11 rfl hn;obtain rfl:l12=true:=nr 12 rfl hn;obtain rfl:l13=true:=nr 13 rfl hn;obtain rfl:l14=true:=nr 14 rfl hn;obtain rfl:l15=true:=nr 15 rfl hn;obtain rfl:l16=true:=nr 16 rfl hn;obtain rfl:l17=true:=nr 17 rfl hn;obtain rfl:l18=true:=nr 18 rfl hn;obtain rfl:l19=true:=nr 19 rfl hn;obtain rfl:l20=true:=nr 20 rfl hn;obtain rfl:l21=true:=nr 21 rfl hn;obtain rfl:l22=true:=nr 22 rfl hn;obtain rfl:l23=true:=nr 23 rfl hn;clear hn;obtain rfl:=h.e0 rfl;obtain rfl:=h.e1 rfl;obtain rfl:=h.e2 rfl;obtain rfl:=h.e3 rfl;obtain rfl:=h.e4 rfl;obtain rfl:=h.e5 rfl;obtain rfl:=h.e6 rfl;obtain rfl:=h.e7 rfl;obtain rfl:=h.e8 rfl;obtain rfl:=h.e9 rfl;obtain rfl:=h.e10 rfl;obtain rfl:=h.e11 rfl;obtain rfl:=h.e12 rfl;obtain rfl:=h.e13 rfl;obtain rfl:=h.e14 rfl;obtain rfl:=h.e15 rfl;obtain rfl:=h.e16 rfl;obtain rfl:=h.e17 rfl;obtain rfl:=h.e18 rfl;obtain rfl:=h.e19 rfl;obtain rfl:=h.e20 rfl;simp only [Act.put,sS];have H3:=h.g;have o_3:=h.u0;have C_3:=h.k3 rfl;have B0:=h.s18 rfl;have g0:=h.g18 rfl;have t0:=h.t18 rfl;have B1:=h.s19 rfl;have g1:=h.g19 rfl;have t1:=h.t19 rfl;have B2:=h.s20 rfl;have g2:=h.g20 rfl;have t2:=h.t20 rfl;clear h;clear h0_2 h1_2 o_2c o_2f zx2;have C_3v:=C_3.v;have B0c:=B0.c;have B1c:=B1.c;have B2c:=B2.c;have C_3f:=C_3.f;have l0:w.heap.size+1+1<w'.heap.size:=o_3.lt;have l1:w2.heap.size<w'.heap.size:=C_3.lt
    go_upto_region 5 with fail
    have CX:=C_3.drew;have BX0:=B0.drew;have BX1:=B1.drew;have BX2:=B2.drew;have HX:=H3.drew;have OX:=o_3.drew
    have m0:¬(b18=w2.heap.size):=by omega
    have m1:¬(b19=w2.heap.size):=by omega
    have m2:¬(b20=w2.heap.size):=by omega
    have m3:¬(w.heap.size+1+1=w2.heap.size):=by omega
    have nA0:¬(b18=w.heap.size+1+1):=by omega
    have nA1:¬(b19=w.heap.size+1+1):=by omega
    have nA2:¬(b20=w.heap.size+1+1):=by omega
    go_region_held3 (fun X=>(∀j,X.cell? ⟨b18,j,none⟩ = [.int .i64 p0,.int .i64 q0][j]?)∧(∀j,X.cell? ⟨b19,j,none⟩ = [.int .i64 p1,.int .i64 q1][j]?)∧(∀j,X.cell? ⟨b20,j,none⟩ = [.int .i64 p2,.int .i64 q2][j]?)) (with_reducible first|exact ⟨BX0.c,BX1.c,BX2.c⟩|exact ⟨BA0.c,BA1.c,BA2.c⟩|exact ⟨BB0.c,BB1.c,BB2.c⟩|exact ⟨BC0.c,BC1.c,BC2.c⟩|exact ⟨((BC0.set nA0).set nA0).c,((BC1.set nA1).set nA1).c,((BC2.set nA2).set nA2).c⟩|exact ⟨((BC0.set nA0).set nA0).drew.c,((BC1.set nA1).set nA1).drew.c,((BC2.set nA2).set nA2).drew.c⟩)
     (first
      |(have hm:=hmarkB;go_at_call 44;refine (only_any w2.heap.size E5 p4 q4 _ CB.v).mono ?_;rintro r wC ⟨rfl,hb⟩;rw [HD.out];have HC:=HB.call hb;have OC:=OB.kept hb;have BC0:=BB0.kept hb;have BC1:=BB1.kept hb;have BC2:=BB2.kept hb;have oc:=OC.c;have of:=OC.f;have ol:=OC.lt)
      |(have hm:=hmarkA;go_at_call 45;refine (cadd_any w.heap.size w2.heap.size p3 q3 p2 q2 E4 _ CA.v CA.f).mono ?_;rintro r wB ⟨rfl,st⟩;rw [X4.out];rw [X4.out] at st;dsimp only;dsimp only at st;rw [Y5.out] at st;have HB:=HA.step st (by omega);have OB:=OA.step st m3;have CB:=CA.step st;have BB0:=BA0.step st m0;have BB1:=BA1.step st m1;have BB2:=BA2.step st m2;have hmarkB:wB=wB:=rfl)
      |(go_at_call 45;refine (cadd_any w.heap.size w2.heap.size p0 q0 p1 q1 E3 _ CX.v CX.f).mono ?_;rintro r wA ⟨rfl,st⟩;rw [X3.out];rw [X3.out] at st;dsimp only;dsimp only at st;rw [Y4.out] at st;have HA:=HX.step st (by omega);have OA:=OX.step st m3;have CA:=CX.step st;have BA0:=BX0.step st m0;have BA1:=BX1.step st m1;have BA2:=BX2.step st m2;have hmarkA:wA=wA:=rfl))
    all_goals go_wp2_with fail
    refine bodyPost_box (b:=w.heap.size+1+1) (cs:=[.int .i64 x,.int .i64 y]) (v:=.tuple #[iv x y,.int .i64 ee]) (by
     (with_reducible repeat (first|exact OC|apply Bx.put2|refine Bx.drew ?_))) (fun X hX=>by simp [results,Tryz.results18,go_sem,hX]) rfl ⟨rfl,by
     refine Ho.below (n:=w.heap.size+1+1) (l:=[(w.heap.size+1,[.int .i64 t.a,.int .i64 t.b,.int .i64 t.c,.int .i64 t.d,.int .i64 t.e,.int .i64 t.f]),(w.heap.size,[.int .i64 s.a,.int .i64 s.b,.int .i64 s.c,.int .i64 s.d,.int .i64 s.e,.int .i64 s.f])]) ?_
     exact hoA⟩
end Go.Proofs.YtiecdgcdcpmgaaaGreat.Iv
