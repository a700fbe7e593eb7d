/- Texts PEn. -/
import Derived.Test.YtiecdgcdcpmgaaaGreatM06
import Derived.Test.YtiecdgcdcpmgaaaGreatM21
import Derived.Test.YtiecdgcdcpmgaaaGreatM18

/- Contract of trace.Enter. -/
namespace Go.Proofs.YtiecdgcdcpmgaaaGreat.Iv
open Go.RowKit
attribute [local go_sem] Oper.semAt_some
theorem after_v {p q x y:Int} (h0:¬(x<0)):vB (afterR p q x y).lo (afterR p q x y).hi=true:=by
 by_cases h:sgn p q<0
 ·have s:=after_nn (p:=1) (q:=1) (y:=y) (by decide) h0;rw [show afterR 1 1 x y=sqrtR x y from if_neg (by decide)] at s;rw [show afterR p q x y=negR (sqrtR x y).lo (sqrtR x y).hi from if_pos h,negR,if_pos s.1];have:=vB_iff.1 s.1;exact vB_iff.2 ⟨by dsimp only;omega,by dsimp only;omega,by dsimp only;omega⟩
 ·exact (after_nn (by omega) h0).1
theorem refr_v {s t:D} {a b:Int} (h:(refrR s t a b).e=0):vB (refrR s t a b).u (refrR s t a b).v=true:=by
 unfold refrR at h ⊢;split at h
 ·rename_i c1;rw [if_pos c1];split at h
  ·rename_i c0;rw [if_pos c0];split at h
   ·cases h
   ·rename_i c2;rw [if_neg c2];split at h
    ·rename_i c3;rw [if_pos c3];split at h
     ·cases h
     ·rename_i c4;rw [if_neg c4];have ha:=after_v (p:=(dotR s t).lo) (q:=(dotR s t).hi) (y:=(radR (dotR s t).lo (dotR s t).hi a b).hi) c4;unfold tailF at h ⊢;dsimp only at h ⊢;split at h
      ·rename_i c5;rw [if_pos c5];exact ha
      ·rename_i c5;exact absurd h c5
    ·rename_i c3;exact absurd h c3
  ·rename_i c0;exact absurd h c0
 ·cases h
theorem bodyPost_box2 {P:Program} {fn:Func} {R:Ending→World→Prop} {a:Act} {w:World} {v:Value} {b c:Nat} {cs ds:List Value} (hB:Bx w b cs) (hC:Bx w c ds)
  (hr:∀X:World,(∀j,X.cell? ⟨b,j,none⟩=cs[j]?)→(∀j,X.cell? ⟨c,j,none⟩=ds[j]?)→(results fn a.tmps).run P X = .ok v X) (hd:a.defers = []) (hR:R (.returned v) w):bodyPost P fn R .ret a w:=⟨hd,v,hr w hB.c hC.c,hR⟩
theorem Bx.put12 {W:World} {b:Nat} {p0 p1 p2 p3 p4 p5 p6 p7 p8 p9 p10 p11 u0 u1 u2 u3 u4 u5 u6 u7 u8 u9 u10 u11:Value} (h:Bx W b [p0,p1,p2,p3,p4,p5,p6,p7,p8,p9,p10,p11]):Bx ((((((((((((W.setCell ⟨b,0,none⟩ u0).setCell ⟨b,1,none⟩ u1).setCell ⟨b,2,none⟩ u2).setCell ⟨b,3,none⟩ u3).setCell ⟨b,4,none⟩ u4).setCell ⟨b,5,none⟩ u5).setCell ⟨b,6,none⟩ u6).setCell ⟨b,7,none⟩ u7).setCell ⟨b,8,none⟩ u8).setCell ⟨b,9,none⟩ u9).setCell ⟨b,10,none⟩ u10).setCell ⟨b,11,none⟩ u11) b [u0,u1,u2,u3,u4,u5,u6,u7,u8,u9,u10,u11]:=h.put.put.put.put.put.put.put.put.put.put.put.put
structure EN where
 a:D
 v:D
 lo:Int
 hi:Int
 e:Int
def failN (e:Int):EN:=⟨zD,zD,0,0,e⟩
def retN (x:EN):Ending:=.returned (.tuple #[rv x.a x.v,iv x.lo x.hi,.int .i64 x.e])
def enterF (f:RF) (a:D) (i0 i1:Int):EN:=
 if f.e=0 then (if 0<sgn f.p f.q then failN 9 else if (passG f.p f.q f.u f.v 16777216 16777216 i0 i1).e=0 then ⟨a,f.d,(passG f.p f.q f.u f.v 16777216 16777216 i0 i1).lo,(passG f.p f.q f.u f.v 16777216 16777216 i0 i1).hi,0⟩ else failN (passG f.p f.q f.u f.v 16777216 16777216 i0 i1).e) else failN f.e
def enterG (n:D) (i0 i1:Int) (a v:D):EN:=
 if (divR 16777216 16777216 i0 i1).e=0 then enterF (refrR v n (divR 16777216 16777216 i0 i1).lo (divR 16777216 16777216 i0 i1).hi) a i0 i1 else failN (divR 16777216 16777216 i0 i1).e
def nthD (L:List D) (k:Int):D:=(L[k.toNat]?).getD zD
def enterR (L:List D) (M:List (Int × Int)) (i0 i1 face:Int) (a v:D):EN:=
 if vBody L M i0 i1=true then (if (vD a && vD v)=true then (if 0≤face∧face<(L.length:Int) then enterG (nthD L face) i0 i1 a v else failN 2) else failN 1) else failN 1
structure Ea (nb no nc mm dc k lL b0 bo bg c7 c14 c15 c16 n0:Nat) (i0 i1 r0 r1 re p q u x ee tl th te d0 d1 d2 d3 d4 d5:Int) (n a v:D) (da:Option Addr) (w0 w:World) (l0 l1 l2 l3 l4 l5 l6 l7 l8 l9:Bool) (v0 v1 v2 v3 v4 v5 v6 v7 v9:Value) (b7:Nat):Prop where
 g:Ho w0 w (b0+1+1) [(b0+1,[.int .i64 a.a,.int .i64 a.b,.int .i64 a.c,.int .i64 a.d,.int .i64 a.e,.int .i64 a.f,.int .i64 v.a,.int .i64 v.b,.int .i64 v.c,.int .i64 v.d,.int .i64 v.e,.int .i64 v.f]),(b0,[.slice (some ⟨nb,no,none⟩) lL nc,.slice da mm dc,.int .i64 i0,.int .i64 i1])]
 sz:n0≤w.heap.size
 mn:(b0+1+1)≤n0
 u0:Bx w bo [.int .i64 0,.int .i64 0,.int .i64 0,.int .i64 0,.int .i64 0,.int .i64 0,.int .i64 0,.int .i64 0,.int .i64 0,.int .i64 0,.int .i64 0,.int .i64 0]
 un0:bo<n0
 u1:Bx w bg [.int .i64 0,.int .i64 0]
 un1:bg<n0
 ev0:l0=true→v0=(iv 16777216 16777216)
 ev1:l1=true→v1 = .pointer (some ⟨b0,2,none⟩)
 ev2:l2=true→v2=(iv i0 i1)
 ev3:l3=true→v3 = .tuple #[(iv r0 r1),.int .i64 re]
 ev4:l4=true→v4 = .tuple #[(iv r0 r1),.int .i64 re]
 ev5:l5=true→v5=(iv r0 r1)
 ev6:l6=true→v6 = .int .i64 re
 ev7:l7=true→v7 = .pointer (some ⟨b7,0,none⟩)
 ev9:l9=true→v9 = .int .i64 re
 g7:l7=true→n0≤b7
 t7:l7=true→b7<w.heap.size
 o7:l8=true→l7=true
 z7:l7=true→l8=false→Bx w b7 [.int .i64 0,.int .i64 0]
 s7:l8=true→Bx w b7 [.int .i64 r0,.int .i64 r1]
theorem Ea.kept {nb no nc mm dc k lL b0 bo bg c7 c14 c15 c16 n0:Nat} {i0 i1 r0 r1 re p q u x ee tl th te d0 d1 d2 d3 d4 d5:Int} {n a v:D} {da:Option Addr} {w0 w:World} {l0 l1 l2 l3 l4 l5 l6 l7 l8 l9:Bool} {v0 v1 v2 v3 v4 v5 v6 v7 v9:Value} {b7:Nat} {w':World} (h:Ea nb no nc mm dc k lL b0 bo bg c7 c14 c15 c16 n0 i0 i1 r0 r1 re p q u x ee tl th te d0 d1 d2 d3 d4 d5 n a v da w0 w l0 l1 l2 l3 l4 l5 l6 l7 l8 l9 v0 v1 v2 v3 v4 v5 v6 v7 v9 b7) (hb:Below w.heap.size w w'):Ea nb no nc mm dc k lL b0 bo bg c7 c14 c15 c16 n0 i0 i1 r0 r1 re p q u x ee tl th te d0 d1 d2 d3 d4 d5 n a v da w0 w' l0 l1 l2 l3 l4 l5 l6 l7 l8 l9 v0 v1 v2 v3 v4 v5 v6 v7 v9 b7:=
 {h with g:=h.g.call hb,sz:=Nat.le_trans h.sz hb.size,u0:=h.u0.kept hb,u1:=h.u1.kept hb,t7:=fun p=>Nat.lt_of_lt_of_le (h.t7 p) hb.size,z7:=fun p q=>(h.z7 p q).kept hb,s7:=fun p=>(h.s7 p).kept hb}
def Ea.I (nb no nc mm dc k lL b0 bo bg c7 c14 c15 c16 n0:Nat) (i0 i1 r0 r1 re p q u x ee tl th te d0 d1 d2 d3 d4 d5:Int) (n a v:D) (da:Option Addr) (w0:World):Act→Array Bool→Act→World→Prop:=fun aO LX aX w=>∃(l0 l1 l2 l3 l4 l5 l6 l7 l8 l9:Bool) (v0 v1 v2 v3 v4 v5 v6 v7 v9:Value) (b7:Nat),LX=#[l0,l1,l2,l3,l4,l5,l6,l7,l8,l9]∧aX=(((((((((aO.put (some 37) v0).put (some 38) v1).put (some 39) v2).put (some 40) v3).put (some 36) v4).put (some 41) v5).put (some 42) v6).put (some 9) v7).put (some 10) v9)∧Ea nb no nc mm dc k lL b0 bo bg c7 c14 c15 c16 n0 i0 i1 r0 r1 re p q u x ee tl th te d0 d1 d2 d3 d4 d5 n a v da w0 w l0 l1 l2 l3 l4 l5 l6 l7 l8 l9 v0 v1 v2 v3 v4 v5 v6 v7 v9 b7
structure Eb (nb no nc mm dc k lL b0 bo bg c7 c14 c15 c16 n0:Nat) (i0 i1 r0 r1 re p q u x ee tl th te d0 d1 d2 d3 d4 d5:Int) (n a v:D) (da:Option Addr) (w0 w:World) (l0 l1 l2 l3 l4 l5 l6 l7 l8 l9 l10 l11 l12 l13 l14 l15 l16 l17 l18 l19 l20:Bool) (v0 v1 v2 v3 v4 v5 v6 v7 v8 v9 v10 v11 v12 v13 v14 v15 v16 v20:Value) (b14 b15 b16:Nat):Prop where
 g:Ho w0 w n0 [(c7,[.int .i64 r0,.int .i64 r1]),(b0+1,[.int .i64 a.a,.int .i64 a.b,.int .i64 a.c,.int .i64 a.d,.int .i64 a.e,.int .i64 a.f,.int .i64 v.a,.int .i64 v.b,.int .i64 v.c,.int .i64 v.d,.int .i64 v.e,.int .i64 v.f]),(b0,[.slice (some ⟨nb,no,none⟩) lL nc,.slice da mm dc,.int .i64 i0,.int .i64 i1])]
 sz:n0≤w.heap.size
 mn:n0≤n0
 u0:Bx w bo [.int .i64 0,.int .i64 0,.int .i64 0,.int .i64 0,.int .i64 0,.int .i64 0,.int .i64 0,.int .i64 0,.int .i64 0,.int .i64 0,.int .i64 0,.int .i64 0]
 un0:bo<n0
 u1:Bx w bg [.int .i64 0,.int .i64 0]
 un1:bg<n0
 u2:Rs w nb (no+k*6) [.int .i64 n.a,.int .i64 n.b,.int .i64 n.c,.int .i64 n.d,.int .i64 n.e,.int .i64 n.f]
 un2:nb<n0
 ev0:l0=true→v0 = .pointer (some ⟨b0+1,6,none⟩)
 ev1:l1=true→v1=(dv v)
 ev2:l2=true→v2 = .pointer (some ⟨b0,0,none⟩)
 ev3:l3=true→v3 = .slice (some ⟨nb,no,none⟩) lL nc
 ev4:l4=true→v4 = .int .i64 k
 ev5:l5=true→v5 = .pointer (some ⟨nb,no+k*6,none⟩)
 ev6:l6=true→v6=(dv n)
 ev7:l7=true→v7=(iv r0 r1)
 ev8:l8=true→v8 = .tuple #[dv ⟨d0,d1,d2,d3,d4,d5⟩,(iv p q),(iv u x),.int .i64 ee]
 ev9:l9=true→v9 = .tuple #[dv ⟨d0,d1,d2,d3,d4,d5⟩,(iv p q),(iv u x),.int .i64 ee]
 ev10:l10=true→v10=dv ⟨d0,d1,d2,d3,d4,d5⟩
 ev11:l11=true→v11=(iv p q)
 ev12:l12=true→v12=(iv u x)
 ev13:l13=true→v13 = .int .i64 ee
 ev14:l14=true→v14 = .pointer (some ⟨b14,0,none⟩)
 ev15:l15=true→v15 = .pointer (some ⟨b15,0,none⟩)
 ev16:l16=true→v16 = .pointer (some ⟨b16,0,none⟩)
 ev20:l20=true→v20 = .int .i64 ee
 g14:l14=true→n0≤b14
 t14:l14=true→b14<w.heap.size
 o14:l17=true→l14=true
 z14:l14=true→l17=false→Bx w b14 [.int .i64 0,.int .i64 0,.int .i64 0,.int .i64 0,.int .i64 0,.int .i64 0]
 s14:l17=true→Bx w b14 [.int .i64 d0,.int .i64 d1,.int .i64 d2,.int .i64 d3,.int .i64 d4,.int .i64 d5]
 g15:l15=true→n0≤b15
 t15:l15=true→b15<w.heap.size
 o15:l18=true→l15=true
 z15:l15=true→l18=false→Bx w b15 [.int .i64 0,.int .i64 0]
 s15:l18=true→Bx w b15 [.int .i64 p,.int .i64 q]
 g16:l16=true→n0≤b16
 t16:l16=true→b16<w.heap.size
 o16:l19=true→l16=true
 z16:l16=true→l19=false→Bx w b16 [.int .i64 0,.int .i64 0]
 s16:l19=true→Bx w b16 [.int .i64 u,.int .i64 x]
 d14_15:l14=true→l15=true→¬(b14=b15)
 d14_16:l14=true→l16=true→¬(b14=b16)
 d15_16:l15=true→l16=true→¬(b15=b16)
theorem Eb.kept {nb no nc mm dc k lL b0 bo bg c7 c14 c15 c16 n0:Nat} {i0 i1 r0 r1 re p q u x ee tl th te d0 d1 d2 d3 d4 d5:Int} {n a v:D} {da:Option Addr} {w0 w:World} {l0 l1 l2 l3 l4 l5 l6 l7 l8 l9 l10 l11 l12 l13 l14 l15 l16 l17 l18 l19 l20:Bool} {v0 v1 v2 v3 v4 v5 v6 v7 v8 v9 v10 v11 v12 v13 v14 v15 v16 v20:Value} {b14 b15 b16:Nat} {w':World} (h:Eb nb no nc mm dc k lL b0 bo bg c7 c14 c15 c16 n0 i0 i1 r0 r1 re p q u x ee tl th te d0 d1 d2 d3 d4 d5 n a v da w0 w l0 l1 l2 l3 l4 l5 l6 l7 l8 l9 l10 l11 l12 l13 l14 l15 l16 l17 l18 l19 l20 v0 v1 v2 v3 v4 v5 v6 v7 v8 v9 v10 v11 v12 v13 v14 v15 v16 v20 b14 b15 b16) (hb:Below w.heap.size w w'):Eb nb no nc mm dc k lL b0 bo bg c7 c14 c15 c16 n0 i0 i1 r0 r1 re p q u x ee tl th te d0 d1 d2 d3 d4 d5 n a v da w0 w' l0 l1 l2 l3 l4 l5 l6 l7 l8 l9 l10 l11 l12 l13 l14 l15 l16 l17 l18 l19 l20 v0 v1 v2 v3 v4 v5 v6 v7 v8 v9 v10 v11 v12 v13 v14 v15 v16 v20 b14 b15 b16:=
 {h with g:=h.g.call hb,sz:=Nat.le_trans h.sz hb.size,u0:=h.u0.kept hb,u1:=h.u1.kept hb,u2:=h.u2.kept hb,t14:=fun p=>Nat.lt_of_lt_of_le (h.t14 p) hb.size,z14:=fun p q=>(h.z14 p q).kept hb,s14:=fun p=>(h.s14 p).kept hb,t15:=fun p=>Nat.lt_of_lt_of_le (h.t15 p) hb.size,z15:=fun p q=>(h.z15 p q).kept hb,s15:=fun p=>(h.s15 p).kept hb,t16:=fun p=>Nat.lt_of_lt_of_le (h.t16 p) hb.size,z16:=fun p q=>(h.z16 p q).kept hb,s16:=fun p=>(h.s16 p).kept hb}
def Eb.I (nb no nc mm dc k lL b0 bo bg c7 c14 c15 c16 n0:Nat) (i0 i1 r0 r1 re p q u x ee tl th te d0 d1 d2 d3 d4 d5:Int) (n a v:D) (da:Option Addr) (w0:World):Act→Array Bool→Act→World→Prop:=fun aO LX aX w=>∃(l0 l1 l2 l3 l4 l5 l6 l7 l8 l9 l10 l11 l12 l13 l14 l15 l16 l17 l18 l19 l20:Bool) (v0 v1 v2 v3 v4 v5 v6 v7 v8 v9 v10 v11 v12 v13 v14 v15 v16 v20:Value) (b14 b15 b16:Nat),LX=#[l0,l1,l2,l3,l4,l5,l6,l7,l8,l9,l10,l11,l12,l13,l14,l15,l16,l17,l18,l19,l20]∧aX=((((((((((((((((((aO.put (some 49) v0).put (some 50) v1).put (some 51) v2).put (some 52) v3).put (some 53) v4).put (some 54) v5).put (some 55) v6).put (some 56) v7).put (some 57) v8).put (some 48) v9).put (some 58) v10).put (some 59) v11).put (some 60) v12).put (some 61) v13).put (some 11) v14).put (some 12) v15).put (some 13) v16).put (some 10) v20)∧Eb nb no nc mm dc k lL b0 bo bg c7 c14 c15 c16 n0 i0 i1 r0 r1 re p q u x ee tl th te d0 d1 d2 d3 d4 d5 n a v da w0 w l0 l1 l2 l3 l4 l5 l6 l7 l8 l9 l10 l11 l12 l13 l14 l15 l16 l17 l18 l19 l20 v0 v1 v2 v3 v4 v5 v6 v7 v8 v9 v10 v11 v12 v13 v14 v15 v16 v20 b14 b15 b16
structure Ec (nb no nc mm dc k lL b0 bo bg c7 c14 c15 c16 n0:Nat) (i0 i1 r0 r1 re p q u x ee tl th te d0 d1 d2 d3 d4 d5:Int) (n a v:D) (da:Option Addr) (w0 w:World) (l0 l1 l2 l3 l4 l5 l6 l7 l8 l9 l10 l11:Bool) (v0 v1 v2 v3 v4 v5 v6 v7 v8 v9 v11:Value) (b9:Nat):Prop where
 g:Ho w0 w n0 [(c16,[.int .i64 u,.int .i64 x]),(c15,[.int .i64 p,.int .i64 q]),(c14,[.int .i64 d0,.int .i64 d1,.int .i64 d2,.int .i64 d3,.int .i64 d4,.int .i64 d5]),(c7,[.int .i64 r0,.int .i64 r1]),(b0+1,[.int .i64 a.a,.int .i64 a.b,.int .i64 a.c,.int .i64 a.d,.int .i64 a.e,.int .i64 a.f,.int .i64 v.a,.int .i64 v.b,.int .i64 v.c,.int .i64 v.d,.int .i64 v.e,.int .i64 v.f]),(b0,[.slice (some ⟨nb,no,none⟩) lL nc,.slice da mm dc,.int .i64 i0,.int .i64 i1])]
 sz:n0≤w.heap.size
 mn:n0≤n0
 u0:Bx w bo [.int .i64 0,.int .i64 0,.int .i64 0,.int .i64 0,.int .i64 0,.int .i64 0,.int .i64 0,.int .i64 0,.int .i64 0,.int .i64 0,.int .i64 0,.int .i64 0]
 un0:bo<n0
 u1:Bx w bg [.int .i64 0,.int .i64 0]
 un1:bg<n0
 ev0:l0=true→v0=(iv p q)
 ev1:l1=true→v1=(iv u x)
 ev2:l2=true→v2=(iv 16777216 16777216)
 ev3:l3=true→v3 = .pointer (some ⟨b0,2,none⟩)
 ev4:l4=true→v4=(iv i0 i1)
 ev5:l5=true→v5 = .tuple #[(iv tl th),.int .i64 te]
 ev6:l6=true→v6 = .tuple #[(iv tl th),.int .i64 te]
 ev7:l7=true→v7=(iv tl th)
 ev8:l8=true→v8 = .int .i64 te
 ev9:l9=true→v9 = .pointer (some ⟨b9,0,none⟩)
 ev11:l11=true→v11 = .int .i64 te
 g9:l9=true→n0≤b9
 t9:l9=true→b9<w.heap.size
 o9:l10=true→l9=true
 z9:l9=true→l10=false→Bx w b9 [.int .i64 0,.int .i64 0]
 s9:l10=true→Bx w b9 [.int .i64 tl,.int .i64 th]
theorem Ec.kept {nb no nc mm dc k lL b0 bo bg c7 c14 c15 c16 n0:Nat} {i0 i1 r0 r1 re p q u x ee tl th te d0 d1 d2 d3 d4 d5:Int} {n a v:D} {da:Option Addr} {w0 w:World} {l0 l1 l2 l3 l4 l5 l6 l7 l8 l9 l10 l11:Bool} {v0 v1 v2 v3 v4 v5 v6 v7 v8 v9 v11:Value} {b9:Nat} {w':World} (h:Ec nb no nc mm dc k lL b0 bo bg c7 c14 c15 c16 n0 i0 i1 r0 r1 re p q u x ee tl th te d0 d1 d2 d3 d4 d5 n a v da w0 w l0 l1 l2 l3 l4 l5 l6 l7 l8 l9 l10 l11 v0 v1 v2 v3 v4 v5 v6 v7 v8 v9 v11 b9) (hb:Below w.heap.size w w'):Ec nb no nc mm dc k lL b0 bo bg c7 c14 c15 c16 n0 i0 i1 r0 r1 re p q u x ee tl th te d0 d1 d2 d3 d4 d5 n a v da w0 w' l0 l1 l2 l3 l4 l5 l6 l7 l8 l9 l10 l11 v0 v1 v2 v3 v4 v5 v6 v7 v8 v9 v11 b9:=
 {h with g:=h.g.call hb,sz:=Nat.le_trans h.sz hb.size,u0:=h.u0.kept hb,u1:=h.u1.kept hb,t9:=fun p=>Nat.lt_of_lt_of_le (h.t9 p) hb.size,z9:=fun p q=>(h.z9 p q).kept hb,s9:=fun p=>(h.s9 p).kept hb}
def Ec.I (nb no nc mm dc k lL b0 bo bg c7 c14 c15 c16 n0:Nat) (i0 i1 r0 r1 re p q u x ee tl th te d0 d1 d2 d3 d4 d5:Int) (n a v:D) (da:Option Addr) (w0:World):Act→Array Bool→Act→World→Prop:=fun aO LX aX w=>∃(l0 l1 l2 l3 l4 l5 l6 l7 l8 l9 l10 l11:Bool) (v0 v1 v2 v3 v4 v5 v6 v7 v8 v9 v11:Value) (b9:Nat),LX=#[l0,l1,l2,l3,l4,l5,l6,l7,l8,l9,l10,l11]∧aX=(((((((((((aO.put (some 73) v0).put (some 74) v1).put (some 75) v2).put (some 76) v3).put (some 77) v4).put (some 78) v5).put (some 72) v6).put (some 79) v7).put (some 80) v8).put (some 14) v9).put (some 10) v11)∧Ec nb no nc mm dc k lL b0 bo bg c7 c14 c15 c16 n0 i0 i1 r0 r1 re p q u x ee tl th te d0 d1 d2 d3 d4 d5 n a v da w0 w l0 l1 l2 l3 l4 l5 l6 l7 l8 l9 l10 l11 v0 v1 v2 v3 v4 v5 v6 v7 v8 v9 v11 b9
set_option maxRecDepth 100000 in
set_option maxHeartbeats 16000000 in
theorem enter_any {na da:Option Addr} {nc dc:Nat} {L:List D} {M:List (Int × Int)} {i0 i1 face:Int} {a v:D} (w:World) (hn:NAt w na L) (hp:PAt w da M) :
  Calls Tryz.prog 31 #[.agg #[.slice na L.length nc,.slice da M.length dc,.int .i64 i0,.int .i64 i1],.int .i64 face,rv a v] w fun e w'=>e=retN (enterR L M i0 i1 face a v)∧Below w.heap.size w w':=by
 unfold rv;have HN:=Lib.hid hn;have HP:=Lib.hid hp;cases hB:vBody L M i0 i1
 ·rw [show enterR L M i0 i1 face a v=failN 1 from if_neg (by rw [hB];decide)];have EB:=Lib.hid hB;clear hB hn hp;have H0:=(((Ho.nil w).bx [.slice na L.length nc,.slice da M.length dc,.int .i64 i0,.int .i64 i1] 27 (w.heap.size) (by simp)).bx [.int .i64 a.a,.int .i64 a.b,.int .i64 a.c,.int .i64 a.d,.int .i64 a.e,.int .i64 a.f,.int .i64 v.a,.int .i64 v.b,.int .i64 v.c,.int .i64 v.d,.int .i64 v.e,.int .i64 v.f] 84 (w.heap.size+1) (by simp));have o_0:Bx ((((w.alloc (.cells (List.toArray [.slice na L.length nc,.slice da M.length dc,.int .i64 i0,.int .i64 i1]) 27)).alloc (.cells (List.toArray [.int .i64 a.a,.int .i64 a.b,.int .i64 a.c,.int .i64 a.d,.int .i64 a.e,.int .i64 a.f,.int .i64 v.a,.int .i64 v.b,.int .i64 v.c,.int .i64 v.d,.int .i64 v.e,.int .i64 v.f]) 84)).alloc (.cells (List.toArray [.int .i64 0,.int .i64 0,.int .i64 0,.int .i64 0,.int .i64 0,.int .i64 0,.int .i64 0,.int .i64 0,.int .i64 0,.int .i64 0,.int .i64 0,.int .i64 0]) 84)).alloc (.cells (List.toArray [.int .i64 0,.int .i64 0]) 25)) (w.heap.size+1+1) [.int .i64 0,.int .i64 0,.int .i64 0,.int .i64 0,.int .i64 0,.int .i64 0,.int .i64 0,.int .i64 0,.int .i64 0,.int .i64 0,.int .i64 0,.int .i64 0]:=bxA;have g_0:Bx ((((w.alloc (.cells (List.toArray [.slice na L.length nc,.slice da M.length dc,.int .i64 i0,.int .i64 i1]) 27)).alloc (.cells (List.toArray [.int .i64 a.a,.int .i64 a.b,.int .i64 a.c,.int .i64 a.d,.int .i64 a.e,.int .i64 a.f,.int .i64 v.a,.int .i64 v.b,.int .i64 v.c,.int .i64 v.d,.int .i64 v.e,.int .i64 v.f]) 84)).alloc (.cells (List.toArray [.int .i64 0,.int .i64 0,.int .i64 0,.int .i64 0,.int .i64 0,.int .i64 0,.int .i64 0,.int .i64 0,.int .i64 0,.int .i64 0,.int .i64 0,.int .i64 0]) 84)).alloc (.cells (List.toArray [.int .i64 0,.int .i64 0]) 25)) (w.heap.size+1+1+1) [.int .i64 0,.int .i64 0]:=bxA;have HZ0:Ho w ((((w.alloc (.cells (List.toArray [.slice na L.length nc,.slice da M.length dc,.int .i64 i0,.int .i64 i1]) 27)).alloc (.cells (List.toArray [.int .i64 a.a,.int .i64 a.b,.int .i64 a.c,.int .i64 a.d,.int .i64 a.e,.int .i64 a.f,.int .i64 v.a,.int .i64 v.b,.int .i64 v.c,.int .i64 v.d,.int .i64 v.e,.int .i64 v.f]) 84)).alloc (.cells (List.toArray [.int .i64 0,.int .i64 0,.int .i64 0,.int .i64 0,.int .i64 0,.int .i64 0,.int .i64 0,.int .i64 0,.int .i64 0,.int .i64 0,.int .i64 0,.int .i64 0]) 84)).alloc (.cells (List.toArray [.int .i64 0,.int .i64 0]) 25)) (w.heap.size+1+1) [(w.heap.size+1,[.int .i64 a.a,.int .i64 a.b,.int .i64 a.c,.int .i64 a.d,.int .i64 a.e,.int .i64 a.f,.int .i64 v.a,.int .i64 v.b,.int .i64 v.c,.int .i64 v.d,.int .i64 v.e,.int .i64 v.f]),(w.heap.size,[.slice na L.length nc,.slice da M.length dc,.int .i64 i0,.int .i64 i1])]:=hoA;go_enter Tryz.func31,Tryz.ntmps31;have o_0c:=o_0.c;have o_0f:=o_0.f;have g_0c:=g_0.c;have g_0f:=g_0.f;have zx0:=zp (w.heap.size+1+1) (w.heap.size+1+1+1)
  go_wp2_with fail
  refine (vbody_any _ (HN.out.kept HZ0.below) (HP.out.kept HZ0.below)).mono ?_;rintro r w1 ⟨rfl,hb⟩;rw [EB.out];have H1:Ho w w1 (w.heap.size+1+1) [(w.heap.size+1,[.int .i64 a.a,.int .i64 a.b,.int .i64 a.c,.int .i64 a.d,.int .i64 a.e,.int .i64 a.f,.int .i64 v.a,.int .i64 v.b,.int .i64 v.c,.int .i64 v.d,.int .i64 v.e,.int .i64 v.f]),(w.heap.size,[.slice na L.length nc,.slice da M.length dc,.int .i64 i0,.int .i64 i1])]:=Ho.call hoA hb;have o_1:=bxK o_0 hb;have g_1:=bxK g_0 hb;clear o_0c o_0f g_0c g_0f zx0;have hs1:=H1.size;have hz1:=hb.size
  (try simp at hz1)
  clear hb;have h0_1:=(H1.at 1 rfl).c;have h1_1:=(H1.at 0 rfl).c;have o_1c:=o_1.c;have o_1f:=o_1.f;have o_1l:=o_1.lt;have g_1c:=g_1.c;have g_1f:=g_1.f;have g_1l:=g_1.lt;have zx1:=ai (zq (w.heap.size+1+1) (w1.heap.size))<|ai (zq (w.heap.size+1+1+1) (w1.heap.size))<|ai (zq (w.heap.size) (w1.heap.size))<|ai (zq (w.heap.size+1) (w1.heap.size))<|ai (zp (w.heap.size+1+1) (w.heap.size+1+1+1))<|ai (zp (w.heap.size+1+1) (w.heap.size))<|ai (zp (w.heap.size+1+1) (w.heap.size+1))<|ai (zp (w.heap.size+1+1+1) (w.heap.size))<|zp (w.heap.size+1+1+1) (w.heap.size+1)
  go_wp2_with fail
  refine bodyPost_box2 (b:=w.heap.size+1+1) (c:=w.heap.size+1+1+1) (cs:=[.int .i64 0,.int .i64 0,.int .i64 0,.int .i64 0,.int .i64 0,.int .i64 0,.int .i64 0,.int .i64 0,.int .i64 0,.int .i64 0,.int .i64 0,.int .i64 0]) (ds:=[.int .i64 0,.int .i64 0]) (v:=.tuple #[.agg #[.int .i64 0,.int .i64 0,.int .i64 0,.int .i64 0,.int .i64 0,.int .i64 0,.int .i64 0,.int .i64 0,.int .i64 0,.int .i64 0,.int .i64 0,.int .i64 0],.agg #[.int .i64 0,.int .i64 0],.int .i64 1]) (by
   (repeat (first|with_reducible exact o_1|(with_reducible refine Bx.new ?_;(· (simp;done)))|with_reducible apply Bx.put12|with_reducible apply Bx.put2|with_reducible refine Bx.set ?_ (by omega)|with_reducible refine Bx.alc ?_ _|with_reducible refine Bx.drew ?_))) (by
   (repeat (first|with_reducible exact g_1|(with_reducible refine Bx.new ?_;(· (simp;done)))|with_reducible apply Bx.put12|with_reducible apply Bx.put2|with_reducible refine Bx.set ?_ (by omega)|with_reducible refine Bx.alc ?_ _|with_reducible refine Bx.drew ?_))) (fun X hX hY=>by simp [results,Tryz.results31,go_sem,hX,hY]) rfl ⟨rfl,by
   refine Ho.below (n:=w.heap.size+1+1) (l:=[(w.heap.size+1,[.int .i64 a.a,.int .i64 a.b,.int .i64 a.c,.int .i64 a.d,.int .i64 a.e,.int .i64 a.f,.int .i64 v.a,.int .i64 v.b,.int .i64 v.c,.int .i64 v.d,.int .i64 v.e,.int .i64 v.f]),(w.heap.size,[.slice na L.length nc,.slice da M.length dc,.int .i64 i0,.int .i64 i1])]) ?_
   exact hoA⟩
 ·cases hR:(vD a && vD v)
  ·rw [show enterR L M i0 i1 face a v=failN 1 from (if_pos hB).trans (if_neg (by rw [hR];decide))];have EB:=Lib.hid hB;have ER:=Lib.hid hR;clear hB hR hn hp;have H0:=(((Ho.nil w).bx [.slice na L.length nc,.slice da M.length dc,.int .i64 i0,.int .i64 i1] 27 (w.heap.size) (by simp)).bx [.int .i64 a.a,.int .i64 a.b,.int .i64 a.c,.int .i64 a.d,.int .i64 a.e,.int .i64 a.f,.int .i64 v.a,.int .i64 v.b,.int .i64 v.c,.int .i64 v.d,.int .i64 v.e,.int .i64 v.f] 84 (w.heap.size+1) (by simp));have o_0:Bx ((((w.alloc (.cells (List.toArray [.slice na L.length nc,.slice da M.length dc,.int .i64 i0,.int .i64 i1]) 27)).alloc (.cells (List.toArray [.int .i64 a.a,.int .i64 a.b,.int .i64 a.c,.int .i64 a.d,.int .i64 a.e,.int .i64 a.f,.int .i64 v.a,.int .i64 v.b,.int .i64 v.c,.int .i64 v.d,.int .i64 v.e,.int .i64 v.f]) 84)).alloc (.cells (List.toArray [.int .i64 0,.int .i64 0,.int .i64 0,.int .i64 0,.int .i64 0,.int .i64 0,.int .i64 0,.int .i64 0,.int .i64 0,.int .i64 0,.int .i64 0,.int .i64 0]) 84)).alloc (.cells (List.toArray [.int .i64 0,.int .i64 0]) 25)) (w.heap.size+1+1) [.int .i64 0,.int .i64 0,.int .i64 0,.int .i64 0,.int .i64 0,.int .i64 0,.int .i64 0,.int .i64 0,.int .i64 0,.int .i64 0,.int .i64 0,.int .i64 0]:=bxA;have g_0:Bx ((((w.alloc (.cells (List.toArray [.slice na L.length nc,.slice da M.length dc,.int .i64 i0,.int .i64 i1]) 27)).alloc (.cells (List.toArray [.int .i64 a.a,.int .i64 a.b,.int .i64 a.c,.int .i64 a.d,.int .i64 a.e,.int .i64 a.f,.int .i64 v.a,.int .i64 v.b,.int .i64 v.c,.int .i64 v.d,.int .i64 v.e,.int .i64 v.f]) 84)).alloc (.cells (List.toArray [.int .i64 0,.int .i64 0,.int .i64 0,.int .i64 0,.int .i64 0,.int .i64 0,.int .i64 0,.int .i64 0,.int .i64 0,.int .i64 0,.int .i64 0,.int .i64 0]) 84)).alloc (.cells (List.toArray [.int .i64 0,.int .i64 0]) 25)) (w.heap.size+1+1+1) [.int .i64 0,.int .i64 0]:=bxA;have HZ0:Ho w ((((w.alloc (.cells (List.toArray [.slice na L.length nc,.slice da M.length dc,.int .i64 i0,.int .i64 i1]) 27)).alloc (.cells (List.toArray [.int .i64 a.a,.int .i64 a.b,.int .i64 a.c,.int .i64 a.d,.int .i64 a.e,.int .i64 a.f,.int .i64 v.a,.int .i64 v.b,.int .i64 v.c,.int .i64 v.d,.int .i64 v.e,.int .i64 v.f]) 84)).alloc (.cells (List.toArray [.int .i64 0,.int .i64 0,.int .i64 0,.int .i64 0,.int .i64 0,.int .i64 0,.int .i64 0,.int .i64 0,.int .i64 0,.int .i64 0,.int .i64 0,.int .i64 0]) 84)).alloc (.cells (List.toArray [.int .i64 0,.int .i64 0]) 25)) (w.heap.size+1+1) [(w.heap.size+1,[.int .i64 a.a,.int .i64 a.b,.int .i64 a.c,.int .i64 a.d,.int .i64 a.e,.int .i64 a.f,.int .i64 v.a,.int .i64 v.b,.int .i64 v.c,.int .i64 v.d,.int .i64 v.e,.int .i64 v.f]),(w.heap.size,[.slice na L.length nc,.slice da M.length dc,.int .i64 i0,.int .i64 i1])]:=hoA;go_enter Tryz.func31,Tryz.ntmps31;have o_0c:=o_0.c;have o_0f:=o_0.f;have g_0c:=g_0.c;have g_0f:=g_0.f;have zx0:=zp (w.heap.size+1+1) (w.heap.size+1+1+1)
   go_wp2_with fail
   refine (vbody_any _ (HN.out.kept HZ0.below) (HP.out.kept HZ0.below)).mono ?_;rintro r w1 ⟨rfl,hb⟩;rw [EB.out];have H1:Ho w w1 (w.heap.size+1+1) [(w.heap.size+1,[.int .i64 a.a,.int .i64 a.b,.int .i64 a.c,.int .i64 a.d,.int .i64 a.e,.int .i64 a.f,.int .i64 v.a,.int .i64 v.b,.int .i64 v.c,.int .i64 v.d,.int .i64 v.e,.int .i64 v.f]),(w.heap.size,[.slice na L.length nc,.slice da M.length dc,.int .i64 i0,.int .i64 i1])]:=Ho.call hoA hb;have o_1:=bxK o_0 hb;have g_1:=bxK g_0 hb;clear o_0c o_0f g_0c g_0f zx0;have hs1:=H1.size;have hz1:=hb.size
   (try simp at hz1)
   clear hb;have h0_1:=(H1.at 1 rfl).c;have h1_1:=(H1.at 0 rfl).c;have o_1c:=o_1.c;have o_1f:=o_1.f;have o_1l:=o_1.lt;have g_1c:=g_1.c;have g_1f:=g_1.f;have g_1l:=g_1.lt;have zx1:=ai (zq (w.heap.size+1+1) (w1.heap.size))<|ai (zq (w.heap.size+1+1+1) (w1.heap.size))<|ai (zq (w.heap.size) (w1.heap.size))<|ai (zq (w.heap.size+1) (w1.heap.size))<|ai (zp (w.heap.size+1+1) (w.heap.size+1+1+1))<|ai (zp (w.heap.size+1+1) (w.heap.size))<|ai (zp (w.heap.size+1+1) (w.heap.size+1))<|ai (zp (w.heap.size+1+1+1) (w.heap.size))<|zp (w.heap.size+1+1+1) (w.heap.size+1)
   go_wp2_with fail
   refine (vray31_any a v _).mono ?_;rintro r w2 ⟨rfl,hb⟩;rw [ER.out];have H2:Ho w w2 (w.heap.size+1+1) [(w.heap.size+1,[.int .i64 a.a,.int .i64 a.b,.int .i64 a.c,.int .i64 a.d,.int .i64 a.e,.int .i64 a.f,.int .i64 v.a,.int .i64 v.b,.int .i64 v.c,.int .i64 v.d,.int .i64 v.e,.int .i64 v.f]),(w.heap.size,[.slice na L.length nc,.slice da M.length dc,.int .i64 i0,.int .i64 i1])]:=Ho.call hoA hb;have o_2:=bxK o_1 hb;have g_2:=bxK g_1 hb;clear h0_1 h1_1 o_1c o_1f g_1c g_1f zx1;have hs2:=H2.size;have hz2:=hb.size
   (try simp at hz2)
   clear hb;have h0_2:=(H2.at 1 rfl).c;have h1_2:=(H2.at 0 rfl).c;have o_2c:=o_2.c;have o_2f:=o_2.f;have o_2l:=o_2.lt;have g_2c:=g_2.c;have g_2f:=g_2.f;have g_2l:=g_2.lt;have zx2:=ai (zq (w.heap.size+1+1) (w2.heap.size))<|ai (zq (w.heap.size+1+1+1) (w2.heap.size))<|ai (zq (w.heap.size) (w2.heap.size))<|ai (zq (w.heap.size+1) (w2.heap.size))<|ai (zp (w.heap.size+1+1) (w.heap.size+1+1+1))<|ai (zp (w.heap.size+1+1) (w.heap.size))<|ai (zp (w.heap.size+1+1) (w.heap.size+1))<|ai (zp (w.heap.size+1+1+1) (w.heap.size))<|zp (w.heap.size+1+1+1) (w.heap.size+1)
   go_wp2_with fail
   refine bodyPost_box2 (b:=w.heap.size+1+1) (c:=w.heap.size+1+1+1) (cs:=[.int .i64 0,.int .i64 0,.int .i64 0,.int .i64 0,.int .i64 0,.int .i64 0,.int .i64 0,.int .i64 0,.int .i64 0,.int .i64 0,.int .i64 0,.int .i64 0]) (ds:=[.int .i64 0,.int .i64 0]) (v:=.tuple #[.agg #[.int .i64 0,.int .i64 0,.int .i64 0,.int .i64 0,.int .i64 0,.int .i64 0,.int .i64 0,.int .i64 0,.int .i64 0,.int .i64 0,.int .i64 0,.int .i64 0],.agg #[.int .i64 0,.int .i64 0],.int .i64 1]) (by
    (repeat (first|with_reducible exact o_2|(with_reducible refine Bx.new ?_;(· (simp;done)))|with_reducible apply Bx.put12|with_reducible apply Bx.put2|with_reducible refine Bx.set ?_ (by omega)|with_reducible refine Bx.alc ?_ _|with_reducible refine Bx.drew ?_))) (by
    (repeat (first|with_reducible exact g_2|(with_reducible refine Bx.new ?_;(· (simp;done)))|with_reducible apply Bx.put12|with_reducible apply Bx.put2|with_reducible refine Bx.set ?_ (by omega)|with_reducible refine Bx.alc ?_ _|with_reducible refine Bx.drew ?_))) (fun X hX hY=>by simp [results,Tryz.results31,go_sem,hX,hY]) rfl ⟨rfl,by
    refine Ho.below (n:=w.heap.size+1+1) (l:=[(w.heap.size+1,[.int .i64 a.a,.int .i64 a.b,.int .i64 a.c,.int .i64 a.d,.int .i64 a.e,.int .i64 a.f,.int .i64 v.a,.int .i64 v.b,.int .i64 v.c,.int .i64 v.d,.int .i64 v.e,.int .i64 v.f]),(w.heap.size,[.slice na L.length nc,.slice da M.length dc,.int .i64 i0,.int .i64 i1])]) ?_
    exact hoA⟩
  ·by_cases hf:0≤face∧face<(L.length:Int)
   ·obtain ⟨hf0,hf1⟩:=hf;obtain ⟨k,rfl⟩:∃k:Nat,face=(k:Int):=⟨face.toNat,by omega⟩
    have hk:k<L.length:=by omega
    obtain ⟨n,hx⟩:∃n,L[k]? = some n:=⟨L[k],List.getElem?_eq_getElem hk⟩
    have hnn:nthD L (k:Int)=n:=by rw [nthD,Int.toNat_natCast,hx];rfl
    obtain ⟨⟨r0,r1,re⟩,h1⟩:∃r:R,divR 16777216 16777216 i0 i1=r:=⟨_,rfl⟩;obtain ⟨⟨⟨d0,d1,d2,d3,d4,d5⟩,p,q,u,x,ee⟩,h2⟩:∃r,refrR v n r0 r1=r:=⟨_,rfl⟩;obtain ⟨s,h3⟩:∃s,sgn p q=s:=⟨_,rfl⟩;obtain ⟨⟨tl,th,te⟩,h4⟩:∃r:R,passG p q u x 16777216 16777216 i0 i1=r:=⟨_,rfl⟩;have HVV:=Lib.hid (show ee=0→vB u x=true from fun h=>by have:=refr_v (s:=v) (t:=n) (a:=r0) (b:=r1);rw [h2] at this;exact this h)
    have HRV:=Lib.hid (show enterR L M i0 i1 (k:Int) a v=if re=0 then (if ee=0 then (if 0<s then failN 9 else if te=0 then ⟨a,⟨d0,d1,d2,d3,d4,d5⟩,tl,th,0⟩ else failN te) else failN ee) else failN re from by
     rw [enterR,if_pos hB,if_pos hR,if_pos ⟨hf0,hf1⟩,hnn,enterG,h1];dsimp only;rw [enterF,h2];dsimp only
     rw [h3,h4])
    have EB:=Lib.hid hB;have ER:=Lib.hid hR;obtain ⟨nb,no,rfl,hnb,hN⟩:=hn (by omega);have RN0:=(Rs.mk hnb (hN k n hx):Rs w nb (no+k*6) [.int .i64 n.a,.int .i64 n.b,.int .i64 n.c,.int .i64 n.d,.int .i64 n.e,.int .i64 n.f]);have X1:=Lib.hid h1;have X2:=Lib.hid h2;have X3:=Lib.hid h3;have X4:=Lib.hid h4;have HX:=Lib.hid hx;clear hB hR h1 h2 h3 h4 hx hN hn hp hnn;have H0:=(((Ho.nil w).bx [.slice (some ⟨nb,no,none⟩) L.length nc,.slice da M.length dc,.int .i64 i0,.int .i64 i1] 27 (w.heap.size) (by simp)).bx [.int .i64 a.a,.int .i64 a.b,.int .i64 a.c,.int .i64 a.d,.int .i64 a.e,.int .i64 a.f,.int .i64 v.a,.int .i64 v.b,.int .i64 v.c,.int .i64 v.d,.int .i64 v.e,.int .i64 v.f] 84 (w.heap.size+1) (by simp));have o_0:Bx ((((w.alloc (.cells (List.toArray [.slice (some ⟨nb,no,none⟩) L.length nc,.slice da M.length dc,.int .i64 i0,.int .i64 i1]) 27)).alloc (.cells (List.toArray [.int .i64 a.a,.int .i64 a.b,.int .i64 a.c,.int .i64 a.d,.int .i64 a.e,.int .i64 a.f,.int .i64 v.a,.int .i64 v.b,.int .i64 v.c,.int .i64 v.d,.int .i64 v.e,.int .i64 v.f]) 84)).alloc (.cells (List.toArray [.int .i64 0,.int .i64 0,.int .i64 0,.int .i64 0,.int .i64 0,.int .i64 0,.int .i64 0,.int .i64 0,.int .i64 0,.int .i64 0,.int .i64 0,.int .i64 0]) 84)).alloc (.cells (List.toArray [.int .i64 0,.int .i64 0]) 25)) (w.heap.size+1+1) [.int .i64 0,.int .i64 0,.int .i64 0,.int .i64 0,.int .i64 0,.int .i64 0,.int .i64 0,.int .i64 0,.int .i64 0,.int .i64 0,.int .i64 0,.int .i64 0]:=bxA;have g_0:Bx ((((w.alloc (.cells (List.toArray [.slice (some ⟨nb,no,none⟩) L.length nc,.slice da M.length dc,.int .i64 i0,.int .i64 i1]) 27)).alloc (.cells (List.toArray [.int .i64 a.a,.int .i64 a.b,.int .i64 a.c,.int .i64 a.d,.int .i64 a.e,.int .i64 a.f,.int .i64 v.a,.int .i64 v.b,.int .i64 v.c,.int .i64 v.d,.int .i64 v.e,.int .i64 v.f]) 84)).alloc (.cells (List.toArray [.int .i64 0,.int .i64 0,.int .i64 0,.int .i64 0,.int .i64 0,.int .i64 0,.int .i64 0,.int .i64 0,.int .i64 0,.int .i64 0,.int .i64 0,.int .i64 0]) 84)).alloc (.cells (List.toArray [.int .i64 0,.int .i64 0]) 25)) (w.heap.size+1+1+1) [.int .i64 0,.int .i64 0]:=bxA;have HZ0:Ho w ((((w.alloc (.cells (List.toArray [.slice (some ⟨nb,no,none⟩) L.length nc,.slice da M.length dc,.int .i64 i0,.int .i64 i1]) 27)).alloc (.cells (List.toArray [.int .i64 a.a,.int .i64 a.b,.int .i64 a.c,.int .i64 a.d,.int .i64 a.e,.int .i64 a.f,.int .i64 v.a,.int .i64 v.b,.int .i64 v.c,.int .i64 v.d,.int .i64 v.e,.int .i64 v.f]) 84)).alloc (.cells (List.toArray [.int .i64 0,.int .i64 0,.int .i64 0,.int .i64 0,.int .i64 0,.int .i64 0,.int .i64 0,.int .i64 0,.int .i64 0,.int .i64 0,.int .i64 0,.int .i64 0]) 84)).alloc (.cells (List.toArray [.int .i64 0,.int .i64 0]) 25)) (w.heap.size+1+1) [(w.heap.size+1,[.int .i64 a.a,.int .i64 a.b,.int .i64 a.c,.int .i64 a.d,.int .i64 a.e,.int .i64 a.f,.int .i64 v.a,.int .i64 v.b,.int .i64 v.c,.int .i64 v.d,.int .i64 v.e,.int .i64 v.f]),(w.heap.size,[.slice (some ⟨nb,no,none⟩) L.length nc,.slice da M.length dc,.int .i64 i0,.int .i64 i1])]:=hoA;go_enter Tryz.func31,Tryz.ntmps31;have o_0c:=o_0.c;have o_0f:=o_0.f;have g_0c:=g_0.c;have g_0f:=g_0.f;have zx0:=zp (w.heap.size+1+1) (w.heap.size+1+1+1)
    go_wp2_with fail
    refine (vbody_any _ (HN.out.kept HZ0.below) (HP.out.kept HZ0.below)).mono ?_;rintro r w1 ⟨rfl,hb⟩;rw [EB.out];have H1:Ho w w1 (w.heap.size+1+1) [(w.heap.size+1,[.int .i64 a.a,.int .i64 a.b,.int .i64 a.c,.int .i64 a.d,.int .i64 a.e,.int .i64 a.f,.int .i64 v.a,.int .i64 v.b,.int .i64 v.c,.int .i64 v.d,.int .i64 v.e,.int .i64 v.f]),(w.heap.size,[.slice (some ⟨nb,no,none⟩) L.length nc,.slice da M.length dc,.int .i64 i0,.int .i64 i1])]:=Ho.call hoA hb;have o_1:=bxK o_0 hb;have g_1:=bxK g_0 hb;clear o_0c o_0f g_0c g_0f zx0;have hs1:=H1.size;have hz1:=hb.size
    (try simp at hz1)
    clear hb;have h0_1:=(H1.at 1 rfl).c;have h1_1:=(H1.at 0 rfl).c;have o_1c:=o_1.c;have o_1f:=o_1.f;have o_1l:=o_1.lt;have g_1c:=g_1.c;have g_1f:=g_1.f;have g_1l:=g_1.lt;have zx1:=ai (zq (w.heap.size+1+1) (w1.heap.size))<|ai (zq (w.heap.size+1+1+1) (w1.heap.size))<|ai (zq (w.heap.size) (w1.heap.size))<|ai (zq (w.heap.size+1) (w1.heap.size))<|ai (zp (w.heap.size+1+1) (w.heap.size+1+1+1))<|ai (zp (w.heap.size+1+1) (w.heap.size))<|ai (zp (w.heap.size+1+1) (w.heap.size+1))<|ai (zp (w.heap.size+1+1+1) (w.heap.size))<|zp (w.heap.size+1+1+1) (w.heap.size+1)
    go_wp2_with fail
    refine (vray31_any a v _).mono ?_;rintro r w2 ⟨rfl,hb⟩;rw [ER.out];have H2:Ho w w2 (w.heap.size+1+1) [(w.heap.size+1,[.int .i64 a.a,.int .i64 a.b,.int .i64 a.c,.int .i64 a.d,.int .i64 a.e,.int .i64 a.f,.int .i64 v.a,.int .i64 v.b,.int .i64 v.c,.int .i64 v.d,.int .i64 v.e,.int .i64 v.f]),(w.heap.size,[.slice (some ⟨nb,no,none⟩) L.length nc,.slice da M.length dc,.int .i64 i0,.int .i64 i1])]:=Ho.call hoA hb;have o_2:=bxK o_1 hb;have g_2:=bxK g_1 hb;clear h0_1 h1_1 o_1c o_1f g_1c g_1f zx1;have hs2:=H2.size;have hz2:=hb.size
    (try simp at hz2)
    clear hb;have h0_2:=(H2.at 1 rfl).c;have h1_2:=(H2.at 0 rfl).c;have o_2c:=o_2.c;have o_2f:=o_2.f;have o_2l:=o_2.lt;have g_2c:=g_2.c;have g_2f:=g_2.f;have g_2l:=g_2.lt;have zx2:=ai (zq (w.heap.size+1+1) (w2.heap.size))<|ai (zq (w.heap.size+1+1+1) (w2.heap.size))<|ai (zq (w.heap.size) (w2.heap.size))<|ai (zq (w.heap.size+1) (w2.heap.size))<|ai (zp (w.heap.size+1+1) (w.heap.size+1+1+1))<|ai (zp (w.heap.size+1+1) (w.heap.size))<|ai (zp (w.heap.size+1+1) (w.heap.size+1))<|ai (zp (w.heap.size+1+1+1) (w.heap.size))<|zp (w.heap.size+1+1+1) (w.heap.size+1)
    go_upto_region 5 with fail
    generalize Value.bool (decide ((k:Int)<0) || decide (L.length≤k))=z33;generalize Value.bool (decide (L.length≤k))=z32;generalize Value.bool (decide ((k:Int)<0))=z26;refine region_sets (Ea.I nb no nc M.length dc k L.length w.heap.size (w.heap.size+1+1) (w.heap.size+1+1+1) 0 0 0 0 w2.heap.size i0 i1 r0 r1 re p q u x ee tl th te d0 d1 d2 d3 d4 d5 n a v da w) (by kernel_rfl) ?_ ?_ ?_
    ·refine ⟨false,false,false,false,false,false,false,false,false,false,undef,undef,undef,undef,undef,undef,undef,undef,undef,0,rfl,by simp only [Act.put,sS],?_⟩;constructor
     ·exact hoA
     ·(first|(simp;done)|(simp;omega))
     ·(omega)
     ·exact bxB
     ·(omega)
     ·exact bxB
     ·(omega)
     all_goals (intro h;cases h)
    ·intro L a' w' hI i hi;obtain ⟨l0,l1,l2,l3,l4,l5,l6,l7,l8,l9,v0,v1,v2,v3,v4,v5,v6,v7,v9,b7,rfl,rfl,h⟩:=hI;have hlt:=ready_lt hi
     match i,hi,hlt with
     |0,hi,_=>
      obtain rfl:l0=false:=rl rfl hi;clear hi hlt;have H:=Lib.hid h;clear h;refine wpOp_shut rfl (fun K hK=>?_)
      try simp only [Act.put,sS]
      go_simp;refine (tunit_any _).mono ?_;rintro e wY ⟨rfl,hb⟩
      try go_simp
      refine hK.out _ _ ?_;unfold Ea.I;refine ⟨_,_,_,_,_,_,_,_,_,_,((iv 16777216 16777216)),v1,v2,v3,v4,v5,v6,v7,v9,b7,rfl,?_,?_⟩
      ·simp only [Act.put,sS]
      ·exact {(H.out.kept hb) with ev0:=fun _=>rfl}
     |1,hi,_=>
      obtain rfl:l1=false:=rl rfl hi;clear hi hlt;have H:=Lib.hid h;clear h;refine wpOp_shut rfl (fun K hK=>?_)
      try simp only [Act.put,sS]
      go_simp;refine hK.out _ _ ?_;unfold Ea.I;refine ⟨_,_,_,_,_,_,_,_,_,_,v0,(.pointer (some ⟨w.heap.size,2,none⟩)),v2,v3,v4,v5,v6,v7,v9,b7,rfl,?_,?_⟩
      ·simp only [Act.put,sS]
      ·exact {H.out with ev1:=fun _=>rfl}
     |2,hi,_=>
      obtain rfl:l2=false:=rl rfl hi;obtain rfl:l1=true:=rk rfl hi 1 .data;clear hi hlt;obtain rfl:=h.ev1 rfl;have c:=(h.g.at 1 rfl).c;have H:=Lib.hid h;clear h;refine wpOp_shut rfl (fun K hK=>?_)
      try simp only [Act.put,sS]
      go_simp;refine hK.out _ _ ?_;unfold Ea.I;refine ⟨_,_,_,_,_,_,_,_,_,_,v0,(.pointer (some ⟨w.heap.size,2,none⟩)),((iv i0 i1)),v3,v4,v5,v6,v7,v9,b7,rfl,?_,?_⟩
      ·simp only [Act.put,sS]
      ·exact {H.out with ev2:=fun _=>rfl}
     |3,hi,_=>
      obtain rfl:l3=false:=rl rfl hi;obtain rfl:l0=true:=rk rfl hi 0 .chain;obtain rfl:l2=true:=rk rfl hi 2 .data;clear hi hlt;obtain rfl:=h.ev0 rfl;obtain rfl:=h.ev2 rfl;have H:=Lib.hid h;clear h;refine wpOp_shut rfl (fun K hK=>?_)
      try simp only [Act.put,sS]
      go_simp;refine (div_any 16777216 16777216 i0 i1 _).mono ?_;rintro e wY ⟨rfl,hb⟩;rw [X1.out];unfold retR;dsimp only
      try go_simp
      refine hK.out _ _ ?_;unfold Ea.I;refine ⟨_,_,_,_,_,_,_,_,_,_,((iv 16777216 16777216)),v1,((iv i0 i1)),(.tuple #[(iv r0 r1),.int .i64 re]),v4,v5,v6,v7,v9,b7,rfl,?_,?_⟩
      ·simp only [Act.put,sS]
      ·exact {(H.out.kept hb) with ev3:=fun _=>rfl}
     |4,hi,_=>
      obtain rfl:l4=false:=rl rfl hi;obtain rfl:l3=true:=rk rfl hi 3 .data;clear hi hlt;obtain rfl:=h.ev3 rfl;have H:=Lib.hid h;clear h;refine wpOp_shut rfl (fun K hK=>?_)
      try simp only [Act.put,sS]
      go_simp;refine hK.out _ _ ?_;unfold Ea.I;refine ⟨_,_,_,_,_,_,_,_,_,_,v0,v1,v2,(.tuple #[(iv r0 r1),.int .i64 re]),(.tuple #[(iv r0 r1),.int .i64 re]),v5,v6,v7,v9,b7,rfl,?_,?_⟩
      ·simp only [Act.put,sS]
      ·exact {H.out with ev4:=fun _=>rfl}
     |5,hi,_=>
      obtain rfl:l5=false:=rl rfl hi;obtain rfl:l4=true:=rk rfl hi 4 .data;clear hi hlt;obtain rfl:=h.ev4 rfl;have H:=Lib.hid h;clear h;refine wpOp_shut rfl (fun K hK=>?_)
      try simp only [Act.put,sS]
      go_simp;refine hK.out _ _ ?_;unfold Ea.I;refine ⟨_,_,_,_,_,_,_,_,_,_,v0,v1,v2,v3,(.tuple #[(iv r0 r1),.int .i64 re]),((iv r0 r1)),v6,v7,v9,b7,rfl,?_,?_⟩
      ·simp only [Act.put,sS]
      ·exact {H.out with ev5:=fun _=>rfl}
     |6,hi,_=>
      obtain rfl:l6=false:=rl rfl hi;obtain rfl:l4=true:=rk rfl hi 4 .data;clear hi hlt;obtain rfl:=h.ev4 rfl;have H:=Lib.hid h;clear h;refine wpOp_shut rfl (fun K hK=>?_)
      try simp only [Act.put,sS]
      go_simp;refine hK.out _ _ ?_;unfold Ea.I;refine ⟨_,_,_,_,_,_,_,_,_,_,v0,v1,v2,v3,(.tuple #[(iv r0 r1),.int .i64 re]),v5,(.int .i64 re),v7,v9,b7,rfl,?_,?_⟩
      ·simp only [Act.put,sS]
      ·exact {H.out with ev6:=fun _=>rfl}
     |7,hi,_=>
      obtain rfl:l7=false:=rl rfl hi;clear hi hlt;have H:=Lib.hid h;clear h;refine wpOp_shut rfl (fun K hK=>?_)
      try simp only [Act.put,sS]
      go_simp;refine hK.out _ _ ?_;unfold Ea.I;refine ⟨_,_,_,_,_,_,_,_,_,_,v0,v1,v2,v3,v4,v5,v6,(.pointer (some ⟨w'.heap.size,0,none⟩)),v9,w'.heap.size,rfl,?_,?_⟩
      ·simp only [Act.put,sS]
      ·have h:=H.out;have h2:=h.kept ((Below.refl _ _).alloc (Nat.le_refl _) (.cells (List.toArray [.int .i64 0,.int .i64 0]) 25));exact {h2 with ev7:=fun _=>rfl,g7:=fun _=>h.sz,t7:=fun _=>by simp,o7:=fun p=>rfl,z7:=fun _ _=>Bx.new rfl,s7:=fun p=>(nomatch (h.o7 p))}
     |8,hi,_=>
      obtain rfl:l8=false:=rl rfl hi;obtain rfl:l7=true:=rk rfl hi 7 .phase;obtain rfl:l5=true:=rk rfl hi 5 .phase;obtain rfl:l3=true:=rk rfl hi 3 .phase;obtain rfl:l0=true:=rk rfl hi 0 .phase;obtain rfl:l1=true:=rk rfl hi 1 .phase;obtain rfl:l2=true:=rk rfl hi 2 .phase;obtain rfl:l4=true:=rk rfl hi 4 .phase;clear hi hlt;obtain rfl:=h.ev7 rfl;obtain rfl:=h.ev5 rfl;obtain rfl:=h.ev3 rfl;obtain rfl:=h.ev0 rfl;obtain rfl:=h.ev1 rfl;obtain rfl:=h.ev2 rfl;obtain rfl:=h.ev4 rfl;have bz:=h.z7 rfl rfl;have c:=bz.c;have f:=bz.f;clear bz;have H:=Lib.hid h;clear h;refine wpOp_shut rfl (fun K hK=>?_)
      try simp only [Act.put,sS]
      go_simp;refine hK.out _ _ ?_;unfold Ea.I;refine ⟨_,_,_,_,_,_,_,_,_,_,((iv 16777216 16777216)),(.pointer (some ⟨w.heap.size,2,none⟩)),((iv i0 i1)),(.tuple #[(iv r0 r1),.int .i64 re]),(.tuple #[(iv r0 r1),.int .i64 re]),((iv r0 r1)),v6,(.pointer (some ⟨b7,0,none⟩)),v9,b7,rfl,?_,?_⟩
      ·simp only [Act.put,sS]
      ·have h:=H.out;have gb:=h.g7 rfl;have gm:=Nat.le_trans h.mn gb;exact {h with g:=((h.g.put gm).put gm),sz:=by simpa using h.sz,o7:=fun _=>rfl,z7:=fun _ p=>(nomatch p),s7:=fun _=>(((h.z7 rfl rfl).put).put),t7:=fun p=>by simpa using h.t7 p,u0:=((h.u0.set (Nat.ne_of_lt (Nat.lt_of_lt_of_le h.un0 gb))).set (Nat.ne_of_lt (Nat.lt_of_lt_of_le h.un0 gb))),u1:=((h.u1.set (Nat.ne_of_lt (Nat.lt_of_lt_of_le h.un1 gb))).set (Nat.ne_of_lt (Nat.lt_of_lt_of_le h.un1 gb)))}
     |9,hi,_=>
      obtain rfl:l9=false:=rl rfl hi;obtain rfl:l6=true:=rk rfl hi 6 .phase;obtain rfl:l8=true:=rk rfl hi 8 .phase;obtain rfl:l0=true:=rk rfl hi 0 .phase;obtain rfl:l1=true:=rk rfl hi 1 .phase;obtain rfl:l2=true:=rk rfl hi 2 .phase;obtain rfl:l3=true:=rk rfl hi 3 .phase;obtain rfl:l4=true:=rk rfl hi 4 .phase;obtain rfl:l5=true:=rk rfl hi 5 .phase;obtain rfl:l7=true:=rk rfl hi 7 .phase;clear hi hlt;obtain rfl:=h.ev6 rfl;obtain rfl:=h.ev0 rfl;obtain rfl:=h.ev1 rfl;obtain rfl:=h.ev2 rfl;obtain rfl:=h.ev3 rfl;obtain rfl:=h.ev4 rfl;obtain rfl:=h.ev5 rfl;obtain rfl:=h.ev7 rfl;have H:=Lib.hid h;clear h;refine wpOp_shut rfl (fun K hK=>?_)
      try simp only [Act.put,sS]
      go_simp;refine hK.out _ _ ?_;unfold Ea.I;refine ⟨_,_,_,_,_,_,_,_,_,_,((iv 16777216 16777216)),(.pointer (some ⟨w.heap.size,2,none⟩)),((iv i0 i1)),(.tuple #[(iv r0 r1),.int .i64 re]),(.tuple #[(iv r0 r1),.int .i64 re]),((iv r0 r1)),(.int .i64 re),(.pointer (some ⟨b7,0,none⟩)),(.int .i64 re),b7,rfl,?_,?_⟩
      ·simp only [Act.put,sS]
      ·exact {H.out with ev9:=fun _=>rfl}
     |i+10,_,hlt=>exact absurd hlt (by simp)
    ·intro L a' w' hI hn;obtain ⟨l0,l1,l2,l3,l4,l5,l6,l7,l8,l9,v0,v1,v2,v3,v4,v5,v6,v7,v9,b7,rfl,rfl,h⟩:=hI;obtain rfl:l0=true:=nr 0 rfl hn;obtain rfl:l1=true:=nr 1 rfl hn;obtain rfl:l2=true:=nr 2 rfl hn;obtain rfl:l3=true:=nr 3 rfl hn;obtain rfl:l4=true:=nr 4 rfl hn;obtain rfl:l5=true:=nr 5 rfl hn;obtain rfl:l6=true:=nr 6 rfl hn;obtain rfl:l7=true:=nr 7 rfl hn;obtain rfl:l8=true:=nr 8 rfl hn;obtain rfl:l9=true:=nr 9 rfl hn;clear hn;obtain rfl:=h.ev0 rfl;obtain rfl:=h.ev1 rfl;obtain rfl:=h.ev2 rfl;obtain rfl:=h.ev3 rfl;obtain rfl:=h.ev4 rfl;obtain rfl:=h.ev5 rfl;obtain rfl:=h.ev6 rfl;obtain rfl:=h.ev7 rfl;obtain rfl:=h.ev9 rfl;simp only [Act.put,sS]
     rename World=>w3
     have H3:=h.g;have o_3:=h.u0;have g_3:=h.u1;have B7:=h.s7 rfl;have e7:=h.g7 rfl;have z3:=h.sz;clear h;clear h0_2 h1_2 o_2c o_2f g_2c g_2f zx2;have RN:=RN0.kept H3.below;have o3l:=o_3.lt;have g3l:=g_3.lt;have b7l:=B7.lt;revert B7 e7 b7l;generalize b7=k7;intro B7 e7 b7l
     by_cases hre:re=0
     ·have HRV:=Lib.hid (HRV.out.trans (if_pos hre));subst hre
      go_upto_region 8 with fail
      have HG:=H3.cons B7.rd;refine region_sets (Eb.I nb no nc M.length dc k L.length w.heap.size (w.heap.size+1+1) (w.heap.size+1+1+1) k7 0 0 0 w3.heap.size i0 i1 r0 r1 0 p q u x ee tl th te d0 d1 d2 d3 d4 d5 n a v da w) (by kernel_rfl) ?_ ?_ ?_
      ·refine ⟨false,false,false,false,false,false,false,false,false,false,false,false,false,false,false,false,false,false,false,false,false,undef,undef,undef,undef,undef,undef,undef,undef,undef,undef,undef,undef,undef,undef,undef,undef,undef,(.int .i64 0),0,0,0,rfl,by simp only [Act.put,sS],?_⟩;constructor
       ·exact hoA
       ·(first|(simp;done)|(simp;omega))
       ·(omega)
       ·exact bxB
       ·(omega)
       ·exact bxB
       ·(omega)
       ·(with_reducible repeat (first|exact RN|refine Rs.alc ?_ _|refine Rs.drew ?_))
       ·(omega)
       all_goals (intro h;cases h)
      ·intro L a' w' hI i hi;obtain ⟨l0,l1,l2,l3,l4,l5,l6,l7,l8,l9,l10,l11,l12,l13,l14,l15,l16,l17,l18,l19,l20,v0,v1,v2,v3,v4,v5,v6,v7,v8,v9,v10,v11,v12,v13,v14,v15,v16,v20,b14,b15,b16,rfl,rfl,h⟩:=hI;have hlt:=ready_lt hi
       match i,hi,hlt with
       |0,hi,_=>
        obtain rfl:l0=false:=rl rfl hi;clear hi hlt;have H:=Lib.hid h;clear h;refine wpOp_shut rfl (fun K hK=>?_)
        try simp only [Act.put,sS]
        go_simp;refine hK.out _ _ ?_;unfold Eb.I;refine ⟨_,_,_,_,_,_,_,_,_,_,_,_,_,_,_,_,_,_,_,_,_,(.pointer (some ⟨w.heap.size+1,6,none⟩)),v1,v2,v3,v4,v5,v6,v7,v8,v9,v10,v11,v12,v13,v14,v15,v16,v20,b14,b15,b16,rfl,?_,?_⟩
        ·simp only [Act.put,sS]
        ·exact {H.out with ev0:=fun _=>rfl}
       |1,hi,_=>
        obtain rfl:l1=false:=rl rfl hi;obtain rfl:l0=true:=rk rfl hi 0 .data;clear hi hlt;obtain rfl:=h.ev0 rfl;have c:=(h.g.at 1 rfl).c;have H:=Lib.hid h;clear h;refine wpOp_shut rfl (fun K hK=>?_)
        try simp only [Act.put,sS]
        go_simp;refine hK.out _ _ ?_;unfold Eb.I;refine ⟨_,_,_,_,_,_,_,_,_,_,_,_,_,_,_,_,_,_,_,_,_,(.pointer (some ⟨w.heap.size+1,6,none⟩)),((dv v)),v2,v3,v4,v5,v6,v7,v8,v9,v10,v11,v12,v13,v14,v15,v16,v20,b14,b15,b16,rfl,?_,?_⟩
        ·simp only [Act.put,sS]
        ·exact {H.out with ev1:=fun _=>rfl}
       |2,hi,_=>
        obtain rfl:l2=false:=rl rfl hi;clear hi hlt;have H:=Lib.hid h;clear h;refine wpOp_shut rfl (fun K hK=>?_)
        try simp only [Act.put,sS]
        go_simp;refine hK.out _ _ ?_;unfold Eb.I;refine ⟨_,_,_,_,_,_,_,_,_,_,_,_,_,_,_,_,_,_,_,_,_,v0,v1,(.pointer (some ⟨w.heap.size,0,none⟩)),v3,v4,v5,v6,v7,v8,v9,v10,v11,v12,v13,v14,v15,v16,v20,b14,b15,b16,rfl,?_,?_⟩
        ·simp only [Act.put,sS]
        ·exact {H.out with ev2:=fun _=>rfl}
       |3,hi,_=>
        obtain rfl:l3=false:=rl rfl hi;obtain rfl:l2=true:=rk rfl hi 2 .data;clear hi hlt;obtain rfl:=h.ev2 rfl;have c:=(h.g.at 2 rfl).c;have H:=Lib.hid h;clear h;refine wpOp_shut rfl (fun K hK=>?_)
        try simp only [Act.put,sS]
        go_simp;refine hK.out _ _ ?_;unfold Eb.I;refine ⟨_,_,_,_,_,_,_,_,_,_,_,_,_,_,_,_,_,_,_,_,_,v0,v1,(.pointer (some ⟨w.heap.size,0,none⟩)),(.slice (some ⟨nb,no,none⟩) L.length nc),v4,v5,v6,v7,v8,v9,v10,v11,v12,v13,v14,v15,v16,v20,b14,b15,b16,rfl,?_,?_⟩
        ·simp only [Act.put,sS]
        ·exact {H.out with ev3:=fun _=>rfl}
       |4,hi,_=>
        obtain rfl:l4=false:=rl rfl hi;clear hi hlt;have H:=Lib.hid h;clear h;refine wpOp_shut rfl (fun K hK=>?_)
        try simp only [Act.put,sS]
        go_simp;refine hK.out _ _ ?_;unfold Eb.I;refine ⟨_,_,_,_,_,_,_,_,_,_,_,_,_,_,_,_,_,_,_,_,_,v0,v1,v2,v3,(.int .i64 k),v5,v6,v7,v8,v9,v10,v11,v12,v13,v14,v15,v16,v20,b14,b15,b16,rfl,?_,?_⟩
        ·simp only [Act.put,sS]
        ·exact {H.out with ev4:=fun _=>rfl}
       |5,hi,_=>
        obtain rfl:l5=false:=rl rfl hi;obtain rfl:l3=true:=rk rfl hi 3 .data;obtain rfl:l4=true:=rk rfl hi 4 .data;clear hi hlt;obtain rfl:=h.ev3 rfl;obtain rfl:=h.ev4 rfl;have H:=Lib.hid h;clear h;refine wpOp_shut rfl (fun K hK=>?_)
        try simp only [Act.put,sS]
        go_simp;refine hK.out _ _ ?_;unfold Eb.I;refine ⟨_,_,_,_,_,_,_,_,_,_,_,_,_,_,_,_,_,_,_,_,_,v0,v1,v2,(.slice (some ⟨nb,no,none⟩) L.length nc),(.int .i64 k),(.pointer (some ⟨nb,no+k*6,none⟩)),v6,v7,v8,v9,v10,v11,v12,v13,v14,v15,v16,v20,b14,b15,b16,rfl,?_,?_⟩
        ·simp only [Act.put,sS]
        ·exact {H.out with ev5:=fun _=>rfl}
       |6,hi,_=>
        obtain rfl:l6=false:=rl rfl hi;obtain rfl:l5=true:=rk rfl hi 5 .data;clear hi hlt;obtain rfl:=h.ev5 rfl;have c0:w'.cell? ⟨nb,no+k*6,none⟩=some (.int .i64 n.a):=h.u2.c 0 (by simp);have c1:w'.cell? ⟨nb,no+k*6+1,none⟩=some (.int .i64 n.b):=h.u2.c 1 (by simp);have c2:w'.cell? ⟨nb,no+k*6+2,none⟩=some (.int .i64 n.c):=h.u2.c 2 (by simp);have c3:w'.cell? ⟨nb,no+k*6+3,none⟩=some (.int .i64 n.d):=h.u2.c 3 (by simp);have c4:w'.cell? ⟨nb,no+k*6+4,none⟩=some (.int .i64 n.e):=h.u2.c 4 (by simp);have c5:w'.cell? ⟨nb,no+k*6+5,none⟩=some (.int .i64 n.f):=h.u2.c 5 (by simp);have H:=Lib.hid h;clear h;refine wpOp_shut rfl (fun K hK=>?_)
        try simp only [Act.put,sS]
        go_simp;refine hK.out _ _ ?_;unfold Eb.I;refine ⟨_,_,_,_,_,_,_,_,_,_,_,_,_,_,_,_,_,_,_,_,_,v0,v1,v2,v3,v4,(.pointer (some ⟨nb,no+k*6,none⟩)),((dv n)),v7,v8,v9,v10,v11,v12,v13,v14,v15,v16,v20,b14,b15,b16,rfl,?_,?_⟩
        ·simp only [Act.put,sS]
        ·exact {H.out with ev6:=fun _=>rfl}
       |7,hi,_=>
        obtain rfl:l7=false:=rl rfl hi;clear hi hlt;have c:=(h.g.at 0 rfl).c;have H:=Lib.hid h;clear h;refine wpOp_shut rfl (fun K hK=>?_)
        try simp only [Act.put,sS]
        go_simp;refine hK.out _ _ ?_;unfold Eb.I;refine ⟨_,_,_,_,_,_,_,_,_,_,_,_,_,_,_,_,_,_,_,_,_,v0,v1,v2,v3,v4,v5,v6,((iv r0 r1)),v8,v9,v10,v11,v12,v13,v14,v15,v16,v20,b14,b15,b16,rfl,?_,?_⟩
        ·simp only [Act.put,sS]
        ·exact {H.out with ev7:=fun _=>rfl}
       |8,hi,_=>
        obtain rfl:l8=false:=rl rfl hi;obtain rfl:l1=true:=rk rfl hi 1 .data;obtain rfl:l6=true:=rk rfl hi 6 .data;obtain rfl:l7=true:=rk rfl hi 7 .data;clear hi hlt;obtain rfl:=h.ev1 rfl;obtain rfl:=h.ev6 rfl;obtain rfl:=h.ev7 rfl;have H:=Lib.hid h;clear h;refine wpOp_shut rfl (fun K hK=>?_)
        try simp only [Act.put,sS]
        go_simp;refine (refr_any v n r0 r1 _).mono ?_;rintro e wY ⟨rfl,hb⟩;rw [X2.out];unfold retF;dsimp only
        try go_simp
        refine hK.out _ _ ?_;unfold Eb.I;refine ⟨_,_,_,_,_,_,_,_,_,_,_,_,_,_,_,_,_,_,_,_,_,v0,((dv v)),v2,v3,v4,v5,((dv n)),((iv r0 r1)),(.tuple #[dv ⟨d0,d1,d2,d3,d4,d5⟩,(iv p q),(iv u x),.int .i64 ee]),v9,v10,v11,v12,v13,v14,v15,v16,v20,b14,b15,b16,rfl,?_,?_⟩
        ·simp only [Act.put,sS]
        ·exact {(H.out.kept hb) with ev8:=fun _=>rfl}
       |9,hi,_=>
        obtain rfl:l9=false:=rl rfl hi;obtain rfl:l8=true:=rk rfl hi 8 .data;clear hi hlt;obtain rfl:=h.ev8 rfl;have H:=Lib.hid h;clear h;refine wpOp_shut rfl (fun K hK=>?_)
        try simp only [Act.put,sS]
        go_simp;refine hK.out _ _ ?_;unfold Eb.I;refine ⟨_,_,_,_,_,_,_,_,_,_,_,_,_,_,_,_,_,_,_,_,_,v0,v1,v2,v3,v4,v5,v6,v7,(.tuple #[dv ⟨d0,d1,d2,d3,d4,d5⟩,(iv p q),(iv u x),.int .i64 ee]),(.tuple #[dv ⟨d0,d1,d2,d3,d4,d5⟩,(iv p q),(iv u x),.int .i64 ee]),v10,v11,v12,v13,v14,v15,v16,v20,b14,b15,b16,rfl,?_,?_⟩
        ·simp only [Act.put,sS]
        ·exact {H.out with ev9:=fun _=>rfl}
       |10,hi,_=>
        obtain rfl:l10=false:=rl rfl hi;obtain rfl:l9=true:=rk rfl hi 9 .data;clear hi hlt;obtain rfl:=h.ev9 rfl;have H:=Lib.hid h;clear h;refine wpOp_shut rfl (fun K hK=>?_)
        try simp only [Act.put,sS]
        go_simp;refine hK.out _ _ ?_;unfold Eb.I;refine ⟨_,_,_,_,_,_,_,_,_,_,_,_,_,_,_,_,_,_,_,_,_,v0,v1,v2,v3,v4,v5,v6,v7,v8,(.tuple #[dv ⟨d0,d1,d2,d3,d4,d5⟩,(iv p q),(iv u x),.int .i64 ee]),(dv ⟨d0,d1,d2,d3,d4,d5⟩),v11,v12,v13,v14,v15,v16,v20,b14,b15,b16,rfl,?_,?_⟩
        ·simp only [Act.put,sS]
        ·exact {H.out with ev10:=fun _=>rfl}
       |11,hi,_=>
        obtain rfl:l11=false:=rl rfl hi;obtain rfl:l9=true:=rk rfl hi 9 .data;clear hi hlt;obtain rfl:=h.ev9 rfl;have H:=Lib.hid h;clear h;refine wpOp_shut rfl (fun K hK=>?_)
        try simp only [Act.put,sS]
        go_simp;refine hK.out _ _ ?_;unfold Eb.I;refine ⟨_,_,_,_,_,_,_,_,_,_,_,_,_,_,_,_,_,_,_,_,_,v0,v1,v2,v3,v4,v5,v6,v7,v8,(.tuple #[dv ⟨d0,d1,d2,d3,d4,d5⟩,(iv p q),(iv u x),.int .i64 ee]),v10,((iv p q)),v12,v13,v14,v15,v16,v20,b14,b15,b16,rfl,?_,?_⟩
        ·simp only [Act.put,sS]
        ·exact {H.out with ev11:=fun _=>rfl}
       |12,hi,_=>
        obtain rfl:l12=false:=rl rfl hi;obtain rfl:l9=true:=rk rfl hi 9 .data;clear hi hlt;obtain rfl:=h.ev9 rfl;have H:=Lib.hid h;clear h;refine wpOp_shut rfl (fun K hK=>?_)
        try simp only [Act.put,sS]
        go_simp;refine hK.out _ _ ?_;unfold Eb.I;refine ⟨_,_,_,_,_,_,_,_,_,_,_,_,_,_,_,_,_,_,_,_,_,v0,v1,v2,v3,v4,v5,v6,v7,v8,(.tuple #[dv ⟨d0,d1,d2,d3,d4,d5⟩,(iv p q),(iv u x),.int .i64 ee]),v10,v11,((iv u x)),v13,v14,v15,v16,v20,b14,b15,b16,rfl,?_,?_⟩
        ·simp only [Act.put,sS]
        ·exact {H.out with ev12:=fun _=>rfl}
       |13,hi,_=>
        obtain rfl:l13=false:=rl rfl hi;obtain rfl:l9=true:=rk rfl hi 9 .data;clear hi hlt;obtain rfl:=h.ev9 rfl;have H:=Lib.hid h;clear h;refine wpOp_shut rfl (fun K hK=>?_)
        try simp only [Act.put,sS]
        go_simp;refine hK.out _ _ ?_;unfold Eb.I;refine ⟨_,_,_,_,_,_,_,_,_,_,_,_,_,_,_,_,_,_,_,_,_,v0,v1,v2,v3,v4,v5,v6,v7,v8,(.tuple #[dv ⟨d0,d1,d2,d3,d4,d5⟩,(iv p q),(iv u x),.int .i64 ee]),v10,v11,v12,(.int .i64 ee),v14,v15,v16,v20,b14,b15,b16,rfl,?_,?_⟩
        ·simp only [Act.put,sS]
        ·exact {H.out with ev13:=fun _=>rfl}
       |14,hi,_=>
        obtain rfl:l14=false:=rl rfl hi;clear hi hlt;have H:=Lib.hid h;clear h;refine wpOp_shut rfl (fun K hK=>?_)
        try simp only [Act.put,sS]
        go_simp;refine hK.out _ _ ?_;unfold Eb.I;refine ⟨_,_,_,_,_,_,_,_,_,_,_,_,_,_,_,_,_,_,_,_,_,v0,v1,v2,v3,v4,v5,v6,v7,v8,v9,v10,v11,v12,v13,(.pointer (some ⟨w'.heap.size,0,none⟩)),v15,v16,v20,w'.heap.size,b15,b16,rfl,?_,?_⟩
        ·simp only [Act.put,sS]
        ·have h:=H.out;have h2:=h.kept ((Below.refl _ _).alloc (Nat.le_refl _) (.cells (List.toArray [.int .i64 0,.int .i64 0,.int .i64 0,.int .i64 0,.int .i64 0,.int .i64 0]) 45));exact {h2 with ev14:=fun _=>rfl,g14:=fun _=>h.sz,t14:=fun _=>by simp,o14:=fun p=>rfl,z14:=fun _ _=>Bx.new rfl,s14:=fun p=>(nomatch (h.o14 p)),d14_15:=fun _ p=>Nat.ne_of_gt (h.t15 p),d14_16:=fun _ p=>Nat.ne_of_gt (h.t16 p)}
       |15,hi,_=>
        obtain rfl:l15=false:=rl rfl hi;clear hi hlt;have H:=Lib.hid h;clear h;refine wpOp_shut rfl (fun K hK=>?_)
        try simp only [Act.put,sS]
        go_simp;refine hK.out _ _ ?_;unfold Eb.I;refine ⟨_,_,_,_,_,_,_,_,_,_,_,_,_,_,_,_,_,_,_,_,_,v0,v1,v2,v3,v4,v5,v6,v7,v8,v9,v10,v11,v12,v13,v14,(.pointer (some ⟨w'.heap.size,0,none⟩)),v16,v20,b14,w'.heap.size,b16,rfl,?_,?_⟩
        ·simp only [Act.put,sS]
        ·have h:=H.out;have h2:=h.kept ((Below.refl _ _).alloc (Nat.le_refl _) (.cells (List.toArray [.int .i64 0,.int .i64 0]) 25));exact {h2 with ev15:=fun _=>rfl,g15:=fun _=>h.sz,t15:=fun _=>by simp,o15:=fun p=>rfl,z15:=fun _ _=>Bx.new rfl,s15:=fun p=>(nomatch (h.o15 p)),d14_15:=fun p _=>Nat.ne_of_lt (h.t14 p),d15_16:=fun _ p=>Nat.ne_of_gt (h.t16 p)}
       |16,hi,_=>
        obtain rfl:l16=false:=rl rfl hi;clear hi hlt;have H:=Lib.hid h;clear h;refine wpOp_shut rfl (fun K hK=>?_)
        try simp only [Act.put,sS]
        go_simp;refine hK.out _ _ ?_;unfold Eb.I;refine ⟨_,_,_,_,_,_,_,_,_,_,_,_,_,_,_,_,_,_,_,_,_,v0,v1,v2,v3,v4,v5,v6,v7,v8,v9,v10,v11,v12,v13,v14,v15,(.pointer (some ⟨w'.heap.size,0,none⟩)),v20,b14,b15,w'.heap.size,rfl,?_,?_⟩
        ·simp only [Act.put,sS]
        ·have h:=H.out;have h2:=h.kept ((Below.refl _ _).alloc (Nat.le_refl _) (.cells (List.toArray [.int .i64 0,.int .i64 0]) 25));exact {h2 with ev16:=fun _=>rfl,g16:=fun _=>h.sz,t16:=fun _=>by simp,o16:=fun p=>rfl,z16:=fun _ _=>Bx.new rfl,s16:=fun p=>(nomatch (h.o16 p)),d14_16:=fun p _=>Nat.ne_of_lt (h.t14 p),d15_16:=fun p _=>Nat.ne_of_lt (h.t15 p)}
       |17,hi,_=>
        obtain rfl:l17=false:=rl rfl hi;obtain rfl:l14=true:=rk rfl hi 14 .phase;obtain rfl:l10=true:=rk rfl hi 10 .phase;obtain rfl:l8=true:=rk rfl hi 8 .phase;obtain rfl:l0=true:=rk rfl hi 0 .phase;obtain rfl:l1=true:=rk rfl hi 1 .phase;obtain rfl:l2=true:=rk rfl hi 2 .phase;obtain rfl:l3=true:=rk rfl hi 3 .phase;obtain rfl:l4=true:=rk rfl hi 4 .phase;obtain rfl:l5=true:=rk rfl hi 5 .phase;obtain rfl:l6=true:=rk rfl hi 6 .phase;obtain rfl:l7=true:=rk rfl hi 7 .phase;obtain rfl:l9=true:=rk rfl hi 9 .phase;obtain rfl:l15=true:=rk rfl hi 15 .phase;obtain rfl:l16=true:=rk rfl hi 16 .phase;clear hi hlt;obtain rfl:=h.ev14 rfl;obtain rfl:=h.ev10 rfl;obtain rfl:=h.ev8 rfl;obtain rfl:=h.ev0 rfl;obtain rfl:=h.ev1 rfl;obtain rfl:=h.ev2 rfl;obtain rfl:=h.ev3 rfl;obtain rfl:=h.ev4 rfl;obtain rfl:=h.ev5 rfl;obtain rfl:=h.ev6 rfl;obtain rfl:=h.ev7 rfl;obtain rfl:=h.ev9 rfl;obtain rfl:=h.ev15 rfl;obtain rfl:=h.ev16 rfl;have bz:=h.z14 rfl rfl;have c:=bz.c;have f:=bz.f;clear bz;have H:=Lib.hid h;clear h;refine wpOp_shut rfl (fun K hK=>?_)
        try simp only [Act.put,sS]
        go_simp;refine hK.out _ _ ?_;unfold Eb.I;refine ⟨_,_,_,_,_,_,_,_,_,_,_,_,_,_,_,_,_,_,_,_,_,(.pointer (some ⟨w.heap.size+1,6,none⟩)),((dv v)),(.pointer (some ⟨w.heap.size,0,none⟩)),(.slice (some ⟨nb,no,none⟩) L.length nc),(.int .i64 k),(.pointer (some ⟨nb,no+k*6,none⟩)),((dv n)),((iv r0 r1)),(.tuple #[dv ⟨d0,d1,d2,d3,d4,d5⟩,(iv p q),(iv u x),.int .i64 ee]),(.tuple #[dv ⟨d0,d1,d2,d3,d4,d5⟩,(iv p q),(iv u x),.int .i64 ee]),(dv ⟨d0,d1,d2,d3,d4,d5⟩),v11,v12,v13,(.pointer (some ⟨b14,0,none⟩)),(.pointer (some ⟨b15,0,none⟩)),(.pointer (some ⟨b16,0,none⟩)),v20,b14,b15,b16,rfl,?_,?_⟩
        ·simp only [Act.put,sS]
        ·have h:=H.out;have gb:=h.g14 rfl;have gm:=Nat.le_trans h.mn gb;exact {h with g:=((((((h.g.put gm).put gm).put gm).put gm).put gm).put gm),sz:=by simpa using h.sz,o14:=fun _=>rfl,z14:=fun _ p=>(nomatch p),s14:=fun _=>(((((((h.z14 rfl rfl).put).put).put).put).put).put),t14:=fun p=>by simpa using h.t14 p,u0:=((((((h.u0.set (Nat.ne_of_lt (Nat.lt_of_lt_of_le h.un0 gb))).set (Nat.ne_of_lt (Nat.lt_of_lt_of_le h.un0 gb))).set (Nat.ne_of_lt (Nat.lt_of_lt_of_le h.un0 gb))).set (Nat.ne_of_lt (Nat.lt_of_lt_of_le h.un0 gb))).set (Nat.ne_of_lt (Nat.lt_of_lt_of_le h.un0 gb))).set (Nat.ne_of_lt (Nat.lt_of_lt_of_le h.un0 gb))),u1:=((((((h.u1.set (Nat.ne_of_lt (Nat.lt_of_lt_of_le h.un1 gb))).set (Nat.ne_of_lt (Nat.lt_of_lt_of_le h.un1 gb))).set (Nat.ne_of_lt (Nat.lt_of_lt_of_le h.un1 gb))).set (Nat.ne_of_lt (Nat.lt_of_lt_of_le h.un1 gb))).set (Nat.ne_of_lt (Nat.lt_of_lt_of_le h.un1 gb))).set (Nat.ne_of_lt (Nat.lt_of_lt_of_le h.un1 gb))),u2:=((((((h.u2.set (Nat.ne_of_lt (Nat.lt_of_lt_of_le h.un2 gb))).set (Nat.ne_of_lt (Nat.lt_of_lt_of_le h.un2 gb))).set (Nat.ne_of_lt (Nat.lt_of_lt_of_le h.un2 gb))).set (Nat.ne_of_lt (Nat.lt_of_lt_of_le h.un2 gb))).set (Nat.ne_of_lt (Nat.lt_of_lt_of_le h.un2 gb))).set (Nat.ne_of_lt (Nat.lt_of_lt_of_le h.un2 gb))),t15:=fun p=>by simpa using h.t15 p,z15:=fun p r=>(((((((h.z15 p r).set (fun q=>(h.d14_15 rfl p) q.symm)).set (fun q=>(h.d14_15 rfl p) q.symm)).set (fun q=>(h.d14_15 rfl p) q.symm)).set (fun q=>(h.d14_15 rfl p) q.symm)).set (fun q=>(h.d14_15 rfl p) q.symm)).set (fun q=>(h.d14_15 rfl p) q.symm)),s15:=fun p=>(((((((h.s15 p).set (fun q=>(h.d14_15 rfl (h.o15 p)) q.symm)).set (fun q=>(h.d14_15 rfl (h.o15 p)) q.symm)).set (fun q=>(h.d14_15 rfl (h.o15 p)) q.symm)).set (fun q=>(h.d14_15 rfl (h.o15 p)) q.symm)).set (fun q=>(h.d14_15 rfl (h.o15 p)) q.symm)).set (fun q=>(h.d14_15 rfl (h.o15 p)) q.symm)),t16:=fun p=>by simpa using h.t16 p,z16:=fun p r=>(((((((h.z16 p r).set (fun q=>(h.d14_16 rfl p) q.symm)).set (fun q=>(h.d14_16 rfl p) q.symm)).set (fun q=>(h.d14_16 rfl p) q.symm)).set (fun q=>(h.d14_16 rfl p) q.symm)).set (fun q=>(h.d14_16 rfl p) q.symm)).set (fun q=>(h.d14_16 rfl p) q.symm)),s16:=fun p=>(((((((h.s16 p).set (fun q=>(h.d14_16 rfl (h.o16 p)) q.symm)).set (fun q=>(h.d14_16 rfl (h.o16 p)) q.symm)).set (fun q=>(h.d14_16 rfl (h.o16 p)) q.symm)).set (fun q=>(h.d14_16 rfl (h.o16 p)) q.symm)).set (fun q=>(h.d14_16 rfl (h.o16 p)) q.symm)).set (fun q=>(h.d14_16 rfl (h.o16 p)) q.symm))}
       |18,hi,_=>
        obtain rfl:l18=false:=rl rfl hi;obtain rfl:l15=true:=rk rfl hi 15 .phase;obtain rfl:l11=true:=rk rfl hi 11 .phase;obtain rfl:l17=true:=rk rfl hi 17 .phase;obtain rfl:l0=true:=rk rfl hi 0 .phase;obtain rfl:l1=true:=rk rfl hi 1 .phase;obtain rfl:l2=true:=rk rfl hi 2 .phase;obtain rfl:l3=true:=rk rfl hi 3 .phase;obtain rfl:l4=true:=rk rfl hi 4 .phase;obtain rfl:l5=true:=rk rfl hi 5 .phase;obtain rfl:l6=true:=rk rfl hi 6 .phase;obtain rfl:l7=true:=rk rfl hi 7 .phase;obtain rfl:l8=true:=rk rfl hi 8 .phase;obtain rfl:l9=true:=rk rfl hi 9 .phase;obtain rfl:l10=true:=rk rfl hi 10 .phase;obtain rfl:l14=true:=rk rfl hi 14 .phase;obtain rfl:l16=true:=rk rfl hi 16 .phase;clear hi hlt;obtain rfl:=h.ev15 rfl;obtain rfl:=h.ev11 rfl;obtain rfl:=h.ev0 rfl;obtain rfl:=h.ev1 rfl;obtain rfl:=h.ev2 rfl;obtain rfl:=h.ev3 rfl;obtain rfl:=h.ev4 rfl;obtain rfl:=h.ev5 rfl;obtain rfl:=h.ev6 rfl;obtain rfl:=h.ev7 rfl;obtain rfl:=h.ev8 rfl;obtain rfl:=h.ev9 rfl;obtain rfl:=h.ev10 rfl;obtain rfl:=h.ev14 rfl;obtain rfl:=h.ev16 rfl;have bz:=h.z15 rfl rfl;have c:=bz.c;have f:=bz.f;clear bz;have H:=Lib.hid h;clear h;refine wpOp_shut rfl (fun K hK=>?_)
        try simp only [Act.put,sS]
        go_simp;refine hK.out _ _ ?_;unfold Eb.I;refine ⟨_,_,_,_,_,_,_,_,_,_,_,_,_,_,_,_,_,_,_,_,_,(.pointer (some ⟨w.heap.size+1,6,none⟩)),((dv v)),(.pointer (some ⟨w.heap.size,0,none⟩)),(.slice (some ⟨nb,no,none⟩) L.length nc),(.int .i64 k),(.pointer (some ⟨nb,no+k*6,none⟩)),((dv n)),((iv r0 r1)),(.tuple #[dv ⟨d0,d1,d2,d3,d4,d5⟩,(iv p q),(iv u x),.int .i64 ee]),(.tuple #[dv ⟨d0,d1,d2,d3,d4,d5⟩,(iv p q),(iv u x),.int .i64 ee]),(dv ⟨d0,d1,d2,d3,d4,d5⟩),((iv p q)),v12,v13,(.pointer (some ⟨b14,0,none⟩)),(.pointer (some ⟨b15,0,none⟩)),(.pointer (some ⟨b16,0,none⟩)),v20,b14,b15,b16,rfl,?_,?_⟩
        ·simp only [Act.put,sS]
        ·have h:=H.out;have gb:=h.g15 rfl;have gm:=Nat.le_trans h.mn gb;exact {h with g:=((h.g.put gm).put gm),sz:=by simpa using h.sz,o15:=fun _=>rfl,z15:=fun _ p=>(nomatch p),s15:=fun _=>(((h.z15 rfl rfl).put).put),t15:=fun p=>by simpa using h.t15 p,u0:=((h.u0.set (Nat.ne_of_lt (Nat.lt_of_lt_of_le h.un0 gb))).set (Nat.ne_of_lt (Nat.lt_of_lt_of_le h.un0 gb))),u1:=((h.u1.set (Nat.ne_of_lt (Nat.lt_of_lt_of_le h.un1 gb))).set (Nat.ne_of_lt (Nat.lt_of_lt_of_le h.un1 gb))),u2:=((h.u2.set (Nat.ne_of_lt (Nat.lt_of_lt_of_le h.un2 gb))).set (Nat.ne_of_lt (Nat.lt_of_lt_of_le h.un2 gb))),t14:=fun p=>by simpa using h.t14 p,z14:=fun p r=>(((h.z14 p r).set (fun q=>(h.d14_15 p rfl) q)).set (fun q=>(h.d14_15 p rfl) q)),s14:=fun p=>(((h.s14 p).set (fun q=>(h.d14_15 (h.o14 p) rfl) q)).set (fun q=>(h.d14_15 (h.o14 p) rfl) q)),t16:=fun p=>by simpa using h.t16 p,z16:=fun p r=>(((h.z16 p r).set (fun q=>(h.d15_16 rfl p) q.symm)).set (fun q=>(h.d15_16 rfl p) q.symm)),s16:=fun p=>(((h.s16 p).set (fun q=>(h.d15_16 rfl (h.o16 p)) q.symm)).set (fun q=>(h.d15_16 rfl (h.o16 p)) q.symm))}
       |19,hi,_=>
        obtain rfl:l19=false:=rl rfl hi;obtain rfl:l16=true:=rk rfl hi 16 .phase;obtain rfl:l12=true:=rk rfl hi 12 .phase;obtain rfl:l18=true:=rk rfl hi 18 .phase;obtain rfl:l0=true:=rk rfl hi 0 .phase;obtain rfl:l1=true:=rk rfl hi 1 .phase;obtain rfl:l2=true:=rk rfl hi 2 .phase;obtain rfl:l3=true:=rk rfl hi 3 .phase;obtain rfl:l4=true:=rk rfl hi 4 .phase;obtain rfl:l5=true:=rk rfl hi 5 .phase;obtain rfl:l6=true:=rk rfl hi 6 .phase;obtain rfl:l7=true:=rk rfl hi 7 .phase;obtain rfl:l8=true:=rk rfl hi 8 .phase;obtain rfl:l9=true:=rk rfl hi 9 .phase;obtain rfl:l10=true:=rk rfl hi 10 .phase;obtain rfl:l11=true:=rk rfl hi 11 .phase;obtain rfl:l14=true:=rk rfl hi 14 .phase;obtain rfl:l15=true:=rk rfl hi 15 .phase;obtain rfl:l17=true:=rk rfl hi 17 .phase;clear hi hlt;obtain rfl:=h.ev16 rfl;obtain rfl:=h.ev12 rfl;obtain rfl:=h.ev0 rfl;obtain rfl:=h.ev1 rfl;obtain rfl:=h.ev2 rfl;obtain rfl:=h.ev3 rfl;obtain rfl:=h.ev4 rfl;obtain rfl:=h.ev5 rfl;obtain rfl:=h.ev6 rfl;obtain rfl:=h.ev7 rfl;obtain rfl:=h.ev8 rfl;obtain rfl:=h.ev9 rfl;obtain rfl:=h.ev10 rfl;obtain rfl:=h.ev11 rfl;obtain rfl:=h.ev14 rfl;obtain rfl:=h.ev15 rfl;have bz:=h.z16 rfl rfl;have c:=bz.c;have f:=bz.f;clear bz;have H:=Lib.hid h;clear h;refine wpOp_shut rfl (fun K hK=>?_)
        try simp only [Act.put,sS]
        go_simp;refine hK.out _ _ ?_;unfold Eb.I;refine ⟨_,_,_,_,_,_,_,_,_,_,_,_,_,_,_,_,_,_,_,_,_,(.pointer (some ⟨w.heap.size+1,6,none⟩)),((dv v)),(.pointer (some ⟨w.heap.size,0,none⟩)),(.slice (some ⟨nb,no,none⟩) L.length nc),(.int .i64 k),(.pointer (some ⟨nb,no+k*6,none⟩)),((dv n)),((iv r0 r1)),(.tuple #[dv ⟨d0,d1,d2,d3,d4,d5⟩,(iv p q),(iv u x),.int .i64 ee]),(.tuple #[dv ⟨d0,d1,d2,d3,d4,d5⟩,(iv p q),(iv u x),.int .i64 ee]),(dv ⟨d0,d1,d2,d3,d4,d5⟩),((iv p q)),((iv u x)),v13,(.pointer (some ⟨b14,0,none⟩)),(.pointer (some ⟨b15,0,none⟩)),(.pointer (some ⟨b16,0,none⟩)),v20,b14,b15,b16,rfl,?_,?_⟩
        ·simp only [Act.put,sS]
        ·have h:=H.out;have gb:=h.g16 rfl;have gm:=Nat.le_trans h.mn gb;exact {h with g:=((h.g.put gm).put gm),sz:=by simpa using h.sz,o16:=fun _=>rfl,z16:=fun _ p=>(nomatch p),s16:=fun _=>(((h.z16 rfl rfl).put).put),t16:=fun p=>by simpa using h.t16 p,u0:=((h.u0.set (Nat.ne_of_lt (Nat.lt_of_lt_of_le h.un0 gb))).set (Nat.ne_of_lt (Nat.lt_of_lt_of_le h.un0 gb))),u1:=((h.u1.set (Nat.ne_of_lt (Nat.lt_of_lt_of_le h.un1 gb))).set (Nat.ne_of_lt (Nat.lt_of_lt_of_le h.un1 gb))),u2:=((h.u2.set (Nat.ne_of_lt (Nat.lt_of_lt_of_le h.un2 gb))).set (Nat.ne_of_lt (Nat.lt_of_lt_of_le h.un2 gb))),t14:=fun p=>by simpa using h.t14 p,z14:=fun p r=>(((h.z14 p r).set (fun q=>(h.d14_16 p rfl) q)).set (fun q=>(h.d14_16 p rfl) q)),s14:=fun p=>(((h.s14 p).set (fun q=>(h.d14_16 (h.o14 p) rfl) q)).set (fun q=>(h.d14_16 (h.o14 p) rfl) q)),t15:=fun p=>by simpa using h.t15 p,z15:=fun p r=>(((h.z15 p r).set (fun q=>(h.d15_16 p rfl) q)).set (fun q=>(h.d15_16 p rfl) q)),s15:=fun p=>(((h.s15 p).set (fun q=>(h.d15_16 (h.o15 p) rfl) q)).set (fun q=>(h.d15_16 (h.o15 p) rfl) q))}
       |20,hi,_=>
        obtain rfl:l20=false:=rl rfl hi;obtain rfl:l13=true:=rk rfl hi 13 .phase;obtain rfl:l19=true:=rk rfl hi 19 .phase;obtain rfl:l0=true:=rk rfl hi 0 .phase;obtain rfl:l1=true:=rk rfl hi 1 .phase;obtain rfl:l2=true:=rk rfl hi 2 .phase;obtain rfl:l3=true:=rk rfl hi 3 .phase;obtain rfl:l4=true:=rk rfl hi 4 .phase;obtain rfl:l5=true:=rk rfl hi 5 .phase;obtain rfl:l6=true:=rk rfl hi 6 .phase;obtain rfl:l7=true:=rk rfl hi 7 .phase;obtain rfl:l8=true:=rk rfl hi 8 .phase;obtain rfl:l9=true:=rk rfl hi 9 .phase;obtain rfl:l10=true:=rk rfl hi 10 .phase;obtain rfl:l11=true:=rk rfl hi 11 .phase;obtain rfl:l12=true:=rk rfl hi 12 .phase;obtain rfl:l14=true:=rk rfl hi 14 .phase;obtain rfl:l15=true:=rk rfl hi 15 .phase;obtain rfl:l16=true:=rk rfl hi 16 .phase;obtain rfl:l17=true:=rk rfl hi 17 .phase;obtain rfl:l18=true:=rk rfl hi 18 .phase;clear hi hlt;obtain rfl:=h.ev13 rfl;obtain rfl:=h.ev0 rfl;obtain rfl:=h.ev1 rfl;obtain rfl:=h.ev2 rfl;obtain rfl:=h.ev3 rfl;obtain rfl:=h.ev4 rfl;obtain rfl:=h.ev5 rfl;obtain rfl:=h.ev6 rfl;obtain rfl:=h.ev7 rfl;obtain rfl:=h.ev8 rfl;obtain rfl:=h.ev9 rfl;obtain rfl:=h.ev10 rfl;obtain rfl:=h.ev11 rfl;obtain rfl:=h.ev12 rfl;obtain rfl:=h.ev14 rfl;obtain rfl:=h.ev15 rfl;obtain rfl:=h.ev16 rfl;have H:=Lib.hid h;clear h;refine wpOp_shut rfl (fun K hK=>?_)
        try simp only [Act.put,sS]
        go_simp;refine hK.out _ _ ?_;unfold Eb.I;refine ⟨_,_,_,_,_,_,_,_,_,_,_,_,_,_,_,_,_,_,_,_,_,(.pointer (some ⟨w.heap.size+1,6,none⟩)),((dv v)),(.pointer (some ⟨w.heap.size,0,none⟩)),(.slice (some ⟨nb,no,none⟩) L.length nc),(.int .i64 k),(.pointer (some ⟨nb,no+k*6,none⟩)),((dv n)),((iv r0 r1)),(.tuple #[dv ⟨d0,d1,d2,d3,d4,d5⟩,(iv p q),(iv u x),.int .i64 ee]),(.tuple #[dv ⟨d0,d1,d2,d3,d4,d5⟩,(iv p q),(iv u x),.int .i64 ee]),(dv ⟨d0,d1,d2,d3,d4,d5⟩),((iv p q)),((iv u x)),(.int .i64 ee),(.pointer (some ⟨b14,0,none⟩)),(.pointer (some ⟨b15,0,none⟩)),(.pointer (some ⟨b16,0,none⟩)),(.int .i64 ee),b14,b15,b16,rfl,?_,?_⟩
        ·simp only [Act.put,sS]
        ·exact {H.out with ev20:=fun _=>rfl}
       |i+21,_,hlt=>exact absurd hlt (by simp)
      ·intro L a' w' hI hn;obtain ⟨l0,l1,l2,l3,l4,l5,l6,l7,l8,l9,l10,l11,l12,l13,l14,l15,l16,l17,l18,l19,l20,v0,v1,v2,v3,v4,v5,v6,v7,v8,v9,v10,v11,v12,v13,v14,v15,v16,v20,b14,b15,b16,rfl,rfl,h⟩:=hI;obtain rfl:l0=true:=nr 0 rfl hn;obtain rfl:l1=true:=nr 1 rfl hn;obtain rfl:l2=true:=nr 2 rfl hn;obtain rfl:l3=true:=nr 3 rfl hn;obtain rfl:l4=true:=nr 4 rfl hn;obtain rfl:l5=true:=nr 5 rfl hn;obtain rfl:l6=true:=nr 6 rfl hn;obtain rfl:l7=true:=nr 7 rfl hn;obtain rfl:l8=true:=nr 8 rfl hn;obtain rfl:l9=true:=nr 9 rfl hn;obtain rfl:l10=true:=nr 10 rfl hn;obtain rfl:l11=true:=nr 11 rfl hn;obtain rfl:l12=true:=nr 12 rfl hn;obtain rfl:l13=true:=nr 13 rfl hn;obtain rfl:l14=true:=nr 14 rfl hn;obtain rfl:l15=true:=nr 15 rfl hn;obtain rfl:l16=true:=nr 16 rfl hn;obtain rfl:l17=true:=nr 17 rfl hn;obtain rfl:l18=true:=nr 18 rfl hn;obtain rfl:l19=true:=nr 19 rfl hn;obtain rfl:l20=true:=nr 20 rfl hn;clear hn;obtain rfl:=h.ev0 rfl;obtain rfl:=h.ev1 rfl;obtain rfl:=h.ev2 rfl;obtain rfl:=h.ev3 rfl;obtain rfl:=h.ev4 rfl;obtain rfl:=h.ev5 rfl;obtain rfl:=h.ev6 rfl;obtain rfl:=h.ev7 rfl;obtain rfl:=h.ev8 rfl;obtain rfl:=h.ev9 rfl;obtain rfl:=h.ev10 rfl;obtain rfl:=h.ev11 rfl;obtain rfl:=h.ev12 rfl;obtain rfl:=h.ev13 rfl;obtain rfl:=h.ev14 rfl;obtain rfl:=h.ev15 rfl;obtain rfl:=h.ev16 rfl;obtain rfl:=h.ev20 rfl;simp only [Act.put,sS]
       rename World=>w4
       have H4:=h.g;have o_4:=h.u0;have g_4:=h.u1;have B14:=h.s14 rfl;have B15:=h.s15 rfl;have B16:=h.s16 rfl;have e14:=h.g14 rfl;have e15:=h.g15 rfl;have e16:=h.g16 rfl;have z4:=h.sz;have o4l:=o_4.lt;have g4l:=g_4.lt;clear h
       by_cases hee:ee=0
       ·have HRV:=Lib.hid (HRV.out.trans (if_pos hee));subst hee;have HV:=Lib.hid (HVV.out rfl);have x15:=B15.c;have y15:=B15.lt
        go_wp2_with fail
        refine (sign_any p q _).mono ?_;rintro r w5 ⟨rfl,hb⟩;rw [X3.out];have H5:=H4.call hb;have o_5:=o_4.kept hb;have g_5:=g_4.kept hb;have C14:=B14.kept hb;have C15:=B15.kept hb;have C16:=B16.kept hb;clear hb x15 B14 B15 B16 o_4 g_4;have o5l:=o_5.lt;have g5l:=g_5.lt;have z5:=H5.size
        by_cases hs:0<s
        ·have hs':decide (0<s)=true:=decide_eq_true hs;have o5c:=o_5.c;have o5f:=o_5.f;have g5c:=g_5.c;have g5f:=g_5.f
         have qa5:¬(w.heap.size+1+1=w.heap.size+1+1+1):=by omega
         have qb5:¬(w.heap.size+1+1+1=w.heap.size+1+1):=by omega
         go_wp2_with fail
         refine bodyPost_box2 (b:=w.heap.size+1+1) (c:=w.heap.size+1+1+1) (cs:=[.int .i64 0,.int .i64 0,.int .i64 0,.int .i64 0,.int .i64 0,.int .i64 0,.int .i64 0,.int .i64 0,.int .i64 0,.int .i64 0,.int .i64 0,.int .i64 0]) (ds:=[.int .i64 0,.int .i64 0]) (v:=.tuple #[.agg #[.int .i64 0,.int .i64 0,.int .i64 0,.int .i64 0,.int .i64 0,.int .i64 0,.int .i64 0,.int .i64 0,.int .i64 0,.int .i64 0,.int .i64 0,.int .i64 0],.agg #[.int .i64 0,.int .i64 0],.int .i64 9]) (by
          (repeat (first|with_reducible exact o_5|(with_reducible refine Bx.new ?_;(· (simp;done)))|with_reducible apply Bx.put12|with_reducible apply Bx.put2|with_reducible refine Bx.set ?_ (by omega)|with_reducible refine Bx.alc ?_ _|with_reducible refine Bx.drew ?_))) (by
          (repeat (first|with_reducible exact g_5|(with_reducible refine Bx.new ?_;(· (simp;done)))|with_reducible apply Bx.put12|with_reducible apply Bx.put2|with_reducible refine Bx.set ?_ (by omega)|with_reducible refine Bx.alc ?_ _|with_reducible refine Bx.drew ?_))) (fun X hX hY=>by simp [results,Tryz.results31,go_sem,hX,hY]) rfl ⟨by rw [HRV.out,if_pos hs];rfl,by
          (with_reducible repeat (first|exact H5.below|refine Below.setCell ?_ (by show w.heap.size≤w.heap.size+1+1;omega) _|refine Below.setCell ?_ (by show w.heap.size≤w.heap.size+1+1+1;omega) _|refine Below.drew ?_|refine Below.alloc ?_ (by have:=H5.below.size;first|omega|(simp<;>omega)) _))⟩
        ·have HRV:=Lib.hid (HRV.out.trans (if_neg hs));have HG:=((H5.cons C14.rd).cons C15.rd).cons C16.rd
         go_upto_region 13 with fail
         refine region_sets (Ec.I nb no nc M.length dc k L.length w.heap.size (w.heap.size+1+1) (w.heap.size+1+1+1) k7 b14 b15 b16 w5.heap.size i0 i1 r0 r1 0 p q u x 0 tl th te d0 d1 d2 d3 d4 d5 n a v da w) (by kernel_rfl) ?_ ?_ ?_
         ·refine ⟨false,false,false,false,false,false,false,false,false,false,false,false,undef,undef,undef,undef,undef,undef,undef,undef,undef,undef,(.int .i64 0),0,rfl,by simp only [Act.put,sS],?_⟩;constructor
          ·exact hoA
          ·(first|(simp;done)|(simp;omega))
          ·(omega)
          ·exact bxB
          ·(omega)
          ·exact bxB
          ·(omega)
          all_goals (intro h;cases h)
         ·intro L a' w' hI i hi;obtain ⟨l0,l1,l2,l3,l4,l5,l6,l7,l8,l9,l10,l11,v0,v1,v2,v3,v4,v5,v6,v7,v8,v9,v11,b9,rfl,rfl,h⟩:=hI;have hlt:=ready_lt hi
          match i,hi,hlt with
          |0,hi,_=>
           obtain rfl:l0=false:=rl rfl hi;clear hi hlt;have c:=(h.g.at 1 rfl).c;have H:=Lib.hid h;clear h;refine wpOp_shut rfl (fun K hK=>?_)
           try simp only [Act.put,sS]
           go_simp;refine hK.out _ _ ?_;unfold Ec.I;refine ⟨_,_,_,_,_,_,_,_,_,_,_,_,((iv p q)),v1,v2,v3,v4,v5,v6,v7,v8,v9,v11,b9,rfl,?_,?_⟩
           ·simp only [Act.put,sS]
           ·exact {H.out with ev0:=fun _=>rfl}
          |1,hi,_=>
           obtain rfl:l1=false:=rl rfl hi;clear hi hlt;have c:=(h.g.at 0 rfl).c;have H:=Lib.hid h;clear h;refine wpOp_shut rfl (fun K hK=>?_)
           try simp only [Act.put,sS]
           go_simp;refine hK.out _ _ ?_;unfold Ec.I;refine ⟨_,_,_,_,_,_,_,_,_,_,_,_,v0,((iv u x)),v2,v3,v4,v5,v6,v7,v8,v9,v11,b9,rfl,?_,?_⟩
           ·simp only [Act.put,sS]
           ·exact {H.out with ev1:=fun _=>rfl}
          |2,hi,_=>
           obtain rfl:l2=false:=rl rfl hi;clear hi hlt;have H:=Lib.hid h;clear h;refine wpOp_shut rfl (fun K hK=>?_)
           try simp only [Act.put,sS]
           go_simp;refine (tunit_any _).mono ?_;rintro e wY ⟨rfl,hb⟩
           try go_simp
           refine hK.out _ _ ?_;unfold Ec.I;refine ⟨_,_,_,_,_,_,_,_,_,_,_,_,v0,v1,((iv 16777216 16777216)),v3,v4,v5,v6,v7,v8,v9,v11,b9,rfl,?_,?_⟩
           ·simp only [Act.put,sS]
           ·exact {(H.out.kept hb) with ev2:=fun _=>rfl}
          |3,hi,_=>
           obtain rfl:l3=false:=rl rfl hi;clear hi hlt;have H:=Lib.hid h;clear h;refine wpOp_shut rfl (fun K hK=>?_)
           try simp only [Act.put,sS]
           go_simp;refine hK.out _ _ ?_;unfold Ec.I;refine ⟨_,_,_,_,_,_,_,_,_,_,_,_,v0,v1,v2,(.pointer (some ⟨w.heap.size,2,none⟩)),v4,v5,v6,v7,v8,v9,v11,b9,rfl,?_,?_⟩
           ·simp only [Act.put,sS]
           ·exact {H.out with ev3:=fun _=>rfl}
          |4,hi,_=>
           obtain rfl:l4=false:=rl rfl hi;obtain rfl:l3=true:=rk rfl hi 3 .data;clear hi hlt;obtain rfl:=h.ev3 rfl;have c:=(h.g.at 5 rfl).c;have H:=Lib.hid h;clear h;refine wpOp_shut rfl (fun K hK=>?_)
           try simp only [Act.put,sS]
           go_simp;refine hK.out _ _ ?_;unfold Ec.I;refine ⟨_,_,_,_,_,_,_,_,_,_,_,_,v0,v1,v2,(.pointer (some ⟨w.heap.size,2,none⟩)),((iv i0 i1)),v5,v6,v7,v8,v9,v11,b9,rfl,?_,?_⟩
           ·simp only [Act.put,sS]
           ·exact {H.out with ev4:=fun _=>rfl}
          |5,hi,_=>
           obtain rfl:l5=false:=rl rfl hi;obtain rfl:l0=true:=rk rfl hi 0 .data;obtain rfl:l1=true:=rk rfl hi 1 .data;obtain rfl:l2=true:=rk rfl hi 2 .chain;obtain rfl:l4=true:=rk rfl hi 4 .data;clear hi hlt;obtain rfl:=h.ev0 rfl;obtain rfl:=h.ev1 rfl;obtain rfl:=h.ev2 rfl;obtain rfl:=h.ev4 rfl;have H:=Lib.hid h;clear h;refine wpOp_shut rfl (fun K hK=>?_)
           try simp only [Act.put,sS]
           go_simp;refine (passG_any p q u x 16777216 16777216 i0 i1 _ HV.out).mono ?_;rintro e wY ⟨rfl,hb⟩;rw [X4.out];unfold retR;dsimp only
           try go_simp
           refine hK.out _ _ ?_;unfold Ec.I;refine ⟨_,_,_,_,_,_,_,_,_,_,_,_,((iv p q)),((iv u x)),((iv 16777216 16777216)),v3,((iv i0 i1)),(.tuple #[(iv tl th),.int .i64 te]),v6,v7,v8,v9,v11,b9,rfl,?_,?_⟩
           ·simp only [Act.put,sS]
           ·exact {(H.out.kept hb) with ev5:=fun _=>rfl}
          |6,hi,_=>
           obtain rfl:l6=false:=rl rfl hi;obtain rfl:l5=true:=rk rfl hi 5 .data;clear hi hlt;obtain rfl:=h.ev5 rfl;have H:=Lib.hid h;clear h;refine wpOp_shut rfl (fun K hK=>?_)
           try simp only [Act.put,sS]
           go_simp;refine hK.out _ _ ?_;unfold Ec.I;refine ⟨_,_,_,_,_,_,_,_,_,_,_,_,v0,v1,v2,v3,v4,(.tuple #[(iv tl th),.int .i64 te]),(.tuple #[(iv tl th),.int .i64 te]),v7,v8,v9,v11,b9,rfl,?_,?_⟩
           ·simp only [Act.put,sS]
           ·exact {H.out with ev6:=fun _=>rfl}
          |7,hi,_=>
           obtain rfl:l7=false:=rl rfl hi;obtain rfl:l6=true:=rk rfl hi 6 .data;clear hi hlt;obtain rfl:=h.ev6 rfl;have H:=Lib.hid h;clear h;refine wpOp_shut rfl (fun K hK=>?_)
           try simp only [Act.put,sS]
           go_simp;refine hK.out _ _ ?_;unfold Ec.I;refine ⟨_,_,_,_,_,_,_,_,_,_,_,_,v0,v1,v2,v3,v4,v5,(.tuple #[(iv tl th),.int .i64 te]),((iv tl th)),v8,v9,v11,b9,rfl,?_,?_⟩
           ·simp only [Act.put,sS]
           ·exact {H.out with ev7:=fun _=>rfl}
          |8,hi,_=>
           obtain rfl:l8=false:=rl rfl hi;obtain rfl:l6=true:=rk rfl hi 6 .data;clear hi hlt;obtain rfl:=h.ev6 rfl;have H:=Lib.hid h;clear h;refine wpOp_shut rfl (fun K hK=>?_)
           try simp only [Act.put,sS]
           go_simp;refine hK.out _ _ ?_;unfold Ec.I;refine ⟨_,_,_,_,_,_,_,_,_,_,_,_,v0,v1,v2,v3,v4,v5,(.tuple #[(iv tl th),.int .i64 te]),v7,(.int .i64 te),v9,v11,b9,rfl,?_,?_⟩
           ·simp only [Act.put,sS]
           ·exact {H.out with ev8:=fun _=>rfl}
          |9,hi,_=>
           obtain rfl:l9=false:=rl rfl hi;clear hi hlt;have H:=Lib.hid h;clear h;refine wpOp_shut rfl (fun K hK=>?_)
           try simp only [Act.put,sS]
           go_simp;refine hK.out _ _ ?_;unfold Ec.I;refine ⟨_,_,_,_,_,_,_,_,_,_,_,_,v0,v1,v2,v3,v4,v5,v6,v7,v8,(.pointer (some ⟨w'.heap.size,0,none⟩)),v11,w'.heap.size,rfl,?_,?_⟩
           ·simp only [Act.put,sS]
           ·have h:=H.out;have h2:=h.kept ((Below.refl _ _).alloc (Nat.le_refl _) (.cells (List.toArray [.int .i64 0,.int .i64 0]) 25));exact {h2 with ev9:=fun _=>rfl,g9:=fun _=>h.sz,t9:=fun _=>by simp,o9:=fun p=>rfl,z9:=fun _ _=>Bx.new rfl,s9:=fun p=>(nomatch (h.o9 p))}
          |10,hi,_=>
           obtain rfl:l10=false:=rl rfl hi;obtain rfl:l9=true:=rk rfl hi 9 .phase;obtain rfl:l7=true:=rk rfl hi 7 .phase;obtain rfl:l5=true:=rk rfl hi 5 .phase;obtain rfl:l0=true:=rk rfl hi 0 .phase;obtain rfl:l1=true:=rk rfl hi 1 .phase;obtain rfl:l2=true:=rk rfl hi 2 .phase;obtain rfl:l3=true:=rk rfl hi 3 .phase;obtain rfl:l4=true:=rk rfl hi 4 .phase;obtain rfl:l6=true:=rk rfl hi 6 .phase;clear hi hlt;obtain rfl:=h.ev9 rfl;obtain rfl:=h.ev7 rfl;obtain rfl:=h.ev5 rfl;obtain rfl:=h.ev0 rfl;obtain rfl:=h.ev1 rfl;obtain rfl:=h.ev2 rfl;obtain rfl:=h.ev3 rfl;obtain rfl:=h.ev4 rfl;obtain rfl:=h.ev6 rfl;have bz:=h.z9 rfl rfl;have c:=bz.c;have f:=bz.f;clear bz;have H:=Lib.hid h;clear h;refine wpOp_shut rfl (fun K hK=>?_)
           try simp only [Act.put,sS]
           go_simp;refine hK.out _ _ ?_;unfold Ec.I;refine ⟨_,_,_,_,_,_,_,_,_,_,_,_,((iv p q)),((iv u x)),((iv 16777216 16777216)),(.pointer (some ⟨w.heap.size,2,none⟩)),((iv i0 i1)),(.tuple #[(iv tl th),.int .i64 te]),(.tuple #[(iv tl th),.int .i64 te]),((iv tl th)),v8,(.pointer (some ⟨b9,0,none⟩)),v11,b9,rfl,?_,?_⟩
           ·simp only [Act.put,sS]
           ·have h:=H.out;have gb:=h.g9 rfl;have gm:=Nat.le_trans h.mn gb;exact {h with g:=((h.g.put gm).put gm),sz:=by simpa using h.sz,o9:=fun _=>rfl,z9:=fun _ p=>(nomatch p),s9:=fun _=>(((h.z9 rfl rfl).put).put),t9:=fun p=>by simpa using h.t9 p,u0:=((h.u0.set (Nat.ne_of_lt (Nat.lt_of_lt_of_le h.un0 gb))).set (Nat.ne_of_lt (Nat.lt_of_lt_of_le h.un0 gb))),u1:=((h.u1.set (Nat.ne_of_lt (Nat.lt_of_lt_of_le h.un1 gb))).set (Nat.ne_of_lt (Nat.lt_of_lt_of_le h.un1 gb)))}
          |11,hi,_=>
           obtain rfl:l11=false:=rl rfl hi;obtain rfl:l8=true:=rk rfl hi 8 .phase;obtain rfl:l10=true:=rk rfl hi 10 .phase;obtain rfl:l0=true:=rk rfl hi 0 .phase;obtain rfl:l1=true:=rk rfl hi 1 .phase;obtain rfl:l2=true:=rk rfl hi 2 .phase;obtain rfl:l3=true:=rk rfl hi 3 .phase;obtain rfl:l4=true:=rk rfl hi 4 .phase;obtain rfl:l5=true:=rk rfl hi 5 .phase;obtain rfl:l6=true:=rk rfl hi 6 .phase;obtain rfl:l7=true:=rk rfl hi 7 .phase;obtain rfl:l9=true:=rk rfl hi 9 .phase;clear hi hlt;obtain rfl:=h.ev8 rfl;obtain rfl:=h.ev0 rfl;obtain rfl:=h.ev1 rfl;obtain rfl:=h.ev2 rfl;obtain rfl:=h.ev3 rfl;obtain rfl:=h.ev4 rfl;obtain rfl:=h.ev5 rfl;obtain rfl:=h.ev6 rfl;obtain rfl:=h.ev7 rfl;obtain rfl:=h.ev9 rfl;have H:=Lib.hid h;clear h;refine wpOp_shut rfl (fun K hK=>?_)
           try simp only [Act.put,sS]
           go_simp;refine hK.out _ _ ?_;unfold Ec.I;refine ⟨_,_,_,_,_,_,_,_,_,_,_,_,((iv p q)),((iv u x)),((iv 16777216 16777216)),(.pointer (some ⟨w.heap.size,2,none⟩)),((iv i0 i1)),(.tuple #[(iv tl th),.int .i64 te]),(.tuple #[(iv tl th),.int .i64 te]),((iv tl th)),(.int .i64 te),(.pointer (some ⟨b9,0,none⟩)),(.int .i64 te),b9,rfl,?_,?_⟩
           ·simp only [Act.put,sS]
           ·exact {H.out with ev11:=fun _=>rfl}
          |i+12,_,hlt=>exact absurd hlt (by simp)
         ·intro L a' w' hI hn;obtain ⟨l0,l1,l2,l3,l4,l5,l6,l7,l8,l9,l10,l11,v0,v1,v2,v3,v4,v5,v6,v7,v8,v9,v11,b9,rfl,rfl,h⟩:=hI;obtain rfl:l0=true:=nr 0 rfl hn;obtain rfl:l1=true:=nr 1 rfl hn;obtain rfl:l2=true:=nr 2 rfl hn;obtain rfl:l3=true:=nr 3 rfl hn;obtain rfl:l4=true:=nr 4 rfl hn;obtain rfl:l5=true:=nr 5 rfl hn;obtain rfl:l6=true:=nr 6 rfl hn;obtain rfl:l7=true:=nr 7 rfl hn;obtain rfl:l8=true:=nr 8 rfl hn;obtain rfl:l9=true:=nr 9 rfl hn;obtain rfl:l10=true:=nr 10 rfl hn;obtain rfl:l11=true:=nr 11 rfl hn;clear hn;obtain rfl:=h.ev0 rfl;obtain rfl:=h.ev1 rfl;obtain rfl:=h.ev2 rfl;obtain rfl:=h.ev3 rfl;obtain rfl:=h.ev4 rfl;obtain rfl:=h.ev5 rfl;obtain rfl:=h.ev6 rfl;obtain rfl:=h.ev7 rfl;obtain rfl:=h.ev8 rfl;obtain rfl:=h.ev9 rfl;obtain rfl:=h.ev11 rfl;simp only [Act.put,sS]
          rename World=>w6
          have H6:=h.g;have o_6:=h.u0;have g_6:=h.u1;have B9:=h.s9 rfl;have e9:=h.g9 rfl;have z6:=h.sz;have o6l:=o_6.lt;have g6l:=g_6.lt;clear h
          by_cases hte:te=0
          ·have HRV:=Lib.hid (HRV.out.trans (if_pos hte));subst hte;have K9:=B9.rd;have K14:Rd w6 b14 [.int .i64 d0,.int .i64 d1,.int .i64 d2,.int .i64 d3,.int .i64 d4,.int .i64 d5]:=H6.at 2 rfl;have KR:Rd w6 (w.heap.size+1) [.int .i64 a.a,.int .i64 a.b,.int .i64 a.c,.int .i64 a.d,.int .i64 a.e,.int .i64 a.f,.int .i64 v.a,.int .i64 v.b,.int .i64 v.c,.int .i64 v.d,.int .i64 v.e,.int .i64 v.f]:=H6.at 4 rfl
           have ne9:¬(b9=w.heap.size+1+1):=by omega
           have ne14:¬(b14=w.heap.size+1+1):=by omega
           have neR:¬(w.heap.size+1=w.heap.size+1+1):=by omega
           have mm9:¬(b9=w.heap.size+1+1+1):=by omega
           have mm14:¬(b14=w.heap.size+1+1+1):=by omega
           have mmR:¬(w.heap.size+1=w.heap.size+1+1+1):=by omega
           have o6c:=o_6.c;have o6f:=o_6.f;have g6c:=g_6.c;have g6f:=g_6.f
           have qa6:¬(w.heap.size+1+1=w.heap.size+1+1+1):=by omega
           have qb6:¬(w.heap.size+1+1+1=w.heap.size+1+1):=by omega
           go_upto_region 16 with fail
           go_region_held3 (fun X=>(∀j,X.cell? ⟨w.heap.size+1,j,none⟩ = [.int .i64 a.a,.int .i64 a.b,.int .i64 a.c,.int .i64 a.d,.int .i64 a.e,.int .i64 a.f,.int .i64 v.a,.int .i64 v.b,.int .i64 v.c,.int .i64 v.d,.int .i64 v.e,.int .i64 v.f][j]?)∧(∀j,X.cell? ⟨b14,j,none⟩ = [.int .i64 d0,.int .i64 d1,.int .i64 d2,.int .i64 d3,.int .i64 d4,.int .i64 d5][j]?)∧(∀j,X.cell? ⟨b9,j,none⟩ = [.int .i64 tl,.int .i64 th][j]?)) (refine ⟨Rd.c ?_,Rd.c ?_,Rd.c ?_⟩<;>(with_reducible repeat (first|exact KR|exact K14|exact K9|refine Rd.set ?_ (by first|exact ne9|exact ne14|exact neR|exact mm9|exact mm14|exact mmR)|refine Rd.drew ?_))) (fail)
           all_goals go_wp2_with fail
           refine bodyPost_box2 (b:=w.heap.size+1+1) (c:=w.heap.size+1+1+1) (cs:=[.int .i64 a.a,.int .i64 a.b,.int .i64 a.c,.int .i64 a.d,.int .i64 a.e,.int .i64 a.f,.int .i64 d0,.int .i64 d1,.int .i64 d2,.int .i64 d3,.int .i64 d4,.int .i64 d5]) (ds:=[.int .i64 tl,.int .i64 th]) (v:=.tuple #[.agg #[.int .i64 a.a,.int .i64 a.b,.int .i64 a.c,.int .i64 a.d,.int .i64 a.e,.int .i64 a.f,.int .i64 d0,.int .i64 d1,.int .i64 d2,.int .i64 d3,.int .i64 d4,.int .i64 d5],.agg #[.int .i64 tl,.int .i64 th],.int .i64 0]) (by
            (repeat (first|with_reducible exact o_6|(with_reducible refine Bx.new ?_;(· (simp;done)))|with_reducible apply Bx.put12|with_reducible apply Bx.put2|with_reducible refine Bx.set ?_ (by omega)|with_reducible refine Bx.alc ?_ _|with_reducible refine Bx.drew ?_))) (by
            (repeat (first|with_reducible exact g_6|(with_reducible refine Bx.new ?_;(· (simp;done)))|with_reducible apply Bx.put12|with_reducible apply Bx.put2|with_reducible refine Bx.set ?_ (by omega)|with_reducible refine Bx.alc ?_ _|with_reducible refine Bx.drew ?_))) (fun X hX hY=>by simp [results,Tryz.results31,go_sem,hX,hY]) rfl ⟨by rw [HRV.out];rfl,by
            (with_reducible repeat (first|exact H6.below|refine Below.setCell ?_ (by show w.heap.size≤w.heap.size+1+1;omega) _|refine Below.setCell ?_ (by show w.heap.size≤w.heap.size+1+1+1;omega) _|refine Below.drew ?_|refine Below.alloc ?_ (by have:=H6.below.size;first|omega|(simp<;>omega)) _))⟩
          ·have ne6:(te != 0)=true:=by simpa using hte
           have o6c:=o_6.c;have o6f:=o_6.f;have g6c:=g_6.c;have g6f:=g_6.f
           have qa6:¬(w.heap.size+1+1=w.heap.size+1+1+1):=by omega
           have qb6:¬(w.heap.size+1+1+1=w.heap.size+1+1):=by omega
           go_wp2_with fail
           refine bodyPost_box2 (b:=w.heap.size+1+1) (c:=w.heap.size+1+1+1) (cs:=[.int .i64 0,.int .i64 0,.int .i64 0,.int .i64 0,.int .i64 0,.int .i64 0,.int .i64 0,.int .i64 0,.int .i64 0,.int .i64 0,.int .i64 0,.int .i64 0]) (ds:=[.int .i64 0,.int .i64 0]) (v:=.tuple #[.agg #[.int .i64 0,.int .i64 0,.int .i64 0,.int .i64 0,.int .i64 0,.int .i64 0,.int .i64 0,.int .i64 0,.int .i64 0,.int .i64 0,.int .i64 0,.int .i64 0],.agg #[.int .i64 0,.int .i64 0],.int .i64 te]) (by
            (repeat (first|with_reducible exact o_6|(with_reducible refine Bx.new ?_;(· (simp;done)))|with_reducible apply Bx.put12|with_reducible apply Bx.put2|with_reducible refine Bx.set ?_ (by omega)|with_reducible refine Bx.alc ?_ _|with_reducible refine Bx.drew ?_))) (by
            (repeat (first|with_reducible exact g_6|(with_reducible refine Bx.new ?_;(· (simp;done)))|with_reducible apply Bx.put12|with_reducible apply Bx.put2|with_reducible refine Bx.set ?_ (by omega)|with_reducible refine Bx.alc ?_ _|with_reducible refine Bx.drew ?_))) (fun X hX hY=>by simp [results,Tryz.results31,go_sem,hX,hY]) rfl ⟨by rw [HRV.out,if_neg hte];rfl,by
            (with_reducible repeat (first|exact H6.below|refine Below.setCell ?_ (by show w.heap.size≤w.heap.size+1+1;omega) _|refine Below.setCell ?_ (by show w.heap.size≤w.heap.size+1+1+1;omega) _|refine Below.drew ?_|refine Below.alloc ?_ (by have:=H6.below.size;first|omega|(simp<;>omega)) _))⟩
       ·have ne4:(ee != 0)=true:=by simpa using hee
        have o4c:=o_4.c;have o4f:=o_4.f;have g4c:=g_4.c;have g4f:=g_4.f
        have qa4:¬(w.heap.size+1+1=w.heap.size+1+1+1):=by omega
        have qb4:¬(w.heap.size+1+1+1=w.heap.size+1+1):=by omega
        go_wp2_with fail
        refine bodyPost_box2 (b:=w.heap.size+1+1) (c:=w.heap.size+1+1+1) (cs:=[.int .i64 0,.int .i64 0,.int .i64 0,.int .i64 0,.int .i64 0,.int .i64 0,.int .i64 0,.int .i64 0,.int .i64 0,.int .i64 0,.int .i64 0,.int .i64 0]) (ds:=[.int .i64 0,.int .i64 0]) (v:=.tuple #[.agg #[.int .i64 0,.int .i64 0,.int .i64 0,.int .i64 0,.int .i64 0,.int .i64 0,.int .i64 0,.int .i64 0,.int .i64 0,.int .i64 0,.int .i64 0,.int .i64 0],.agg #[.int .i64 0,.int .i64 0],.int .i64 ee]) (by
         (repeat (first|with_reducible exact o_4|(with_reducible refine Bx.new ?_;(· (simp;done)))|with_reducible apply Bx.put12|with_reducible apply Bx.put2|with_reducible refine Bx.set ?_ (by omega)|with_reducible refine Bx.alc ?_ _|with_reducible refine Bx.drew ?_))) (by
         (repeat (first|with_reducible exact g_4|(with_reducible refine Bx.new ?_;(· (simp;done)))|with_reducible apply Bx.put12|with_reducible apply Bx.put2|with_reducible refine Bx.set ?_ (by omega)|with_reducible refine Bx.alc ?_ _|with_reducible refine Bx.drew ?_))) (fun X hX hY=>by simp [results,Tryz.results31,go_sem,hX,hY]) rfl ⟨by rw [HRV.out,if_neg hee];rfl,by
         (with_reducible repeat (first|exact H4.below|refine Below.setCell ?_ (by show w.heap.size≤w.heap.size+1+1;omega) _|refine Below.setCell ?_ (by show w.heap.size≤w.heap.size+1+1+1;omega) _|refine Below.drew ?_|refine Below.alloc ?_ (by have:=H4.below.size;first|omega|(simp<;>omega)) _))⟩
     ·have ne3:(re != 0)=true:=by simpa using hre
      have o3c:=o_3.c;have o3f:=o_3.f;have g3c:=g_3.c;have g3f:=g_3.f
      have qa3:¬(w.heap.size+1+1=w.heap.size+1+1+1):=by omega
      have qb3:¬(w.heap.size+1+1+1=w.heap.size+1+1):=by omega
      go_wp2_with fail
      refine bodyPost_box2 (b:=w.heap.size+1+1) (c:=w.heap.size+1+1+1) (cs:=[.int .i64 0,.int .i64 0,.int .i64 0,.int .i64 0,.int .i64 0,.int .i64 0,.int .i64 0,.int .i64 0,.int .i64 0,.int .i64 0,.int .i64 0,.int .i64 0]) (ds:=[.int .i64 0,.int .i64 0]) (v:=.tuple #[.agg #[.int .i64 0,.int .i64 0,.int .i64 0,.int .i64 0,.int .i64 0,.int .i64 0,.int .i64 0,.int .i64 0,.int .i64 0,.int .i64 0,.int .i64 0,.int .i64 0],.agg #[.int .i64 0,.int .i64 0],.int .i64 re]) (by
       (repeat (first|with_reducible exact o_3|(with_reducible refine Bx.new ?_;(· (simp;done)))|with_reducible apply Bx.put12|with_reducible apply Bx.put2|with_reducible refine Bx.set ?_ (by omega)|with_reducible refine Bx.alc ?_ _|with_reducible refine Bx.drew ?_))) (by
       (repeat (first|with_reducible exact g_3|(with_reducible refine Bx.new ?_;(· (simp;done)))|with_reducible apply Bx.put12|with_reducible apply Bx.put2|with_reducible refine Bx.set ?_ (by omega)|with_reducible refine Bx.alc ?_ _|with_reducible refine Bx.drew ?_))) (fun X hX hY=>by simp [results,Tryz.results31,go_sem,hX,hY]) rfl ⟨by rw [HRV.out,if_neg hre];rfl,by
       (with_reducible repeat (first|exact H3.below|refine Below.setCell ?_ (by show w.heap.size≤w.heap.size+1+1;omega) _|refine Below.setCell ?_ (by show w.heap.size≤w.heap.size+1+1+1;omega) _|refine Below.drew ?_|refine Below.alloc ?_ (by have:=H3.below.size;first|omega|(simp<;>omega)) _))⟩
   ·rw [show enterR L M i0 i1 face a v=failN 2 from (if_pos hB).trans ((if_pos hR).trans (if_neg hf))];have EB:=Lib.hid hB;have ER:=Lib.hid hR;clear hB hR hn hp
    by_cases hf0:face<0
    ·clear hf;have H0:=(((Ho.nil w).bx [.slice na L.length nc,.slice da M.length dc,.int .i64 i0,.int .i64 i1] 27 (w.heap.size) (by simp)).bx [.int .i64 a.a,.int .i64 a.b,.int .i64 a.c,.int .i64 a.d,.int .i64 a.e,.int .i64 a.f,.int .i64 v.a,.int .i64 v.b,.int .i64 v.c,.int .i64 v.d,.int .i64 v.e,.int .i64 v.f] 84 (w.heap.size+1) (by simp));have o_0:Bx ((((w.alloc (.cells (List.toArray [.slice na L.length nc,.slice da M.length dc,.int .i64 i0,.int .i64 i1]) 27)).alloc (.cells (List.toArray [.int .i64 a.a,.int .i64 a.b,.int .i64 a.c,.int .i64 a.d,.int .i64 a.e,.int .i64 a.f,.int .i64 v.a,.int .i64 v.b,.int .i64 v.c,.int .i64 v.d,.int .i64 v.e,.int .i64 v.f]) 84)).alloc (.cells (List.toArray [.int .i64 0,.int .i64 0,.int .i64 0,.int .i64 0,.int .i64 0,.int .i64 0,.int .i64 0,.int .i64 0,.int .i64 0,.int .i64 0,.int .i64 0,.int .i64 0]) 84)).alloc (.cells (List.toArray [.int .i64 0,.int .i64 0]) 25)) (w.heap.size+1+1) [.int .i64 0,.int .i64 0,.int .i64 0,.int .i64 0,.int .i64 0,.int .i64 0,.int .i64 0,.int .i64 0,.int .i64 0,.int .i64 0,.int .i64 0,.int .i64 0]:=bxA;have g_0:Bx ((((w.alloc (.cells (List.toArray [.slice na L.length nc,.slice da M.length dc,.int .i64 i0,.int .i64 i1]) 27)).alloc (.cells (List.toArray [.int .i64 a.a,.int .i64 a.b,.int .i64 a.c,.int .i64 a.d,.int .i64 a.e,.int .i64 a.f,.int .i64 v.a,.int .i64 v.b,.int .i64 v.c,.int .i64 v.d,.int .i64 v.e,.int .i64 v.f]) 84)).alloc (.cells (List.toArray [.int .i64 0,.int .i64 0,.int .i64 0,.int .i64 0,.int .i64 0,.int .i64 0,.int .i64 0,.int .i64 0,.int .i64 0,.int .i64 0,.int .i64 0,.int .i64 0]) 84)).alloc (.cells (List.toArray [.int .i64 0,.int .i64 0]) 25)) (w.heap.size+1+1+1) [.int .i64 0,.int .i64 0]:=bxA;have HZ0:Ho w ((((w.alloc (.cells (List.toArray [.slice na L.length nc,.slice da M.length dc,.int .i64 i0,.int .i64 i1]) 27)).alloc (.cells (List.toArray [.int .i64 a.a,.int .i64 a.b,.int .i64 a.c,.int .i64 a.d,.int .i64 a.e,.int .i64 a.f,.int .i64 v.a,.int .i64 v.b,.int .i64 v.c,.int .i64 v.d,.int .i64 v.e,.int .i64 v.f]) 84)).alloc (.cells (List.toArray [.int .i64 0,.int .i64 0,.int .i64 0,.int .i64 0,.int .i64 0,.int .i64 0,.int .i64 0,.int .i64 0,.int .i64 0,.int .i64 0,.int .i64 0,.int .i64 0]) 84)).alloc (.cells (List.toArray [.int .i64 0,.int .i64 0]) 25)) (w.heap.size+1+1) [(w.heap.size+1,[.int .i64 a.a,.int .i64 a.b,.int .i64 a.c,.int .i64 a.d,.int .i64 a.e,.int .i64 a.f,.int .i64 v.a,.int .i64 v.b,.int .i64 v.c,.int .i64 v.d,.int .i64 v.e,.int .i64 v.f]),(w.heap.size,[.slice na L.length nc,.slice da M.length dc,.int .i64 i0,.int .i64 i1])]:=hoA;go_enter Tryz.func31,Tryz.ntmps31;have o_0c:=o_0.c;have o_0f:=o_0.f;have g_0c:=g_0.c;have g_0f:=g_0.f;have zx0:=zp (w.heap.size+1+1) (w.heap.size+1+1+1)
     go_wp2_with fail
     refine (vbody_any _ (HN.out.kept HZ0.below) (HP.out.kept HZ0.below)).mono ?_;rintro r w1 ⟨rfl,hb⟩;rw [EB.out];have H1:Ho w w1 (w.heap.size+1+1) [(w.heap.size+1,[.int .i64 a.a,.int .i64 a.b,.int .i64 a.c,.int .i64 a.d,.int .i64 a.e,.int .i64 a.f,.int .i64 v.a,.int .i64 v.b,.int .i64 v.c,.int .i64 v.d,.int .i64 v.e,.int .i64 v.f]),(w.heap.size,[.slice na L.length nc,.slice da M.length dc,.int .i64 i0,.int .i64 i1])]:=Ho.call hoA hb;have o_1:=bxK o_0 hb;have g_1:=bxK g_0 hb;clear o_0c o_0f g_0c g_0f zx0;have hs1:=H1.size;have hz1:=hb.size
     (try simp at hz1)
     clear hb;have h0_1:=(H1.at 1 rfl).c;have h1_1:=(H1.at 0 rfl).c;have o_1c:=o_1.c;have o_1f:=o_1.f;have o_1l:=o_1.lt;have g_1c:=g_1.c;have g_1f:=g_1.f;have g_1l:=g_1.lt;have zx1:=ai (zq (w.heap.size+1+1) (w1.heap.size))<|ai (zq (w.heap.size+1+1+1) (w1.heap.size))<|ai (zq (w.heap.size) (w1.heap.size))<|ai (zq (w.heap.size+1) (w1.heap.size))<|ai (zp (w.heap.size+1+1) (w.heap.size+1+1+1))<|ai (zp (w.heap.size+1+1) (w.heap.size))<|ai (zp (w.heap.size+1+1) (w.heap.size+1))<|ai (zp (w.heap.size+1+1+1) (w.heap.size))<|zp (w.heap.size+1+1+1) (w.heap.size+1)
     go_wp2_with fail
     refine (vray31_any a v _).mono ?_;rintro r w2 ⟨rfl,hb⟩;rw [ER.out];have H2:Ho w w2 (w.heap.size+1+1) [(w.heap.size+1,[.int .i64 a.a,.int .i64 a.b,.int .i64 a.c,.int .i64 a.d,.int .i64 a.e,.int .i64 a.f,.int .i64 v.a,.int .i64 v.b,.int .i64 v.c,.int .i64 v.d,.int .i64 v.e,.int .i64 v.f]),(w.heap.size,[.slice na L.length nc,.slice da M.length dc,.int .i64 i0,.int .i64 i1])]:=Ho.call hoA hb;have o_2:=bxK o_1 hb;have g_2:=bxK g_1 hb;clear h0_1 h1_1 o_1c o_1f g_1c g_1f zx1;have hs2:=H2.size;have hz2:=hb.size
     (try simp at hz2)
     clear hb;have h0_2:=(H2.at 1 rfl).c;have h1_2:=(H2.at 0 rfl).c;have o_2c:=o_2.c;have o_2f:=o_2.f;have o_2l:=o_2.lt;have g_2c:=g_2.c;have g_2f:=g_2.f;have g_2l:=g_2.lt;have zx2:=ai (zq (w.heap.size+1+1) (w2.heap.size))<|ai (zq (w.heap.size+1+1+1) (w2.heap.size))<|ai (zq (w.heap.size) (w2.heap.size))<|ai (zq (w.heap.size+1) (w2.heap.size))<|ai (zp (w.heap.size+1+1) (w.heap.size+1+1+1))<|ai (zp (w.heap.size+1+1) (w.heap.size))<|ai (zp (w.heap.size+1+1) (w.heap.size+1))<|ai (zp (w.heap.size+1+1+1) (w.heap.size))<|zp (w.heap.size+1+1+1) (w.heap.size+1)
     go_wp2_with fail
     refine bodyPost_box2 (b:=w.heap.size+1+1) (c:=w.heap.size+1+1+1) (cs:=[.int .i64 0,.int .i64 0,.int .i64 0,.int .i64 0,.int .i64 0,.int .i64 0,.int .i64 0,.int .i64 0,.int .i64 0,.int .i64 0,.int .i64 0,.int .i64 0]) (ds:=[.int .i64 0,.int .i64 0]) (v:=.tuple #[.agg #[.int .i64 0,.int .i64 0,.int .i64 0,.int .i64 0,.int .i64 0,.int .i64 0,.int .i64 0,.int .i64 0,.int .i64 0,.int .i64 0,.int .i64 0,.int .i64 0],.agg #[.int .i64 0,.int .i64 0],.int .i64 2]) (by
      (repeat (first|with_reducible exact o_2|(with_reducible refine Bx.new ?_;(· (simp;done)))|with_reducible apply Bx.put12|with_reducible apply Bx.put2|with_reducible refine Bx.set ?_ (by omega)|with_reducible refine Bx.alc ?_ _|with_reducible refine Bx.drew ?_))) (by
      (repeat (first|with_reducible exact g_2|(with_reducible refine Bx.new ?_;(· (simp;done)))|with_reducible apply Bx.put12|with_reducible apply Bx.put2|with_reducible refine Bx.set ?_ (by omega)|with_reducible refine Bx.alc ?_ _|with_reducible refine Bx.drew ?_))) (fun X hX hY=>by simp [results,Tryz.results31,go_sem,hX,hY]) rfl ⟨rfl,by
      refine Ho.below (n:=w.heap.size+1+1) (l:=[(w.heap.size+1,[.int .i64 a.a,.int .i64 a.b,.int .i64 a.c,.int .i64 a.d,.int .i64 a.e,.int .i64 a.f,.int .i64 v.a,.int .i64 v.b,.int .i64 v.c,.int .i64 v.d,.int .i64 v.e,.int .i64 v.f]),(w.heap.size,[.slice na L.length nc,.slice da M.length dc,.int .i64 i0,.int .i64 i1])]) ?_
      exact hoA⟩
    ·have hf1:(L.length:Int)≤face:=by omega
     clear hf;have H0:=(((Ho.nil w).bx [.slice na L.length nc,.slice da M.length dc,.int .i64 i0,.int .i64 i1] 27 (w.heap.size) (by simp)).bx [.int .i64 a.a,.int .i64 a.b,.int .i64 a.c,.int .i64 a.d,.int .i64 a.e,.int .i64 a.f,.int .i64 v.a,.int .i64 v.b,.int .i64 v.c,.int .i64 v.d,.int .i64 v.e,.int .i64 v.f] 84 (w.heap.size+1) (by simp));have o_0:Bx ((((w.alloc (.cells (List.toArray [.slice na L.length nc,.slice da M.length dc,.int .i64 i0,.int .i64 i1]) 27)).alloc (.cells (List.toArray [.int .i64 a.a,.int .i64 a.b,.int .i64 a.c,.int .i64 a.d,.int .i64 a.e,.int .i64 a.f,.int .i64 v.a,.int .i64 v.b,.int .i64 v.c,.int .i64 v.d,.int .i64 v.e,.int .i64 v.f]) 84)).alloc (.cells (List.toArray [.int .i64 0,.int .i64 0,.int .i64 0,.int .i64 0,.int .i64 0,.int .i64 0,.int .i64 0,.int .i64 0,.int .i64 0,.int .i64 0,.int .i64 0,.int .i64 0]) 84)).alloc (.cells (List.toArray [.int .i64 0,.int .i64 0]) 25)) (w.heap.size+1+1) [.int .i64 0,.int .i64 0,.int .i64 0,.int .i64 0,.int .i64 0,.int .i64 0,.int .i64 0,.int .i64 0,.int .i64 0,.int .i64 0,.int .i64 0,.int .i64 0]:=bxA;have g_0:Bx ((((w.alloc (.cells (List.toArray [.slice na L.length nc,.slice da M.length dc,.int .i64 i0,.int .i64 i1]) 27)).alloc (.cells (List.toArray [.int .i64 a.a,.int .i64 a.b,.int .i64 a.c,.int .i64 a.d,.int .i64 a.e,.int .i64 a.f,.int .i64 v.a,.int .i64 v.b,.int .i64 v.c,.int .i64 v.d,.int .i64 v.e,.int .i64 v.f]) 84)).alloc (.cells (List.toArray [.int .i64 0,.int .i64 0,.int .i64 0,.int .i64 0,.int .i64 0,.int .i64 0,.int .i64 0,.int .i64 0,.int .i64 0,.int .i64 0,.int .i64 0,.int .i64 0]) 84)).alloc (.cells (List.toArray [.int .i64 0,.int .i64 0]) 25)) (w.heap.size+1+1+1) [.int .i64 0,.int .i64 0]:=bxA;have HZ0:Ho w ((((w.alloc (.cells (List.toArray [.slice na L.length nc,.slice da M.length dc,.int .i64 i0,.int .i64 i1]) 27)).alloc (.cells (List.toArray [.int .i64 a.a,.int .i64 a.b,.int .i64 a.c,.int .i64 a.d,.int .i64 a.e,.int .i64 a.f,.int .i64 v.a,.int .i64 v.b,.int .i64 v.c,.int .i64 v.d,.int .i64 v.e,.int .i64 v.f]) 84)).alloc (.cells (List.toArray [.int .i64 0,.int .i64 0,.int .i64 0,.int .i64 0,.int .i64 0,.int .i64 0,.int .i64 0,.int .i64 0,.int .i64 0,.int .i64 0,.int .i64 0,.int .i64 0]) 84)).alloc (.cells (List.toArray [.int .i64 0,.int .i64 0]) 25)) (w.heap.size+1+1) [(w.heap.size+1,[.int .i64 a.a,.int .i64 a.b,.int .i64 a.c,.int .i64 a.d,.int .i64 a.e,.int .i64 a.f,.int .i64 v.a,.int .i64 v.b,.int .i64 v.c,.int .i64 v.d,.int .i64 v.e,.int .i64 v.f]),(w.heap.size,[.slice na L.length nc,.slice da M.length dc,.int .i64 i0,.int .i64 i1])]:=hoA;go_enter Tryz.func31,Tryz.ntmps31;have o_0c:=o_0.c;have o_0f:=o_0.f;have g_0c:=g_0.c;have g_0f:=g_0.f;have zx0:=zp (w.heap.size+1+1) (w.heap.size+1+1+1)
     go_wp2_with fail
     refine (vbody_any _ (HN.out.kept HZ0.below) (HP.out.kept HZ0.below)).mono ?_;rintro r w1 ⟨rfl,hb⟩;rw [EB.out];have H1:Ho w w1 (w.heap.size+1+1) [(w.heap.size+1,[.int .i64 a.a,.int .i64 a.b,.int .i64 a.c,.int .i64 a.d,.int .i64 a.e,.int .i64 a.f,.int .i64 v.a,.int .i64 v.b,.int .i64 v.c,.int .i64 v.d,.int .i64 v.e,.int .i64 v.f]),(w.heap.size,[.slice na L.length nc,.slice da M.length dc,.int .i64 i0,.int .i64 i1])]:=Ho.call hoA hb;have o_1:=bxK o_0 hb;have g_1:=bxK g_0 hb;clear o_0c o_0f g_0c g_0f zx0;have hs1:=H1.size;have hz1:=hb.size
     (try simp at hz1)
     clear hb;have h0_1:=(H1.at 1 rfl).c;have h1_1:=(H1.at 0 rfl).c;have o_1c:=o_1.c;have o_1f:=o_1.f;have o_1l:=o_1.lt;have g_1c:=g_1.c;have g_1f:=g_1.f;have g_1l:=g_1.lt;have zx1:=ai (zq (w.heap.size+1+1) (w1.heap.size))<|ai (zq (w.heap.size+1+1+1) (w1.heap.size))<|ai (zq (w.heap.size) (w1.heap.size))<|ai (zq (w.heap.size+1) (w1.heap.size))<|ai (zp (w.heap.size+1+1) (w.heap.size+1+1+1))<|ai (zp (w.heap.size+1+1) (w.heap.size))<|ai (zp (w.heap.size+1+1) (w.heap.size+1))<|ai (zp (w.heap.size+1+1+1) (w.heap.size))<|zp (w.heap.size+1+1+1) (w.heap.size+1)
     go_wp2_with fail
     refine (vray31_any a v _).mono ?_;rintro r w2 ⟨rfl,hb⟩;rw [ER.out];have H2:Ho w w2 (w.heap.size+1+1) [(w.heap.size+1,[.int .i64 a.a,.int .i64 a.b,.int .i64 a.c,.int .i64 a.d,.int .i64 a.e,.int .i64 a.f,.int .i64 v.a,.int .i64 v.b,.int .i64 v.c,.int .i64 v.d,.int .i64 v.e,.int .i64 v.f]),(w.heap.size,[.slice na L.length nc,.slice da M.length dc,.int .i64 i0,.int .i64 i1])]:=Ho.call hoA hb;have o_2:=bxK o_1 hb;have g_2:=bxK g_1 hb;clear h0_1 h1_1 o_1c o_1f g_1c g_1f zx1;have hs2:=H2.size;have hz2:=hb.size
     (try simp at hz2)
     clear hb;have h0_2:=(H2.at 1 rfl).c;have h1_2:=(H2.at 0 rfl).c;have o_2c:=o_2.c;have o_2f:=o_2.f;have o_2l:=o_2.lt;have g_2c:=g_2.c;have g_2f:=g_2.f;have g_2l:=g_2.lt;have zx2:=ai (zq (w.heap.size+1+1) (w2.heap.size))<|ai (zq (w.heap.size+1+1+1) (w2.heap.size))<|ai (zq (w.heap.size) (w2.heap.size))<|ai (zq (w.heap.size+1) (w2.heap.size))<|ai (zp (w.heap.size+1+1) (w.heap.size+1+1+1))<|ai (zp (w.heap.size+1+1) (w.heap.size))<|ai (zp (w.heap.size+1+1) (w.heap.size+1))<|ai (zp (w.heap.size+1+1+1) (w.heap.size))<|zp (w.heap.size+1+1+1) (w.heap.size+1)
     go_wp2_with fail
     refine bodyPost_box2 (b:=w.heap.size+1+1) (c:=w.heap.size+1+1+1) (cs:=[.int .i64 0,.int .i64 0,.int .i64 0,.int .i64 0,.int .i64 0,.int .i64 0,.int .i64 0,.int .i64 0,.int .i64 0,.int .i64 0,.int .i64 0,.int .i64 0]) (ds:=[.int .i64 0,.int .i64 0]) (v:=.tuple #[.agg #[.int .i64 0,.int .i64 0,.int .i64 0,.int .i64 0,.int .i64 0,.int .i64 0,.int .i64 0,.int .i64 0,.int .i64 0,.int .i64 0,.int .i64 0,.int .i64 0],.agg #[.int .i64 0,.int .i64 0],.int .i64 2]) (by
      (repeat (first|with_reducible exact o_2|(with_reducible refine Bx.new ?_;(· (simp;done)))|with_reducible apply Bx.put12|with_reducible apply Bx.put2|with_reducible refine Bx.set ?_ (by omega)|with_reducible refine Bx.alc ?_ _|with_reducible refine Bx.drew ?_))) (by
      (repeat (first|with_reducible exact g_2|(with_reducible refine Bx.new ?_;(· (simp;done)))|with_reducible apply Bx.put12|with_reducible apply Bx.put2|with_reducible refine Bx.set ?_ (by omega)|with_reducible refine Bx.alc ?_ _|with_reducible refine Bx.drew ?_))) (fun X hX hY=>by simp [results,Tryz.results31,go_sem,hX,hY]) rfl ⟨rfl,by
      refine Ho.below (n:=w.heap.size+1+1) (l:=[(w.heap.size+1,[.int .i64 a.a,.int .i64 a.b,.int .i64 a.c,.int .i64 a.d,.int .i64 a.e,.int .i64 a.f,.int .i64 v.a,.int .i64 v.b,.int .i64 v.c,.int .i64 v.d,.int .i64 v.e,.int .i64 v.f]),(w.heap.size,[.slice na L.length nc,.slice da M.length dc,.int .i64 i0,.int .i64 i1])]) ?_
      exact hoA⟩
end Go.Proofs.YtiecdgcdcpmgaaaGreat.Iv
