/- Texts PTk, PTl, PTm, PTo, PTp, PTl2, PRv, PTv1, PTv3. -/
import Derived.Test.YtiecdgcdcpmgaaaGreatM06
import Derived.Test.YtiecdgcdcpmgaaaGreatM18
import Derived.Test.YtiecdgcdcpmgaaaGreatM20
import Derived.Test.YtiecdgcdcpmgaaaGreatM14
import Derived.BigQuiet
import Derived.Maps.AppendAt
import Derived.Test.YtiecdgcdcpmgaaaGreatM04
import Derived.Test.YtiecdgcdcpmgaaaGreatM07

/- Contract of trace.Inside. -/
namespace Go.Proofs.YtiecdgcdcpmgaaaGreat.Iv
open Go.RowKit
attribute [local go_sem] Oper.semAt_some
theorem IntsAt.kept {W W':World} {ao:Option Addr} {L:List Int} (h:IntsAt W ao L) (hb:Below W.heap.size W W'):IntsAt W' ao L:=by
 intro hl;obtain ⟨b,off,ha,hlt,hc⟩:=h hl;exact ⟨b,off,ha,Nat.lt_of_lt_of_le hlt hb.size,fun i hi=>(hb.cell (p:=⟨b,_,none⟩) hlt).trans (hc i hi)⟩
theorem IntsAt.take {W:World} {ao:Option Addr} {L:List Int} (h:IntsAt W ao L) (n:Nat) (hn:n≤L.length):IntsAt W ao (L.take n):=by
 intro hl;rw [List.length_take] at hl;obtain ⟨b,off,ha,hlt,hc⟩:=h (by omega);refine ⟨b,off,ha,hlt,fun i hi=>?_⟩;rw [List.length_take] at hi;rw [hc i (by omega),List.getElem?_take,if_pos (by omega)]
end Go.Proofs.YtiecdgcdcpmgaaaGreat.Iv

/- Contracts of trace.cut, and of trace.passing for cosines that are not negative. -/
namespace Go.Proofs.YtiecdgcdcpmgaaaGreat.Iv
open Go.RowKit
attribute [local go_sem] Oper.semAt_some run_min2' run_max2'
theorem sgn_nn {a b:Int} (h0:0≤a):0≤sgn a b:=by
 unfold sgn;split
 ·rename_i h;have:=vB_iff.1 h
  repeat' split
  all_goals omega
 ·omega
def cutR (x:Int):Int:=min (max x 0) 16777216
set_option maxRecDepth 100000 in
theorem cut_any (a b:Int) (w:World) :
  Calls Tryz.prog 105 #[iv a b] w fun e w'=>e = .returned (iv (cutR a) (cutR b))∧Below w.heap.size w w':=by
 go_enter Tryz.func105,Tryz.ntmps105
 go_wp2_with fail
 exact bodyPost_ret (v:=iv (cutR a) (cutR b)) (by simp [results,Tryz.results105,go_sem,cutR]) rfl ⟨rfl,(by repeat (first|exact Below.refl _ _|refine Below.drew ?_|refine Below.setCell ?_ (by first|omega|(simp<;>omega)) _|refine Below.alloc ?_ (by first|omega|(simp<;>omega)) _))⟩
def passR (a b c d fl fh tl th:Int):R:=Ivf.transR ⟨cutR a,cutR b,cutR c,cutR d,fl,fh,tl,th⟩
set_option maxRecDepth 100000 in
set_option maxHeartbeats 4000000 in
theorem pass_any (a b c d fl fh tl th:Int) (w:World) (_:vB a b=true) (h0:0≤a) (_:vB c d=true) (_:0≤c) :
  Calls Tryz.prog 74 #[iv a b,iv c d,iv fl fh,iv tl th] w fun e w'=>e=retR (passR a b c d fl fh tl th)∧Below w.heap.size w w':=by
 have H0:=((((Ho.nil w).bx [.int .i64 a,.int .i64 b] 25 w.heap.size rfl).bx [.int .i64 c,.int .i64 d] 25 (w.heap.size+1) (by simp)).bx [.int .i64 fl,.int .i64 fh] 25 (w.heap.size+1+1) (by simp)).bx [.int .i64 tl,.int .i64 th] 25 (w.heap.size+1+1+1) (by simp);have O0:Bx (((((w.alloc (.cells (List.toArray [.int .i64 a,.int .i64 b]) 25)).alloc (.cells (List.toArray [.int .i64 c,.int .i64 d]) 25)).alloc (.cells (List.toArray [.int .i64 fl,.int .i64 fh]) 25)).alloc (.cells (List.toArray [.int .i64 tl,.int .i64 th]) 25)).alloc (.cells (List.toArray [.int .i64 0,.int .i64 0]) 25)) (w.heap.size+1+1+1+1) [.int .i64 0,.int .i64 0]:=Bx.new (by simp);have H0:=H0.alc (.cells (List.toArray [.int .i64 0,.int .i64 0]) 25);obtain ⟨s,hsg⟩:∃s,sgn a b=s:=⟨_,rfl⟩
 have hs:¬(s<0):=by have:=sgn_nn (b:=b) h0;omega
 have HS:=Lib.hid hsg;clear h0 hsg;obtain ⟨⟨rl,rh,re⟩,hr⟩:∃r,passR a b c d fl fh tl th=r:=⟨_,rfl⟩;have HR:=Lib.hid (show retR (Ivf.transR ⟨cutR a,cutR b,cutR c,cutR d,fl,fh,tl,th⟩) = .returned (.tuple #[iv rl rh,.int .i64 re]) from by rw [←passR,hr]);rw [hr];clear hr;go_enter Tryz.func74,Tryz.ntmps74
 go_wp2_with fail
 refine (sign_any a b _).mono ?_;rintro e w1 ⟨rfl,hb⟩;rw [HS.out];have HX:=(H0.call hb).drew;have OX:=(O0.kept hb).drew;clear hb H0 O0
 go_upto_region 4 with fail
 go_region_held3 (fun X=>(∀j,X.cell? ⟨w.heap.size,j,none⟩ = [.int .i64 a,.int .i64 b][j]?)∧(∀j,X.cell? ⟨w.heap.size+1,j,none⟩ = [.int .i64 c,.int .i64 d][j]?)∧(∀j,X.cell? ⟨w.heap.size+1+1,j,none⟩ = [.int .i64 fl,.int .i64 fh][j]?)∧(∀j,X.cell? ⟨w.heap.size+1+1+1,j,none⟩ = [.int .i64 tl,.int .i64 th][j]?)) (with_reducible first|exact ⟨(HX.at 3 rfl).c,(HX.at 2 rfl).c,(HX.at 1 rfl).c,(HX.at 0 rfl).c⟩|exact ⟨(HA.at 3 rfl).c,(HA.at 2 rfl).c,(HA.at 1 rfl).c,(HA.at 0 rfl).c⟩|exact ⟨(HB.at 3 rfl).c,(HB.at 2 rfl).c,(HB.at 1 rfl).c,(HB.at 0 rfl).c⟩|exact ⟨(HC.at 3 rfl).c,(HC.at 2 rfl).c,(HC.at 1 rfl).c,(HC.at 0 rfl).c⟩|exact ⟨(((HC.put (Nat.le_refl _)).put (Nat.le_refl _)).at 3 rfl).c,(((HC.put (Nat.le_refl _)).put (Nat.le_refl _)).at 2 rfl).c,(((HC.put (Nat.le_refl _)).put (Nat.le_refl _)).at 1 rfl).c,(((HC.put (Nat.le_refl _)).put (Nat.le_refl _)).at 0 rfl).c⟩)
  (first
   |(have hm:=hmarkB;go_at_call 104;refine (Ivf.trans_any ⟨cutR a,cutR b,cutR c,cutR d,fl,fh,tl,th⟩ _).mono ?_;rintro e wC ⟨rfl,hb⟩;rw [HR.out];have HC:=HB.call hb;have OC:=OB.kept hb;clear hb;have oc:=OC.c;have of:=OC.f;have ol:=OC.lt)
   |(have hm:=hmarkA;go_at_call 105;refine (cut_any c d _).mono ?_;rintro e wB ⟨rfl,hb⟩;have HB:=HA.call hb;have OB:=OA.kept hb;have hmarkB:wB=wB:=rfl)
   |(go_at_call 105;refine (cut_any a b _).mono ?_;rintro e wA ⟨rfl,hb⟩;have HA:=HX.call hb;have OA:=OX.kept hb;have hmarkA:wA=wA:=rfl))
 go_wp2_with fail
 refine bodyPost_box (b:=w.heap.size+1+1+1+1) (cs:=[.int .i64 rl,.int .i64 rh]) (v:=.tuple #[iv rl rh,.int .i64 re]) (by
  (with_reducible repeat (first|exact OC|apply Bx.put2))) (fun X hX=>by simp [results,Tryz.results74,go_sem,hX]) rfl ⟨rfl,((HC.put (i:=0) (u:=.int .i64 _) (Nat.le_refl _)).put (i:=1) (u:=.int .i64 _) (Nat.le_refl _)).below⟩
end Go.Proofs.YtiecdgcdcpmgaaaGreat.Iv

/- Contract of (*trace.Path).leave. -/
namespace Go.Proofs.YtiecdgcdcpmgaaaGreat.Iv
open Go.RowKit
attribute [local go_sem] Oper.semAt_some
theorem below_grown {w W:World} {r:Option Nat} (h:Below w.heap.size w W):w.grownBy W r:=⟨h.os,h.tape,h.output,h.size,fun k hk _=>h.block k hk⟩
theorem tunit_any (w:World):Calls Tryz.prog 71 #[] w fun e w'=>e = .returned (iv 16777216 16777216)∧Below w.heap.size w w':=by
 go_enter Tryz.func71,Tryz.ntmps71
 go_wp2_with fail
 exact bodyPost_ret (v:=iv 16777216 16777216) (by simp [results,Tryz.results71,go_sem]) rfl ⟨rfl,(by repeat (first|exact Below.refl _ _|refine Below.drew ?_|refine below_drewN ?_ _|refine Below.setCell ?_ (by first|omega|(simp<;>omega)) _|refine Below.alloc ?_ (by first|omega|(simp<;>omega)) _))⟩
structure LV where
 k:Int
 o:D
 lo:Int
 hi:Int
def lcells (x:LV) (fs:Value):List Value:=[.int .i64 x.k,fs,.int .i64 x.o.a,.int .i64 x.o.b,.int .i64 x.o.c,.int .i64 x.o.d,.int .i64 x.o.e,.int .i64 x.o.f,.int .i64 x.lo,.int .i64 x.hi]
def leaveR (n v:D) (i0 i1 gl gh:Int) (y:LV):LV:=
 if (refrR v n i0 i1).e=0 then
  if (passR (refrR v n i0 i1).p (refrR v n i0 i1).q (refrR v n i0 i1).u (refrR v n i0 i1).v i0 i1 16777216 16777216).e=0 then
   if (mulR gl gh (passR (refrR v n i0 i1).p (refrR v n i0 i1).q (refrR v n i0 i1).u (refrR v n i0 i1).v i0 i1 16777216 16777216).lo (passR (refrR v n i0 i1).p (refrR v n i0 i1).q (refrR v n i0 i1).u (refrR v n i0 i1).v i0 i1 16777216 16777216).hi).e=0 then
    if sgn (refrR v n i0 i1).d.e (refrR v n i0 i1).d.f=1 then ⟨1,(refrR v n i0 i1).d,(mulR gl gh (passR (refrR v n i0 i1).p (refrR v n i0 i1).q (refrR v n i0 i1).u (refrR v n i0 i1).v i0 i1 16777216 16777216).lo (passR (refrR v n i0 i1).p (refrR v n i0 i1).q (refrR v n i0 i1).u (refrR v n i0 i1).v i0 i1 16777216 16777216).hi).lo,(mulR gl gh (passR (refrR v n i0 i1).p (refrR v n i0 i1).q (refrR v n i0 i1).u (refrR v n i0 i1).v i0 i1 16777216 16777216).lo (passR (refrR v n i0 i1).p (refrR v n i0 i1).q (refrR v n i0 i1).u (refrR v n i0 i1).v i0 i1 16777216 16777216).hi).hi⟩
    else if sgn (refrR v n i0 i1).d.e (refrR v n i0 i1).d.f = -1 then ⟨2,(refrR v n i0 i1).d,(mulR gl gh (passR (refrR v n i0 i1).p (refrR v n i0 i1).q (refrR v n i0 i1).u (refrR v n i0 i1).v i0 i1 16777216 16777216).lo (passR (refrR v n i0 i1).p (refrR v n i0 i1).q (refrR v n i0 i1).u (refrR v n i0 i1).v i0 i1 16777216 16777216).hi).lo,(mulR gl gh (passR (refrR v n i0 i1).p (refrR v n i0 i1).q (refrR v n i0 i1).u (refrR v n i0 i1).v i0 i1 16777216 16777216).lo (passR (refrR v n i0 i1).p (refrR v n i0 i1).q (refrR v n i0 i1).u (refrR v n i0 i1).v i0 i1 16777216 16777216).hi).hi⟩
    else y
   else y
  else y
 else y
structure Lg (nc dc k m mm nb no b0:Nat) (i0 i1 gl gh p q u x ee d0 d1 d2 d3 d4 d5:Int) (n v:D) (da:Option Addr) (w0 w:World) (l0 l1 l2 l3 l4 l5 l6 l7 l8 l9 l10 l11 l12 l13 l14 l15 l16 l17 l18 l19 l20:Bool) (v0 v1 v2 v3 v4 v5 v6 v7 v8 v9 v10 v11 v12 v13 v14 v15 v16 v20:Value) (b14 b15 b16:Nat):Prop where
 g:Ho w0 w (b0+1+1+1) [(b0+1+1,[.int .i64 gl,.int .i64 gh]),(b0+1,[.int .i64 v.a,.int .i64 v.b,.int .i64 v.c,.int .i64 v.d,.int .i64 v.e,.int .i64 v.f]),(b0,[.slice (some ⟨nb,no,none⟩) m nc,.slice da mm dc,.int .i64 i0,.int .i64 i1])]
 sz:(b0+1+1+1)≤w.heap.size
 mn:(b0+1+1+1)≤(b0+1+1+1)
 u0:Rs w nb (no+k*6) [.int .i64 n.a,.int .i64 n.b,.int .i64 n.c,.int .i64 n.d,.int .i64 n.e,.int .i64 n.f]
 un0:nb<(b0+1+1+1)
 ev0:l0=true→v0=(dv v)
 ev1:l1=true→v1 = .pointer (some ⟨b0,0,none⟩)
 ev2:l2=true→v2 = .slice (some ⟨nb,no,none⟩) m nc
 ev3:l3=true→v3 = .int .i64 k
 ev4:l4=true→v4 = .pointer (some ⟨nb,no+k*6,none⟩)
 ev5:l5=true→v5=(dv n)
 ev6:l6=true→v6 = .pointer (some ⟨b0,2,none⟩)
 ev7:l7=true→v7=(iv i0 i1)
 ev8:l8=true→v8 = .tuple #[dv ⟨d0,d1,d2,d3,d4,d5⟩,(iv p q),(iv u x),.int .i64 ee]
 ev9:l9=true→v9 = .tuple #[dv ⟨d0,d1,d2,d3,d4,d5⟩,(iv p q),(iv u x),.int .i64 ee]
 ev10:l10=true→v10=dv ⟨d0,d1,d2,d3,d4,d5⟩
 ev11:l11=true→v11=(iv p q)
 ev12:l12=true→v12=(iv u x)
 ev13:l13=true→v13 = .int .i64 ee
 ev14:l14=true→v14 = .pointer (some ⟨b14,0,none⟩)
 ev15:l15=true→v15 = .pointer (some ⟨b15,0,none⟩)
 ev16:l16=true→v16 = .pointer (some ⟨b16,0,none⟩)
 ev20:l20=true→v20 = .int .i64 ee
 g14:l14=true→(b0+1+1+1)≤b14
 t14:l14=true→b14<w.heap.size
 o14:l17=true→l14=true
 z14:l14=true→l17=false→Bx w b14 [.int .i64 0,.int .i64 0,.int .i64 0,.int .i64 0,.int .i64 0,.int .i64 0]
 s14:l17=true→Bx w b14 [.int .i64 d0,.int .i64 d1,.int .i64 d2,.int .i64 d3,.int .i64 d4,.int .i64 d5]
 g15:l15=true→(b0+1+1+1)≤b15
 t15:l15=true→b15<w.heap.size
 o15:l18=true→l15=true
 z15:l15=true→l18=false→Bx w b15 [.int .i64 0,.int .i64 0]
 s15:l18=true→Bx w b15 [.int .i64 p,.int .i64 q]
 g16:l16=true→(b0+1+1+1)≤b16
 t16:l16=true→b16<w.heap.size
 o16:l19=true→l16=true
 z16:l16=true→l19=false→Bx w b16 [.int .i64 0,.int .i64 0]
 s16:l19=true→Bx w b16 [.int .i64 u,.int .i64 x]
 d14_15:l14=true→l15=true→¬(b14=b15)
 d14_16:l14=true→l16=true→¬(b14=b16)
 d15_16:l15=true→l16=true→¬(b15=b16)
theorem Lg.kept {nc dc k m mm nb no b0:Nat} {i0 i1 gl gh p q u x ee d0 d1 d2 d3 d4 d5:Int} {n v:D} {da:Option Addr} {w0 w:World} {l0 l1 l2 l3 l4 l5 l6 l7 l8 l9 l10 l11 l12 l13 l14 l15 l16 l17 l18 l19 l20:Bool} {v0 v1 v2 v3 v4 v5 v6 v7 v8 v9 v10 v11 v12 v13 v14 v15 v16 v20:Value} {b14 b15 b16:Nat} {w':World} (h:Lg nc dc k m mm nb no b0 i0 i1 gl gh p q u x ee d0 d1 d2 d3 d4 d5 n v da w0 w l0 l1 l2 l3 l4 l5 l6 l7 l8 l9 l10 l11 l12 l13 l14 l15 l16 l17 l18 l19 l20 v0 v1 v2 v3 v4 v5 v6 v7 v8 v9 v10 v11 v12 v13 v14 v15 v16 v20 b14 b15 b16) (hb:Below w.heap.size w w'):Lg nc dc k m mm nb no b0 i0 i1 gl gh p q u x ee d0 d1 d2 d3 d4 d5 n v da w0 w' l0 l1 l2 l3 l4 l5 l6 l7 l8 l9 l10 l11 l12 l13 l14 l15 l16 l17 l18 l19 l20 v0 v1 v2 v3 v4 v5 v6 v7 v8 v9 v10 v11 v12 v13 v14 v15 v16 v20 b14 b15 b16:=
 {h with g:=h.g.call hb,sz:=Nat.le_trans h.sz hb.size,u0:=h.u0.kept hb,t14:=fun p=>Nat.lt_of_lt_of_le (h.t14 p) hb.size,z14:=fun p q=>(h.z14 p q).kept hb,s14:=fun p=>(h.s14 p).kept hb,t15:=fun p=>Nat.lt_of_lt_of_le (h.t15 p) hb.size,z15:=fun p q=>(h.z15 p q).kept hb,s15:=fun p=>(h.s15 p).kept hb,t16:=fun p=>Nat.lt_of_lt_of_le (h.t16 p) hb.size,z16:=fun p q=>(h.z16 p q).kept hb,s16:=fun p=>(h.s16 p).kept hb}
def Lg.I (nc dc k m mm nb no b0:Nat) (i0 i1 gl gh p q u x ee d0 d1 d2 d3 d4 d5:Int) (n v:D) (da:Option Addr) (w0:World):Act→Array Bool→Act→World→Prop:=fun aO LX aX w=>∃(l0 l1 l2 l3 l4 l5 l6 l7 l8 l9 l10 l11 l12 l13 l14 l15 l16 l17 l18 l19 l20:Bool) (v0 v1 v2 v3 v4 v5 v6 v7 v8 v9 v10 v11 v12 v13 v14 v15 v16 v20:Value) (b14 b15 b16:Nat),LX=#[l0,l1,l2,l3,l4,l5,l6,l7,l8,l9,l10,l11,l12,l13,l14,l15,l16,l17,l18,l19,l20]∧aX=((((((((((((((((((aO.put (some 17) v0).put (some 18) v1).put (some 19) v2).put (some 20) v3).put (some 21) v4).put (some 22) v5).put (some 23) v6).put (some 24) v7).put (some 25) v8).put (some 16) v9).put (some 26) v10).put (some 27) v11).put (some 28) v12).put (some 29) v13).put (some 10) v14).put (some 11) v15).put (some 12) v16).put (some 13) v20)∧Lg nc dc k m mm nb no b0 i0 i1 gl gh p q u x ee d0 d1 d2 d3 d4 d5 n v da w0 w l0 l1 l2 l3 l4 l5 l6 l7 l8 l9 l10 l11 l12 l13 l14 l15 l16 l17 l18 l19 l20 v0 v1 v2 v3 v4 v5 v6 v7 v8 v9 v10 v11 v12 v13 v14 v15 v16 v20 b14 b15 b16
structure Lh (b0 n0 c0 c1 c2 m nc mm dc nb no:Nat) (i0 i1 gl gh p q u x tl th te d0 d1 d2 d3 d4 d5:Int) (v:D) (da:Option Addr) (w0 w:World) (l0 l1 l2 l3 l4 l5 l6 l7 l8 l9 l10 l11:Bool) (v0 v1 v2 v3 v4 v5 v6 v7 v8 v9 v11:Value) (b9:Nat):Prop where
 g:Ho w0 w n0 [(c0,[.int .i64 d0,.int .i64 d1,.int .i64 d2,.int .i64 d3,.int .i64 d4,.int .i64 d5]),(c2,[.int .i64 u,.int .i64 x]),(c1,[.int .i64 p,.int .i64 q]),(b0+1+1,[.int .i64 gl,.int .i64 gh]),(b0+1,[.int .i64 v.a,.int .i64 v.b,.int .i64 v.c,.int .i64 v.d,.int .i64 v.e,.int .i64 v.f]),(b0,[.slice (some ⟨nb,no,none⟩) m nc,.slice da mm dc,.int .i64 i0,.int .i64 i1])]
 sz:n0≤w.heap.size
 mn:n0≤n0
 ev0:l0=true→v0=(iv p q)
 ev1:l1=true→v1=(iv u x)
 ev2:l2=true→v2 = .pointer (some ⟨b0,2,none⟩)
 ev3:l3=true→v3=(iv i0 i1)
 ev4:l4=true→v4=(iv 16777216 16777216)
 ev5:l5=true→v5 = .tuple #[(iv tl th),.int .i64 te]
 ev6:l6=true→v6 = .tuple #[(iv tl th),.int .i64 te]
 ev7:l7=true→v7=(iv tl th)
 ev8:l8=true→v8 = .int .i64 te
 ev9:l9=true→v9 = .pointer (some ⟨b9,0,none⟩)
 ev11:l11=true→v11 = .int .i64 te
 g9:l9=true→n0≤b9
 t9:l9=true→b9<w.heap.size
 o9:l10=true→l9=true
 z9:l9=true→l10=false→Bx w b9 [.int .i64 0,.int .i64 0]
 s9:l10=true→Bx w b9 [.int .i64 tl,.int .i64 th]
theorem Lh.kept {b0 n0 c0 c1 c2 m nc mm dc nb no:Nat} {i0 i1 gl gh p q u x tl th te d0 d1 d2 d3 d4 d5:Int} {v:D} {da:Option Addr} {w0 w:World} {l0 l1 l2 l3 l4 l5 l6 l7 l8 l9 l10 l11:Bool} {v0 v1 v2 v3 v4 v5 v6 v7 v8 v9 v11:Value} {b9:Nat} {w':World} (h:Lh b0 n0 c0 c1 c2 m nc mm dc nb no i0 i1 gl gh p q u x tl th te d0 d1 d2 d3 d4 d5 v da w0 w l0 l1 l2 l3 l4 l5 l6 l7 l8 l9 l10 l11 v0 v1 v2 v3 v4 v5 v6 v7 v8 v9 v11 b9) (hb:Below w.heap.size w w'):Lh b0 n0 c0 c1 c2 m nc mm dc nb no i0 i1 gl gh p q u x tl th te d0 d1 d2 d3 d4 d5 v da w0 w' l0 l1 l2 l3 l4 l5 l6 l7 l8 l9 l10 l11 v0 v1 v2 v3 v4 v5 v6 v7 v8 v9 v11 b9:=
 {h with g:=h.g.call hb,sz:=Nat.le_trans h.sz hb.size,t9:=fun p=>Nat.lt_of_lt_of_le (h.t9 p) hb.size,z9:=fun p q=>(h.z9 p q).kept hb,s9:=fun p=>(h.s9 p).kept hb}
def Lh.I (b0 n0 c0 c1 c2 m nc mm dc nb no:Nat) (i0 i1 gl gh p q u x tl th te d0 d1 d2 d3 d4 d5:Int) (v:D) (da:Option Addr) (w0:World):Act→Array Bool→Act→World→Prop:=fun aO LX aX w=>∃(l0 l1 l2 l3 l4 l5 l6 l7 l8 l9 l10 l11:Bool) (v0 v1 v2 v3 v4 v5 v6 v7 v8 v9 v11:Value) (b9:Nat),LX=#[l0,l1,l2,l3,l4,l5,l6,l7,l8,l9,l10,l11]∧aX=(((((((((((aO.put (some 33) v0).put (some 34) v1).put (some 35) v2).put (some 36) v3).put (some 37) v4).put (some 38) v5).put (some 32) v6).put (some 39) v7).put (some 40) v8).put (some 14) v9).put (some 13) v11)∧Lh b0 n0 c0 c1 c2 m nc mm dc nb no i0 i1 gl gh p q u x tl th te d0 d1 d2 d3 d4 d5 v da w0 w l0 l1 l2 l3 l4 l5 l6 l7 l8 l9 l10 l11 v0 v1 v2 v3 v4 v5 v6 v7 v8 v9 v11 b9
set_option maxRecDepth 100000 in
set_option maxHeartbeats 16000000 in
theorem leave_any {na da:Option Addr} {nc mm dc k:Nat} {L:List D} {i0 i1 gl gh:Int} {n v:D} {y:LV} {fs:Value} {B:Nat} (w:World) (hn:NAt w na L) (hx:L[k]? = some n) (hB:Bx w B (lcells y fs))
  (hs:(refrR v n i0 i1).e=0→vB (refrR v n i0 i1).p (refrR v n i0 i1).q=true∧0≤(refrR v n i0 i1).p∧vB (refrR v n i0 i1).u (refrR v n i0 i1).v=true∧0≤(refrR v n i0 i1).u) (hl:L.length≤1000000) :
  Calls Tryz.prog 79 #[.pointer (some ⟨B,0,none⟩),.agg #[.slice na L.length nc,.slice da mm dc,.int .i64 i0,.int .i64 i1],.int .i64 k,dv v,iv gl gh] w fun e w'=>
   (∃u,e = .returned u)∧w.grownBy w' (some B)∧Bx w' B (lcells (leaveR n v i0 i1 gl gh y) fs):=by
 obtain ⟨xk,⟨x0,x1,x2,x3,x4,x5⟩,xl,xh⟩:=y;dsimp only [lcells] at hB;have hk:k<L.length:=(List.getElem?_eq_some_iff.1 hx).1;obtain ⟨nb,no,rfl,hnb,hN⟩:=hn (by omega);have RS:=Lib.hid (Rs.mk hnb (hN k n hx):Rs w nb (no+k*6) [.int .i64 n.a,.int .i64 n.b,.int .i64 n.c,.int .i64 n.d,.int .i64 n.e,.int .i64 n.f]);have H0:=(((Ho.nil w).bx [.slice (some ⟨nb,no,none⟩) L.length nc,.slice da mm dc,.int .i64 i0,.int .i64 i1] 27 w.heap.size rfl).bx [.int .i64 v.a,.int .i64 v.b,.int .i64 v.c,.int .i64 v.d,.int .i64 v.e,.int .i64 v.f] 45 (w.heap.size+1) (by simp)).bx [.int .i64 gl,.int .i64 gh] 25 (w.heap.size+1+1) (by simp);have HX:=Lib.hid hx
 have hlt':(k:Int)<(L.length:Int):=by omega
 have hge':(0:Int)≤(k:Int):=by omega
 have HBX:=Lib.hid hB;have hBlt:=hB.lt;clear hN hn hx hB;obtain ⟨⟨⟨d0,d1,d2,d3,d4,d5⟩,p,q,u,x,ee⟩,hf⟩:∃r,refrR v n i0 i1=r:=⟨_,rfl⟩;rw [hf] at hs;dsimp only at hs;have HF:=Lib.hid hf;clear hf;go_enter Tryz.func79,Tryz.ntmps79
 go_upto_region 1 with fail
 refine region_sets (Lg.I nc dc k L.length mm nb no w.heap.size i0 i1 gl gh p q u x ee d0 d1 d2 d3 d4 d5 n v da w) (by kernel_rfl) ?_ ?_ ?_
 ·refine ⟨false,false,false,false,false,false,false,false,false,false,false,false,false,false,false,false,false,false,false,false,false,undef,undef,undef,undef,undef,undef,undef,undef,undef,undef,undef,undef,undef,undef,undef,undef,undef,undef,0,0,0,rfl,by simp only [Act.put,sS],?_⟩;constructor
  ·exact hoA
  ·(first|(simp;done)|(simp;omega))
  ·(omega)
  ·(with_reducible repeat (first|exact RS.out|refine Rs.alc ?_ _|refine Rs.drew ?_))
  ·(omega)
  all_goals (intro h;cases h)
 ·intro L a' w' hI i hi;obtain ⟨l0,l1,l2,l3,l4,l5,l6,l7,l8,l9,l10,l11,l12,l13,l14,l15,l16,l17,l18,l19,l20,v0,v1,v2,v3,v4,v5,v6,v7,v8,v9,v10,v11,v12,v13,v14,v15,v16,v20,b14,b15,b16,rfl,rfl,h⟩:=hI;have hlt:=ready_lt hi
  match i,hi,hlt with
  |0,hi,_=>
   obtain rfl:l0=false:=rl rfl hi;clear hi hlt;have c:=(h.g.at 1 rfl).c;have H:=Lib.hid h;clear h;refine wpOp_shut rfl (fun K hK=>?_)
   try simp only [Act.put,sS]
   go_simp;refine hK.out _ _ ?_;unfold Lg.I;refine ⟨_,_,_,_,_,_,_,_,_,_,_,_,_,_,_,_,_,_,_,_,_,((dv v)),v1,v2,v3,v4,v5,v6,v7,v8,v9,v10,v11,v12,v13,v14,v15,v16,v20,b14,b15,b16,rfl,?_,?_⟩
   ·simp only [Act.put,sS]
   ·exact {H.out with ev0:=fun _=>rfl}
  |1,hi,_=>
   obtain rfl:l1=false:=rl rfl hi;clear hi hlt;have H:=Lib.hid h;clear h;refine wpOp_shut rfl (fun K hK=>?_)
   try simp only [Act.put,sS]
   go_simp;refine hK.out _ _ ?_;unfold Lg.I;refine ⟨_,_,_,_,_,_,_,_,_,_,_,_,_,_,_,_,_,_,_,_,_,v0,(.pointer (some ⟨w.heap.size,0,none⟩)),v2,v3,v4,v5,v6,v7,v8,v9,v10,v11,v12,v13,v14,v15,v16,v20,b14,b15,b16,rfl,?_,?_⟩
   ·simp only [Act.put,sS]
   ·exact {H.out with ev1:=fun _=>rfl}
  |2,hi,_=>
   obtain rfl:l2=false:=rl rfl hi;obtain rfl:l1=true:=rk rfl hi 1 .data;clear hi hlt;obtain rfl:=h.ev1 rfl;have c:=(h.g.at 2 rfl).c;have H:=Lib.hid h;clear h;refine wpOp_shut rfl (fun K hK=>?_)
   try simp only [Act.put,sS]
   go_simp;refine hK.out _ _ ?_;unfold Lg.I;refine ⟨_,_,_,_,_,_,_,_,_,_,_,_,_,_,_,_,_,_,_,_,_,v0,(.pointer (some ⟨w.heap.size,0,none⟩)),(.slice (some ⟨nb,no,none⟩) L.length nc),v3,v4,v5,v6,v7,v8,v9,v10,v11,v12,v13,v14,v15,v16,v20,b14,b15,b16,rfl,?_,?_⟩
   ·simp only [Act.put,sS]
   ·exact {H.out with ev2:=fun _=>rfl}
  |3,hi,_=>
   obtain rfl:l3=false:=rl rfl hi;clear hi hlt;have H:=Lib.hid h;clear h;refine wpOp_shut rfl (fun K hK=>?_)
   try simp only [Act.put,sS]
   go_simp;refine hK.out _ _ ?_;unfold Lg.I;refine ⟨_,_,_,_,_,_,_,_,_,_,_,_,_,_,_,_,_,_,_,_,_,v0,v1,v2,(.int .i64 k),v4,v5,v6,v7,v8,v9,v10,v11,v12,v13,v14,v15,v16,v20,b14,b15,b16,rfl,?_,?_⟩
   ·simp only [Act.put,sS]
   ·exact {H.out with ev3:=fun _=>rfl}
  |4,hi,_=>
   obtain rfl:l4=false:=rl rfl hi;obtain rfl:l2=true:=rk rfl hi 2 .data;obtain rfl:l3=true:=rk rfl hi 3 .data;clear hi hlt;obtain rfl:=h.ev2 rfl;obtain rfl:=h.ev3 rfl;have H:=Lib.hid h;clear h;refine wpOp_shut rfl (fun K hK=>?_)
   try simp only [Act.put,sS]
   go_simp;refine hK.out _ _ ?_;unfold Lg.I;refine ⟨_,_,_,_,_,_,_,_,_,_,_,_,_,_,_,_,_,_,_,_,_,v0,v1,(.slice (some ⟨nb,no,none⟩) L.length nc),(.int .i64 k),(.pointer (some ⟨nb,no+k*6,none⟩)),v5,v6,v7,v8,v9,v10,v11,v12,v13,v14,v15,v16,v20,b14,b15,b16,rfl,?_,?_⟩
   ·simp only [Act.put,sS]
   ·exact {H.out with ev4:=fun _=>rfl}
  |5,hi,_=>
   obtain rfl:l5=false:=rl rfl hi;obtain rfl:l4=true:=rk rfl hi 4 .data;clear hi hlt;obtain rfl:=h.ev4 rfl;have c0:w'.cell? ⟨nb,no+k*6,none⟩=some (.int .i64 n.a):=h.u0.c 0 (by simp);have c1:w'.cell? ⟨nb,no+k*6+1,none⟩=some (.int .i64 n.b):=h.u0.c 1 (by simp);have c2:w'.cell? ⟨nb,no+k*6+2,none⟩=some (.int .i64 n.c):=h.u0.c 2 (by simp);have c3:w'.cell? ⟨nb,no+k*6+3,none⟩=some (.int .i64 n.d):=h.u0.c 3 (by simp);have c4:w'.cell? ⟨nb,no+k*6+4,none⟩=some (.int .i64 n.e):=h.u0.c 4 (by simp);have c5:w'.cell? ⟨nb,no+k*6+5,none⟩=some (.int .i64 n.f):=h.u0.c 5 (by simp);have H:=Lib.hid h;clear h;refine wpOp_shut rfl (fun K hK=>?_)
   try simp only [Act.put,sS]
   go_simp;refine hK.out _ _ ?_;unfold Lg.I;refine ⟨_,_,_,_,_,_,_,_,_,_,_,_,_,_,_,_,_,_,_,_,_,v0,v1,v2,v3,(.pointer (some ⟨nb,no+k*6,none⟩)),((dv n)),v6,v7,v8,v9,v10,v11,v12,v13,v14,v15,v16,v20,b14,b15,b16,rfl,?_,?_⟩
   ·simp only [Act.put,sS]
   ·exact {H.out with ev5:=fun _=>rfl}
  |6,hi,_=>
   obtain rfl:l6=false:=rl rfl hi;clear hi hlt;have H:=Lib.hid h;clear h;refine wpOp_shut rfl (fun K hK=>?_)
   try simp only [Act.put,sS]
   go_simp;refine hK.out _ _ ?_;unfold Lg.I;refine ⟨_,_,_,_,_,_,_,_,_,_,_,_,_,_,_,_,_,_,_,_,_,v0,v1,v2,v3,v4,v5,(.pointer (some ⟨w.heap.size,2,none⟩)),v7,v8,v9,v10,v11,v12,v13,v14,v15,v16,v20,b14,b15,b16,rfl,?_,?_⟩
   ·simp only [Act.put,sS]
   ·exact {H.out with ev6:=fun _=>rfl}
  |7,hi,_=>
   obtain rfl:l7=false:=rl rfl hi;obtain rfl:l6=true:=rk rfl hi 6 .data;clear hi hlt;obtain rfl:=h.ev6 rfl;have c:=(h.g.at 2 rfl).c;have H:=Lib.hid h;clear h;refine wpOp_shut rfl (fun K hK=>?_)
   try simp only [Act.put,sS]
   go_simp;refine hK.out _ _ ?_;unfold Lg.I;refine ⟨_,_,_,_,_,_,_,_,_,_,_,_,_,_,_,_,_,_,_,_,_,v0,v1,v2,v3,v4,v5,(.pointer (some ⟨w.heap.size,2,none⟩)),((iv i0 i1)),v8,v9,v10,v11,v12,v13,v14,v15,v16,v20,b14,b15,b16,rfl,?_,?_⟩
   ·simp only [Act.put,sS]
   ·exact {H.out with ev7:=fun _=>rfl}
  |8,hi,_=>
   obtain rfl:l8=false:=rl rfl hi;obtain rfl:l0=true:=rk rfl hi 0 .data;obtain rfl:l5=true:=rk rfl hi 5 .data;obtain rfl:l7=true:=rk rfl hi 7 .data;clear hi hlt;obtain rfl:=h.ev0 rfl;obtain rfl:=h.ev5 rfl;obtain rfl:=h.ev7 rfl;have H:=Lib.hid h;clear h;refine wpOp_shut rfl (fun K hK=>?_)
   try simp only [Act.put,sS]
   go_simp;refine (refr_any v n i0 i1 _).mono ?_;rintro e wY ⟨rfl,hb⟩;rw [HF.out];unfold retF;dsimp only
   try go_simp
   refine hK.out _ _ ?_;unfold Lg.I;refine ⟨_,_,_,_,_,_,_,_,_,_,_,_,_,_,_,_,_,_,_,_,_,((dv v)),v1,v2,v3,v4,((dv n)),v6,((iv i0 i1)),(.tuple #[dv ⟨d0,d1,d2,d3,d4,d5⟩,(iv p q),(iv u x),.int .i64 ee]),v9,v10,v11,v12,v13,v14,v15,v16,v20,b14,b15,b16,rfl,?_,?_⟩
   ·simp only [Act.put,sS]
   ·exact {(H.out.kept hb) with ev8:=fun _=>rfl}
  |9,hi,_=>
   obtain rfl:l9=false:=rl rfl hi;obtain rfl:l8=true:=rk rfl hi 8 .data;clear hi hlt;obtain rfl:=h.ev8 rfl;have H:=Lib.hid h;clear h;refine wpOp_shut rfl (fun K hK=>?_)
   try simp only [Act.put,sS]
   go_simp;refine hK.out _ _ ?_;unfold Lg.I;refine ⟨_,_,_,_,_,_,_,_,_,_,_,_,_,_,_,_,_,_,_,_,_,v0,v1,v2,v3,v4,v5,v6,v7,(.tuple #[dv ⟨d0,d1,d2,d3,d4,d5⟩,(iv p q),(iv u x),.int .i64 ee]),(.tuple #[dv ⟨d0,d1,d2,d3,d4,d5⟩,(iv p q),(iv u x),.int .i64 ee]),v10,v11,v12,v13,v14,v15,v16,v20,b14,b15,b16,rfl,?_,?_⟩
   ·simp only [Act.put,sS]
   ·exact {H.out with ev9:=fun _=>rfl}
  |10,hi,_=>
   obtain rfl:l10=false:=rl rfl hi;obtain rfl:l9=true:=rk rfl hi 9 .data;clear hi hlt;obtain rfl:=h.ev9 rfl;have H:=Lib.hid h;clear h;refine wpOp_shut rfl (fun K hK=>?_)
   try simp only [Act.put,sS]
   go_simp;refine hK.out _ _ ?_;unfold Lg.I;refine ⟨_,_,_,_,_,_,_,_,_,_,_,_,_,_,_,_,_,_,_,_,_,v0,v1,v2,v3,v4,v5,v6,v7,v8,(.tuple #[dv ⟨d0,d1,d2,d3,d4,d5⟩,(iv p q),(iv u x),.int .i64 ee]),(dv ⟨d0,d1,d2,d3,d4,d5⟩),v11,v12,v13,v14,v15,v16,v20,b14,b15,b16,rfl,?_,?_⟩
   ·simp only [Act.put,sS]
   ·exact {H.out with ev10:=fun _=>rfl}
  |11,hi,_=>
   obtain rfl:l11=false:=rl rfl hi;obtain rfl:l9=true:=rk rfl hi 9 .data;clear hi hlt;obtain rfl:=h.ev9 rfl;have H:=Lib.hid h;clear h;refine wpOp_shut rfl (fun K hK=>?_)
   try simp only [Act.put,sS]
   go_simp;refine hK.out _ _ ?_;unfold Lg.I;refine ⟨_,_,_,_,_,_,_,_,_,_,_,_,_,_,_,_,_,_,_,_,_,v0,v1,v2,v3,v4,v5,v6,v7,v8,(.tuple #[dv ⟨d0,d1,d2,d3,d4,d5⟩,(iv p q),(iv u x),.int .i64 ee]),v10,((iv p q)),v12,v13,v14,v15,v16,v20,b14,b15,b16,rfl,?_,?_⟩
   ·simp only [Act.put,sS]
   ·exact {H.out with ev11:=fun _=>rfl}
  |12,hi,_=>
   obtain rfl:l12=false:=rl rfl hi;obtain rfl:l9=true:=rk rfl hi 9 .data;clear hi hlt;obtain rfl:=h.ev9 rfl;have H:=Lib.hid h;clear h;refine wpOp_shut rfl (fun K hK=>?_)
   try simp only [Act.put,sS]
   go_simp;refine hK.out _ _ ?_;unfold Lg.I;refine ⟨_,_,_,_,_,_,_,_,_,_,_,_,_,_,_,_,_,_,_,_,_,v0,v1,v2,v3,v4,v5,v6,v7,v8,(.tuple #[dv ⟨d0,d1,d2,d3,d4,d5⟩,(iv p q),(iv u x),.int .i64 ee]),v10,v11,((iv u x)),v13,v14,v15,v16,v20,b14,b15,b16,rfl,?_,?_⟩
   ·simp only [Act.put,sS]
   ·exact {H.out with ev12:=fun _=>rfl}
  |13,hi,_=>
   obtain rfl:l13=false:=rl rfl hi;obtain rfl:l9=true:=rk rfl hi 9 .data;clear hi hlt;obtain rfl:=h.ev9 rfl;have H:=Lib.hid h;clear h;refine wpOp_shut rfl (fun K hK=>?_)
   try simp only [Act.put,sS]
   go_simp;refine hK.out _ _ ?_;unfold Lg.I;refine ⟨_,_,_,_,_,_,_,_,_,_,_,_,_,_,_,_,_,_,_,_,_,v0,v1,v2,v3,v4,v5,v6,v7,v8,(.tuple #[dv ⟨d0,d1,d2,d3,d4,d5⟩,(iv p q),(iv u x),.int .i64 ee]),v10,v11,v12,(.int .i64 ee),v14,v15,v16,v20,b14,b15,b16,rfl,?_,?_⟩
   ·simp only [Act.put,sS]
   ·exact {H.out with ev13:=fun _=>rfl}
  |14,hi,_=>
   obtain rfl:l14=false:=rl rfl hi;clear hi hlt;have H:=Lib.hid h;clear h;refine wpOp_shut rfl (fun K hK=>?_)
   try simp only [Act.put,sS]
   go_simp;refine hK.out _ _ ?_;unfold Lg.I;refine ⟨_,_,_,_,_,_,_,_,_,_,_,_,_,_,_,_,_,_,_,_,_,v0,v1,v2,v3,v4,v5,v6,v7,v8,v9,v10,v11,v12,v13,(.pointer (some ⟨w'.heap.size,0,none⟩)),v15,v16,v20,w'.heap.size,b15,b16,rfl,?_,?_⟩
   ·simp only [Act.put,sS]
   ·have h:=H.out;have h2:=h.kept ((Below.refl _ _).alloc (Nat.le_refl _) (.cells (List.toArray [.int .i64 0,.int .i64 0,.int .i64 0,.int .i64 0,.int .i64 0,.int .i64 0]) 45));exact {h2 with ev14:=fun _=>rfl,g14:=fun _=>h.sz,t14:=fun _=>by simp,o14:=fun p=>rfl,z14:=fun _ _=>Bx.new rfl,s14:=fun p=>(nomatch (h.o14 p)),d14_15:=fun _ p=>Nat.ne_of_gt (h.t15 p),d14_16:=fun _ p=>Nat.ne_of_gt (h.t16 p)}
  |15,hi,_=>
   obtain rfl:l15=false:=rl rfl hi;clear hi hlt;have H:=Lib.hid h;clear h;refine wpOp_shut rfl (fun K hK=>?_)
   try simp only [Act.put,sS]
   go_simp;refine hK.out _ _ ?_;unfold Lg.I;refine ⟨_,_,_,_,_,_,_,_,_,_,_,_,_,_,_,_,_,_,_,_,_,v0,v1,v2,v3,v4,v5,v6,v7,v8,v9,v10,v11,v12,v13,v14,(.pointer (some ⟨w'.heap.size,0,none⟩)),v16,v20,b14,w'.heap.size,b16,rfl,?_,?_⟩
   ·simp only [Act.put,sS]
   ·have h:=H.out;have h2:=h.kept ((Below.refl _ _).alloc (Nat.le_refl _) (.cells (List.toArray [.int .i64 0,.int .i64 0]) 25));exact {h2 with ev15:=fun _=>rfl,g15:=fun _=>h.sz,t15:=fun _=>by simp,o15:=fun p=>rfl,z15:=fun _ _=>Bx.new rfl,s15:=fun p=>(nomatch (h.o15 p)),d14_15:=fun p _=>Nat.ne_of_lt (h.t14 p),d15_16:=fun _ p=>Nat.ne_of_gt (h.t16 p)}
  |16,hi,_=>
   obtain rfl:l16=false:=rl rfl hi;clear hi hlt;have H:=Lib.hid h;clear h;refine wpOp_shut rfl (fun K hK=>?_)
   try simp only [Act.put,sS]
   go_simp;refine hK.out _ _ ?_;unfold Lg.I;refine ⟨_,_,_,_,_,_,_,_,_,_,_,_,_,_,_,_,_,_,_,_,_,v0,v1,v2,v3,v4,v5,v6,v7,v8,v9,v10,v11,v12,v13,v14,v15,(.pointer (some ⟨w'.heap.size,0,none⟩)),v20,b14,b15,w'.heap.size,rfl,?_,?_⟩
   ·simp only [Act.put,sS]
   ·have h:=H.out;have h2:=h.kept ((Below.refl _ _).alloc (Nat.le_refl _) (.cells (List.toArray [.int .i64 0,.int .i64 0]) 25));exact {h2 with ev16:=fun _=>rfl,g16:=fun _=>h.sz,t16:=fun _=>by simp,o16:=fun p=>rfl,z16:=fun _ _=>Bx.new rfl,s16:=fun p=>(nomatch (h.o16 p)),d14_16:=fun p _=>Nat.ne_of_lt (h.t14 p),d15_16:=fun p _=>Nat.ne_of_lt (h.t15 p)}
  |17,hi,_=>
   obtain rfl:l17=false:=rl rfl hi;obtain rfl:l14=true:=rk rfl hi 14 .phase;obtain rfl:l10=true:=rk rfl hi 10 .phase;obtain rfl:l8=true:=rk rfl hi 8 .phase;obtain rfl:l0=true:=rk rfl hi 0 .phase;obtain rfl:l1=true:=rk rfl hi 1 .phase;obtain rfl:l2=true:=rk rfl hi 2 .phase;obtain rfl:l3=true:=rk rfl hi 3 .phase;obtain rfl:l4=true:=rk rfl hi 4 .phase;obtain rfl:l5=true:=rk rfl hi 5 .phase;obtain rfl:l6=true:=rk rfl hi 6 .phase;obtain rfl:l7=true:=rk rfl hi 7 .phase;obtain rfl:l9=true:=rk rfl hi 9 .phase;obtain rfl:l15=true:=rk rfl hi 15 .phase;obtain rfl:l16=true:=rk rfl hi 16 .phase;clear hi hlt;obtain rfl:=h.ev14 rfl;obtain rfl:=h.ev10 rfl;obtain rfl:=h.ev8 rfl;obtain rfl:=h.ev0 rfl;obtain rfl:=h.ev1 rfl;obtain rfl:=h.ev2 rfl;obtain rfl:=h.ev3 rfl;obtain rfl:=h.ev4 rfl;obtain rfl:=h.ev5 rfl;obtain rfl:=h.ev6 rfl;obtain rfl:=h.ev7 rfl;obtain rfl:=h.ev9 rfl;obtain rfl:=h.ev15 rfl;obtain rfl:=h.ev16 rfl;have bz:=h.z14 rfl rfl;have c:=bz.c;have f:=bz.f;clear bz;have H:=Lib.hid h;clear h;refine wpOp_shut rfl (fun K hK=>?_)
   try simp only [Act.put,sS]
   go_simp;refine hK.out _ _ ?_;unfold Lg.I;refine ⟨_,_,_,_,_,_,_,_,_,_,_,_,_,_,_,_,_,_,_,_,_,((dv v)),(.pointer (some ⟨w.heap.size,0,none⟩)),(.slice (some ⟨nb,no,none⟩) L.length nc),(.int .i64 k),(.pointer (some ⟨nb,no+k*6,none⟩)),((dv n)),(.pointer (some ⟨w.heap.size,2,none⟩)),((iv i0 i1)),(.tuple #[dv ⟨d0,d1,d2,d3,d4,d5⟩,(iv p q),(iv u x),.int .i64 ee]),(.tuple #[dv ⟨d0,d1,d2,d3,d4,d5⟩,(iv p q),(iv u x),.int .i64 ee]),(dv ⟨d0,d1,d2,d3,d4,d5⟩),v11,v12,v13,(.pointer (some ⟨b14,0,none⟩)),(.pointer (some ⟨b15,0,none⟩)),(.pointer (some ⟨b16,0,none⟩)),v20,b14,b15,b16,rfl,?_,?_⟩
   ·simp only [Act.put,sS]
   ·have h:=H.out;have gb:=h.g14 rfl;have gm:=Nat.le_trans h.mn gb;exact {h with g:=((((((h.g.put gm).put gm).put gm).put gm).put gm).put gm),sz:=by simpa using h.sz,o14:=fun _=>rfl,z14:=fun _ p=>(nomatch p),s14:=fun _=>(((((((h.z14 rfl rfl).put).put).put).put).put).put),t14:=fun p=>by simpa using h.t14 p,u0:=((((((h.u0.set (Nat.ne_of_lt (Nat.lt_of_lt_of_le h.un0 gb))).set (Nat.ne_of_lt (Nat.lt_of_lt_of_le h.un0 gb))).set (Nat.ne_of_lt (Nat.lt_of_lt_of_le h.un0 gb))).set (Nat.ne_of_lt (Nat.lt_of_lt_of_le h.un0 gb))).set (Nat.ne_of_lt (Nat.lt_of_lt_of_le h.un0 gb))).set (Nat.ne_of_lt (Nat.lt_of_lt_of_le h.un0 gb))),t15:=fun p=>by simpa using h.t15 p,z15:=fun p r=>(((((((h.z15 p r).set (fun q=>(h.d14_15 rfl p) q.symm)).set (fun q=>(h.d14_15 rfl p) q.symm)).set (fun q=>(h.d14_15 rfl p) q.symm)).set (fun q=>(h.d14_15 rfl p) q.symm)).set (fun q=>(h.d14_15 rfl p) q.symm)).set (fun q=>(h.d14_15 rfl p) q.symm)),s15:=fun p=>(((((((h.s15 p).set (fun q=>(h.d14_15 rfl (h.o15 p)) q.symm)).set (fun q=>(h.d14_15 rfl (h.o15 p)) q.symm)).set (fun q=>(h.d14_15 rfl (h.o15 p)) q.symm)).set (fun q=>(h.d14_15 rfl (h.o15 p)) q.symm)).set (fun q=>(h.d14_15 rfl (h.o15 p)) q.symm)).set (fun q=>(h.d14_15 rfl (h.o15 p)) q.symm)),t16:=fun p=>by simpa using h.t16 p,z16:=fun p r=>(((((((h.z16 p r).set (fun q=>(h.d14_16 rfl p) q.symm)).set (fun q=>(h.d14_16 rfl p) q.symm)).set (fun q=>(h.d14_16 rfl p) q.symm)).set (fun q=>(h.d14_16 rfl p) q.symm)).set (fun q=>(h.d14_16 rfl p) q.symm)).set (fun q=>(h.d14_16 rfl p) q.symm)),s16:=fun p=>(((((((h.s16 p).set (fun q=>(h.d14_16 rfl (h.o16 p)) q.symm)).set (fun q=>(h.d14_16 rfl (h.o16 p)) q.symm)).set (fun q=>(h.d14_16 rfl (h.o16 p)) q.symm)).set (fun q=>(h.d14_16 rfl (h.o16 p)) q.symm)).set (fun q=>(h.d14_16 rfl (h.o16 p)) q.symm)).set (fun q=>(h.d14_16 rfl (h.o16 p)) q.symm))}
  |18,hi,_=>
   obtain rfl:l18=false:=rl rfl hi;obtain rfl:l15=true:=rk rfl hi 15 .phase;obtain rfl:l11=true:=rk rfl hi 11 .phase;obtain rfl:l17=true:=rk rfl hi 17 .phase;obtain rfl:l0=true:=rk rfl hi 0 .phase;obtain rfl:l1=true:=rk rfl hi 1 .phase;obtain rfl:l2=true:=rk rfl hi 2 .phase;obtain rfl:l3=true:=rk rfl hi 3 .phase;obtain rfl:l4=true:=rk rfl hi 4 .phase;obtain rfl:l5=true:=rk rfl hi 5 .phase;obtain rfl:l6=true:=rk rfl hi 6 .phase;obtain rfl:l7=true:=rk rfl hi 7 .phase;obtain rfl:l8=true:=rk rfl hi 8 .phase;obtain rfl:l9=true:=rk rfl hi 9 .phase;obtain rfl:l10=true:=rk rfl hi 10 .phase;obtain rfl:l14=true:=rk rfl hi 14 .phase;obtain rfl:l16=true:=rk rfl hi 16 .phase;clear hi hlt;obtain rfl:=h.ev15 rfl;obtain rfl:=h.ev11 rfl;obtain rfl:=h.ev0 rfl;obtain rfl:=h.ev1 rfl;obtain rfl:=h.ev2 rfl;obtain rfl:=h.ev3 rfl;obtain rfl:=h.ev4 rfl;obtain rfl:=h.ev5 rfl;obtain rfl:=h.ev6 rfl;obtain rfl:=h.ev7 rfl;obtain rfl:=h.ev8 rfl;obtain rfl:=h.ev9 rfl;obtain rfl:=h.ev10 rfl;obtain rfl:=h.ev14 rfl;obtain rfl:=h.ev16 rfl;have bz:=h.z15 rfl rfl;have c:=bz.c;have f:=bz.f;clear bz;have H:=Lib.hid h;clear h;refine wpOp_shut rfl (fun K hK=>?_)
   try simp only [Act.put,sS]
   go_simp;refine hK.out _ _ ?_;unfold Lg.I;refine ⟨_,_,_,_,_,_,_,_,_,_,_,_,_,_,_,_,_,_,_,_,_,((dv v)),(.pointer (some ⟨w.heap.size,0,none⟩)),(.slice (some ⟨nb,no,none⟩) L.length nc),(.int .i64 k),(.pointer (some ⟨nb,no+k*6,none⟩)),((dv n)),(.pointer (some ⟨w.heap.size,2,none⟩)),((iv i0 i1)),(.tuple #[dv ⟨d0,d1,d2,d3,d4,d5⟩,(iv p q),(iv u x),.int .i64 ee]),(.tuple #[dv ⟨d0,d1,d2,d3,d4,d5⟩,(iv p q),(iv u x),.int .i64 ee]),(dv ⟨d0,d1,d2,d3,d4,d5⟩),((iv p q)),v12,v13,(.pointer (some ⟨b14,0,none⟩)),(.pointer (some ⟨b15,0,none⟩)),(.pointer (some ⟨b16,0,none⟩)),v20,b14,b15,b16,rfl,?_,?_⟩
   ·simp only [Act.put,sS]
   ·have h:=H.out;have gb:=h.g15 rfl;have gm:=Nat.le_trans h.mn gb;exact {h with g:=((h.g.put gm).put gm),sz:=by simpa using h.sz,o15:=fun _=>rfl,z15:=fun _ p=>(nomatch p),s15:=fun _=>(((h.z15 rfl rfl).put).put),t15:=fun p=>by simpa using h.t15 p,u0:=((h.u0.set (Nat.ne_of_lt (Nat.lt_of_lt_of_le h.un0 gb))).set (Nat.ne_of_lt (Nat.lt_of_lt_of_le h.un0 gb))),t14:=fun p=>by simpa using h.t14 p,z14:=fun p r=>(((h.z14 p r).set (fun q=>(h.d14_15 p rfl) q)).set (fun q=>(h.d14_15 p rfl) q)),s14:=fun p=>(((h.s14 p).set (fun q=>(h.d14_15 (h.o14 p) rfl) q)).set (fun q=>(h.d14_15 (h.o14 p) rfl) q)),t16:=fun p=>by simpa using h.t16 p,z16:=fun p r=>(((h.z16 p r).set (fun q=>(h.d15_16 rfl p) q.symm)).set (fun q=>(h.d15_16 rfl p) q.symm)),s16:=fun p=>(((h.s16 p).set (fun q=>(h.d15_16 rfl (h.o16 p)) q.symm)).set (fun q=>(h.d15_16 rfl (h.o16 p)) q.symm))}
  |19,hi,_=>
   obtain rfl:l19=false:=rl rfl hi;obtain rfl:l16=true:=rk rfl hi 16 .phase;obtain rfl:l12=true:=rk rfl hi 12 .phase;obtain rfl:l18=true:=rk rfl hi 18 .phase;obtain rfl:l0=true:=rk rfl hi 0 .phase;obtain rfl:l1=true:=rk rfl hi 1 .phase;obtain rfl:l2=true:=rk rfl hi 2 .phase;obtain rfl:l3=true:=rk rfl hi 3 .phase;obtain rfl:l4=true:=rk rfl hi 4 .phase;obtain rfl:l5=true:=rk rfl hi 5 .phase;obtain rfl:l6=true:=rk rfl hi 6 .phase;obtain rfl:l7=true:=rk rfl hi 7 .phase;obtain rfl:l8=true:=rk rfl hi 8 .phase;obtain rfl:l9=true:=rk rfl hi 9 .phase;obtain rfl:l10=true:=rk rfl hi 10 .phase;obtain rfl:l11=true:=rk rfl hi 11 .phase;obtain rfl:l14=true:=rk rfl hi 14 .phase;obtain rfl:l15=true:=rk rfl hi 15 .phase;obtain rfl:l17=true:=rk rfl hi 17 .phase;clear hi hlt;obtain rfl:=h.ev16 rfl;obtain rfl:=h.ev12 rfl;obtain rfl:=h.ev0 rfl;obtain rfl:=h.ev1 rfl;obtain rfl:=h.ev2 rfl;obtain rfl:=h.ev3 rfl;obtain rfl:=h.ev4 rfl;obtain rfl:=h.ev5 rfl;obtain rfl:=h.ev6 rfl;obtain rfl:=h.ev7 rfl;obtain rfl:=h.ev8 rfl;obtain rfl:=h.ev9 rfl;obtain rfl:=h.ev10 rfl;obtain rfl:=h.ev11 rfl;obtain rfl:=h.ev14 rfl;obtain rfl:=h.ev15 rfl;have bz:=h.z16 rfl rfl;have c:=bz.c;have f:=bz.f;clear bz;have H:=Lib.hid h;clear h;refine wpOp_shut rfl (fun K hK=>?_)
   try simp only [Act.put,sS]
   go_simp;refine hK.out _ _ ?_;unfold Lg.I;refine ⟨_,_,_,_,_,_,_,_,_,_,_,_,_,_,_,_,_,_,_,_,_,((dv v)),(.pointer (some ⟨w.heap.size,0,none⟩)),(.slice (some ⟨nb,no,none⟩) L.length nc),(.int .i64 k),(.pointer (some ⟨nb,no+k*6,none⟩)),((dv n)),(.pointer (some ⟨w.heap.size,2,none⟩)),((iv i0 i1)),(.tuple #[dv ⟨d0,d1,d2,d3,d4,d5⟩,(iv p q),(iv u x),.int .i64 ee]),(.tuple #[dv ⟨d0,d1,d2,d3,d4,d5⟩,(iv p q),(iv u x),.int .i64 ee]),(dv ⟨d0,d1,d2,d3,d4,d5⟩),((iv p q)),((iv u x)),v13,(.pointer (some ⟨b14,0,none⟩)),(.pointer (some ⟨b15,0,none⟩)),(.pointer (some ⟨b16,0,none⟩)),v20,b14,b15,b16,rfl,?_,?_⟩
   ·simp only [Act.put,sS]
   ·have h:=H.out;have gb:=h.g16 rfl;have gm:=Nat.le_trans h.mn gb;exact {h with g:=((h.g.put gm).put gm),sz:=by simpa using h.sz,o16:=fun _=>rfl,z16:=fun _ p=>(nomatch p),s16:=fun _=>(((h.z16 rfl rfl).put).put),t16:=fun p=>by simpa using h.t16 p,u0:=((h.u0.set (Nat.ne_of_lt (Nat.lt_of_lt_of_le h.un0 gb))).set (Nat.ne_of_lt (Nat.lt_of_lt_of_le h.un0 gb))),t14:=fun p=>by simpa using h.t14 p,z14:=fun p r=>(((h.z14 p r).set (fun q=>(h.d14_16 p rfl) q)).set (fun q=>(h.d14_16 p rfl) q)),s14:=fun p=>(((h.s14 p).set (fun q=>(h.d14_16 (h.o14 p) rfl) q)).set (fun q=>(h.d14_16 (h.o14 p) rfl) q)),t15:=fun p=>by simpa using h.t15 p,z15:=fun p r=>(((h.z15 p r).set (fun q=>(h.d15_16 p rfl) q)).set (fun q=>(h.d15_16 p rfl) q)),s15:=fun p=>(((h.s15 p).set (fun q=>(h.d15_16 (h.o15 p) rfl) q)).set (fun q=>(h.d15_16 (h.o15 p) rfl) q))}
  |20,hi,_=>
   obtain rfl:l20=false:=rl rfl hi;obtain rfl:l13=true:=rk rfl hi 13 .phase;obtain rfl:l19=true:=rk rfl hi 19 .phase;obtain rfl:l0=true:=rk rfl hi 0 .phase;obtain rfl:l1=true:=rk rfl hi 1 .phase;obtain rfl:l2=true:=rk rfl hi 2 .phase;obtain rfl:l3=true:=rk rfl hi 3 .phase;obtain rfl:l4=true:=rk rfl hi 4 .phase;obtain rfl:l5=true:=rk rfl hi 5 .phase;obtain rfl:l6=true:=rk rfl hi 6 .phase;obtain rfl:l7=true:=rk rfl hi 7 .phase;obtain rfl:l8=true:=rk rfl hi 8 .phase;obtain rfl:l9=true:=rk rfl hi 9 .phase;obtain rfl:l10=true:=rk rfl hi 10 .phase;obtain rfl:l11=true:=rk rfl hi 11 .phase;obtain rfl:l12=true:=rk rfl hi 12 .phase;obtain rfl:l14=true:=rk rfl hi 14 .phase;obtain rfl:l15=true:=rk rfl hi 15 .phase;obtain rfl:l16=true:=rk rfl hi 16 .phase;obtain rfl:l17=true:=rk rfl hi 17 .phase;obtain rfl:l18=true:=rk rfl hi 18 .phase;clear hi hlt;obtain rfl:=h.ev13 rfl;obtain rfl:=h.ev0 rfl;obtain rfl:=h.ev1 rfl;obtain rfl:=h.ev2 rfl;obtain rfl:=h.ev3 rfl;obtain rfl:=h.ev4 rfl;obtain rfl:=h.ev5 rfl;obtain rfl:=h.ev6 rfl;obtain rfl:=h.ev7 rfl;obtain rfl:=h.ev8 rfl;obtain rfl:=h.ev9 rfl;obtain rfl:=h.ev10 rfl;obtain rfl:=h.ev11 rfl;obtain rfl:=h.ev12 rfl;obtain rfl:=h.ev14 rfl;obtain rfl:=h.ev15 rfl;obtain rfl:=h.ev16 rfl;have H:=Lib.hid h;clear h;refine wpOp_shut rfl (fun K hK=>?_)
   try simp only [Act.put,sS]
   go_simp;refine hK.out _ _ ?_;unfold Lg.I;refine ⟨_,_,_,_,_,_,_,_,_,_,_,_,_,_,_,_,_,_,_,_,_,((dv v)),(.pointer (some ⟨w.heap.size,0,none⟩)),(.slice (some ⟨nb,no,none⟩) L.length nc),(.int .i64 k),(.pointer (some ⟨nb,no+k*6,none⟩)),((dv n)),(.pointer (some ⟨w.heap.size,2,none⟩)),((iv i0 i1)),(.tuple #[dv ⟨d0,d1,d2,d3,d4,d5⟩,(iv p q),(iv u x),.int .i64 ee]),(.tuple #[dv ⟨d0,d1,d2,d3,d4,d5⟩,(iv p q),(iv u x),.int .i64 ee]),(dv ⟨d0,d1,d2,d3,d4,d5⟩),((iv p q)),((iv u x)),(.int .i64 ee),(.pointer (some ⟨b14,0,none⟩)),(.pointer (some ⟨b15,0,none⟩)),(.pointer (some ⟨b16,0,none⟩)),(.int .i64 ee),b14,b15,b16,rfl,?_,?_⟩
   ·simp only [Act.put,sS]
   ·exact {H.out with ev20:=fun _=>rfl}
  |i+21,_,hlt=>exact absurd hlt (by simp)
 ·intro L a' w' hI hn;obtain ⟨l0,l1,l2,l3,l4,l5,l6,l7,l8,l9,l10,l11,l12,l13,l14,l15,l16,l17,l18,l19,l20,v0,v1,v2,v3,v4,v5,v6,v7,v8,v9,v10,v11,v12,v13,v14,v15,v16,v20,b14,b15,b16,rfl,rfl,h⟩:=hI;obtain rfl:l0=true:=nr 0 rfl hn;obtain rfl:l1=true:=nr 1 rfl hn;obtain rfl:l2=true:=nr 2 rfl hn;obtain rfl:l3=true:=nr 3 rfl hn;obtain rfl:l4=true:=nr 4 rfl hn;obtain rfl:l5=true:=nr 5 rfl hn;obtain rfl:l6=true:=nr 6 rfl hn;obtain rfl:l7=true:=nr 7 rfl hn;obtain rfl:l8=true:=nr 8 rfl hn;obtain rfl:l9=true:=nr 9 rfl hn;obtain rfl:l10=true:=nr 10 rfl hn;obtain rfl:l11=true:=nr 11 rfl hn;obtain rfl:l12=true:=nr 12 rfl hn;obtain rfl:l13=true:=nr 13 rfl hn;obtain rfl:l14=true:=nr 14 rfl hn;obtain rfl:l15=true:=nr 15 rfl hn;obtain rfl:l16=true:=nr 16 rfl hn;obtain rfl:l17=true:=nr 17 rfl hn;obtain rfl:l18=true:=nr 18 rfl hn;obtain rfl:l19=true:=nr 19 rfl hn;obtain rfl:l20=true:=nr 20 rfl hn;clear hn;obtain rfl:=h.ev0 rfl;obtain rfl:=h.ev1 rfl;obtain rfl:=h.ev2 rfl;obtain rfl:=h.ev3 rfl;obtain rfl:=h.ev4 rfl;obtain rfl:=h.ev5 rfl;obtain rfl:=h.ev6 rfl;obtain rfl:=h.ev7 rfl;obtain rfl:=h.ev8 rfl;obtain rfl:=h.ev9 rfl;obtain rfl:=h.ev10 rfl;obtain rfl:=h.ev11 rfl;obtain rfl:=h.ev12 rfl;obtain rfl:=h.ev13 rfl;obtain rfl:=h.ev14 rfl;obtain rfl:=h.ev15 rfl;obtain rfl:=h.ev16 rfl;obtain rfl:=h.ev20 rfl;simp only [Act.put,sS]
  rename World=>w2
  have H1:=h.g;have B14:=h.s14 rfl;have B15:=h.s15 rfl;have B16:=h.s16 rfl;have hz2:=h.sz;have e14:=h.g14 rfl;have e15:=h.g15 rfl;have e16:=h.g16 rfl;have BB2:=HBX.out.kept H1.below;clear h
  by_cases hee:ee=0
  ·subst hee;have HS:=Lib.hid (hs rfl);clear hs;have H2:=((H1.cons B15.rd).cons B16.rd).cons B14.rd;obtain ⟨⟨tl,th,te⟩,ht⟩:∃r,passR p q u x i0 i1 16777216 16777216=r:=⟨_,rfl⟩;have HT:=Lib.hid ht;clear ht
   go_upto_region 3 with fail
   refine region_sets (Lh.I w.heap.size w2.heap.size b14 b15 b16 L.length nc mm dc nb no i0 i1 gl gh p q u x tl th te d0 d1 d2 d3 d4 d5 v da w) (by kernel_rfl) ?_ ?_ ?_
   ·refine ⟨false,false,false,false,false,false,false,false,false,false,false,false,undef,undef,undef,undef,undef,undef,undef,undef,undef,undef,(.int .i64 0),0,rfl,by simp only [Act.put,sS],?_⟩;constructor
    ·exact hoA
    ·(first|(simp;done)|(simp;omega))
    ·(omega)
    all_goals (intro h;cases h)
   ·intro L a' w' hI i hi;obtain ⟨l0,l1,l2,l3,l4,l5,l6,l7,l8,l9,l10,l11,v0,v1,v2,v3,v4,v5,v6,v7,v8,v9,v11,b9,rfl,rfl,h⟩:=hI;have hlt:=ready_lt hi
    match i,hi,hlt with
    |0,hi,_=>
     obtain rfl:l0=false:=rl rfl hi;clear hi hlt;have c:=(h.g.at 2 rfl).c;have H:=Lib.hid h;clear h;refine wpOp_shut rfl (fun K hK=>?_)
     try simp only [Act.put,sS]
     go_simp;refine hK.out _ _ ?_;unfold Lh.I;refine ⟨_,_,_,_,_,_,_,_,_,_,_,_,((iv p q)),v1,v2,v3,v4,v5,v6,v7,v8,v9,v11,b9,rfl,?_,?_⟩
     ·simp only [Act.put,sS]
     ·exact {H.out with ev0:=fun _=>rfl}
    |1,hi,_=>
     obtain rfl:l1=false:=rl rfl hi;clear hi hlt;have c:=(h.g.at 1 rfl).c;have H:=Lib.hid h;clear h;refine wpOp_shut rfl (fun K hK=>?_)
     try simp only [Act.put,sS]
     go_simp;refine hK.out _ _ ?_;unfold Lh.I;refine ⟨_,_,_,_,_,_,_,_,_,_,_,_,v0,((iv u x)),v2,v3,v4,v5,v6,v7,v8,v9,v11,b9,rfl,?_,?_⟩
     ·simp only [Act.put,sS]
     ·exact {H.out with ev1:=fun _=>rfl}
    |2,hi,_=>
     obtain rfl:l2=false:=rl rfl hi;clear hi hlt;have H:=Lib.hid h;clear h;refine wpOp_shut rfl (fun K hK=>?_)
     try simp only [Act.put,sS]
     go_simp;refine hK.out _ _ ?_;unfold Lh.I;refine ⟨_,_,_,_,_,_,_,_,_,_,_,_,v0,v1,(.pointer (some ⟨w.heap.size,2,none⟩)),v3,v4,v5,v6,v7,v8,v9,v11,b9,rfl,?_,?_⟩
     ·simp only [Act.put,sS]
     ·exact {H.out with ev2:=fun _=>rfl}
    |3,hi,_=>
     obtain rfl:l3=false:=rl rfl hi;obtain rfl:l2=true:=rk rfl hi 2 .data;clear hi hlt;obtain rfl:=h.ev2 rfl;have c:=(h.g.at 5 rfl).c;have H:=Lib.hid h;clear h;refine wpOp_shut rfl (fun K hK=>?_)
     try simp only [Act.put,sS]
     go_simp;refine hK.out _ _ ?_;unfold Lh.I;refine ⟨_,_,_,_,_,_,_,_,_,_,_,_,v0,v1,(.pointer (some ⟨w.heap.size,2,none⟩)),((iv i0 i1)),v4,v5,v6,v7,v8,v9,v11,b9,rfl,?_,?_⟩
     ·simp only [Act.put,sS]
     ·exact {H.out with ev3:=fun _=>rfl}
    |4,hi,_=>
     obtain rfl:l4=false:=rl rfl hi;clear hi hlt;have H:=Lib.hid h;clear h;refine wpOp_shut rfl (fun K hK=>?_)
     try simp only [Act.put,sS]
     go_simp;refine (tunit_any _).mono ?_;rintro e wY ⟨rfl,hb⟩
     try go_simp
     refine hK.out _ _ ?_;unfold Lh.I;refine ⟨_,_,_,_,_,_,_,_,_,_,_,_,v0,v1,v2,v3,((iv 16777216 16777216)),v5,v6,v7,v8,v9,v11,b9,rfl,?_,?_⟩
     ·simp only [Act.put,sS]
     ·exact {(H.out.kept hb) with ev4:=fun _=>rfl}
    |5,hi,_=>
     obtain rfl:l5=false:=rl rfl hi;obtain rfl:l0=true:=rk rfl hi 0 .data;obtain rfl:l1=true:=rk rfl hi 1 .data;obtain rfl:l3=true:=rk rfl hi 3 .data;obtain rfl:l4=true:=rk rfl hi 4 .chain;clear hi hlt;obtain rfl:=h.ev0 rfl;obtain rfl:=h.ev1 rfl;obtain rfl:=h.ev3 rfl;obtain rfl:=h.ev4 rfl;have H:=Lib.hid h;clear h;refine wpOp_shut rfl (fun K hK=>?_)
     try simp only [Act.put,sS]
     go_simp;refine (pass_any p q u x i0 i1 16777216 16777216 _ HS.out.1 HS.out.2.1 HS.out.2.2.1 HS.out.2.2.2).mono ?_;rintro e wY ⟨rfl,hb⟩;rw [HT.out];unfold retR;dsimp only
     try go_simp
     refine hK.out _ _ ?_;unfold Lh.I;refine ⟨_,_,_,_,_,_,_,_,_,_,_,_,((iv p q)),((iv u x)),v2,((iv i0 i1)),((iv 16777216 16777216)),(.tuple #[(iv tl th),.int .i64 te]),v6,v7,v8,v9,v11,b9,rfl,?_,?_⟩
     ·simp only [Act.put,sS]
     ·exact {(H.out.kept hb) with ev5:=fun _=>rfl}
    |6,hi,_=>
     obtain rfl:l6=false:=rl rfl hi;obtain rfl:l5=true:=rk rfl hi 5 .data;clear hi hlt;obtain rfl:=h.ev5 rfl;have H:=Lib.hid h;clear h;refine wpOp_shut rfl (fun K hK=>?_)
     try simp only [Act.put,sS]
     go_simp;refine hK.out _ _ ?_;unfold Lh.I;refine ⟨_,_,_,_,_,_,_,_,_,_,_,_,v0,v1,v2,v3,v4,(.tuple #[(iv tl th),.int .i64 te]),(.tuple #[(iv tl th),.int .i64 te]),v7,v8,v9,v11,b9,rfl,?_,?_⟩
     ·simp only [Act.put,sS]
     ·exact {H.out with ev6:=fun _=>rfl}
    |7,hi,_=>
     obtain rfl:l7=false:=rl rfl hi;obtain rfl:l6=true:=rk rfl hi 6 .data;clear hi hlt;obtain rfl:=h.ev6 rfl;have H:=Lib.hid h;clear h;refine wpOp_shut rfl (fun K hK=>?_)
     try simp only [Act.put,sS]
     go_simp;refine hK.out _ _ ?_;unfold Lh.I;refine ⟨_,_,_,_,_,_,_,_,_,_,_,_,v0,v1,v2,v3,v4,v5,(.tuple #[(iv tl th),.int .i64 te]),((iv tl th)),v8,v9,v11,b9,rfl,?_,?_⟩
     ·simp only [Act.put,sS]
     ·exact {H.out with ev7:=fun _=>rfl}
    |8,hi,_=>
     obtain rfl:l8=false:=rl rfl hi;obtain rfl:l6=true:=rk rfl hi 6 .data;clear hi hlt;obtain rfl:=h.ev6 rfl;have H:=Lib.hid h;clear h;refine wpOp_shut rfl (fun K hK=>?_)
     try simp only [Act.put,sS]
     go_simp;refine hK.out _ _ ?_;unfold Lh.I;refine ⟨_,_,_,_,_,_,_,_,_,_,_,_,v0,v1,v2,v3,v4,v5,(.tuple #[(iv tl th),.int .i64 te]),v7,(.int .i64 te),v9,v11,b9,rfl,?_,?_⟩
     ·simp only [Act.put,sS]
     ·exact {H.out with ev8:=fun _=>rfl}
    |9,hi,_=>
     obtain rfl:l9=false:=rl rfl hi;clear hi hlt;have H:=Lib.hid h;clear h;refine wpOp_shut rfl (fun K hK=>?_)
     try simp only [Act.put,sS]
     go_simp;refine hK.out _ _ ?_;unfold Lh.I;refine ⟨_,_,_,_,_,_,_,_,_,_,_,_,v0,v1,v2,v3,v4,v5,v6,v7,v8,(.pointer (some ⟨w'.heap.size,0,none⟩)),v11,w'.heap.size,rfl,?_,?_⟩
     ·simp only [Act.put,sS]
     ·have h:=H.out;have h2:=h.kept ((Below.refl _ _).alloc (Nat.le_refl _) (.cells (List.toArray [.int .i64 0,.int .i64 0]) 25));exact {h2 with ev9:=fun _=>rfl,g9:=fun _=>h.sz,t9:=fun _=>by simp,o9:=fun p=>rfl,z9:=fun _ _=>Bx.new rfl,s9:=fun p=>(nomatch (h.o9 p))}
    |10,hi,_=>
     obtain rfl:l10=false:=rl rfl hi;obtain rfl:l9=true:=rk rfl hi 9 .phase;obtain rfl:l7=true:=rk rfl hi 7 .phase;obtain rfl:l5=true:=rk rfl hi 5 .phase;obtain rfl:l0=true:=rk rfl hi 0 .phase;obtain rfl:l1=true:=rk rfl hi 1 .phase;obtain rfl:l2=true:=rk rfl hi 2 .phase;obtain rfl:l3=true:=rk rfl hi 3 .phase;obtain rfl:l4=true:=rk rfl hi 4 .phase;obtain rfl:l6=true:=rk rfl hi 6 .phase;clear hi hlt;obtain rfl:=h.ev9 rfl;obtain rfl:=h.ev7 rfl;obtain rfl:=h.ev5 rfl;obtain rfl:=h.ev0 rfl;obtain rfl:=h.ev1 rfl;obtain rfl:=h.ev2 rfl;obtain rfl:=h.ev3 rfl;obtain rfl:=h.ev4 rfl;obtain rfl:=h.ev6 rfl;have bz:=h.z9 rfl rfl;have c:=bz.c;have f:=bz.f;clear bz;have H:=Lib.hid h;clear h;refine wpOp_shut rfl (fun K hK=>?_)
     try simp only [Act.put,sS]
     go_simp;refine hK.out _ _ ?_;unfold Lh.I;refine ⟨_,_,_,_,_,_,_,_,_,_,_,_,((iv p q)),((iv u x)),(.pointer (some ⟨w.heap.size,2,none⟩)),((iv i0 i1)),((iv 16777216 16777216)),(.tuple #[(iv tl th),.int .i64 te]),(.tuple #[(iv tl th),.int .i64 te]),((iv tl th)),v8,(.pointer (some ⟨b9,0,none⟩)),v11,b9,rfl,?_,?_⟩
     ·simp only [Act.put,sS]
     ·have h:=H.out;have gb:=h.g9 rfl;have gm:=Nat.le_trans h.mn gb;exact {h with g:=((h.g.put gm).put gm),sz:=by simpa using h.sz,o9:=fun _=>rfl,z9:=fun _ p=>(nomatch p),s9:=fun _=>(((h.z9 rfl rfl).put).put),t9:=fun p=>by simpa using h.t9 p}
    |11,hi,_=>
     obtain rfl:l11=false:=rl rfl hi;obtain rfl:l8=true:=rk rfl hi 8 .phase;obtain rfl:l10=true:=rk rfl hi 10 .phase;obtain rfl:l0=true:=rk rfl hi 0 .phase;obtain rfl:l1=true:=rk rfl hi 1 .phase;obtain rfl:l2=true:=rk rfl hi 2 .phase;obtain rfl:l3=true:=rk rfl hi 3 .phase;obtain rfl:l4=true:=rk rfl hi 4 .phase;obtain rfl:l5=true:=rk rfl hi 5 .phase;obtain rfl:l6=true:=rk rfl hi 6 .phase;obtain rfl:l7=true:=rk rfl hi 7 .phase;obtain rfl:l9=true:=rk rfl hi 9 .phase;clear hi hlt;obtain rfl:=h.ev8 rfl;obtain rfl:=h.ev0 rfl;obtain rfl:=h.ev1 rfl;obtain rfl:=h.ev2 rfl;obtain rfl:=h.ev3 rfl;obtain rfl:=h.ev4 rfl;obtain rfl:=h.ev5 rfl;obtain rfl:=h.ev6 rfl;obtain rfl:=h.ev7 rfl;obtain rfl:=h.ev9 rfl;have H:=Lib.hid h;clear h;refine wpOp_shut rfl (fun K hK=>?_)
     try simp only [Act.put,sS]
     go_simp;refine hK.out _ _ ?_;unfold Lh.I;refine ⟨_,_,_,_,_,_,_,_,_,_,_,_,((iv p q)),((iv u x)),(.pointer (some ⟨w.heap.size,2,none⟩)),((iv i0 i1)),((iv 16777216 16777216)),(.tuple #[(iv tl th),.int .i64 te]),(.tuple #[(iv tl th),.int .i64 te]),((iv tl th)),(.int .i64 te),(.pointer (some ⟨b9,0,none⟩)),(.int .i64 te),b9,rfl,?_,?_⟩
     ·simp only [Act.put,sS]
     ·exact {H.out with ev11:=fun _=>rfl}
    |i+12,_,hlt=>exact absurd hlt (by simp)
   ·intro L a' w' hI hn;obtain ⟨l0,l1,l2,l3,l4,l5,l6,l7,l8,l9,l10,l11,v0,v1,v2,v3,v4,v5,v6,v7,v8,v9,v11,b9,rfl,rfl,h⟩:=hI;obtain rfl:l0=true:=nr 0 rfl hn;obtain rfl:l1=true:=nr 1 rfl hn;obtain rfl:l2=true:=nr 2 rfl hn;obtain rfl:l3=true:=nr 3 rfl hn;obtain rfl:l4=true:=nr 4 rfl hn;obtain rfl:l5=true:=nr 5 rfl hn;obtain rfl:l6=true:=nr 6 rfl hn;obtain rfl:l7=true:=nr 7 rfl hn;obtain rfl:l8=true:=nr 8 rfl hn;obtain rfl:l9=true:=nr 9 rfl hn;obtain rfl:l10=true:=nr 10 rfl hn;obtain rfl:l11=true:=nr 11 rfl hn;clear hn;obtain rfl:=h.ev0 rfl;obtain rfl:=h.ev1 rfl;obtain rfl:=h.ev2 rfl;obtain rfl:=h.ev3 rfl;obtain rfl:=h.ev4 rfl;obtain rfl:=h.ev5 rfl;obtain rfl:=h.ev6 rfl;obtain rfl:=h.ev7 rfl;obtain rfl:=h.ev8 rfl;obtain rfl:=h.ev9 rfl;obtain rfl:=h.ev11 rfl;simp only [Act.put,sS]
    rename World=>w3
    have H3:=h.g;have B9:=h.s9 rfl;have hz3:=h.sz;have e9:=h.g9 rfl;have BB3:=HBX.out.kept H3.below;clear h
    by_cases hte:te=0
    ·subst hte;have x9:=B9.c;have y9:=B9.lt;have xg:=(H3.at 3 rfl).c
     go_wp2_with fail
     refine (mul_any gl gh tl th _).mono ?_;rintro e w4 ⟨rfl,hb⟩;obtain ⟨⟨ml,mh,me⟩,hm⟩:∃r,mulR gl gh tl th=r:=⟨_,rfl⟩;rw [hm];have HM:=Lib.hid hm;clear hm;unfold retR;dsimp only;have H4:=H3.call hb;have BB4:=BB3.kept hb;have hz4:=hb.size;clear hb x9 y9 xg B9
     by_cases hme:me=0
     ·subst hme;have x14:=(H4.at 0 rfl).c;have y14:=(H4.at 0 rfl).lt;have n14:¬(b14=w4.heap.size):=Nat.ne_of_lt y14
      go_wp2_with fail
      refine (sign_any d4 d5 _).mono ?_;rintro e w5 ⟨rfl,hb⟩;obtain ⟨s,hsg⟩:∃s,sgn d4 d5=s:=⟨_,rfl⟩;rw [hsg];have HS2:=Lib.hid hsg;clear hsg;have H5:=(H4.alc (.cells (List.toArray [.int .i64 ml,.int .i64 mh]) 25)).call hb;have BB5:=(BB4.alc (.cells (List.toArray [.int .i64 ml,.int .i64 mh]) 25)).kept hb;have M5:Bx w5 w4.heap.size [.int .i64 ml,.int .i64 mh]:=(Bx.new rfl).kept hb;clear hb x14 n14;have K14:Rd w5 b14 [.int .i64 d0,.int .i64 d1,.int .i64 d2,.int .i64 d3,.int .i64 d4,.int .i64 d5]:=H5.at 0 rfl
      have nB14:¬(b14=B):=by omega
      have nBm:¬(w4.heap.size=B):=by have:=BB4.lt;omega
      have bc:=BB5.c;have bf:=BB5.f;have bl:=BB5.lt
      by_cases s1:s=1
      ·subst s1;have EL:=Lib.hid (show leaveR n v i0 i1 gl gh ⟨xk,⟨x0,x1,x2,x3,x4,x5⟩,xl,xh⟩=⟨1,⟨d0,d1,d2,d3,d4,d5⟩,ml,mh⟩ from by rw [leaveR,HF.out];dsimp only;rw [if_pos rfl,HT.out];dsimp only;rw [if_pos rfl,HM.out];dsimp only;rw [if_pos rfl,HS2.out];rw [if_pos rfl])
       go_upto_region 12 with fail
       go_region_held3 (fun X=>(∀j,X.cell? ⟨b14,j,none⟩ = [.int .i64 d0,.int .i64 d1,.int .i64 d2,.int .i64 d3,.int .i64 d4,.int .i64 d5][j]?)∧(∀j,X.cell? ⟨w4.heap.size,j,none⟩ = [.int .i64 ml,.int .i64 mh][j]?)) (refine ⟨Rd.c ?_,Rd.c ?_⟩<;>(with_reducible repeat (first|exact K14|exact M5.rd|refine Rd.set ?_ (by omega)|refine Rd.drew ?_))) (fail)
       all_goals go_wp2_with fail
       go_end0
       exact ⟨⟨_,rfl⟩,((((((((((below_grown H5.below:World.grownBy w w5 (some B)).trans (grown_set _ B 0 _)).trans (grown_set _ B 2 _)).trans (grown_set _ B 3 _)).trans (grown_set _ B 4 _)).trans (grown_set _ B 5 _)).trans (grown_set _ B 6 _)).trans (grown_set _ B 7 _)).trans (grown_set _ B 8 _)).trans (grown_set _ B 9 _)).trans (below_grown (Below.refl _ _).drew),by rw [EL.out];exact (((((((((BB5.put (i:=0) (u:=.int .i64 1)).put (i:=2) (u:=.int .i64 d0)).put (i:=3) (u:=.int .i64 d1)).put (i:=4) (u:=.int .i64 d2)).put (i:=5) (u:=.int .i64 d3)).put (i:=6) (u:=.int .i64 d4)).put (i:=7) (u:=.int .i64 d5)).put (i:=8) (u:=.int .i64 ml)).put (i:=9) (u:=.int .i64 mh)).drew⟩
      ·by_cases s2:s = -1
       ·subst s2;have EL:=Lib.hid (show leaveR n v i0 i1 gl gh ⟨xk,⟨x0,x1,x2,x3,x4,x5⟩,xl,xh⟩=⟨2,⟨d0,d1,d2,d3,d4,d5⟩,ml,mh⟩ from by rw [leaveR,HF.out];dsimp only;rw [if_pos rfl,HT.out];dsimp only;rw [if_pos rfl,HM.out];dsimp only;rw [if_pos rfl,HS2.out];rw [if_neg s1,if_pos rfl])
        go_upto_region 12 with fail
        go_region_held3 (fun X=>(∀j,X.cell? ⟨b14,j,none⟩ = [.int .i64 d0,.int .i64 d1,.int .i64 d2,.int .i64 d3,.int .i64 d4,.int .i64 d5][j]?)∧(∀j,X.cell? ⟨w4.heap.size,j,none⟩ = [.int .i64 ml,.int .i64 mh][j]?)) (refine ⟨Rd.c ?_,Rd.c ?_⟩<;>(with_reducible repeat (first|exact K14|exact M5.rd|refine Rd.set ?_ (by omega)|refine Rd.drew ?_))) (fail)
        all_goals go_wp2_with fail
        go_end0
        exact ⟨⟨_,rfl⟩,((((((((((below_grown H5.below:World.grownBy w w5 (some B)).trans (grown_set _ B 0 _)).trans (grown_set _ B 2 _)).trans (grown_set _ B 3 _)).trans (grown_set _ B 4 _)).trans (grown_set _ B 5 _)).trans (grown_set _ B 6 _)).trans (grown_set _ B 7 _)).trans (grown_set _ B 8 _)).trans (grown_set _ B 9 _)).trans (below_grown (Below.refl _ _).drew),by rw [EL.out];exact (((((((((BB5.put (i:=0) (u:=.int .i64 2)).put (i:=2) (u:=.int .i64 d0)).put (i:=3) (u:=.int .i64 d1)).put (i:=4) (u:=.int .i64 d2)).put (i:=5) (u:=.int .i64 d3)).put (i:=6) (u:=.int .i64 d4)).put (i:=7) (u:=.int .i64 d5)).put (i:=8) (u:=.int .i64 ml)).put (i:=9) (u:=.int .i64 mh)).drew⟩
       ·have EL:=Lib.hid (show leaveR n v i0 i1 gl gh ⟨xk,⟨x0,x1,x2,x3,x4,x5⟩,xl,xh⟩=⟨xk,⟨x0,x1,x2,x3,x4,x5⟩,xl,xh⟩ from by rw [leaveR,HF.out];dsimp only;rw [if_pos rfl,HT.out];dsimp only;rw [if_pos rfl,HM.out];dsimp only;rw [if_pos rfl,HS2.out,if_neg s1,if_neg s2])
        go_wp2_with fail
        exact bodyPost_ret (results_none rfl _ _ _) rfl ⟨⟨_,rfl⟩,below_grown H5.below,by rw [EL.out];exact BB5⟩
     ·have EL:=Lib.hid (show leaveR n v i0 i1 gl gh ⟨xk,⟨x0,x1,x2,x3,x4,x5⟩,xl,xh⟩=⟨xk,⟨x0,x1,x2,x3,x4,x5⟩,xl,xh⟩ from by rw [leaveR,HF.out];dsimp only;rw [if_pos rfl,HT.out];dsimp only;rw [if_pos rfl,HM.out];dsimp only;rw [if_neg hme])
      go_wp2_with fail
      exact bodyPost_ret (results_none rfl _ _ _) rfl ⟨⟨_,rfl⟩,below_grown (H4.alc _).below,by rw [EL.out];exact BB4.alc _⟩
    ·have EL:=Lib.hid (show leaveR n v i0 i1 gl gh ⟨xk,⟨x0,x1,x2,x3,x4,x5⟩,xl,xh⟩=⟨xk,⟨x0,x1,x2,x3,x4,x5⟩,xl,xh⟩ from by rw [leaveR,HF.out];dsimp only;rw [if_pos rfl,HT.out];dsimp only;rw [if_neg hte])
     go_wp2_with fail
     exact bodyPost_ret (results_none rfl _ _ _) rfl ⟨⟨_,rfl⟩,below_grown H3.below,by rw [EL.out];exact BB3⟩
  ·have EL:=Lib.hid (show leaveR n v i0 i1 gl gh ⟨xk,⟨x0,x1,x2,x3,x4,x5⟩,xl,xh⟩=⟨xk,⟨x0,x1,x2,x3,x4,x5⟩,xl,xh⟩ from by rw [leaveR,HF.out];dsimp only;rw [if_neg hee])
   go_wp2_with fail
   exact bodyPost_ret (results_none rfl _ _ _) rfl ⟨⟨_,rfl⟩,below_grown H1.below,by rw [EL.out];exact BB2⟩
end Go.Proofs.YtiecdgcdcpmgaaaGreat.Iv

/- Following a ray: what the program computes, and the face that is hit. -/
namespace Go.Proofs.YtiecdgcdcpmgaaaGreat.Iv
theorem faceR_w {i:Int} {n:D} {p:Int × Int} {a v:D} {x:W4} (h:(faceR i n p a v).w=some x):x.f=i∧(x.b=true→(dotR n v).e=0∧0<(dotR n v).lo):=by
 unfold faceR at h;split at h
 ·rename_i h0;split at h
  ·split at h
   ·dsimp only at h;unfold wayF at h;split at h
    ·cases h
    ·cases h;exact ⟨rfl,fun hb=>⟨h0,by simpa using hb⟩⟩
   ·cases h
  ·cases h
 ·cases h
theorem ways_mem (a v:D):∀(l:List (D × Int × Int)) (i:Nat) (x:W4),x∈(waysR a v i l).l→∃j y,l[j]? = some y∧x.f=((i+j:Nat):Int)∧(x.b=true→(dotR y.1 v).e=0∧0<(dotR y.1 v).lo)
 | [],i,x,h=>by simp [waysR] at h
 |y::t,i,x,h=>by
  rw [waysR] at h;split at h
  ·dsimp only at h;rw [List.mem_append] at h;rcases h with h|h
   ·rw [Option.mem_toList] at h;obtain ⟨h1,h2⟩:=faceR_w h;exact ⟨0,y,rfl,by rw [h1,Nat.add_zero],h2⟩
   ·obtain ⟨j,z,h1,h2,h3⟩:=ways_mem a v t (i+1) x h;exact ⟨j+1,z,by rw [List.getElem?_cons_succ];exact h1,by rw [h2];congr 1;omega,h3⟩
  ·cases h
theorem best_mem (l:List W4):∀b:W4,l.foldl better b=b∨l.foldl better b∈l:=by
 induction l with
 |nil=>exact fun b=>.inl rfl
 |cons x t ih=>
  intro b;rw [List.foldl_cons];rcases ih (better b x) with h|h
  ·rw [h];unfold better;split
   ·exact .inr (List.mem_cons_self ..)
   ·exact .inl rfl
  ·exact .inr (List.mem_cons_of_mem _ h)
theorem hit_face {l:List (D × Int × Int)} {a v:D} (h:(hitR l a v).e=0):∃(k:Nat) (x:D × Int × Int),(hitR l a v).f=(k:Int)∧l[k]? = some x∧(dotR x.1 v).e=0∧0<(dotR x.1 v).lo:=by
 unfold hitR at h ⊢;split at h
 ·rename_i h0;split at h
  ·cases h
  ·rename_i h1;split at h
   ·cases h
   ·rename_i h2;split at h
    ·cases h
    ·rename_i h3;split at h
     ·cases h
     ·rename_i h4;rw [if_pos h0,if_neg h1,if_neg h2,if_neg h3,if_neg h4];dsimp only
      have hb:(bestR (waysR a v 0 l).l).b=true:=by simpa using h2
      rcases best_mem (waysR a v 0 l).l ⟨0,0,0,false⟩ with h5|h5
      ·rw [bestR,h5] at hb;cases hb
      ·obtain ⟨j,y,g1,g2,g3⟩:=ways_mem a v l 0 _ h5;rw [Nat.zero_add] at g2;exact ⟨j,y,g2,g1,g3 hb⟩
 ·rename_i h0;exact absurd h h0
end Go.Proofs.YtiecdgcdcpmgaaaGreat.Iv

/- Following a ray: the plain function, and what leave needs. -/
namespace Go.Proofs.YtiecdgcdcpmgaaaGreat.Iv
theorem mul_c (a b c d:Int):mulR a b c d=mulR c d a b:=by
 unfold mulR
 have e1:min4 (a*c) (a*d) (b*c) (b*d)=min4 (c*a) (c*b) (d*a) (d*b):=by
  rw [Int.mul_comm c a,Int.mul_comm c b,Int.mul_comm d a,Int.mul_comm d b];unfold min4;omega
 have e2:max4 (a*c) (a*d) (b*c) (b*d)=max4 (c*a) (c*b) (d*a) (d*b):=by
  rw [Int.mul_comm c a,Int.mul_comm c b,Int.mul_comm d a,Int.mul_comm d b];unfold max4;omega
 rw [e1,e2]
 by_cases h:vB a b=true∧vB c d=true
 ·rw [if_pos h,if_pos h.symm]
 ·rw [if_neg h,if_neg (fun k=>h k.symm)]
theorem dot_c (s t:D):dotR s t=dotR t s:=by
 have e:prodD s t=prodD t s:=by
  unfold prodD;rw [mul_c s.a,mul_c s.c,mul_c s.e]
 unfold dotR;rw [e]
 by_cases h:vD s=true∧vD t=true
 ·rw [if_pos h,if_pos h.symm]
 ·rw [if_neg h,if_neg (fun k=>h k.symm)]
theorem after_nn {p q x y:Int} (h:0≤sgn p q) (h0:¬(x<0)):vB (afterR p q x y).lo (afterR p q x y).hi=true∧0≤(afterR p q x y).lo:=by
 rw [afterR,if_neg (by omega)];cases hv:vB x y
 ·rw [show sqrtR x y=⟨0,0,1⟩ from by rw [sqrtR,if_neg (by rw [hv];decide)]];exact ⟨rfl,Int.le_refl _⟩
 ·obtain ⟨h1,h2,h3⟩:=vB_iff.1 hv;rw [sqrtR,if_pos hv,if_neg h0];obtain ⟨s1,s2,_⟩:=isq_sq x (by omega) (by omega);exact ⟨vB_iff.2 ⟨by dsimp only;omega,rup_ge h2,by have:=rup_le (b:=y) (by omega) h3;dsimp only;omega⟩,isq_nonneg _⟩
theorem leave_pre {n v:D} {i0 i1:Int} (h1:0<(dotR n v).lo) (h2:(dotR n v).e=0) (h:(refrR v n i0 i1).e=0) :
  vB (refrR v n i0 i1).p (refrR v n i0 i1).q=true∧0≤(refrR v n i0 i1).p∧vB (refrR v n i0 i1).u (refrR v n i0 i1).v=true∧0≤(refrR v n i0 i1).u:=by
 have hd:=dot_in h2;rw [dot_c] at h1 h2 hd;unfold refrR at h ⊢;split at h
 ·rename_i c1;rw [if_pos c1];rw [if_pos h2];split at h
  ·cases h
  ·rename_i c2;rw [if_neg c2];split at h
   ·rename_i c3;rw [if_pos c3];split at h
    ·cases h
    ·rename_i c4;rw [if_neg c4];have ha:=after_nn (p:=(dotR v n).lo) (q:=(dotR v n).hi) (y:=(radR (dotR v n).lo (dotR v n).hi i0 i1).hi) (sgn_nn (by omega)) c4;unfold tailF at h ⊢;dsimp only at h ⊢;split at h
     ·rename_i c5;rw [if_pos c5];exact ⟨hd,Int.le_of_lt h1,ha.1,ha.2⟩
     ·rename_i c5;exact absurd h c5
   ·rename_i c3;exact absurd h c3
 ·cases h
def unk:LV:=⟨3,zD,0,0⟩
def nrm (l:List (D × Int × Int)) (f:Int):D:=((l[f.toNat]?).getD (zD,0,0)).1
theorem nrm_eq {l:List (D × Int × Int)} {k:Nat} {x:D × Int × Int} (h:l[k]? = some x):nrm l k=x.1:=by
 rw [nrm,Int.toNat_natCast,h,Option.getD_some]
def oneF (l:List (D × Int × Int)) (i0 i1 gl gh:Int) (a v:D) (fs:List Int) (last:Bool) (next:D→D→List Int→LV × List Int):LV × List Int:=
 if (hitR l a v).e=0 then
  if (scaleD v (hitR l a v).l (hitR l a v).g).e=0 then
   if (addD a (scaleD v (hitR l a v).l (hitR l a v).g).d).e=0 then
    if (hitsR v (nrm l (hitR l a v).f) i0 i1).e=0 then
     if (hitsR v (nrm l (hitR l a v).f) i0 i1).k=2 then (leaveR (nrm l (hitR l a v).f) v i0 i1 gl gh unk,fs ++ [(hitR l a v).f])
     else if (hitsR v (nrm l (hitR l a v).f) i0 i1).k=1∧last=false then
      if (reflR v (nrm l (hitR l a v).f)).e=0 then next (addD a (scaleD v (hitR l a v).l (hitR l a v).g).d).d (reflR v (nrm l (hitR l a v).f)).d (fs ++ [(hitR l a v).f])
      else (unk,fs ++ [(hitR l a v).f])
     else (unk,fs ++ [(hitR l a v).f])
    else (unk,fs ++ [(hitR l a v).f])
   else (unk,fs ++ [(hitR l a v).f])
  else (unk,fs ++ [(hitR l a v).f])
 else (unk,fs)
def followL (l:List (D × Int × Int)) (i0 i1 gl gh:Int):Nat→D→D→List Int→LV × List Int
 |0,a,v,fs=>oneF l i0 i1 gl gh a v fs true fun _ _ fs=>(unk,fs)
 |m+1,a,v,fs=>oneF l i0 i1 gl gh a v fs false (followL l i0 i1 gl gh m)
structure FO where
 lv:LV
 fs:List Int
 e:Int
def followV (L:List D) (M:List (Int × Int)) (i0 i1:Int) (a v:D) (gl gh most:Int):FO:=
 if ((vBody L M i0 i1 && (vD a && vD v)) && (vB gl gh && (decide (0≤gl) && decide (gh≤16777216))))=true then
  if 0≤most∧most≤20 then ⟨(followL (L.zip M) i0 i1 gl gh most.toNat a v []).1,(followL (L.zip M) i0 i1 gl gh most.toNat a v []).2,0⟩
  else ⟨⟨0,zD,0,0⟩,[],2⟩
 else ⟨⟨0,zD,0,0⟩,[],1⟩
end Go.Proofs.YtiecdgcdcpmgaaaGreat.Iv

/- Contract of trace.passing for cosines of any sign. -/
namespace Go.Proofs.YtiecdgcdcpmgaaaGreat.Iv
open Go.RowKit
attribute [local go_sem] Oper.semAt_some run_min2' run_max2'
set_option maxRecDepth 100000 in
set_option maxHeartbeats 4000000 in
theorem passN_any (a b c d fl fh tl th:Int) (w:World) (hv:vB a b=true) (h0:b<0) (hv2:vB c d=true) :
  Calls Tryz.prog 74 #[iv a b,iv c d,iv fl fh,iv tl th] w fun e w'=>e=retR (passR (-b) (-a) (-d) (-c) fl fh tl th)∧Below w.heap.size w w':=by
 have H0:=(((((Ho.nil w).alc (.cells (List.toArray [.int .i64 a,.int .i64 b]) 25)).alc (.cells (List.toArray [.int .i64 c,.int .i64 d]) 25)).alc (.cells (List.toArray [.int .i64 fl,.int .i64 fh]) 25)).alc (.cells (List.toArray [.int .i64 tl,.int .i64 th]) 25)).alc (.cells (List.toArray [.int .i64 0,.int .i64 0]) 25);have A0:Bx (((((w.alloc (.cells (List.toArray [.int .i64 a,.int .i64 b]) 25)).alloc (.cells (List.toArray [.int .i64 c,.int .i64 d]) 25)).alloc (.cells (List.toArray [.int .i64 fl,.int .i64 fh]) 25)).alloc (.cells (List.toArray [.int .i64 tl,.int .i64 th]) 25)).alloc (.cells (List.toArray [.int .i64 0,.int .i64 0]) 25)) (w.heap.size) [.int .i64 a,.int .i64 b]:=((((Bx.new rfl).alc _).alc _).alc _).alc _;have B0:Bx (((((w.alloc (.cells (List.toArray [.int .i64 a,.int .i64 b]) 25)).alloc (.cells (List.toArray [.int .i64 c,.int .i64 d]) 25)).alloc (.cells (List.toArray [.int .i64 fl,.int .i64 fh]) 25)).alloc (.cells (List.toArray [.int .i64 tl,.int .i64 th]) 25)).alloc (.cells (List.toArray [.int .i64 0,.int .i64 0]) 25)) (w.heap.size+1) [.int .i64 c,.int .i64 d]:=(((Bx.new (by simp)).alc _).alc _).alc _;have F0:Bx (((((w.alloc (.cells (List.toArray [.int .i64 a,.int .i64 b]) 25)).alloc (.cells (List.toArray [.int .i64 c,.int .i64 d]) 25)).alloc (.cells (List.toArray [.int .i64 fl,.int .i64 fh]) 25)).alloc (.cells (List.toArray [.int .i64 tl,.int .i64 th]) 25)).alloc (.cells (List.toArray [.int .i64 0,.int .i64 0]) 25)) (w.heap.size+1+1) [.int .i64 fl,.int .i64 fh]:=((Bx.new (by simp)).alc _).alc _;have T0:Bx (((((w.alloc (.cells (List.toArray [.int .i64 a,.int .i64 b]) 25)).alloc (.cells (List.toArray [.int .i64 c,.int .i64 d]) 25)).alloc (.cells (List.toArray [.int .i64 fl,.int .i64 fh]) 25)).alloc (.cells (List.toArray [.int .i64 tl,.int .i64 th]) 25)).alloc (.cells (List.toArray [.int .i64 0,.int .i64 0]) 25)) (w.heap.size+1+1+1) [.int .i64 tl,.int .i64 th]:=(Bx.new (by simp)).alc _;have O0:Bx (((((w.alloc (.cells (List.toArray [.int .i64 a,.int .i64 b]) 25)).alloc (.cells (List.toArray [.int .i64 c,.int .i64 d]) 25)).alloc (.cells (List.toArray [.int .i64 fl,.int .i64 fh]) 25)).alloc (.cells (List.toArray [.int .i64 tl,.int .i64 th]) 25)).alloc (.cells (List.toArray [.int .i64 0,.int .i64 0]) 25)) (w.heap.size+1+1+1+1) [.int .i64 0,.int .i64 0]:=Bx.new (by simp);obtain ⟨hv1a,hv1b,hv1c⟩:=vB_iff.1 hv
 have hsg:sgn a b = -1:=by
  unfold sgn;rw [if_pos hv,if_neg (by omega),if_pos h0]
 have HS:=Lib.hid hsg;have HN1:=Lib.hid (show retR (negR a b) = .returned (.tuple #[iv (-b) (-a),.int .i64 0]) from by rw [show negR a b=⟨-b,-a,0⟩ from if_pos hv]);have HN2:=Lib.hid (show retR (negR c d) = .returned (.tuple #[iv (-d) (-c),.int .i64 0]) from by rw [show negR c d=⟨-d,-c,0⟩ from if_pos hv2]);clear h0 hsg hv hv2 hv1a hv1b hv1c;obtain ⟨⟨rl,rh,re⟩,hr⟩:∃r,passR (-b) (-a) (-d) (-c) fl fh tl th=r:=⟨_,rfl⟩;have HR:=Lib.hid (show retR (Ivf.transR ⟨cutR (-b),cutR (-a),cutR (-d),cutR (-c),fl,fh,tl,th⟩) = .returned (.tuple #[iv rl rh,.int .i64 re]) from by rw [←passR,hr]);rw [hr];clear hr
 have hnA:¬(w.heap.size=w.heap.size+1+1+1+1):=by omega
 have hnB:¬(w.heap.size+1=w.heap.size+1+1+1+1):=by omega
 have hnF:¬(w.heap.size+1+1=w.heap.size+1+1+1+1):=by omega
 have hnT:¬(w.heap.size+1+1+1=w.heap.size+1+1+1+1):=by omega
 go_enter Tryz.func74,Tryz.ntmps74
 go_wp2_with fail
 refine (sign_any a b _).mono ?_;rintro e w1 ⟨rfl,hb⟩;rw [HS.out];have HX:=H0.call hb;have AX:=A0.kept hb;have BX:=B0.kept hb;have FX:=F0.kept hb;have TX:=T0.kept hb;have OX:=O0.kept hb;clear hb H0 A0 B0 F0 T0 O0;have ca:=AX.c
 go_wp2_with fail
 refine (neg_any a b _).mono ?_;rintro e w2 ⟨rfl,hb⟩;rw [HN1.out];have HY:=HX.call hb;have AY:=AX.kept hb;have BY:=BX.kept hb;have FY:=FX.kept hb;have TY:=TX.kept hb;have OY:=OX.kept hb;clear hb ca HX AX BX FX TX OX;have ca:=AY.c;have cf:=AY.f;have cb:=BY.c
 go_upto_region 3 with fail
 have HZ:=(HY.put (d:=w.heap.size) (i:=0) (u:=.int .i64 (-b)) (Nat.le_refl _)).put (d:=w.heap.size) (i:=1) (u:=.int .i64 (-a)) (Nat.le_refl _);have AZ:=AY.put2 (u:=.int .i64 (-b)) (v:=.int .i64 (-a));have BZ:=(BY.set (c:=w.heap.size) (i:=0) (u:=.int .i64 (-b)) (by omega)).set (c:=w.heap.size) (i:=1) (u:=.int .i64 (-a)) (by omega);have FZ:=(FY.set (c:=w.heap.size) (i:=0) (u:=.int .i64 (-b)) (by omega)).set (c:=w.heap.size) (i:=1) (u:=.int .i64 (-a)) (by omega);have TZ:=(TY.set (c:=w.heap.size) (i:=0) (u:=.int .i64 (-b)) (by omega)).set (c:=w.heap.size) (i:=1) (u:=.int .i64 (-a)) (by omega);have OZ:=(OY.set (c:=w.heap.size) (i:=0) (u:=.int .i64 (-b)) (by omega)).set (c:=w.heap.size) (i:=1) (u:=.int .i64 (-a)) (by omega);clear ca cf cb HY AY BY FY TY OY;revert HZ AZ BZ FZ TZ OZ;generalize ((w2.setCell {block:=w.heap.size,off:=0} (Value.int IntKind.i64 (-b))).setCell {block:=w.heap.size,off:=1} (Value.int IntKind.i64 (-a)))=w3;intro HZ AZ BZ FZ TZ OZ;have cb:=BZ.c;have cf:=BZ.f
 go_wp2_with fail
 refine (neg_any c d _).mono ?_;rintro e w4 ⟨rfl,hb⟩;rw [HN2.out];have HY:=HZ.call hb;have AY:=AZ.kept hb;have BY:=BZ.kept hb;have FY:=FZ.kept hb;have TY:=TZ.kept hb;have OY:=OZ.kept hb;clear hb cb cf HZ AZ BZ FZ TZ OZ;have cb:=BY.c;have cf:=BY.f
 go_upto_region 4 with fail
 have HX:=((HY.put (d:=w.heap.size+1) (i:=0) (u:=.int .i64 (-d)) (by omega)).put (d:=w.heap.size+1) (i:=1) (u:=.int .i64 (-c)) (by omega)).drew;have BX:=(BY.put2 (u:=.int .i64 (-d)) (v:=.int .i64 (-c))).drew;have AX:=((AY.set (c:=w.heap.size+1) (i:=0) (u:=.int .i64 (-d)) (by omega)).set (c:=w.heap.size+1) (i:=1) (u:=.int .i64 (-c)) (by omega)).drew;have FX:=((FY.set (c:=w.heap.size+1) (i:=0) (u:=.int .i64 (-d)) (by omega)).set (c:=w.heap.size+1) (i:=1) (u:=.int .i64 (-c)) (by omega)).drew;have TX:=((TY.set (c:=w.heap.size+1) (i:=0) (u:=.int .i64 (-d)) (by omega)).set (c:=w.heap.size+1) (i:=1) (u:=.int .i64 (-c)) (by omega)).drew;have OX:=((OY.set (c:=w.heap.size+1) (i:=0) (u:=.int .i64 (-d)) (by omega)).set (c:=w.heap.size+1) (i:=1) (u:=.int .i64 (-c)) (by omega)).drew;clear cb cf HY AY BY FY TY OY
 go_region_held3 (fun X=>(∀j,X.cell? ⟨w.heap.size,j,none⟩ = [.int .i64 (-b),.int .i64 (-a)][j]?)∧(∀j,X.cell? ⟨w.heap.size+1,j,none⟩ = [.int .i64 (-d),.int .i64 (-c)][j]?)∧(∀j,X.cell? ⟨w.heap.size+1+1,j,none⟩ = [.int .i64 fl,.int .i64 fh][j]?)∧(∀j,X.cell? ⟨w.heap.size+1+1+1,j,none⟩ = [.int .i64 tl,.int .i64 th][j]?)) (with_reducible first|exact ⟨AX.c,BX.c,FX.c,TX.c⟩|exact ⟨AA.c,BA.c,FA.c,TA.c⟩|exact ⟨AB.c,BB.c,FB.c,TB.c⟩|exact ⟨AC.c,BC.c,FC.c,TC.c⟩|exact ⟨((AC.set hnA).set hnA).c,((BC.set hnB).set hnB).c,((FC.set hnF).set hnF).c,((TC.set hnT).set hnT).c⟩)
  (first
   |(have hm:=hmarkB;go_at_call 104;refine (Ivf.trans_any ⟨cutR (-b),cutR (-a),cutR (-d),cutR (-c),fl,fh,tl,th⟩ _).mono ?_;rintro e wC ⟨rfl,hb⟩;rw [HR.out];have HC:=HB.call hb;have AC:=AB.kept hb;have BC:=BB.kept hb;have FC:=FB.kept hb;have TC:=TB.kept hb;have OC:=OB.kept hb;clear hb;have oc:=OC.c;have of:=OC.f;have ol:=OC.lt)
   |(have hm:=hmarkA;go_at_call 105;refine (cut_any (-d) (-c) _).mono ?_;rintro e wB ⟨rfl,hb⟩;have HB:=HA.call hb;have AB:=AA.kept hb;have BB:=BA.kept hb;have FB:=FA.kept hb;have TB:=TA.kept hb;have OB:=OA.kept hb;have hmarkB:wB=wB:=rfl)
   |(go_at_call 105;refine (cut_any (-b) (-a) _).mono ?_;rintro e wA ⟨rfl,hb⟩;have HA:=HX.call hb;have AA:=AX.kept hb;have BA:=BX.kept hb;have FA:=FX.kept hb;have TA:=TX.kept hb;have OA:=OX.kept hb;have hmarkA:wA=wA:=rfl))
 go_wp2_with fail
 refine bodyPost_box (b:=w.heap.size+1+1+1+1) (cs:=[.int .i64 rl,.int .i64 rh]) (v:=.tuple #[iv rl rh,.int .i64 re]) (by
  (with_reducible repeat (first|exact OC|apply Bx.put2))) (fun X hX=>by simp [results,Tryz.results74,go_sem,hX]) rfl ⟨rfl,((HC.put (i:=0) (u:=.int .i64 _) (by omega)).put (i:=1) (u:=.int .i64 _) (by omega)).below⟩
set_option maxRecDepth 100000 in
set_option maxHeartbeats 4000000 in
theorem passZ_any (a b c d fl fh tl th:Int) (w:World) (h0:¬(sgn a b<0)) :
  Calls Tryz.prog 74 #[iv a b,iv c d,iv fl fh,iv tl th] w fun e w'=>e=retR (passR a b c d fl fh tl th)∧Below w.heap.size w w':=by
 have H0:=((((Ho.nil w).bx [.int .i64 a,.int .i64 b] 25 w.heap.size rfl).bx [.int .i64 c,.int .i64 d] 25 (w.heap.size+1) (by simp)).bx [.int .i64 fl,.int .i64 fh] 25 (w.heap.size+1+1) (by simp)).bx [.int .i64 tl,.int .i64 th] 25 (w.heap.size+1+1+1) (by simp);have O0:Bx (((((w.alloc (.cells (List.toArray [.int .i64 a,.int .i64 b]) 25)).alloc (.cells (List.toArray [.int .i64 c,.int .i64 d]) 25)).alloc (.cells (List.toArray [.int .i64 fl,.int .i64 fh]) 25)).alloc (.cells (List.toArray [.int .i64 tl,.int .i64 th]) 25)).alloc (.cells (List.toArray [.int .i64 0,.int .i64 0]) 25)) (w.heap.size+1+1+1+1) [.int .i64 0,.int .i64 0]:=Bx.new (by simp);have H0:=H0.alc (.cells (List.toArray [.int .i64 0,.int .i64 0]) 25);obtain ⟨s,hsg⟩:∃s,sgn a b=s:=⟨_,rfl⟩;have hs:¬(s<0):=hsg▸h0;have HS:=Lib.hid hsg;clear h0 hsg;obtain ⟨⟨rl,rh,re⟩,hr⟩:∃r,passR a b c d fl fh tl th=r:=⟨_,rfl⟩;have HR:=Lib.hid (show retR (Ivf.transR ⟨cutR a,cutR b,cutR c,cutR d,fl,fh,tl,th⟩) = .returned (.tuple #[iv rl rh,.int .i64 re]) from by rw [←passR,hr]);rw [hr];clear hr;go_enter Tryz.func74,Tryz.ntmps74
 go_wp2_with fail
 refine (sign_any a b _).mono ?_;rintro e w1 ⟨rfl,hb⟩;rw [HS.out];have HX:=(H0.call hb).drew;have OX:=(O0.kept hb).drew;clear hb H0 O0
 go_upto_region 4 with fail
 go_region_held3 (fun X=>(∀j,X.cell? ⟨w.heap.size,j,none⟩ = [.int .i64 a,.int .i64 b][j]?)∧(∀j,X.cell? ⟨w.heap.size+1,j,none⟩ = [.int .i64 c,.int .i64 d][j]?)∧(∀j,X.cell? ⟨w.heap.size+1+1,j,none⟩ = [.int .i64 fl,.int .i64 fh][j]?)∧(∀j,X.cell? ⟨w.heap.size+1+1+1,j,none⟩ = [.int .i64 tl,.int .i64 th][j]?)) (with_reducible first|exact ⟨(HX.at 3 rfl).c,(HX.at 2 rfl).c,(HX.at 1 rfl).c,(HX.at 0 rfl).c⟩|exact ⟨(HA.at 3 rfl).c,(HA.at 2 rfl).c,(HA.at 1 rfl).c,(HA.at 0 rfl).c⟩|exact ⟨(HB.at 3 rfl).c,(HB.at 2 rfl).c,(HB.at 1 rfl).c,(HB.at 0 rfl).c⟩|exact ⟨(HC.at 3 rfl).c,(HC.at 2 rfl).c,(HC.at 1 rfl).c,(HC.at 0 rfl).c⟩|exact ⟨(((HC.put (Nat.le_refl _)).put (Nat.le_refl _)).at 3 rfl).c,(((HC.put (Nat.le_refl _)).put (Nat.le_refl _)).at 2 rfl).c,(((HC.put (Nat.le_refl _)).put (Nat.le_refl _)).at 1 rfl).c,(((HC.put (Nat.le_refl _)).put (Nat.le_refl _)).at 0 rfl).c⟩)
  (first
   |(have hm:=hmarkB;go_at_call 104;refine (Ivf.trans_any ⟨cutR a,cutR b,cutR c,cutR d,fl,fh,tl,th⟩ _).mono ?_;rintro e wC ⟨rfl,hb⟩;rw [HR.out];have HC:=HB.call hb;have OC:=OB.kept hb;clear hb;have oc:=OC.c;have of:=OC.f;have ol:=OC.lt)
   |(have hm:=hmarkA;go_at_call 105;refine (cut_any c d _).mono ?_;rintro e wB ⟨rfl,hb⟩;have HB:=HA.call hb;have OB:=OA.kept hb;have hmarkB:wB=wB:=rfl)
   |(go_at_call 105;refine (cut_any a b _).mono ?_;rintro e wA ⟨rfl,hb⟩;have HA:=HX.call hb;have OA:=OX.kept hb;have hmarkA:wA=wA:=rfl))
 go_wp2_with fail
 refine bodyPost_box (b:=w.heap.size+1+1+1+1) (cs:=[.int .i64 rl,.int .i64 rh]) (v:=.tuple #[iv rl rh,.int .i64 re]) (by
  (with_reducible repeat (first|exact OC|apply Bx.put2))) (fun X hX=>by simp [results,Tryz.results74,go_sem,hX]) rfl ⟨rfl,((HC.put (i:=0) (u:=.int .i64 _) (Nat.le_refl _)).put (i:=1) (u:=.int .i64 _) (Nat.le_refl _)).below⟩
def passG (a b c d fl fh tl th:Int):R:=if sgn a b<0 then passR (-b) (-a) (-d) (-c) fl fh tl th else passR a b c d fl fh tl th
theorem passG_any (a b c d fl fh tl th:Int) (w:World) (hv2:vB c d=true) :
  Calls Tryz.prog 74 #[iv a b,iv c d,iv fl fh,iv tl th] w fun e w'=>e=retR (passG a b c d fl fh tl th)∧Below w.heap.size w w':=by
 by_cases hs:sgn a b<0
 ·rw [show passG a b c d fl fh tl th=passR (-b) (-a) (-d) (-c) fl fh tl th from if_pos hs]
  have hv:vB a b=true:=by
   cases hv:vB a b
   ·rw [show sgn a b=0 from if_neg (by rw [hv];decide)] at hs;exact absurd hs (by decide)
   ·rfl
  have h0:b<0:=by
   rw [show sgn a b=(if 0<a then 1 else if b<0 then -1 else 0) from if_pos hv] at hs;revert hs;split
   ·intro h;exact absurd h (by decide)
   ·split
    ·intro _;assumption
    ·intro h;exact absurd h (by decide)
  exact passN_any a b c d fl fh tl th w hv h0 hv2
 ·rw [show passG a b c d fl fh tl th=passR a b c d fl fh tl th from if_neg hs];exact passZ_any a b c d fl fh tl th w hs
end Go.Proofs.YtiecdgcdcpmgaaaGreat.Iv

/- Contracts of culetref31.index and culetref31.Valid. -/
namespace Go.Proofs.YtiecdgcdcpmgaaaGreat.Iv
open Go.RowKit
attribute [local go_sem] Oper.semAt_some
theorem ridx_any (a b:Int) (w:World) :
  Calls Tryz.prog 60 #[iv a b] w fun e w'=>e = .returned (.bool (vI a b))∧Below w.heap.size w w':=by
 have H0:=(Ho.nil w).bx [.int .i64 a,.int .i64 b] 25 w.heap.size rfl;cases h1:vB a b
 ·rw [show vI a b=false from by simp [vI,h1]];have E1:=Lib.hid h1;clear h1;go_enter Tryz.func60,Tryz.ntmps60
  go_wp2_with fail
  refine (rvalid_below a b _).mono ?_;rintro e w1 ⟨rfl,hb⟩;rw [E1.out];have H1:=H0.call hb;clear hb;have x1:=(H1.at 0 rfl).c
  go_wp2_with fail
  go_ret
  exact ⟨rfl,H1.below⟩
 ·have E1:=Lib.hid h1
  by_cases h2:16777216≤a
  ·rw [show vI a b=decide (b≤67108864) from by simp [vI,h1,h2]];clear h1;go_enter Tryz.func60,Tryz.ntmps60
   go_wp2_with fail
   refine (rvalid_below a b _).mono ?_;rintro e w1 ⟨rfl,hb⟩;rw [E1.out];have H1:=H0.call hb;clear hb;have x1:=(H1.at 0 rfl).c
   go_wp2_with fail
   go_ret
   exact ⟨rfl,H1.below⟩
  ·rw [show vI a b=false from by simp [vI,h2]];clear h1;go_enter Tryz.func60,Tryz.ntmps60
   go_wp2_with fail
   refine (rvalid_below a b _).mono ?_;rintro e w1 ⟨rfl,hb⟩;rw [E1.out];have H1:=H0.call hb;clear hb;have x1:=(H1.at 0 rfl).c
   go_wp2_with fail
   go_ret
   exact ⟨rfl,H1.below⟩
set_option maxRecDepth 100000 in
set_option maxHeartbeats 16000000 in
theorem rvbody_any {na da:Option Addr} {nc dc:Nat} {L:List D} {M:List (Int × Int)} {i0 i1:Int} (w:World) (hn:NAt w na L) (hp:PAt w da M) :
  Calls Tryz.prog 26 #[.agg #[.slice na L.length nc,.slice da M.length dc,.int .i64 i0,.int .i64 i1]] w fun e w'=>e = .returned (.bool (vBody L M i0 i1))∧Below w.heap.size w w':=by
 have H0:=(Ho.nil w).bx [.slice na L.length nc,.slice da M.length dc,.int .i64 i0,.int .i64 i1] 37 w.heap.size rfl;have HN:=Lib.hid hn;have HP:=Lib.hid hp;clear hn hp
 by_cases h1:(L.length:Int)<4
 ·rw [show vBody L M i0 i1=false from by simp [vBody];omega];go_enter Tryz.func26,Tryz.ntmps26
  go_wp2_with fail
  go_ret
  exact ⟨rfl,H0.below⟩
 by_cases h2:100<(L.length:Int)
 ·rw [show vBody L M i0 i1=false from by simp [vBody];omega];go_enter Tryz.func26,Tryz.ntmps26
  go_wp2_with fail
  go_ret
  exact ⟨rfl,H0.below⟩
 by_cases h3:(M.length:Int)=(L.length:Int)
 ·have h3':M.length=L.length:=by omega
  rw [h3'] at H0 ⊢;clear h3;cases h4:vI i0 i1
  ·rw [show vBody L M i0 i1=false from by simp [vBody,h4]];have E4:=Lib.hid h4;clear h4;go_enter Tryz.func26,Tryz.ntmps26
   go_wp2_with fail
   refine (ridx_any i0 i1 _).mono ?_;rintro e w1 ⟨rfl,hb⟩;rw [E4.out];have H1:=H0.call hb;clear hb;have x1:=(H1.at 0 rfl).c
   go_wp2_with fail
   go_ret
   exact ⟨rfl,H1.below⟩
  ·have E4:=Lib.hid h4;have EV:=Lib.hid (show vBody L M i0 i1=(L.all vD && M.all fun p=>vB p.1 p.2) from by simp only [vBody,h4,Bool.true_and];rw [decide_eq_true (by omega),Bool.true_and]);have HM:=Lib.hid h3';clear h4 h3';rw [EV.out];go_enter Tryz.func26,Tryz.ntmps26
   go_wp2_with fail
   refine (ridx_any i0 i1 _).mono ?_;rintro e w1 ⟨rfl,hb⟩;rw [E4.out];have H1:=H0.call hb;have HB1:=Lib.hid hb;clear hb;have x1:=(H1.at 0 rfl).c;have z1:=(H1.at 0 rfl).lt
   go_wp2_with fail
   go_loopw [3] (fun i wr=>∃k:Nat,k≤L.length∧i = .int .i64 k∧(∀j x,j<k→L[j]? = some x→vD x=true)∧(∀j x,j<k→M[j]? = some x→vB x.1 x.2=true)∧Below w1.heap.size w1 wr) (fun i _=>L.length - (intOf i).toNat)
   case atStart=>exact ⟨0,Nat.zero_le _,rfl,fun j x h=>absurd h (by omega),fun j x h=>absurd h (by omega),Below.refl _ _⟩
   case round=>
    obtain ⟨k,hk,rfl,hno,hno2,hbel⟩:=hrel;have Hr:=Lib.hid (H1.call hbel);have HNO:=Lib.hid hno;have HNO2:=Lib.hid hno2;have HBL:=Lib.hid hbel;clear hno hno2 hbel x1 z1;have x2:=(Hr.out.at 0 rfl).c;have z2:=(Hr.out.at 0 rfl).lt;have i15:IntKind.i64.wrap ((k:Int)+1)=(k:Int)+1:=IntWalk.i64_in _ (by omega);have hw0:Below w.heap.size w wr:=Hr.out.below;have HW0:=Lib.hid hw0;clear hw0;rcases Nat.lt_or_ge k L.length with hlt|hge
    ·obtain ⟨n,hx⟩:∃x,L[k]? = some x:=⟨_,List.getElem?_eq_getElem hlt⟩;obtain ⟨⟨p,q⟩,hy⟩:∃x,M[k]? = some x:=⟨_,List.getElem?_eq_getElem (by rw [HM.out];exact hlt)⟩;have hwn:NAt wr na L:=HN.out.kept HW0.out;have hwp:PAt wr da M:=HP.out.kept HW0.out;obtain ⟨nb,no,rfl,nlt,hnc⟩:=hwn (by omega);obtain ⟨pb,po,rfl,plt,hpc⟩:=hwp (by rw [HM.out];omega);have hn:=hnc k n hx;have hp:=hpc k (p,q) hy;have HX:=Lib.hid hx;have HY:=Lib.hid hy;have HP2:=Lib.hid (Rs.mk plt hp:Rs wr pb (po+k*2) [.int .i64 p,.int .i64 q]);have hn0:wr.cell? ⟨nb,no+k*6,none⟩=some (.int .i64 n.a):=hn 0 (by decide);have hn1:wr.cell? ⟨nb,no+k*6+1,none⟩=some (.int .i64 n.b):=hn 1 (by decide);have hn2:wr.cell? ⟨nb,no+k*6+2,none⟩=some (.int .i64 n.c):=hn 2 (by decide);have hn3:wr.cell? ⟨nb,no+k*6+3,none⟩=some (.int .i64 n.d):=hn 3 (by decide);have hn4:wr.cell? ⟨nb,no+k*6+4,none⟩=some (.int .i64 n.e):=hn 4 (by decide);have hn5:wr.cell? ⟨nb,no+k*6+5,none⟩=some (.int .i64 n.f):=hn 5 (by decide)
     have hlt':(k:Int)<(L.length:Int):=by omega
     have hge':(0:Int)≤(k:Int):=by omega
     clear hnc hpc hn hp hx hy;cases hv1:vD n
     ·have EX:=Lib.hid hv1;clear hv1
      go_wp2_with fail
      refine (rdvalid_any n _).mono ?_;rintro e w3 ⟨rfl,hb3⟩;rw [EX.out];have H3:=Hr.out.call hb3;clear hb3;have x3:=(H3.at 0 rfl).c;have z3:=(H3.at 0 rfl).lt;clear hn0 hn1 hn2 hn3 hn4 hn5 x2 z2
      go_wp2_with fail
      go_ret
      refine ⟨?_,H3.below⟩;rw [show L.all vD=false from by rw [List.all_eq_false];exact ⟨n,List.mem_of_getElem? HX.out,by rw [EX.out];simp⟩];rfl
     ·have EX:=Lib.hid hv1;clear hv1
      go_wp2_with fail
      refine (rdvalid_any n _).mono ?_;rintro e w3 ⟨rfl,hb3⟩;rw [EX.out];have H3:=Hr.out.call hb3;have P3:=HP2.out.kept hb3;have HB3:=Lib.hid (hb3:Below wr.heap.size wr w3);clear hb3;have x3:=(H3.at 0 rfl).c;have z3:=(H3.at 0 rfl).lt;have c0:w3.cell? ⟨pb,po+k*2,none⟩=some (.int .i64 p):=P3.c 0 (by simp);have c1:w3.cell? ⟨pb,po+k*2+1,none⟩=some (.int .i64 q):=P3.c 1 (by simp);clear hn0 hn1 hn2 hn3 hn4 hn5 x2 z2 P3;cases hv2:vB p q
      ·have EY:=Lib.hid hv2;clear hv2
       go_wp2_with fail
       refine (rvalid_below p q _).mono ?_;rintro e w4 ⟨rfl,hb4⟩;rw [EY.out];have H4:=H3.call hb4;clear hb4 c0 c1 x3 z3;have x4:=(H4.at 0 rfl).c;have z4:=(H4.at 0 rfl).lt
       go_wp2_with fail
       go_ret
       refine ⟨?_,H4.below⟩;rw [show (M.all fun p=>vB p.1 p.2)=false from by rw [List.all_eq_false];exact ⟨(p,q),List.mem_of_getElem? HY.out,by simp only [EY.out];simp⟩,Bool.and_false];rfl
      ·have EY:=Lib.hid hv2;clear hv2
       go_wp2_with fail
       refine (rvalid_below p q _).mono ?_;rintro e w4 ⟨rfl,hb4⟩;rw [EY.out];have H4:=H3.call hb4;have HB4:=Lib.hid hb4;clear hb4 c0 c1 x3 z3;have x4:=(H4.at 0 rfl).c;have z4:=(H4.at 0 rfl).lt
       go_wp2_with fail
       go_roundw
       case rel=>
        refine ⟨k+1,hlt,by simp,fun j y hj hy=>?_,fun j y hj hy=>?_,HBL.out.trans ((HB3.out.trans (HB4.out.mono HB3.out.size)).mono HBL.out.size)⟩
        ·rcases Nat.lt_or_ge j k with h'|h'
         ·exact HNO.out j y h' hy
         ·obtain rfl:j=k:=by omega
          rw [HX.out] at hy;cases hy;exact EX.out
        ·rcases Nat.lt_or_ge j k with h'|h'
         ·exact HNO2.out j y h' hy
         ·obtain rfl:j=k:=by omega
          rw [HY.out] at hy;cases hy;exact EY.out
       case measure=>simp only [intOf];omega
    ·obtain rfl:k=L.length:=by omega
     go_wp2_with fail
     go_ret
     refine ⟨?_,Hr.out.below⟩
     rw [show L.all vD=true from by
      rw [List.all_eq_true];intro x hx;obtain ⟨j,hj⟩:=List.getElem?_of_mem hx
      exact HNO.out j x (List.getElem?_eq_some_iff.1 hj).1 hj,show (M.all fun p=>vB p.1 p.2)=true from by
      rw [List.all_eq_true];intro x hx;obtain ⟨j,hj⟩:=List.getElem?_of_mem hx
      exact HNO2.out j x (by have:=(List.getElem?_eq_some_iff.1 hj).1;rwa [HM.out] at this) hj]
     rfl
 ·rw [show vBody L M i0 i1=false from by simp [vBody];omega];go_enter Tryz.func26,Tryz.ntmps26
  go_wp2_with fail
  go_ret
  exact ⟨rfl,H0.below⟩
end Go.Proofs.YtiecdgcdcpmgaaaGreat.Iv

/- Plain facts: numbers of the boxes of a ray and of a body, and where the ray meets a face. -/
namespace Go.Proofs.YtiecdgcdcpmgaaaGreat.Iv
theorem min4_le (x y z t:Int):min4 x y z t≤x∧min4 x y z t≤y∧min4 x y z t≤z∧min4 x y z t≤t:=by unfold min4;omega
theorem le_max4 (x y z t:Int):x≤max4 x y z t∧y≤max4 x y z t∧z≤max4 x y z t∧t≤max4 x y z t:=by unfold max4;omega
theorem min4_sc {x y z t C:Int} (h:0≤C):min4 x y z t*C≤min4 (x*C) (y*C) (z*C) (t*C):=by
 obtain ⟨h1,h2,h3,h4⟩:=min4_le x y z t;have k1:=Int.mul_le_mul_of_nonneg_right h1 h;have k2:=Int.mul_le_mul_of_nonneg_right h2 h;have k3:=Int.mul_le_mul_of_nonneg_right h3 h;have k4:=Int.mul_le_mul_of_nonneg_right h4 h;generalize min4 x y z t*C=m at *;unfold min4;omega
theorem max4_sc {x y z t C:Int} (h:0≤C):max4 (x*C) (y*C) (z*C) (t*C)≤max4 x y z t*C:=by
 obtain ⟨h1,h2,h3,h4⟩:=le_max4 x y z t;have k1:=Int.mul_le_mul_of_nonneg_right h1 h;have k2:=Int.mul_le_mul_of_nonneg_right h2 h;have k3:=Int.mul_le_mul_of_nonneg_right h3 h;have k4:=Int.mul_le_mul_of_nonneg_right h4 h;generalize max4 x y z t*C=m at *;unfold max4;omega
theorem mul_v {a b c d:Int} (h:(mulR a b c d).e=0):(mulR a b c d).lo=fl (min4 (a*c) (a*d) (b*c) (b*d))∧(mulR a b c d).hi=ce (max4 (a*c) (a*d) (b*c) (b*d))∧vB a b=true∧vB c d=true:=by
 unfold mulR at h ⊢;split at h
 ·rename_i hv;rw [if_pos hv];unfold withinR at h ⊢;split at h
  ·cases h
  ·rename_i hw;rw [if_neg hw];exact ⟨rfl,rfl,hv.1,hv.2⟩
 ·cases h
theorem mulQ {a b c d A Y C:Int} (h:(mulR a b c d).e=0) (h1:a≤A) (h2:A≤b) (hC:0≤C) (h3:c*C≤Y) (h4:Y≤d*C) :
  (mulR a b c d).lo*16777216*C≤A*Y∧A*Y≤(mulR a b c d).hi*16777216*C:=by
 obtain ⟨e1,e2,_,_⟩:=mul_v h;have k:=mul_in h1 h2 h3 h4;rw [←Int.mul_assoc,←Int.mul_assoc,←Int.mul_assoc,←Int.mul_assoc] at k;have m1:=min4_sc (x:=a*c) (y:=a*d) (z:=b*c) (t:=b*d) hC;have m2:=max4_sc (x:=a*c) (y:=a*d) (z:=b*c) (t:=b*d) hC;have f1:=Int.mul_le_mul_of_nonneg_right (fl_le (min4 (a*c) (a*d) (b*c) (b*d))) hC;have f2:=Int.mul_le_mul_of_nonneg_right (ce_ge (max4 (a*c) (a*d) (b*c) (b*d))) hC;rw [e1,e2];exact ⟨Int.le_trans f1 (Int.le_trans m1 k.1),Int.le_trans k.2 (Int.le_trans m2 f2)⟩
theorem comb_in {r s t:R} (h:(comb r s t).e=0):r.e=0∧s.e=0∧t.e=0∧(comb r s t).d=⟨r.lo,r.hi,s.lo,s.hi,t.lo,t.hi⟩:=by
 unfold comb at h ⊢;split at h
 ·rename_i h1;split at h
  ·rename_i h2;split at h
   ·rename_i h3;rw [if_pos h1,if_pos h2,if_pos h3];exact ⟨h1,h2,h3,rfl⟩
   ·rename_i h3;exact absurd h h3
  ·rename_i h2;exact absurd h h2
 ·rename_i h1;exact absurd h h1
structure In3 (s:D) (X Y Z C:Int):Prop where
 x0:s.a*C≤X
 x1:X≤s.b*C
 y0:s.c*C≤Y
 y1:Y≤s.d*C
 z0:s.e*C≤Z
 z1:Z≤s.f*C
theorem In3.low {s:D} (h:vD s=true):In3 s s.a s.c s.e 1:=by
 have hv:vB s.a s.b=true∧vB s.c s.d=true∧vB s.e s.f=true:=by simpa [vD] using h
 have v1:=vB_iff.1 hv.1;have v2:=vB_iff.1 hv.2.1;have v3:=vB_iff.1 hv.2.2;constructor<;>omega
theorem dot_v {s t:D} (h:(dotR s t).e=0):vD s=true∧vD t=true∧(mulR s.a s.b t.a t.b).e=0∧(mulR s.c s.d t.c t.d).e=0∧(mulR s.e s.f t.e t.f).e=0 ∧
  (dotR s t).lo=(mulR s.a s.b t.a t.b).lo+(mulR s.c s.d t.c t.d).lo+(mulR s.e s.f t.e t.f).lo∧(dotR s t).hi=(mulR s.a s.b t.a t.b).hi+(mulR s.c s.d t.c t.d).hi+(mulR s.e s.f t.e t.f).hi:=by
 unfold dotR at h ⊢;split at h
 ·rename_i hv;rw [if_pos hv];unfold onlyR at h ⊢;split at h
  ·rename_i h0;rw [if_pos h0];dsimp only;unfold sumG at h0 ⊢;obtain ⟨g1,g2,g3⟩:=goOn_in h0;obtain ⟨g4,g5,g6⟩:=goOn_in g1;unfold prodD at g4;obtain ⟨c1,c2,c3,c4⟩:=comb_in g4;rw [g3,g6];rw [g6] at g2;unfold prodD at g2 g5 ⊢;rw [c4] at g2 g5 ⊢;dsimp only at g2 g5 ⊢;obtain ⟨a1,_⟩:=add_v g5;rw [a1] at g2 ⊢;dsimp only at g2 ⊢;obtain ⟨a2,_⟩:=add_v g2;rw [a2];exact ⟨hv.1,hv.2,c1,c2,c3,rfl,rfl⟩
  ·rename_i h0;exact absurd h h0
 ·cases h
theorem dotQ {s t:D} {x y z X Y Z C:Int} (h:(dotR s t).e=0) (hC:0≤C) (hs:In3 s x y z 1) (ht:In3 t X Y Z C) :
  (dotR s t).lo*16777216*C≤x*X+y*Y+z*Z∧x*X+y*Y+z*Z≤(dotR s t).hi*16777216*C:=by
 obtain ⟨_,_,h1,h2,h3,e1,e2⟩:=dot_v h;obtain ⟨s1,s2,s3,s4,s5,s6⟩:=hs;have m1:=mulQ h1 (A:=x) (by omega) (by omega) hC ht.x0 ht.x1;have m2:=mulQ h2 (A:=y) (by omega) (by omega) hC ht.y0 ht.y1;have m3:=mulQ h3 (A:=z) (by omega) (by omega) hC ht.z0 ht.z1;rw [e1,e2];simp only [Int.add_mul];omega
end Go.Proofs.YtiecdgcdcpmgaaaGreat.Iv

/- Plain facts: a ray that is contained in a box hits the face that the box hits, at lengths that are contained in those of the box. -/
namespace Go.Proofs.YtiecdgcdcpmgaaaGreat.Iv
theorem subD_refl {s:D} (h:vD s=true):SubD s s:=by
 have hv:vB s.a s.b=true∧vB s.c s.d=true∧vB s.e s.f=true:=by simpa [vD] using h
 exact ⟨sub_refl hv.1,sub_refl hv.2.1,sub_refl hv.2.2⟩
end Go.Proofs.YtiecdgcdcpmgaaaGreat.Iv
