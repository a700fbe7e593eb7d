/- Texts PTh1, PPo, PCe3. -/
import Derived.Test.YtiecdgcdcpmgaaaGreatM06
import Derived.Test.YtiecdgcdcpmgaaaGreatM11
import Derived.Test.YtiecdgcdcpmgaaaGreatM14
import Derived.Test.YtiecdgcdcpmgaaaGreatM16
import Derived.Test.YtiecdgcdcpmgaaaGreatM15
import Derived.Test.YtiecdgcdcpmgaaaGreatM01
import Derived.LoopNIn
import Derived.LoopIn
import Derived.Shelf.RegionOpen

/- The iterator over the faces that a ray can hit. -/
namespace Go.Proofs.YtiecdgcdcpmgaaaGreat.Iv
open Go.RowKit
attribute [local go_sem] Oper.semAt_some
def NAt (W:World) (ao:Option Addr) (L:List D):Prop:=0<L.length→∃b off,ao=some ⟨b,off,none⟩∧b<W.heap.size∧∀i (s:D),L[i]? = some s →
 ∀j,j<6→W.cell? ⟨b,off+i*6+j,none⟩=([.int .i64 s.a,.int .i64 s.b,.int .i64 s.c,.int .i64 s.d,.int .i64 s.e,.int .i64 s.f]:List Value)[j]?
def PAt (W:World) (ao:Option Addr) (L:List (Int × Int)):Prop:=0<L.length→∃b off,ao=some ⟨b,off,none⟩∧b<W.heap.size∧∀i (s:Int × Int),L[i]? = some s →
 ∀j,j<2→W.cell? ⟨b,off+i*2+j,none⟩=([.int .i64 s.1,.int .i64 s.2]:List Value)[j]?
theorem NAt.kept {W W':World} {ao:Option Addr} {L:List D} (h:NAt W ao L) (hb:Below W.heap.size W W'):NAt W' ao L:=by
 intro hl;obtain ⟨b,off,ha,hlt,hc⟩:=h hl;exact ⟨b,off,ha,Nat.lt_of_lt_of_le hlt hb.size,fun i s hs j hj=>(hb.cell (p:=⟨b,_,none⟩) hlt).trans (hc i s hs j hj)⟩
theorem PAt.kept {W W':World} {ao:Option Addr} {L:List (Int × Int)} (h:PAt W ao L) (hb:Below W.heap.size W W'):PAt W' ao L:=by
 intro hl;obtain ⟨b,off,ha,hlt,hc⟩:=h hl;exact ⟨b,off,ha,Nat.lt_of_lt_of_le hlt hb.size,fun i s hs j hj=>(hb.cell (p:=⟨b,_,none⟩) hlt).trans (hc i s hs j hj)⟩
theorem up_lt {a v:D} {l:List (D × Int × Int)} {k:Nat} (h:k<l.length):(upR a v l k).length<l.length:=
 Nat.lt_of_le_of_lt (Nat.le_trans (up_len a v _ 0) (by rw [List.length_take];omega:(l.take k).length≤k)) h
structure Rs (W:World) (b o:Nat) (cs:List Value):Prop where
 lt:b<W.heap.size
 c:∀j,j<cs.length→W.cell? ⟨b,o+j,none⟩=cs[j]?
theorem Rs.kept {W W':World} {b o:Nat} {cs:List Value} (h:Rs W b o cs) (hb:Below W.heap.size W W'):Rs W' b o cs:=
 ⟨Nat.lt_of_lt_of_le h.lt hb.size,fun j hj=>(hb.cell (p:=⟨b,_,none⟩) h.lt).trans (h.c j hj)⟩
theorem Rs.alc {W:World} {b o:Nat} {cs:List Value} (h:Rs W b o cs) (x:Obj):Rs (W.alloc x) b o cs:=h.kept ((Below.refl _ _).alloc (Nat.le_refl _) x)
theorem Rs.drew {W:World} {b o:Nat} {cs:List Value} (h:Rs W b o cs):Rs W.drew b o cs:=h.kept (Below.refl _ _).drew
theorem Rs.set {W:World} {b o c i:Nat} {u:Value} {cs:List Value} (h:Rs W b o cs) (ne:¬(b=c)):Rs (W.setCell ⟨c,i,none⟩ u) b o cs:=
 ⟨by simpa using h.lt,fun j hj=>(World.cell?_setCell_other _ _ _ _ (fun e=>ne (by injection e with e;exact e.symm))).trans (h.c j hj)⟩
theorem Rd.alc {W:World} {b:Nat} {cs:List Value} (h:Rd W b cs) (x:Obj):Rd (W.alloc x) b cs:=h.kept ((Below.refl _ _).alloc (Nat.le_refl _) x)
theorem Rd.drew {W:World} {b:Nat} {cs:List Value} (h:Rd W b cs):Rd W.drew b cs:=h.kept (Below.refl _ _).drew
theorem goOn_in {e:Int} {r:R} (h:(goOn e r).e=0):e=0∧r.e=0∧goOn e r=r:=by
 have:=goOn_e h;subst this;rw [goOn0] at h ⊢;exact ⟨rfl,h,rfl⟩
theorem add_in {a b c d:Int} (h:(addR a b c d).e=0):vB (addR a b c d).lo (addR a b c d).hi=true:=by
 obtain ⟨e,v1,v2,b1,b2⟩:=add_v h;rw [e];have h1:=vB_iff.1 v1;have h2:=vB_iff.1 v2;exact vB_iff.2 ⟨b1,by dsimp only;omega,b2⟩
theorem dot_in {s t:D} (h:(dotR s t).e=0):vB (dotR s t).lo (dotR s t).hi=true:=by
 unfold dotR at h ⊢;split at h
 ·rename_i hv;rw [if_pos hv];unfold onlyR at h ⊢;split at h
  ·rename_i h0;rw [if_pos h0];dsimp only;unfold sumG at h0 ⊢;obtain ⟨_,h1,h2⟩:=goOn_in h0;rw [h2];exact add_in h1
  ·exact absurd h (by assumption)
 ·cases h
structure Wg (na:Option Addr) (nc dc k n po b0 pb cb:Nat) (i0 i1 p q al ah gl gh ge:Int) (da:Option Addr) (w0 w:World) (l0 l1 l2 l3 l4 l5 l6 l7 l8 l9 l10 l11 l12:Bool) (v0 v1 v2 v3 v4 v5 v6 v7 v8 v9 v10 v12:Value) (b10:Nat):Prop where
 g:Ho w0 w (cb+1) [(cb,[.int .i64 al,.int .i64 ah])]
 sz:(cb+1)≤w.heap.size
 mn:(cb+1)≤(cb+1)
 u0:Rd w b0 [.slice na n nc,.slice (some ⟨pb,po,none⟩) n dc,.int .i64 i0,.int .i64 i1]
 un0:b0<(cb+1)
 u1:Rs w pb (po+k*2) [.int .i64 p,.int .i64 q]
 un1:pb<(cb+1)
 ev0:l0=true→v0 = .pointer (some ⟨b0,1,none⟩)
 ev1:l1=true→v1 = .slice (some ⟨pb,po,none⟩) n dc
 ev2:l2=true→v2 = .int .i64 k
 ev3:l3=true→v3 = .pointer (some ⟨pb,po+k*2,none⟩)
 ev4:l4=true→v4=(iv p q)
 ev5:l5=true→v5=(iv al ah)
 ev6:l6=true→v6 = .tuple #[(iv gl gh),.int .i64 ge]
 ev7:l7=true→v7 = .tuple #[(iv gl gh),.int .i64 ge]
 ev8:l8=true→v8=(iv gl gh)
 ev9:l9=true→v9 = .int .i64 ge
 ev10:l10=true→v10 = .pointer (some ⟨b10,0,none⟩)
 ev12:l12=true→v12 = .int .i64 ge
 g10:l10=true→(cb+1)≤b10
 t10:l10=true→b10<w.heap.size
 o10:l11=true→l10=true
 z10:l10=true→l11=false→Bx w b10 [.int .i64 0,.int .i64 0]
 s10:l11=true→Bx w b10 [.int .i64 gl,.int .i64 gh]
theorem Wg.kept {na:Option Addr} {nc dc k n po b0 pb cb:Nat} {i0 i1 p q al ah gl gh ge:Int} {da:Option Addr} {w0 w:World} {l0 l1 l2 l3 l4 l5 l6 l7 l8 l9 l10 l11 l12:Bool} {v0 v1 v2 v3 v4 v5 v6 v7 v8 v9 v10 v12:Value} {b10:Nat} {w':World} (h:Wg na nc dc k n po b0 pb cb i0 i1 p q al ah gl gh ge da w0 w l0 l1 l2 l3 l4 l5 l6 l7 l8 l9 l10 l11 l12 v0 v1 v2 v3 v4 v5 v6 v7 v8 v9 v10 v12 b10) (hb:Below w.heap.size w w'):Wg na nc dc k n po b0 pb cb i0 i1 p q al ah gl gh ge da w0 w' l0 l1 l2 l3 l4 l5 l6 l7 l8 l9 l10 l11 l12 v0 v1 v2 v3 v4 v5 v6 v7 v8 v9 v10 v12 b10:=
 {h with g:=h.g.call hb,sz:=Nat.le_trans h.sz hb.size,u0:=h.u0.kept hb,u1:=h.u1.kept hb,t10:=fun p=>Nat.lt_of_lt_of_le (h.t10 p) hb.size,z10:=fun p q=>(h.z10 p q).kept hb,s10:=fun p=>(h.s10 p).kept hb}
def Wg.I (na:Option Addr) (nc dc k n po b0 pb cb:Nat) (i0 i1 p q al ah gl gh ge:Int) (da:Option Addr) (w0:World):Act→Array Bool→Act→World→Prop:=fun aO LX aX w=>∃(l0 l1 l2 l3 l4 l5 l6 l7 l8 l9 l10 l11 l12:Bool) (v0 v1 v2 v3 v4 v5 v6 v7 v8 v9 v10 v12:Value) (b10:Nat),LX=#[l0,l1,l2,l3,l4,l5,l6,l7,l8,l9,l10,l11,l12]∧aX=((((((((((((aO.put (some 45) v0).put (some 46) v1).put (some 47) v2).put (some 48) v3).put (some 49) v4).put (some 50) v5).put (some 51) v6).put (some 44) v7).put (some 52) v8).put (some 53) v9).put (some 10) v10).put (some 8) v12)∧Wg na nc dc k n po b0 pb cb i0 i1 p q al ah gl gh ge da w0 w l0 l1 l2 l3 l4 l5 l6 l7 l8 l9 l10 l11 l12 v0 v1 v2 v3 v4 v5 v6 v7 v8 v9 v10 v12 b10
set_option maxRecDepth 100000 in
set_option maxHeartbeats 16000000 in
theorem ways1_any {na da:Option Addr} {nc dc:Nat} {l:List (D × Int × Int)} {i0 i1:Int} {a v:D} (I:Int→List W4→World→Prop) (b0 b1 b2 fb yl:Nat) (Bk:World→Prop)
  (hrd:∀e xs W,I e xs W→Rd W b0 [.slice na l.length nc,.slice da l.length dc,.int .i64 i0,.int .i64 i1] ∧
   Rd W b1 [.int .i64 a.a,.int .i64 a.b,.int .i64 a.c,.int .i64 a.d,.int .i64 a.e,.int .i64 a.f,.int .i64 v.a,.int .i64 v.b,.int .i64 v.c,.int .i64 v.d,.int .i64 v.e,.int .i64 v.f] ∧
   Rd W b2 [.pointer (some ⟨fb,0,none⟩)]∧NAt W na (l.map (·.1))∧PAt W da (l.map (·.2))∧Bx W fb [.int .i64 e])
  (hkp:∀e xs W W',I e xs W→Below W.heap.size W W'→I e xs W')
  (hst:∀xs W e,I 0 xs W→I e xs (W.setCell ⟨fb,0,none⟩ (.int .i64 e)))
  (hbk:∀W W',Bk W→KeepsOthers W W'→Bk W')
  (hY:∀xs x W,I 0 xs W→Bk W→xs.length<l.length→YieldAt Fence.wide 0 Tryz.prog yl #[.agg (wcells x).toArray] W fun e W'=>e = .returned (.bool true)∧I 0 (xs ++ [x]) W'∧Bk W')
  (hl6:l.length≤1000000) (W:World) (h0:I 0 [] W) (hb0:Bk W) :
  CallsIn Fence.wide 0 Tryz.prog 120 #[.func (.yield yl) #[] #[],.pointer (some ⟨b0,0,none⟩),.pointer (some ⟨b1,0,none⟩),.pointer (some ⟨b2,0,none⟩)] W fun e W'=>
   (∃u,e = .returned u)∧(∃xs,I (waysR a v 0 l).e xs W'∧((waysR a v 0 l).e=0→xs=(waysR a v 0 l).l))∧Bk W':=by
 refine callsIn_of_wp Tryz.func120 rfl trivial (wpIn_wide.2 ?_) rfl;simp only [Tryz.ntmps120,List.size_toArray,List.length_cons,List.length_nil,Nat.reduceAdd,Nat.reduceSub,Array.replicate_succ,Array.replicate_zero,List.push_toArray,List.append_toArray,List.nil_append,List.cons_append];obtain ⟨r0,r1,r2,rn,rp,rf⟩:=hrd _ _ _ h0;have l0:=r0.lt;have c0:=r0.c
 go_wp2
 go_loopw [15] (fun i wr=>∃k:Nat,k≤l.length∧i = .int .i64 k∧noE a v l k∧I 0 (upR a v l k) wr∧Bk wr) (fun i _=>l.length - (intOf i).toNat)
 case atStart=>exact ⟨0,Nat.zero_le _,rfl,fun i x h=>absurd h (by omega),h0,hb0⟩
 case round=>
  obtain ⟨k,hk,rfl,hno,hI,hB⟩:=hrel;clear r0 r1 r2 rn rp rf l0 c0;obtain ⟨r0,r1,r2,rn,rp,rf⟩:=hrd _ _ _ hI;rcases Nat.lt_or_ge k l.length with hlt|hge
  ·obtain ⟨n,p,q,hx⟩:∃n p q,l[k]? = some (n,p,q):=⟨_,_,_,List.getElem?_eq_getElem hlt⟩;obtain ⟨nb,no,hna,hnb,hN⟩:=rn (by rw [List.length_map];omega);obtain ⟨pb,po,hpa,hpb,hP⟩:=rp (by rw [List.length_map];omega);have hn:=hN k n (by rw [List.getElem?_map,hx];rfl);have hp:=hP k (p,q) (by rw [List.getElem?_map,hx];rfl);subst hna hpa;have hn0:wr.cell? ⟨nb,no+k*6,none⟩=some (.int .i64 n.a):=hn 0 (by decide);have hn1:wr.cell? ⟨nb,no+k*6+1,none⟩=some (.int .i64 n.b):=hn 1 (by decide);have hn2:wr.cell? ⟨nb,no+k*6+2,none⟩=some (.int .i64 n.c):=hn 2 (by decide);have hn3:wr.cell? ⟨nb,no+k*6+3,none⟩=some (.int .i64 n.d):=hn 3 (by decide);have hn4:wr.cell? ⟨nb,no+k*6+4,none⟩=some (.int .i64 n.e):=hn 4 (by decide);have hn5:wr.cell? ⟨nb,no+k*6+5,none⟩=some (.int .i64 n.f):=hn 5 (by decide);have l1:=r1.lt;have c1:=r1.c
   have hlt':(k:Int)<(l.length:Int):=by omega
   have h1:¬(b1=wr.heap.size):=Nat.ne_of_lt l1;have R1:=Lib.hid r1;have R0:=Lib.hid r0;have R2:=Lib.hid r2;have RF:=Lib.hid rf;have RP:=Lib.hid hp;have HX:=Lib.hid hx;clear r0 r1 r2 rf hp rn rp hn hN hP hx
   go_wp2_with fail
   refine (ddot_any n v _).mono ?_;rintro r w1 ⟨rfl,hb⟩;obtain ⟨⟨cl,ch,ce⟩,hc⟩:∃c,dotR n v=c:=⟨_,rfl⟩;rw [hc];have HC:=Lib.hid hc;clear hc;have I1:=hkp _ _ _ _ (hkp _ _ _ _ hI ((Below.refl _ _).alloc (Nat.le_refl _) _)) hb;have K1:=hbk _ _ (hbk _ _ hB (KeepsOthers.alloc _ _)) (keeps_below hb);have nB1:Bx w1 wr.heap.size [.int .i64 n.a,.int .i64 n.b,.int .i64 n.c,.int .i64 n.d,.int .i64 n.e,.int .i64 n.f]:=(Bx.new rfl).kept hb;have hz1:=hb.size;simp at hz1;clear hn0 hn1 hn2 hn3 hn4 hn5 l1 c1 h1 hb R0 R1 R2 RF RP
   by_cases z1:ce=0
   ·subst z1;obtain ⟨r0,r1,r2,rn,rp,rf⟩:=hrd _ _ _ I1;have l1:=r1.lt;have c1:=r1.c;have h1:¬(b1=w1.heap.size):=Nat.ne_of_lt l1;have hn1:=nB1.c;have hl1:=nB1.lt;have h2:¬(wr.heap.size=w1.heap.size):=Nat.ne_of_lt nB1.lt;clear r0 r1 r2 rn rp rf
    go_wp2_with fail
    refine (ddot_any n a _).mono ?_;rintro r w2 ⟨rfl,hb⟩;obtain ⟨⟨al,ah,ae⟩,hc⟩:∃c,dotR n a=c:=⟨_,rfl⟩;rw [hc];have HA:=Lib.hid hc;clear hc;have I2:=hkp _ _ _ _ (hkp _ _ _ _ I1 ((Below.refl _ _).alloc (Nat.le_refl _) _)) hb;have K2:=hbk _ _ (hbk _ _ K1 (KeepsOthers.alloc _ _)) (keeps_below hb);have cB2:Bx w2 w1.heap.size [.int .i64 cl,.int .i64 ch]:=(Bx.new rfl).kept hb;have hz2:=hb.size;simp at hz2;clear l1 c1 h1 hn1 hl1 h2 hb nB1
    by_cases z2:ae=0
    ·subst z2;obtain ⟨r0,r1,r2,rn,rp,rf⟩:=hrd _ _ _ I2;have H2:Ho w2 (w2.alloc (.cells (List.toArray [.int .i64 al,.int .i64 ah]) 25)) (w2.heap.size+1) [(w2.heap.size,[.int .i64 al,.int .i64 ah])]:=(Ho.nil w2).bx [.int .i64 al,.int .i64 ah] 25 w2.heap.size rfl;obtain ⟨pb',po',hpa,hpb,hP⟩:=rp (by rw [List.length_map];omega)
     obtain ⟨rfl,rfl⟩:pb=pb'∧po=po':=by cases hpa;exact ⟨rfl,rfl⟩
     have R0:=Lib.hid r0;have RS:=Lib.hid (Rs.mk hpb (hP k (p,q) (by rw [List.getElem?_map,HX.out];rfl)):Rs w2 pb (po+k*2) [.int .i64 p,.int .i64 q]);have l0:=r0.lt;clear r0 r1 r2 rn rp rf hP hpa;obtain ⟨⟨gl,gh,ge⟩,hg⟩:∃r,subR p q al ah=r:=⟨_,rfl⟩;have HG:=Lib.hid hg;clear hg
     go_upto_region 9 with fail
     refine region_sets (Wg.I (some ⟨nb,no,none⟩) nc dc k l.length po b0 pb w2.heap.size i0 i1 p q al ah gl gh ge (some ⟨pb,po,none⟩) w2) (by kernel_rfl) ?_ ?_ ?_
     ·refine ⟨false,false,false,false,false,false,false,false,false,false,false,false,false,u45,u46,u47,u48,u49,u50,u51,u44,u52,u53,u10,(.int .i64 0),0,rfl,by simp only [Act.put,sS],?_⟩;constructor
      ·exact hoA
      ·(first|(simp;done)|(simp;omega))
      ·(omega)
      ·(with_reducible repeat (first|exact R0.out|refine Rd.alc ?_ _|refine Rd.drew ?_))
      ·(omega)
      ·(with_reducible repeat (first|exact RS.out|refine Rs.alc ?_ _|refine Rs.drew ?_))
      ·(omega)
      all_goals (intro h;cases h)
     ·intro L a' w' hI i hi;obtain ⟨l0,l1,l2,l3,l4,l5,l6,l7,l8,l9,l10,l11,l12,v0,v1,v2,v3,v4,v5,v6,v7,v8,v9,v10,v12,b10,rfl,rfl,h⟩:=hI;have hlt:=ready_lt hi
      match i,hi,hlt with
      |0,hi,_=>
       obtain rfl:l0=false:=rl rfl hi;clear hi hlt;have H:=Lib.hid h;clear h;refine wpOp_shut rfl (fun K hK=>?_)
       try simp only [Act.put,sS]
       go_simp;refine hK.out _ _ ?_;unfold Wg.I;refine ⟨_,_,_,_,_,_,_,_,_,_,_,_,_,(.pointer (some ⟨b0,1,none⟩)),v1,v2,v3,v4,v5,v6,v7,v8,v9,v10,v12,b10,rfl,?_,?_⟩
       ·simp only [Act.put,sS]
       ·exact {H.out with ev0:=fun _=>rfl}
      |1,hi,_=>
       obtain rfl:l1=false:=rl rfl hi;obtain rfl:l0=true:=rk rfl hi 0 .data;clear hi hlt;obtain rfl:=h.ev0 rfl;have c:=h.u0.c;have H:=Lib.hid h;clear h;refine wpOp_shut rfl (fun K hK=>?_)
       try simp only [Act.put,sS]
       go_simp;refine hK.out _ _ ?_;unfold Wg.I;refine ⟨_,_,_,_,_,_,_,_,_,_,_,_,_,(.pointer (some ⟨b0,1,none⟩)),(.slice (some ⟨pb,po,none⟩) l.length dc),v2,v3,v4,v5,v6,v7,v8,v9,v10,v12,b10,rfl,?_,?_⟩
       ·simp only [Act.put,sS]
       ·exact {H.out with ev1:=fun _=>rfl}
      |2,hi,_=>
       obtain rfl:l2=false:=rl rfl hi;clear hi hlt;have H:=Lib.hid h;clear h;refine wpOp_shut rfl (fun K hK=>?_)
       try simp only [Act.put,sS]
       go_simp;refine hK.out _ _ ?_;unfold Wg.I;refine ⟨_,_,_,_,_,_,_,_,_,_,_,_,_,v0,v1,(.int .i64 k),v3,v4,v5,v6,v7,v8,v9,v10,v12,b10,rfl,?_,?_⟩
       ·simp only [Act.put,sS]
       ·exact {H.out with ev2:=fun _=>rfl}
      |3,hi,_=>
       obtain rfl:l3=false:=rl rfl hi;obtain rfl:l1=true:=rk rfl hi 1 .data;obtain rfl:l2=true:=rk rfl hi 2 .data;clear hi hlt;obtain rfl:=h.ev1 rfl;obtain rfl:=h.ev2 rfl;have H:=Lib.hid h;clear h;refine wpOp_shut rfl (fun K hK=>?_)
       try simp only [Act.put,sS]
       go_simp;refine hK.out _ _ ?_;unfold Wg.I;refine ⟨_,_,_,_,_,_,_,_,_,_,_,_,_,v0,(.slice (some ⟨pb,po,none⟩) l.length dc),(.int .i64 k),(.pointer (some ⟨pb,po+k*2,none⟩)),v4,v5,v6,v7,v8,v9,v10,v12,b10,rfl,?_,?_⟩
       ·simp only [Act.put,sS]
       ·exact {H.out with ev3:=fun _=>rfl}
      |4,hi,_=>
       obtain rfl:l4=false:=rl rfl hi;obtain rfl:l3=true:=rk rfl hi 3 .data;clear hi hlt;obtain rfl:=h.ev3 rfl;have c0:w'.cell? ⟨pb,po+k*2,none⟩=some (.int .i64 p):=h.u1.c 0 (by simp);have c1:w'.cell? ⟨pb,po+k*2+1,none⟩=some (.int .i64 q):=h.u1.c 1 (by simp);have H:=Lib.hid h;clear h;refine wpOp_shut rfl (fun K hK=>?_)
       try simp only [Act.put,sS]
       go_simp;refine hK.out _ _ ?_;unfold Wg.I;refine ⟨_,_,_,_,_,_,_,_,_,_,_,_,_,v0,v1,v2,(.pointer (some ⟨pb,po+k*2,none⟩)),((iv p q)),v5,v6,v7,v8,v9,v10,v12,b10,rfl,?_,?_⟩
       ·simp only [Act.put,sS]
       ·exact {H.out with ev4:=fun _=>rfl}
      |5,hi,_=>
       obtain rfl:l5=false:=rl rfl hi;clear hi hlt;have c:=(h.g.at 0 rfl).c;have H:=Lib.hid h;clear h;refine wpOp_shut rfl (fun K hK=>?_)
       try simp only [Act.put,sS]
       go_simp;refine hK.out _ _ ?_;unfold Wg.I;refine ⟨_,_,_,_,_,_,_,_,_,_,_,_,_,v0,v1,v2,v3,v4,((iv al ah)),v6,v7,v8,v9,v10,v12,b10,rfl,?_,?_⟩
       ·simp only [Act.put,sS]
       ·exact {H.out with ev5:=fun _=>rfl}
      |6,hi,_=>
       obtain rfl:l6=false:=rl rfl hi;obtain rfl:l4=true:=rk rfl hi 4 .data;obtain rfl:l5=true:=rk rfl hi 5 .data;clear hi hlt;obtain rfl:=h.ev4 rfl;obtain rfl:=h.ev5 rfl;have H:=Lib.hid h;clear h;refine wpOp_shut rfl (fun K hK=>?_)
       try simp only [Act.put,sS]
       go_simp;refine (sub_any p q al ah _).mono ?_;rintro e wY ⟨rfl,hb⟩;rw [HG.out];unfold retR;dsimp only
       try go_simp
       refine hK.out _ _ ?_;unfold Wg.I;refine ⟨_,_,_,_,_,_,_,_,_,_,_,_,_,v0,v1,v2,v3,((iv p q)),((iv al ah)),(.tuple #[(iv gl gh),.int .i64 ge]),v7,v8,v9,v10,v12,b10,rfl,?_,?_⟩
       ·simp only [Act.put,sS]
       ·exact {(H.out.kept hb) with ev6:=fun _=>rfl}
      |7,hi,_=>
       obtain rfl:l7=false:=rl rfl hi;obtain rfl:l6=true:=rk rfl hi 6 .data;clear hi hlt;obtain rfl:=h.ev6 rfl;have H:=Lib.hid h;clear h;refine wpOp_shut rfl (fun K hK=>?_)
       try simp only [Act.put,sS]
       go_simp;refine hK.out _ _ ?_;unfold Wg.I;refine ⟨_,_,_,_,_,_,_,_,_,_,_,_,_,v0,v1,v2,v3,v4,v5,(.tuple #[(iv gl gh),.int .i64 ge]),(.tuple #[(iv gl gh),.int .i64 ge]),v8,v9,v10,v12,b10,rfl,?_,?_⟩
       ·simp only [Act.put,sS]
       ·exact {H.out with ev7:=fun _=>rfl}
      |8,hi,_=>
       obtain rfl:l8=false:=rl rfl hi;obtain rfl:l7=true:=rk rfl hi 7 .data;clear hi hlt;obtain rfl:=h.ev7 rfl;have H:=Lib.hid h;clear h;refine wpOp_shut rfl (fun K hK=>?_)
       try simp only [Act.put,sS]
       go_simp;refine hK.out _ _ ?_;unfold Wg.I;refine ⟨_,_,_,_,_,_,_,_,_,_,_,_,_,v0,v1,v2,v3,v4,v5,v6,(.tuple #[(iv gl gh),.int .i64 ge]),((iv gl gh)),v9,v10,v12,b10,rfl,?_,?_⟩
       ·simp only [Act.put,sS]
       ·exact {H.out with ev8:=fun _=>rfl}
      |9,hi,_=>
       obtain rfl:l9=false:=rl rfl hi;obtain rfl:l7=true:=rk rfl hi 7 .data;clear hi hlt;obtain rfl:=h.ev7 rfl;have H:=Lib.hid h;clear h;refine wpOp_shut rfl (fun K hK=>?_)
       try simp only [Act.put,sS]
       go_simp;refine hK.out _ _ ?_;unfold Wg.I;refine ⟨_,_,_,_,_,_,_,_,_,_,_,_,_,v0,v1,v2,v3,v4,v5,v6,(.tuple #[(iv gl gh),.int .i64 ge]),v8,(.int .i64 ge),v10,v12,b10,rfl,?_,?_⟩
       ·simp only [Act.put,sS]
       ·exact {H.out with ev9:=fun _=>rfl}
      |10,hi,_=>
       obtain rfl:l10=false:=rl rfl hi;clear hi hlt;have H:=Lib.hid h;clear h;refine wpOp_shut rfl (fun K hK=>?_)
       try simp only [Act.put,sS]
       go_simp;refine hK.out _ _ ?_;unfold Wg.I;refine ⟨_,_,_,_,_,_,_,_,_,_,_,_,_,v0,v1,v2,v3,v4,v5,v6,v7,v8,v9,(.pointer (some ⟨w'.heap.size,0,none⟩)),v12,w'.heap.size,rfl,?_,?_⟩
       ·simp only [Act.put,sS]
       ·have h:=H.out;have h2:=h.kept ((Below.refl _ _).alloc (Nat.le_refl _) (.cells (List.toArray [.int .i64 0,.int .i64 0]) 25));exact {h2 with ev10:=fun _=>rfl,g10:=fun _=>h.sz,t10:=fun _=>by simp,o10:=fun p=>rfl,z10:=fun _ _=>Bx.new rfl,s10:=fun p=>(nomatch (h.o10 p))}
      |11,hi,_=>
       obtain rfl:l11=false:=rl rfl hi;obtain rfl:l10=true:=rk rfl hi 10 .phase;obtain rfl:l8=true:=rk rfl hi 8 .phase;obtain rfl:l6=true:=rk rfl hi 6 .phase;obtain rfl:l0=true:=rk rfl hi 0 .phase;obtain rfl:l1=true:=rk rfl hi 1 .phase;obtain rfl:l2=true:=rk rfl hi 2 .phase;obtain rfl:l3=true:=rk rfl hi 3 .phase;obtain rfl:l4=true:=rk rfl hi 4 .phase;obtain rfl:l5=true:=rk rfl hi 5 .phase;obtain rfl:l7=true:=rk rfl hi 7 .phase;clear hi hlt;obtain rfl:=h.ev10 rfl;obtain rfl:=h.ev8 rfl;obtain rfl:=h.ev6 rfl;obtain rfl:=h.ev0 rfl;obtain rfl:=h.ev1 rfl;obtain rfl:=h.ev2 rfl;obtain rfl:=h.ev3 rfl;obtain rfl:=h.ev4 rfl;obtain rfl:=h.ev5 rfl;obtain rfl:=h.ev7 rfl;have bz:=h.z10 rfl rfl;have c:=bz.c;have f:=bz.f;clear bz;have H:=Lib.hid h;clear h;refine wpOp_shut rfl (fun K hK=>?_)
       try simp only [Act.put,sS]
       go_simp;refine hK.out _ _ ?_;unfold Wg.I;refine ⟨_,_,_,_,_,_,_,_,_,_,_,_,_,(.pointer (some ⟨b0,1,none⟩)),(.slice (some ⟨pb,po,none⟩) l.length dc),(.int .i64 k),(.pointer (some ⟨pb,po+k*2,none⟩)),((iv p q)),((iv al ah)),(.tuple #[(iv gl gh),.int .i64 ge]),(.tuple #[(iv gl gh),.int .i64 ge]),((iv gl gh)),v9,(.pointer (some ⟨b10,0,none⟩)),v12,b10,rfl,?_,?_⟩
       ·simp only [Act.put,sS]
       ·have h:=H.out;have gb:=h.g10 rfl;have gm:=Nat.le_trans h.mn gb;exact {h with g:=((h.g.put gm).put gm),sz:=by simpa using h.sz,o10:=fun _=>rfl,z10:=fun _ p=>(nomatch p),s10:=fun _=>(((h.z10 rfl rfl).put).put),t10:=fun p=>by simpa using h.t10 p,u0:=((h.u0.set (Nat.ne_of_lt (Nat.lt_of_lt_of_le h.un0 gb))).set (Nat.ne_of_lt (Nat.lt_of_lt_of_le h.un0 gb))),u1:=((h.u1.set (Nat.ne_of_lt (Nat.lt_of_lt_of_le h.un1 gb))).set (Nat.ne_of_lt (Nat.lt_of_lt_of_le h.un1 gb)))}
      |12,hi,_=>
       obtain rfl:l12=false:=rl rfl hi;obtain rfl:l9=true:=rk rfl hi 9 .phase;obtain rfl:l11=true:=rk rfl hi 11 .phase;obtain rfl:l0=true:=rk rfl hi 0 .phase;obtain rfl:l1=true:=rk rfl hi 1 .phase;obtain rfl:l2=true:=rk rfl hi 2 .phase;obtain rfl:l3=true:=rk rfl hi 3 .phase;obtain rfl:l4=true:=rk rfl hi 4 .phase;obtain rfl:l5=true:=rk rfl hi 5 .phase;obtain rfl:l6=true:=rk rfl hi 6 .phase;obtain rfl:l7=true:=rk rfl hi 7 .phase;obtain rfl:l8=true:=rk rfl hi 8 .phase;obtain rfl:l10=true:=rk rfl hi 10 .phase;clear hi hlt;obtain rfl:=h.ev9 rfl;obtain rfl:=h.ev0 rfl;obtain rfl:=h.ev1 rfl;obtain rfl:=h.ev2 rfl;obtain rfl:=h.ev3 rfl;obtain rfl:=h.ev4 rfl;obtain rfl:=h.ev5 rfl;obtain rfl:=h.ev6 rfl;obtain rfl:=h.ev7 rfl;obtain rfl:=h.ev8 rfl;obtain rfl:=h.ev10 rfl;have H:=Lib.hid h;clear h;refine wpOp_shut rfl (fun K hK=>?_)
       try simp only [Act.put,sS]
       go_simp;refine hK.out _ _ ?_;unfold Wg.I;refine ⟨_,_,_,_,_,_,_,_,_,_,_,_,_,(.pointer (some ⟨b0,1,none⟩)),(.slice (some ⟨pb,po,none⟩) l.length dc),(.int .i64 k),(.pointer (some ⟨pb,po+k*2,none⟩)),((iv p q)),((iv al ah)),(.tuple #[(iv gl gh),.int .i64 ge]),(.tuple #[(iv gl gh),.int .i64 ge]),((iv gl gh)),(.int .i64 ge),(.pointer (some ⟨b10,0,none⟩)),(.int .i64 ge),b10,rfl,?_,?_⟩
       ·simp only [Act.put,sS]
       ·exact {H.out with ev12:=fun _=>rfl}
      |i+13,_,hlt=>exact absurd hlt (by simp)
     ·intro L a' w' hI hn;obtain ⟨l0,l1,l2,l3,l4,l5,l6,l7,l8,l9,l10,l11,l12,v0,v1,v2,v3,v4,v5,v6,v7,v8,v9,v10,v12,b10,rfl,rfl,h⟩:=hI;obtain rfl:l0=true:=nr 0 rfl hn;obtain rfl:l1=true:=nr 1 rfl hn;obtain rfl:l2=true:=nr 2 rfl hn;obtain rfl:l3=true:=nr 3 rfl hn;obtain rfl:l4=true:=nr 4 rfl hn;obtain rfl:l5=true:=nr 5 rfl hn;obtain rfl:l6=true:=nr 6 rfl hn;obtain rfl:l7=true:=nr 7 rfl hn;obtain rfl:l8=true:=nr 8 rfl hn;obtain rfl:l9=true:=nr 9 rfl hn;obtain rfl:l10=true:=nr 10 rfl hn;obtain rfl:l11=true:=nr 11 rfl hn;obtain rfl:l12=true:=nr 12 rfl hn;clear hn;obtain rfl:=h.ev0 rfl;obtain rfl:=h.ev1 rfl;obtain rfl:=h.ev2 rfl;obtain rfl:=h.ev3 rfl;obtain rfl:=h.ev4 rfl;obtain rfl:=h.ev5 rfl;obtain rfl:=h.ev6 rfl;obtain rfl:=h.ev7 rfl;obtain rfl:=h.ev8 rfl;obtain rfl:=h.ev9 rfl;obtain rfl:=h.ev10 rfl;obtain rfl:=h.ev12 rfl;simp only [Act.put,sS];have I3:=hkp _ _ _ _ I2 h.g.below;have K3:=hbk _ _ K2 (keeps_below h.g.below);have cB3:=cB2.kept h.g.below;have gB3:=h.s10 rfl;have hz3:=h.sz;clear h R0 RS H2 cB2
      by_cases z3:ge=0
      ·subst z3
       have EF:faceR k n (p,q) a v=⟨0,wayF k ⟨cl,ch,0⟩ ⟨gl,gh,0⟩⟩:=by
        rw [faceR,HC.out,if_pos rfl,HA.out,if_pos rfl];dsimp only;rw [HG.out,if_pos rfl]
       have cc:=cB3.c;have gc:=gB3.c;have lc:=cB3.lt;have lg:=gB3.lt;have nc':¬(w1.heap.size=w'.heap.size):=Nat.ne_of_lt lc;have ng':¬(b10=w'.heap.size):=Nat.ne_of_lt lg;have i15:IntKind.i64.wrap ((k:Int)+1)=(k:Int)+1:=IntWalk.i64_in _ (by omega)
       by_cases z4:ch≤0
       ·have E:(faceR k n (p,q) a v).e=0:=by rw [EF]
        have EU:=up_next hno HX.out E;rw [EF] at EU;rw [wayF,if_pos z4] at EU;have EUH:=Lib.hid EU;clear EU E EF cB3 gB3
        go_wp2
        go_roundw
        case rel=>exact ⟨k+1,hlt,by simp,EUH.out.2,by rw [EUH.out.1];simpa using I3,K3⟩
        case measure=>simp only [intOf];omega
       ·have HB:=Lib.hid (dot_in (s:=n) (t:=v) (by rw [HC.out]));have HS:=Lib.hid (sub_v (by rw [HG.out]:(subR p q al ah).e=0))
        obtain ⟨bc1,bc2,bc3⟩ : -1073741824≤cl∧cl≤ch∧ch≤1073741824:=by have:=HB.out;rw [HC.out] at this;exact vB_iff.1 this
        obtain ⟨bg1,bg2,bg3⟩ : -1073741824≤gl∧gl≤gh∧gh≤1073741824:=by
         obtain ⟨e1,v1,v2,b1,b2⟩:=HS.out;rw [HG.out] at e1;injection e1 with e1 e2;have h1:=vB_iff.1 v1;have h2:=vB_iff.1 v2;omega
        clear HB HS
        have hch:¬(ch=0):=by omega
        have m1:IntKind.i64.wrap (max 0 gl*16777216)=max 0 gl*16777216:=IntWalk.i64_in _ (by omega);have tb:=td_bd (max 0 gl*16777216) ch;have m2:IntKind.i64.wrap ((max 0 gl*16777216).tdiv ch)=(max 0 gl*16777216).tdiv ch:=IntWalk.i64_in _ (by omega);have EFH:=Lib.hid EF;clear EF tb cB3 gB3;have HI3:=Lib.hid I3
        by_cases z5:0<cl
        ·have hcl:¬(cl=0):=by omega
         have m3:IntKind.i64.wrap (max 0 gh*16777216)=max 0 gh*16777216:=IntWalk.i64_in _ (by omega);have m4:IntKind.i64.wrap (max 0 gh*16777216+cl)=max 0 gh*16777216+cl:=IntWalk.i64_in _ (by omega);have m5:IntKind.i64.wrap (max 0 gh*16777216+cl - 1)=max 0 gh*16777216+cl - 1:=IntWalk.i64_in _ (by omega);have tb:=td_bd (max 0 gh*16777216+cl - 1) cl;have m6:IntKind.i64.wrap ((max 0 gh*16777216+cl - 1).tdiv cl)=(max 0 gh*16777216+cl - 1).tdiv cl:=IntWalk.i64_in _ (by omega);clear tb bc1 bc2 bc3 bg1 bg2 bg3
         go_upto_region 17 with fail
         have EW:(faceR k n (p,q) a v).w=some ⟨k,(max 0 gl*16777216).tdiv ch,(max 0 gh*16777216+cl - 1).tdiv cl,true⟩:=by
          rw [EFH.out];dsimp only;rw [wayF,if_neg z4,if_pos z5,decide_eq_true z5]
         clear m3 m4 m5 m6;have EU:=Lib.hid (up_next hno HX.out (by rw [EFH.out]));refine yield_reg (x:=⟨k,(max 0 gl*16777216).tdiv ch,(max 0 gh*16777216+cl - 1).tdiv cl,true⟩) (R:=fun W'=>I 0 (upR a v l k ++ [⟨k,(max 0 gl*16777216).tdiv ch,(max 0 gh*16777216+cl - 1).tdiv cl,true⟩]) W'∧Bk W') _ _ _ _ _ _ _ _ _ _ _ _ _ _ _ _ _ _ _ _ _ _ _ _ _ _ _ _ _ _ _ _ _ _ _ _ _ _ _ _ _ _ _ _ _ _ _ _ _ _ _ _ _ _ _ _ _ _ _ _ _ _ _ _ _ _ _ _ _ _ _ _ _ _ _ _ _ _ _ _ _ _ _ _ _ _ _ _ _ _ (by simp) (by simp) (by simp) (by simp) (by simp) (hY _ _ _ (hkp _ _ _ _ HI3.out ((Below.refl _ _).alloc (Nat.le_refl _) _)) (hbk _ _ K3 (KeepsOthers.alloc _ _)) (up_lt hlt)) ?_;rintro W5 ⟨I5,K5⟩;dsimp only
         have EU2:upR a v l (k+1)=upR a v l k ++ [⟨k,(max 0 gl*16777216).tdiv ch,(max 0 gh*16777216+cl - 1).tdiv cl,true⟩]:=by
          rw [EU.out.1,EW];rfl
         have EUH:=Lib.hid EU2;have EWH:=Lib.hid EW;clear EU2 EW cc gc lc lg nc' ng' m1 m2
         go_wp2
         go_roundw
         case rel=>exact ⟨k+1,hlt,by simp,EU.out.2,by rw [EUH.out];exact I5,K5⟩
         case measure=>simp only [intOf];omega
        ·clear bc1 bc2 bc3 bg1 bg2 bg3
         go_upto_region 17 with fail
         have EW:(faceR k n (p,q) a v).w=some ⟨k,(max 0 gl*16777216).tdiv ch,0,false⟩:=by
          rw [EFH.out];dsimp only;rw [wayF,if_neg z4,if_neg z5,decide_eq_false z5]
         have EU:=Lib.hid (up_next hno HX.out (by rw [EFH.out]));refine yield_reg (x:=⟨k,(max 0 gl*16777216).tdiv ch,0,false⟩) (R:=fun W'=>I 0 (upR a v l k ++ [⟨k,(max 0 gl*16777216).tdiv ch,0,false⟩]) W'∧Bk W') _ _ _ _ _ _ _ _ _ _ _ _ _ _ _ _ _ _ _ _ _ _ _ _ _ _ _ _ _ _ _ _ _ _ _ _ _ _ _ _ _ _ _ _ _ _ _ _ _ _ _ _ _ _ _ _ _ _ _ _ _ _ _ _ _ _ _ _ _ _ _ _ _ _ _ _ _ _ _ _ _ _ _ _ _ _ _ _ _ _ (by simp) (by simp) (by simp) (by simp) (by simp) (hY _ _ _ (hkp _ _ _ _ HI3.out ((Below.refl _ _).alloc (Nat.le_refl _) _)) (hbk _ _ K3 (KeepsOthers.alloc _ _)) (up_lt hlt)) ?_;rintro W5 ⟨I5,K5⟩;dsimp only
         have EU2:upR a v l (k+1)=upR a v l k ++ [⟨k,(max 0 gl*16777216).tdiv ch,0,false⟩]:=by
          rw [EU.out.1,EW];rfl
         have EUH:=Lib.hid EU2;have EWH:=Lib.hid EW;clear EU2 EW cc gc lc lg nc' ng' m1 m2
         go_wp2
         go_roundw
         case rel=>exact ⟨k+1,hlt,by simp,EU.out.2,by rw [EUH.out];exact I5,K5⟩
         case measure=>simp only [intOf];omega
      ·obtain ⟨r0,r1,r2,rn,rp,rf⟩:=hrd _ _ _ I3;have l2:=r2.lt;have c2:=r2.c;have lf:=rf.lt;have cf:=rf.c;have ff:=rf.f;have n2:¬(b2=w'.heap.size):=Nat.ne_of_lt l2;have nf:¬(fb=w'.heap.size):=Nat.ne_of_lt lf;clear r0 r1 r2 rn rp rf
       go_wp2
       have E:(faceR k n (p,q) a v).e=ge:=by
        rw [faceR,HC.out];rw [if_pos rfl,HA.out,if_pos rfl];dsimp only;rw [HG.out,if_neg z3]
       have E2:(waysR a v 0 l).e=ge:=(ways_err hno HX.out (by rw [E];exact z3)).trans E;refine bodyPost_ret (results_none rfl _ _ _) rfl ?_;refine ⟨⟨_,rfl⟩,⟨_,by rw [E2];exact hst _ _ _ I3,fun h=>absurd (E2.symm.trans h) z3⟩,hbk _ _ K3 (KeepsOthers.setCell _ _ _)⟩
    ·obtain ⟨r0,r1,r2,rn,rp,rf⟩:=hrd _ _ _ I2;have l2:=r2.lt;have c2:=r2.c;have lf:=rf.lt;have cf:=rf.c;have ff:=rf.f;have n2:¬(b2=w2.heap.size):=Nat.ne_of_lt l2;have nf:¬(fb=w2.heap.size):=Nat.ne_of_lt lf;clear r0 r1 r2 rn rp rf
     go_wp2
     have E:(faceR k n (p,q) a v).e=ae:=by
      rw [faceR,HC.out];rw [if_pos rfl,HA.out,if_neg z2]
     have E2:(waysR a v 0 l).e=ae:=(ways_err hno HX.out (by rw [E];exact z2)).trans E;refine bodyPost_ret (results_none rfl _ _ _) rfl ?_;refine ⟨⟨_,rfl⟩,⟨_,by rw [E2];exact hkp _ _ _ _ (hst _ _ _ I2) ((Below.refl _ _).alloc (Nat.le_refl _) _),fun h=>absurd (E2.symm.trans h) z2⟩,hbk _ _ (hbk _ _ K2 (KeepsOthers.setCell _ _ _)) (KeepsOthers.alloc _ _)⟩
   ·obtain ⟨r0,r1,r2,rn,rp,rf⟩:=hrd _ _ _ I1;have l2:=r2.lt;have c2:=r2.c;have lf:=rf.lt;have cf:=rf.c;have ff:=rf.f;have n2:¬(b2=w1.heap.size):=Nat.ne_of_lt l2;have nf:¬(fb=w1.heap.size):=Nat.ne_of_lt lf;clear r0 r1 r2 rn rp rf
    go_wp2
    have E:(faceR k n (p,q) a v).e=ce:=by
     rw [faceR,HC.out];rw [if_neg z1]
    have E2:(waysR a v 0 l).e=ce:=(ways_err hno HX.out (by rw [E];exact z1)).trans E;refine bodyPost_ret (results_none rfl _ _ _) rfl ?_;refine ⟨⟨_,rfl⟩,⟨_,by rw [E2];exact hkp _ _ _ _ (hst _ _ _ I1) ((Below.refl _ _).alloc (Nat.le_refl _) _),fun h=>absurd (E2.symm.trans h) z1⟩,hbk _ _ (hbk _ _ K1 (KeepsOthers.setCell _ _ _)) (KeepsOthers.alloc _ _)⟩
  ·obtain rfl:k=l.length:=by omega
   clear r0 r1 r2 rn rp rf
   go_wp2
   go_end0
   exact ⟨⟨_,rfl⟩,⟨_,by rw [ways_all hno];exact hI,fun _=>by rw [ways_all hno]⟩,hB⟩
end Go.Proofs.YtiecdgcdcpmgaaaGreat.Iv

/- Contract of cell.point. -/
namespace Go.Proofs.YtiecdgcdcpmgaaaGreat.Iv
open Go.RowKit
attribute [local go_sem] Oper.semAt_some
def bindD (r:R) (f:Int→Int→RD):RD:=if r.e=0 then f r.lo r.hi else ⟨⟨0,0,0,0,0,0⟩,r.e⟩
noncomputable def pointR (n:D) (dl dh xl xh yl yh:Int):RD:=
 bindD (mulR n.a n.b xl xh) fun p1 q1=>bindD (mulR n.c n.d yl yh) fun p2 q2=>bindD (addR p1 q1 p2 q2) fun p3 q3=>bindD (subR dl dh p3 q3) fun p4 q4=>bindD (divR p4 q4 n.e n.f) fun p5 q5=>⟨⟨xl,xh,yl,yh,p5,q5⟩,0⟩
structure Pg (nb no nc db dd dc k lL lM b0 bo bs n0:Nat) (i0 i1 dl dh xl xh yl yh ul uh vl vh p3 q3 p4 q4 e4:Int) (n:D) (w0 w:World) (l0 l1 l2 l3 l4 l5 l6 l7 l8 l9 l10 l11 l12 l13:Bool) (v0 v1 v2 v3 v4 v5 v6 v7 v8 v9 v10 v11 v13:Value) (b11:Nat):Prop where
 g:Ho w0 w n0 [(bs,[.int .i64 p3,.int .i64 q3]),(b0+1+1+1,[.int .i64 n.a,.int .i64 n.b,.int .i64 n.c,.int .i64 n.d,.int .i64 n.e,.int .i64 n.f]),(b0+1,[.int .i64 k,.int .i64 xl,.int .i64 xh,.int .i64 yl,.int .i64 yh,.int .i64 ul,.int .i64 uh,.int .i64 vl,.int .i64 vh]),(b0,[.slice (some ⟨nb,no,none⟩) lL nc,.slice (some ⟨db,dd,none⟩) lM dc,.int .i64 i0,.int .i64 i1])]
 sz:n0≤w.heap.size
 mn:n0≤n0
 u0:Bx w bo [.int .i64 0,.int .i64 0,.int .i64 0,.int .i64 0,.int .i64 0,.int .i64 0]
 un0:bo<n0
 u1:Rs w db (dd+k*2) [.int .i64 dl,.int .i64 dh]
 un1:db<n0
 ev0:l0=true→v0 = .pointer (some ⟨b0,1,none⟩)
 ev1:l1=true→v1 = .slice (some ⟨db,dd,none⟩) lM dc
 ev2:l2=true→v2 = .pointer (some ⟨b0+1,0,none⟩)
 ev3:l3=true→v3 = .int .i64 k
 ev4:l4=true→v4 = .pointer (some ⟨db,dd+k*2,none⟩)
 ev5:l5=true→v5=(iv dl dh)
 ev6:l6=true→v6=(iv p3 q3)
 ev7:l7=true→v7 = .tuple #[(iv p4 q4),.int .i64 e4]
 ev8:l8=true→v8 = .tuple #[(iv p4 q4),.int .i64 e4]
 ev9:l9=true→v9=(iv p4 q4)
 ev10:l10=true→v10 = .int .i64 e4
 ev11:l11=true→v11 = .pointer (some ⟨b11,0,none⟩)
 ev13:l13=true→v13 = .int .i64 e4
 g11:l11=true→n0≤b11
 t11:l11=true→b11<w.heap.size
 o11:l12=true→l11=true
 z11:l11=true→l12=false→Bx w b11 [.int .i64 0,.int .i64 0]
 s11:l12=true→Bx w b11 [.int .i64 p4,.int .i64 q4]
theorem Pg.kept {nb no nc db dd dc k lL lM b0 bo bs n0:Nat} {i0 i1 dl dh xl xh yl yh ul uh vl vh p3 q3 p4 q4 e4:Int} {n:D} {w0 w:World} {l0 l1 l2 l3 l4 l5 l6 l7 l8 l9 l10 l11 l12 l13:Bool} {v0 v1 v2 v3 v4 v5 v6 v7 v8 v9 v10 v11 v13:Value} {b11:Nat} {w':World} (h:Pg nb no nc db dd dc k lL lM b0 bo bs n0 i0 i1 dl dh xl xh yl yh ul uh vl vh p3 q3 p4 q4 e4 n w0 w l0 l1 l2 l3 l4 l5 l6 l7 l8 l9 l10 l11 l12 l13 v0 v1 v2 v3 v4 v5 v6 v7 v8 v9 v10 v11 v13 b11) (hb:Below w.heap.size w w'):Pg nb no nc db dd dc k lL lM b0 bo bs n0 i0 i1 dl dh xl xh yl yh ul uh vl vh p3 q3 p4 q4 e4 n w0 w' l0 l1 l2 l3 l4 l5 l6 l7 l8 l9 l10 l11 l12 l13 v0 v1 v2 v3 v4 v5 v6 v7 v8 v9 v10 v11 v13 b11:=
 {h with g:=h.g.call hb,sz:=Nat.le_trans h.sz hb.size,u0:=h.u0.kept hb,u1:=h.u1.kept hb,t11:=fun p=>Nat.lt_of_lt_of_le (h.t11 p) hb.size,z11:=fun p q=>(h.z11 p q).kept hb,s11:=fun p=>(h.s11 p).kept hb}
def Pg.I (nb no nc db dd dc k lL lM b0 bo bs n0:Nat) (i0 i1 dl dh xl xh yl yh ul uh vl vh p3 q3 p4 q4 e4:Int) (n:D) (w0:World):Act→Array Bool→Act→World→Prop:=fun aO LX aX w=>∃(l0 l1 l2 l3 l4 l5 l6 l7 l8 l9 l10 l11 l12 l13:Bool) (v0 v1 v2 v3 v4 v5 v6 v7 v8 v9 v10 v11 v13:Value) (b11:Nat),LX=#[l0,l1,l2,l3,l4,l5,l6,l7,l8,l9,l10,l11,l12,l13]∧aX=(((((((((((((aO.put (some 54) v0).put (some 55) v1).put (some 56) v2).put (some 57) v3).put (some 58) v4).put (some 59) v5).put (some 60) v6).put (some 61) v7).put (some 53) v8).put (some 62) v9).put (some 63) v10).put (some 11) v11).put (some 8) v13)∧Pg nb no nc db dd dc k lL lM b0 bo bs n0 i0 i1 dl dh xl xh yl yh ul uh vl vh p3 q3 p4 q4 e4 n w0 w l0 l1 l2 l3 l4 l5 l6 l7 l8 l9 l10 l11 l12 l13 v0 v1 v2 v3 v4 v5 v6 v7 v8 v9 v10 v11 v13 b11
set_option maxRecDepth 100000 in
set_option maxHeartbeats 16000000 in
theorem point_any {na da:Option Addr} {nc dc k:Nat} {L:List D} {M:List (Int × Int)} {i0 i1 dl dh xl xh yl yh ul uh vl vh:Int} {n:D} (w:World) (hn:NAt w na L) (hp:PAt w da M) (hx:L[k]? = some n) (hy:M[k]? = some (dl,dh)) :
  Calls Tryz.prog 29 #[.agg #[.slice na L.length nc,.slice da M.length dc,.int .i64 i0,.int .i64 i1],.agg #[.int .i64 k,.int .i64 xl,.int .i64 xh,.int .i64 yl,.int .i64 yh,.int .i64 ul,.int .i64 uh,.int .i64 vl,.int .i64 vh]] w fun e w'=>e=retD (pointR n dl dh xl xh yl yh)∧Below w.heap.size w w':=by
 have hk:k<L.length:=(List.getElem?_eq_some_iff.1 hx).1;have hk2:k<M.length:=(List.getElem?_eq_some_iff.1 hy).1;obtain ⟨nb,no,rfl,hnb,hN⟩:=hn (by omega);obtain ⟨db,dd,rfl,hdb,hD⟩:=hp (by omega);have RN:=(Rs.mk hnb (hN k n hx):Rs w nb (no+k*6) [.int .i64 n.a,.int .i64 n.b,.int .i64 n.c,.int .i64 n.d,.int .i64 n.e,.int .i64 n.f]);have RP:=(Rs.mk hdb (hD k (dl,dh) hy):Rs w db (dd+k*2) [.int .i64 dl,.int .i64 dh])
 have hlt':(k:Int)<(L.length:Int):=by omega
 have hlt2:(k:Int)<(M.length:Int):=by omega
 have hge':(0:Int)≤(k:Int):=by omega
 clear hN hD hn hp hx hy;obtain ⟨⟨p1,q1,e1⟩,h1⟩:∃r:R,mulR n.a n.b xl xh=r:=⟨_,rfl⟩;obtain ⟨⟨p2,q2,e2⟩,h2⟩:∃r:R,mulR n.c n.d yl yh=r:=⟨_,rfl⟩;obtain ⟨⟨p3,q3,e3⟩,h3⟩:∃r:R,addR p1 q1 p2 q2=r:=⟨_,rfl⟩;obtain ⟨⟨p4,q4,e4⟩,h4⟩:∃r:R,subR dl dh p3 q3=r:=⟨_,rfl⟩;obtain ⟨⟨p5,q5,e5⟩,h5⟩:∃r:R,divR p4 q4 n.e n.f=r:=⟨_,rfl⟩
 have hr:pointR n dl dh xl xh yl yh=if e1=0 then (if e2=0 then (if e3=0 then (if e4=0 then (if e5=0 then ⟨⟨xl,xh,yl,yh,p5,q5⟩,0⟩ else ⟨⟨0,0,0,0,0,0⟩,e5⟩) else ⟨⟨0,0,0,0,0,0⟩,e4⟩) else ⟨⟨0,0,0,0,0,0⟩,e3⟩) else ⟨⟨0,0,0,0,0,0⟩,e2⟩) else ⟨⟨0,0,0,0,0,0⟩,e1⟩:=by
  unfold pointR bindD;rw [h1];dsimp only;rw [h2];dsimp only;rw [h3];dsimp only;rw [h4];dsimp only;rw [h5]
 rw [hr];have X1:=Lib.hid h1;have X2:=Lib.hid h2;have X3:=Lib.hid h3;have HF:=Lib.hid h4;have X5:=Lib.hid h5;clear hr h1 h2 h3 h4 h5;have H0:=(((Ho.nil w).bx [.slice (some ⟨nb,no,none⟩) L.length nc,.slice (some ⟨db,dd,none⟩) M.length dc,.int .i64 i0,.int .i64 i1] 27 (w.heap.size) (by simp)).bx [.int .i64 k,.int .i64 xl,.int .i64 xh,.int .i64 yl,.int .i64 yh,.int .i64 ul,.int .i64 uh,.int .i64 vl,.int .i64 vh] 29 (w.heap.size+1) (by simp));have o_0:Bx (((w.alloc (.cells (List.toArray [.slice (some ⟨nb,no,none⟩) L.length nc,.slice (some ⟨db,dd,none⟩) M.length dc,.int .i64 i0,.int .i64 i1]) 27)).alloc (.cells (List.toArray [.int .i64 k,.int .i64 xl,.int .i64 xh,.int .i64 yl,.int .i64 yh,.int .i64 ul,.int .i64 uh,.int .i64 vl,.int .i64 vh]) 29)).alloc (.cells (List.toArray [.int .i64 0,.int .i64 0,.int .i64 0,.int .i64 0,.int .i64 0,.int .i64 0]) 45)) (w.heap.size+1+1) [.int .i64 0,.int .i64 0,.int .i64 0,.int .i64 0,.int .i64 0,.int .i64 0]:=bxA;go_enter Tryz.func29,Tryz.ntmps29;have o_0c:=o_0.c;have o_0f:=o_0.f;have RN0:Rs (((w.alloc (.cells (List.toArray [.slice (some ⟨nb,no,none⟩) L.length nc,.slice (some ⟨db,dd,none⟩) M.length dc,.int .i64 i0,.int .i64 i1]) 27)).alloc (.cells (List.toArray [.int .i64 k,.int .i64 xl,.int .i64 xh,.int .i64 yl,.int .i64 yh,.int .i64 ul,.int .i64 uh,.int .i64 vl,.int .i64 vh]) 29)).alloc (.cells (List.toArray [.int .i64 0,.int .i64 0,.int .i64 0,.int .i64 0,.int .i64 0,.int .i64 0]) 45)) nb (no+k*6) [.int .i64 n.a,.int .i64 n.b,.int .i64 n.c,.int .i64 n.d,.int .i64 n.e,.int .i64 n.f]:=((RN.alc _).alc _).alc _;have n0_0:((((w.alloc (.cells (List.toArray [.slice (some ⟨nb,no,none⟩) L.length nc,.slice (some ⟨db,dd,none⟩) M.length dc,.int .i64 i0,.int .i64 i1]) 27)).alloc (.cells (List.toArray [.int .i64 k,.int .i64 xl,.int .i64 xh,.int .i64 yl,.int .i64 yh,.int .i64 ul,.int .i64 uh,.int .i64 vl,.int .i64 vh]) 29)).alloc (.cells (List.toArray [.int .i64 0,.int .i64 0,.int .i64 0,.int .i64 0,.int .i64 0,.int .i64 0]) 45))).cell? ⟨nb,no+k*6,none⟩=some (.int .i64 n.a):=RN0.c 0 (by simp);have n0_1:((((w.alloc (.cells (List.toArray [.slice (some ⟨nb,no,none⟩) L.length nc,.slice (some ⟨db,dd,none⟩) M.length dc,.int .i64 i0,.int .i64 i1]) 27)).alloc (.cells (List.toArray [.int .i64 k,.int .i64 xl,.int .i64 xh,.int .i64 yl,.int .i64 yh,.int .i64 ul,.int .i64 uh,.int .i64 vl,.int .i64 vh]) 29)).alloc (.cells (List.toArray [.int .i64 0,.int .i64 0,.int .i64 0,.int .i64 0,.int .i64 0,.int .i64 0]) 45))).cell? ⟨nb,no+k*6+1,none⟩=some (.int .i64 n.b):=RN0.c 1 (by simp);have n0_2:((((w.alloc (.cells (List.toArray [.slice (some ⟨nb,no,none⟩) L.length nc,.slice (some ⟨db,dd,none⟩) M.length dc,.int .i64 i0,.int .i64 i1]) 27)).alloc (.cells (List.toArray [.int .i64 k,.int .i64 xl,.int .i64 xh,.int .i64 yl,.int .i64 yh,.int .i64 ul,.int .i64 uh,.int .i64 vl,.int .i64 vh]) 29)).alloc (.cells (List.toArray [.int .i64 0,.int .i64 0,.int .i64 0,.int .i64 0,.int .i64 0,.int .i64 0]) 45))).cell? ⟨nb,no+k*6+2,none⟩=some (.int .i64 n.c):=RN0.c 2 (by simp);have n0_3:((((w.alloc (.cells (List.toArray [.slice (some ⟨nb,no,none⟩) L.length nc,.slice (some ⟨db,dd,none⟩) M.length dc,.int .i64 i0,.int .i64 i1]) 27)).alloc (.cells (List.toArray [.int .i64 k,.int .i64 xl,.int .i64 xh,.int .i64 yl,.int .i64 yh,.int .i64 ul,.int .i64 uh,.int .i64 vl,.int .i64 vh]) 29)).alloc (.cells (List.toArray [.int .i64 0,.int .i64 0,.int .i64 0,.int .i64 0,.int .i64 0,.int .i64 0]) 45))).cell? ⟨nb,no+k*6+3,none⟩=some (.int .i64 n.d):=RN0.c 3 (by simp);have n0_4:((((w.alloc (.cells (List.toArray [.slice (some ⟨nb,no,none⟩) L.length nc,.slice (some ⟨db,dd,none⟩) M.length dc,.int .i64 i0,.int .i64 i1]) 27)).alloc (.cells (List.toArray [.int .i64 k,.int .i64 xl,.int .i64 xh,.int .i64 yl,.int .i64 yh,.int .i64 ul,.int .i64 uh,.int .i64 vl,.int .i64 vh]) 29)).alloc (.cells (List.toArray [.int .i64 0,.int .i64 0,.int .i64 0,.int .i64 0,.int .i64 0,.int .i64 0]) 45))).cell? ⟨nb,no+k*6+4,none⟩=some (.int .i64 n.e):=RN0.c 4 (by simp)
 have n0_5:((((w.alloc (.cells (List.toArray [.slice (some ⟨nb,no,none⟩) L.length nc,.slice (some ⟨db,dd,none⟩) M.length dc,.int .i64 i0,.int .i64 i1]) 27)).alloc (.cells (List.toArray [.int .i64 k,.int .i64 xl,.int .i64 xh,.int .i64 yl,.int .i64 yh,.int .i64 ul,.int .i64 uh,.int .i64 vl,.int .i64 vh]) 29)).alloc (.cells (List.toArray [.int .i64 0,.int .i64 0,.int .i64 0,.int .i64 0,.int .i64 0,.int .i64 0]) 45))).cell? ⟨nb,no+k*6+5,none⟩=some (.int .i64 n.f):=RN0.c 5 (by simp)
 go_wp2_with fail
 refine (mul_any n.a n.b xl xh _).mono ?_;rintro r w1 ⟨rfl,hb⟩;rw [X1.out];have H1:Ho w w1 (w.heap.size+1+1) [(w.heap.size+1,[.int .i64 k,.int .i64 xl,.int .i64 xh,.int .i64 yl,.int .i64 yh,.int .i64 ul,.int .i64 uh,.int .i64 vl,.int .i64 vh]),(w.heap.size,[.slice (some ⟨nb,no,none⟩) L.length nc,.slice (some ⟨db,dd,none⟩) M.length dc,.int .i64 i0,.int .i64 i1])]:=Ho.call hoA hb;have o_1:=bxK o_0 hb;have n_1:Bx w1 (w.heap.size+1+1+1) [.int .i64 n.a,.int .i64 n.b,.int .i64 n.c,.int .i64 n.d,.int .i64 n.e,.int .i64 n.f]:=Bx.kept bxA hb;clear o_0c o_0f;have hs1:=H1.size;have hz1:=hb.size
 (try simp at hz1)
 clear hb;have h0_1:=(H1.at 1 rfl).c;have h1_1:=(H1.at 0 rfl).c;have o_1c:=o_1.c;have o_1f:=o_1.f;have o_1l:=o_1.lt;have n_1c:=n_1.c;have n_1f:=n_1.f;have n_1l:=n_1.lt;have zx1:=ai (zq (w.heap.size+1+1) (w1.heap.size))<|ai (zq (w.heap.size+1+1+1) (w1.heap.size))<|ai (zq (w.heap.size) (w1.heap.size))<|ai (zq (w.heap.size+1) (w1.heap.size))<|ai (zp (w.heap.size+1+1) (w.heap.size+1+1+1))<|ai (zp (w.heap.size+1+1) (w.heap.size))<|ai (zp (w.heap.size+1+1) (w.heap.size+1))<|ai (zp (w.heap.size+1+1+1) (w.heap.size))<|zp (w.heap.size+1+1+1) (w.heap.size+1)
 by_cases he1:e1=0
 ·subst he1
  go_wp2_with fail
  refine (mul_any n.c n.d yl yh _).mono ?_;rintro r w2 ⟨rfl,hb⟩;rw [X2.out];have H2:Ho w w2 (w.heap.size+1+1) [(w.heap.size+1,[.int .i64 k,.int .i64 xl,.int .i64 xh,.int .i64 yl,.int .i64 yh,.int .i64 ul,.int .i64 uh,.int .i64 vl,.int .i64 vh]),(w.heap.size,[.slice (some ⟨nb,no,none⟩) L.length nc,.slice (some ⟨db,dd,none⟩) M.length dc,.int .i64 i0,.int .i64 i1])]:=Ho.call hoA hb;have o_2:=bxK o_1 hb;have n_2:=bxK n_1 hb;have b1_2:Bx w2 (w1.heap.size) [.int .i64 p1,.int .i64 q1]:=Bx.kept bxA hb;clear h0_1 h1_1 o_1c o_1f n_1c n_1f zx1;have hs2:=H2.size;have hz2:=hb.size
  (try simp at hz2)
  clear hb;have h0_2:=(H2.at 1 rfl).c;have h1_2:=(H2.at 0 rfl).c;have o_2c:=o_2.c;have o_2f:=o_2.f;have o_2l:=o_2.lt;have n_2c:=n_2.c;have n_2f:=n_2.f;have n_2l:=n_2.lt;have b1_2c:=b1_2.c;have b1_2f:=b1_2.f;have b1_2l:=b1_2.lt;have zx2:=ai (zq (w.heap.size+1+1) (w2.heap.size))<|ai (zq (w.heap.size+1+1+1) (w2.heap.size))<|ai (zq (w1.heap.size) (w2.heap.size))<|ai (zq (w.heap.size) (w2.heap.size))<|ai (zq (w.heap.size+1) (w2.heap.size))<|ai (zp (w.heap.size+1+1) (w.heap.size+1+1+1))<|ai (zp (w.heap.size+1+1) (w1.heap.size))<|ai (zp (w.heap.size+1+1) (w.heap.size))<|ai (zp (w.heap.size+1+1) (w.heap.size+1))<|ai (zp (w.heap.size+1+1+1) (w1.heap.size))<|ai (zp (w.heap.size+1+1+1) (w.heap.size))<|ai (zp (w.heap.size+1+1+1) (w.heap.size+1))<|ai (zp (w1.heap.size) (w.heap.size))<|zp (w1.heap.size) (w.heap.size+1)
  by_cases he2:e2=0
  ·subst he2
   go_wp2_with fail
   refine (add_any p1 q1 p2 q2 _).mono ?_;rintro r w3 ⟨rfl,hb⟩;rw [X3.out];have H3:Ho w w3 (w.heap.size+1+1) [(w.heap.size+1,[.int .i64 k,.int .i64 xl,.int .i64 xh,.int .i64 yl,.int .i64 yh,.int .i64 ul,.int .i64 uh,.int .i64 vl,.int .i64 vh]),(w.heap.size,[.slice (some ⟨nb,no,none⟩) L.length nc,.slice (some ⟨db,dd,none⟩) M.length dc,.int .i64 i0,.int .i64 i1])]:=Ho.call hoA hb;have o_3:=bxK o_2 hb;have n_3:=bxK n_2 hb;have b1_3:=bxK b1_2 hb;have b2_3:Bx w3 (w2.heap.size) [.int .i64 p2,.int .i64 q2]:=Bx.kept bxA hb;clear h0_2 h1_2 o_2c o_2f n_2c n_2f b1_2c b1_2f zx2;have hs3:=H3.size;have hz3:=hb.size
   (try simp at hz3)
   clear hb;have h0_3:=(H3.at 1 rfl).c;have h1_3:=(H3.at 0 rfl).c;have o_3c:=o_3.c;have o_3f:=o_3.f;have o_3l:=o_3.lt;have n_3c:=n_3.c;have n_3f:=n_3.f;have n_3l:=n_3.lt;have b1_3c:=b1_3.c;have b1_3f:=b1_3.f;have b1_3l:=b1_3.lt;have b2_3c:=b2_3.c;have b2_3f:=b2_3.f;have b2_3l:=b2_3.lt;have zx3:=ai (zq (w.heap.size+1+1) (w3.heap.size))<|ai (zq (w.heap.size+1+1+1) (w3.heap.size))<|ai (zq (w1.heap.size) (w3.heap.size))<|ai (zq (w2.heap.size) (w3.heap.size))<|ai (zq (w.heap.size) (w3.heap.size))<|ai (zq (w.heap.size+1) (w3.heap.size))<|ai (zp (w.heap.size+1+1) (w.heap.size+1+1+1))<|ai (zp (w.heap.size+1+1) (w1.heap.size))<|ai (zp (w.heap.size+1+1) (w2.heap.size))<|ai (zp (w.heap.size+1+1) (w.heap.size))<|ai (zp (w.heap.size+1+1) (w.heap.size+1))<|ai (zp (w.heap.size+1+1+1) (w1.heap.size))<|ai (zp (w.heap.size+1+1+1) (w2.heap.size))<|ai (zp (w.heap.size+1+1+1) (w.heap.size))<|ai (zp (w.heap.size+1+1+1) (w.heap.size+1))<|ai (zp (w1.heap.size) (w2.heap.size))<|ai (zp (w1.heap.size) (w.heap.size))<|ai (zp (w1.heap.size) (w.heap.size+1))<|ai (zp (w2.heap.size) (w.heap.size))<|zp (w2.heap.size) (w.heap.size+1)
   by_cases he3:e3=0
   ·subst he3
    go_upto_region 11 with fail
    have HA:Ho w (w3.alloc (.cells (List.toArray [.int .i64 p3,.int .i64 q3]) 25)) (w.heap.size+1+1) [(w.heap.size+1,[.int .i64 k,.int .i64 xl,.int .i64 xh,.int .i64 yl,.int .i64 yh,.int .i64 ul,.int .i64 uh,.int .i64 vl,.int .i64 vh]),(w.heap.size,[.slice (some ⟨nb,no,none⟩) L.length nc,.slice (some ⟨db,dd,none⟩) M.length dc,.int .i64 i0,.int .i64 i1])]:=hoA;have NA:Bx (w3.alloc (.cells (List.toArray [.int .i64 p3,.int .i64 q3]) 25)) (w.heap.size+1+1+1) [.int .i64 n.a,.int .i64 n.b,.int .i64 n.c,.int .i64 n.d,.int .i64 n.e,.int .i64 n.f]:=bxB;have OA:Bx (w3.alloc (.cells (List.toArray [.int .i64 p3,.int .i64 q3]) 25)) (w.heap.size+1+1) [.int .i64 0,.int .i64 0,.int .i64 0,.int .i64 0,.int .i64 0,.int .i64 0]:=bxB;have SA:Bx (w3.alloc (.cells (List.toArray [.int .i64 p3,.int .i64 q3]) 25)) w3.heap.size [.int .i64 p3,.int .i64 q3]:=bxA;have DA:=RP.kept HA.below;clear h0_3 h1_3 o_3c o_3f n_3c n_3f b1_3c b1_3f b2_3c b2_3f zx3;clear H3 n_3 o_3;revert HA NA OA SA DA;generalize w3.alloc (.cells (List.toArray [.int .i64 p3,.int .i64 q3]) 25)=w4;intro HA NA OA SA DA;have hN4:=NA.lt;have hO4:=OA.lt;have hS4:=SA.lt;have hD4:=DA.lt;have HG:=(HA.cons NA.rd).cons SA.rd;refine region_sets (Pg.I nb no nc db dd dc k L.length M.length w.heap.size (w.heap.size+1+1) w3.heap.size w4.heap.size i0 i1 dl dh xl xh yl yh ul uh vl vh p3 q3 p4 q4 e4 n w) (by kernel_rfl) ?_ ?_ ?_
    ·refine ⟨false,false,false,false,false,false,false,false,false,false,false,false,false,false,undef,undef,undef,undef,undef,undef,undef,undef,undef,undef,undef,undef,(.int .i64 0),0,rfl,by simp only [Act.put,sS],?_⟩;constructor
     ·exact hoA
     ·(first|(simp;done)|(simp;omega))
     ·(omega)
     ·exact bxB
     ·(omega)
     ·(with_reducible repeat (first|exact DA|refine Rs.alc ?_ _|refine Rs.drew ?_))
     ·(omega)
     all_goals (intro h;cases h)
    ·intro L a' w' hI i hi;obtain ⟨l0,l1,l2,l3,l4,l5,l6,l7,l8,l9,l10,l11,l12,l13,v0,v1,v2,v3,v4,v5,v6,v7,v8,v9,v10,v11,v13,b11,rfl,rfl,h⟩:=hI;have hlt:=ready_lt hi
     match i,hi,hlt with
     |0,hi,_=>
      obtain rfl:l0=false:=rl rfl hi;clear hi hlt;have H:=Lib.hid h;clear h;refine wpOp_shut rfl (fun K hK=>?_)
      try simp only [Act.put,sS]
      go_simp;refine hK.out _ _ ?_;unfold Pg.I;refine ⟨_,_,_,_,_,_,_,_,_,_,_,_,_,_,(.pointer (some ⟨w.heap.size,1,none⟩)),v1,v2,v3,v4,v5,v6,v7,v8,v9,v10,v11,v13,b11,rfl,?_,?_⟩
      ·simp only [Act.put,sS]
      ·exact {H.out with ev0:=fun _=>rfl}
     |1,hi,_=>
      obtain rfl:l1=false:=rl rfl hi;obtain rfl:l0=true:=rk rfl hi 0 .data;clear hi hlt;obtain rfl:=h.ev0 rfl;have c:=(h.g.at 3 rfl).c;have H:=Lib.hid h;clear h;refine wpOp_shut rfl (fun K hK=>?_)
      try simp only [Act.put,sS]
      go_simp;refine hK.out _ _ ?_;unfold Pg.I;refine ⟨_,_,_,_,_,_,_,_,_,_,_,_,_,_,(.pointer (some ⟨w.heap.size,1,none⟩)),(.slice (some ⟨db,dd,none⟩) M.length dc),v2,v3,v4,v5,v6,v7,v8,v9,v10,v11,v13,b11,rfl,?_,?_⟩
      ·simp only [Act.put,sS]
      ·exact {H.out with ev1:=fun _=>rfl}
     |2,hi,_=>
      obtain rfl:l2=false:=rl rfl hi;clear hi hlt;have H:=Lib.hid h;clear h;refine wpOp_shut rfl (fun K hK=>?_)
      try simp only [Act.put,sS]
      go_simp;refine hK.out _ _ ?_;unfold Pg.I;refine ⟨_,_,_,_,_,_,_,_,_,_,_,_,_,_,v0,v1,(.pointer (some ⟨w.heap.size+1,0,none⟩)),v3,v4,v5,v6,v7,v8,v9,v10,v11,v13,b11,rfl,?_,?_⟩
      ·simp only [Act.put,sS]
      ·exact {H.out with ev2:=fun _=>rfl}
     |3,hi,_=>
      obtain rfl:l3=false:=rl rfl hi;obtain rfl:l2=true:=rk rfl hi 2 .data;clear hi hlt;obtain rfl:=h.ev2 rfl;have c:=(h.g.at 2 rfl).c;have H:=Lib.hid h;clear h;refine wpOp_shut rfl (fun K hK=>?_)
      try simp only [Act.put,sS]
      go_simp;refine hK.out _ _ ?_;unfold Pg.I;refine ⟨_,_,_,_,_,_,_,_,_,_,_,_,_,_,v0,v1,(.pointer (some ⟨w.heap.size+1,0,none⟩)),(.int .i64 k),v4,v5,v6,v7,v8,v9,v10,v11,v13,b11,rfl,?_,?_⟩
      ·simp only [Act.put,sS]
      ·exact {H.out with ev3:=fun _=>rfl}
     |4,hi,_=>
      obtain rfl:l4=false:=rl rfl hi;obtain rfl:l1=true:=rk rfl hi 1 .data;obtain rfl:l3=true:=rk rfl hi 3 .data;clear hi hlt;obtain rfl:=h.ev1 rfl;obtain rfl:=h.ev3 rfl;have H:=Lib.hid h;clear h;refine wpOp_shut rfl (fun K hK=>?_)
      try simp only [Act.put,sS]
      go_simp;refine hK.out _ _ ?_;unfold Pg.I;refine ⟨_,_,_,_,_,_,_,_,_,_,_,_,_,_,v0,(.slice (some ⟨db,dd,none⟩) M.length dc),v2,(.int .i64 k),(.pointer (some ⟨db,dd+k*2,none⟩)),v5,v6,v7,v8,v9,v10,v11,v13,b11,rfl,?_,?_⟩
      ·simp only [Act.put,sS]
      ·exact {H.out with ev4:=fun _=>rfl}
     |5,hi,_=>
      obtain rfl:l5=false:=rl rfl hi;obtain rfl:l4=true:=rk rfl hi 4 .data;clear hi hlt;obtain rfl:=h.ev4 rfl;have c0:w'.cell? ⟨db,dd+k*2,none⟩=some (.int .i64 dl):=h.u1.c 0 (by simp);have c1:w'.cell? ⟨db,dd+k*2+1,none⟩=some (.int .i64 dh):=h.u1.c 1 (by simp);have H:=Lib.hid h;clear h;refine wpOp_shut rfl (fun K hK=>?_)
      try simp only [Act.put,sS]
      go_simp;refine hK.out _ _ ?_;unfold Pg.I;refine ⟨_,_,_,_,_,_,_,_,_,_,_,_,_,_,v0,v1,v2,v3,(.pointer (some ⟨db,dd+k*2,none⟩)),((iv dl dh)),v6,v7,v8,v9,v10,v11,v13,b11,rfl,?_,?_⟩
      ·simp only [Act.put,sS]
      ·exact {H.out with ev5:=fun _=>rfl}
     |6,hi,_=>
      obtain rfl:l6=false:=rl rfl hi;clear hi hlt;have c:=(h.g.at 0 rfl).c;have H:=Lib.hid h;clear h;refine wpOp_shut rfl (fun K hK=>?_)
      try simp only [Act.put,sS]
      go_simp;refine hK.out _ _ ?_;unfold Pg.I;refine ⟨_,_,_,_,_,_,_,_,_,_,_,_,_,_,v0,v1,v2,v3,v4,v5,((iv p3 q3)),v7,v8,v9,v10,v11,v13,b11,rfl,?_,?_⟩
      ·simp only [Act.put,sS]
      ·exact {H.out with ev6:=fun _=>rfl}
     |7,hi,_=>
      obtain rfl:l7=false:=rl rfl hi;obtain rfl:l5=true:=rk rfl hi 5 .data;obtain rfl:l6=true:=rk rfl hi 6 .data;clear hi hlt;obtain rfl:=h.ev5 rfl;obtain rfl:=h.ev6 rfl;have H:=Lib.hid h;clear h;refine wpOp_shut rfl (fun K hK=>?_)
      try simp only [Act.put,sS]
      go_simp;refine (sub_any dl dh p3 q3 _).mono ?_;rintro e wY ⟨rfl,hb⟩;rw [HF.out];unfold retR;dsimp only
      try go_simp
      refine hK.out _ _ ?_;unfold Pg.I;refine ⟨_,_,_,_,_,_,_,_,_,_,_,_,_,_,v0,v1,v2,v3,v4,((iv dl dh)),((iv p3 q3)),(.tuple #[(iv p4 q4),.int .i64 e4]),v8,v9,v10,v11,v13,b11,rfl,?_,?_⟩
      ·simp only [Act.put,sS]
      ·exact {(H.out.kept hb) with ev7:=fun _=>rfl}
     |8,hi,_=>
      obtain rfl:l8=false:=rl rfl hi;obtain rfl:l7=true:=rk rfl hi 7 .data;clear hi hlt;obtain rfl:=h.ev7 rfl;have H:=Lib.hid h;clear h;refine wpOp_shut rfl (fun K hK=>?_)
      try simp only [Act.put,sS]
      go_simp;refine hK.out _ _ ?_;unfold Pg.I;refine ⟨_,_,_,_,_,_,_,_,_,_,_,_,_,_,v0,v1,v2,v3,v4,v5,v6,(.tuple #[(iv p4 q4),.int .i64 e4]),(.tuple #[(iv p4 q4),.int .i64 e4]),v9,v10,v11,v13,b11,rfl,?_,?_⟩
      ·simp only [Act.put,sS]
      ·exact {H.out with ev8:=fun _=>rfl}
     |9,hi,_=>
      obtain rfl:l9=false:=rl rfl hi;obtain rfl:l8=true:=rk rfl hi 8 .data;clear hi hlt;obtain rfl:=h.ev8 rfl;have H:=Lib.hid h;clear h;refine wpOp_shut rfl (fun K hK=>?_)
      try simp only [Act.put,sS]
      go_simp;refine hK.out _ _ ?_;unfold Pg.I;refine ⟨_,_,_,_,_,_,_,_,_,_,_,_,_,_,v0,v1,v2,v3,v4,v5,v6,v7,(.tuple #[(iv p4 q4),.int .i64 e4]),((iv p4 q4)),v10,v11,v13,b11,rfl,?_,?_⟩
      ·simp only [Act.put,sS]
      ·exact {H.out with ev9:=fun _=>rfl}
     |10,hi,_=>
      obtain rfl:l10=false:=rl rfl hi;obtain rfl:l8=true:=rk rfl hi 8 .data;clear hi hlt;obtain rfl:=h.ev8 rfl;have H:=Lib.hid h;clear h;refine wpOp_shut rfl (fun K hK=>?_)
      try simp only [Act.put,sS]
      go_simp;refine hK.out _ _ ?_;unfold Pg.I;refine ⟨_,_,_,_,_,_,_,_,_,_,_,_,_,_,v0,v1,v2,v3,v4,v5,v6,v7,(.tuple #[(iv p4 q4),.int .i64 e4]),v9,(.int .i64 e4),v11,v13,b11,rfl,?_,?_⟩
      ·simp only [Act.put,sS]
      ·exact {H.out with ev10:=fun _=>rfl}
     |11,hi,_=>
      obtain rfl:l11=false:=rl rfl hi;clear hi hlt;have H:=Lib.hid h;clear h;refine wpOp_shut rfl (fun K hK=>?_)
      try simp only [Act.put,sS]
      go_simp;refine hK.out _ _ ?_;unfold Pg.I;refine ⟨_,_,_,_,_,_,_,_,_,_,_,_,_,_,v0,v1,v2,v3,v4,v5,v6,v7,v8,v9,v10,(.pointer (some ⟨w'.heap.size,0,none⟩)),v13,w'.heap.size,rfl,?_,?_⟩
      ·simp only [Act.put,sS]
      ·have h:=H.out;have h2:=h.kept ((Below.refl _ _).alloc (Nat.le_refl _) (.cells (List.toArray [.int .i64 0,.int .i64 0]) 25));exact {h2 with ev11:=fun _=>rfl,g11:=fun _=>h.sz,t11:=fun _=>by simp,o11:=fun p=>rfl,z11:=fun _ _=>Bx.new rfl,s11:=fun p=>(nomatch (h.o11 p))}
     |12,hi,_=>
      obtain rfl:l12=false:=rl rfl hi;obtain rfl:l11=true:=rk rfl hi 11 .phase;obtain rfl:l9=true:=rk rfl hi 9 .phase;obtain rfl:l7=true:=rk rfl hi 7 .phase;obtain rfl:l0=true:=rk rfl hi 0 .phase;obtain rfl:l1=true:=rk rfl hi 1 .phase;obtain rfl:l2=true:=rk rfl hi 2 .phase;obtain rfl:l3=true:=rk rfl hi 3 .phase;obtain rfl:l4=true:=rk rfl hi 4 .phase;obtain rfl:l5=true:=rk rfl hi 5 .phase;obtain rfl:l6=true:=rk rfl hi 6 .phase;obtain rfl:l8=true:=rk rfl hi 8 .phase;clear hi hlt;obtain rfl:=h.ev11 rfl;obtain rfl:=h.ev9 rfl;obtain rfl:=h.ev7 rfl;obtain rfl:=h.ev0 rfl;obtain rfl:=h.ev1 rfl;obtain rfl:=h.ev2 rfl;obtain rfl:=h.ev3 rfl;obtain rfl:=h.ev4 rfl;obtain rfl:=h.ev5 rfl;obtain rfl:=h.ev6 rfl;obtain rfl:=h.ev8 rfl;have bz:=h.z11 rfl rfl;have c:=bz.c;have f:=bz.f;clear bz;have H:=Lib.hid h;clear h;refine wpOp_shut rfl (fun K hK=>?_)
      try simp only [Act.put,sS]
      go_simp;refine hK.out _ _ ?_;unfold Pg.I;refine ⟨_,_,_,_,_,_,_,_,_,_,_,_,_,_,(.pointer (some ⟨w.heap.size,1,none⟩)),(.slice (some ⟨db,dd,none⟩) M.length dc),(.pointer (some ⟨w.heap.size+1,0,none⟩)),(.int .i64 k),(.pointer (some ⟨db,dd+k*2,none⟩)),((iv dl dh)),((iv p3 q3)),(.tuple #[(iv p4 q4),.int .i64 e4]),(.tuple #[(iv p4 q4),.int .i64 e4]),((iv p4 q4)),v10,(.pointer (some ⟨b11,0,none⟩)),v13,b11,rfl,?_,?_⟩
      ·simp only [Act.put,sS]
      ·have h:=H.out;have gb:=h.g11 rfl;have gm:=Nat.le_trans h.mn gb;exact {h with g:=((h.g.put gm).put gm),sz:=by simpa using h.sz,o11:=fun _=>rfl,z11:=fun _ p=>(nomatch p),s11:=fun _=>(((h.z11 rfl rfl).put).put),t11:=fun p=>by simpa using h.t11 p,u0:=((h.u0.set (Nat.ne_of_lt (Nat.lt_of_lt_of_le h.un0 gb))).set (Nat.ne_of_lt (Nat.lt_of_lt_of_le h.un0 gb))),u1:=((h.u1.set (Nat.ne_of_lt (Nat.lt_of_lt_of_le h.un1 gb))).set (Nat.ne_of_lt (Nat.lt_of_lt_of_le h.un1 gb)))}
     |13,hi,_=>
      obtain rfl:l13=false:=rl rfl hi;obtain rfl:l10=true:=rk rfl hi 10 .phase;obtain rfl:l12=true:=rk rfl hi 12 .phase;obtain rfl:l0=true:=rk rfl hi 0 .phase;obtain rfl:l1=true:=rk rfl hi 1 .phase;obtain rfl:l2=true:=rk rfl hi 2 .phase;obtain rfl:l3=true:=rk rfl hi 3 .phase;obtain rfl:l4=true:=rk rfl hi 4 .phase;obtain rfl:l5=true:=rk rfl hi 5 .phase;obtain rfl:l6=true:=rk rfl hi 6 .phase;obtain rfl:l7=true:=rk rfl hi 7 .phase;obtain rfl:l8=true:=rk rfl hi 8 .phase;obtain rfl:l9=true:=rk rfl hi 9 .phase;obtain rfl:l11=true:=rk rfl hi 11 .phase;clear hi hlt;obtain rfl:=h.ev10 rfl;obtain rfl:=h.ev0 rfl;obtain rfl:=h.ev1 rfl;obtain rfl:=h.ev2 rfl;obtain rfl:=h.ev3 rfl;obtain rfl:=h.ev4 rfl;obtain rfl:=h.ev5 rfl;obtain rfl:=h.ev6 rfl;obtain rfl:=h.ev7 rfl;obtain rfl:=h.ev8 rfl;obtain rfl:=h.ev9 rfl;obtain rfl:=h.ev11 rfl;have H:=Lib.hid h;clear h;refine wpOp_shut rfl (fun K hK=>?_)
      try simp only [Act.put,sS]
      go_simp;refine hK.out _ _ ?_;unfold Pg.I;refine ⟨_,_,_,_,_,_,_,_,_,_,_,_,_,_,(.pointer (some ⟨w.heap.size,1,none⟩)),(.slice (some ⟨db,dd,none⟩) M.length dc),(.pointer (some ⟨w.heap.size+1,0,none⟩)),(.int .i64 k),(.pointer (some ⟨db,dd+k*2,none⟩)),((iv dl dh)),((iv p3 q3)),(.tuple #[(iv p4 q4),.int .i64 e4]),(.tuple #[(iv p4 q4),.int .i64 e4]),((iv p4 q4)),(.int .i64 e4),(.pointer (some ⟨b11,0,none⟩)),(.int .i64 e4),b11,rfl,?_,?_⟩
      ·simp only [Act.put,sS]
      ·exact {H.out with ev13:=fun _=>rfl}
     |i+14,_,hlt=>exact absurd hlt (by simp)
    ·intro L a' w' hI hn;obtain ⟨l0,l1,l2,l3,l4,l5,l6,l7,l8,l9,l10,l11,l12,l13,v0,v1,v2,v3,v4,v5,v6,v7,v8,v9,v10,v11,v13,b11,rfl,rfl,h⟩:=hI;obtain rfl:l0=true:=nr 0 rfl hn;obtain rfl:l1=true:=nr 1 rfl hn;obtain rfl:l2=true:=nr 2 rfl hn;obtain rfl:l3=true:=nr 3 rfl hn;obtain rfl:l4=true:=nr 4 rfl hn;obtain rfl:l5=true:=nr 5 rfl hn;obtain rfl:l6=true:=nr 6 rfl hn;obtain rfl:l7=true:=nr 7 rfl hn;obtain rfl:l8=true:=nr 8 rfl hn;obtain rfl:l9=true:=nr 9 rfl hn;obtain rfl:l10=true:=nr 10 rfl hn;obtain rfl:l11=true:=nr 11 rfl hn;obtain rfl:l12=true:=nr 12 rfl hn;obtain rfl:l13=true:=nr 13 rfl hn;clear hn;obtain rfl:=h.ev0 rfl;obtain rfl:=h.ev1 rfl;obtain rfl:=h.ev2 rfl;obtain rfl:=h.ev3 rfl;obtain rfl:=h.ev4 rfl;obtain rfl:=h.ev5 rfl;obtain rfl:=h.ev6 rfl;obtain rfl:=h.ev7 rfl;obtain rfl:=h.ev8 rfl;obtain rfl:=h.ev9 rfl;obtain rfl:=h.ev10 rfl;obtain rfl:=h.ev11 rfl;obtain rfl:=h.ev13 rfl;simp only [Act.put,sS]
     rename World=>w5
     have H5:=h.g;have O5:=h.u0;have B11:=h.s11 rfl;have hz5:=h.sz;have e11:=h.g11 rfl;clear h;have o5c:=O5.c;have o5f:=O5.f;have x11:=B11.c;have y11:=B11.lt;have nn:=(H5.at 1 rfl).c;have cc:=(H5.at 2 rfl).c;have z5:=O5.lt
     by_cases he4:e4=0
     ·subst he4
      go_wp2_with fail
      refine (div_any p4 q4 n.e n.f _).mono ?_;rintro r w6 ⟨rfl,hb⟩;rw [X5.out];have H6:=H5.call hb;have O6:=O5.kept hb;clear hb o5c o5f x11 nn cc;have o6c:=O6.c;have o6f:=O6.f;have z6:=O6.lt;have cc:=(H6.at 2 rfl).c;have hz6:=H6.size;have l6:=(H6.at 2 rfl).lt
      have a6:¬(w.heap.size+1=w6.heap.size):=by omega
      have b6:¬(w6.heap.size=w.heap.size+1):=by omega
      have d6:¬(w.heap.size+1+1=w6.heap.size):=by omega
      have f6:¬(w6.heap.size=w.heap.size+1+1):=by omega
      by_cases he5:e5=0
      ·subst he5
       go_wp2_with fail
       refine bodyPost_box (b:=w.heap.size+1+1) (cs:=[.int .i64 xl,.int .i64 xh,.int .i64 yl,.int .i64 yh,.int .i64 p5,.int .i64 q5]) (v:=.tuple #[.agg #[.int .i64 xl,.int .i64 xh,.int .i64 yl,.int .i64 yh,.int .i64 p5,.int .i64 q5],.int .i64 0]) bxA (fun X hX=>by simp [results,Tryz.results29,go_sem,hX]) rfl ⟨by simp [retD],by
        (with_reducible repeat (first|exact H6.below|refine Below.setCell ?_ (by show w.heap.size≤w.heap.size+1+1;omega) _|refine Below.drew ?_|refine Below.alloc ?_ (by have:=H6.below.size;first|omega|(simp<;>omega)) _))⟩
      ·have ne5:(e5 != 0)=true:=by simpa using he5
       go_wp2_with fail
       refine bodyPost_box (b:=w.heap.size+1+1) (cs:=[.int .i64 0,.int .i64 0,.int .i64 0,.int .i64 0,.int .i64 0,.int .i64 0]) (v:=.tuple #[.agg #[.int .i64 0,.int .i64 0,.int .i64 0,.int .i64 0,.int .i64 0,.int .i64 0],.int .i64 e5]) bxA (fun X hX=>by simp [results,Tryz.results29,go_sem,hX]) rfl ⟨by first|(simp [retD];done)|simp [he5,retD],by
        (with_reducible repeat (first|exact H6.below|refine Below.setCell ?_ (by show w.heap.size≤w.heap.size+1+1;omega) _|refine Below.drew ?_|refine Below.alloc ?_ (by have:=H6.below.size;first|omega|(simp<;>omega)) _))⟩
     ·have ne4:(e4 != 0)=true:=by simpa using he4
      go_wp2_with fail
      refine bodyPost_box (b:=w.heap.size+1+1) (cs:=[.int .i64 0,.int .i64 0,.int .i64 0,.int .i64 0,.int .i64 0,.int .i64 0]) (v:=.tuple #[.agg #[.int .i64 0,.int .i64 0,.int .i64 0,.int .i64 0,.int .i64 0,.int .i64 0],.int .i64 e4]) bxA (fun X hX=>by simp [results,Tryz.results29,go_sem,hX]) rfl ⟨by first|(simp [retD];done)|simp [he4,retD],by
       (with_reducible repeat (first|exact H5.below|refine Below.setCell ?_ (by show w.heap.size≤w.heap.size+1+1;omega) _|refine Below.drew ?_|refine Below.alloc ?_ (by have:=H5.below.size;first|omega|(simp<;>omega)) _))⟩
   ·have ne3:(e3 != 0)=true:=by simpa using he3
    go_wp2_with fail
    refine bodyPost_box (b:=w.heap.size+1+1) (cs:=[.int .i64 0,.int .i64 0,.int .i64 0,.int .i64 0,.int .i64 0,.int .i64 0]) (v:=.tuple #[.agg #[.int .i64 0,.int .i64 0,.int .i64 0,.int .i64 0,.int .i64 0,.int .i64 0],.int .i64 e3]) bxA (fun X hX=>by simp [results,Tryz.results29,go_sem,hX]) rfl ⟨by simp_all [retD],by
     refine Ho.below (n:=w.heap.size+1+1) (l:=[(w.heap.size+1,[.int .i64 k,.int .i64 xl,.int .i64 xh,.int .i64 yl,.int .i64 yh,.int .i64 ul,.int .i64 uh,.int .i64 vl,.int .i64 vh]),(w.heap.size,[.slice (some ⟨nb,no,none⟩) L.length nc,.slice (some ⟨db,dd,none⟩) M.length dc,.int .i64 i0,.int .i64 i1])]) ?_
     exact hoA⟩
  ·have ne2:(e2 != 0)=true:=by simpa using he2
   go_wp2_with fail
   refine bodyPost_box (b:=w.heap.size+1+1) (cs:=[.int .i64 0,.int .i64 0,.int .i64 0,.int .i64 0,.int .i64 0,.int .i64 0]) (v:=.tuple #[.agg #[.int .i64 0,.int .i64 0,.int .i64 0,.int .i64 0,.int .i64 0,.int .i64 0],.int .i64 e2]) bxA (fun X hX=>by simp [results,Tryz.results29,go_sem,hX]) rfl ⟨by simp_all [retD],by
    refine Ho.below (n:=w.heap.size+1+1) (l:=[(w.heap.size+1,[.int .i64 k,.int .i64 xl,.int .i64 xh,.int .i64 yl,.int .i64 yh,.int .i64 ul,.int .i64 uh,.int .i64 vl,.int .i64 vh]),(w.heap.size,[.slice (some ⟨nb,no,none⟩) L.length nc,.slice (some ⟨db,dd,none⟩) M.length dc,.int .i64 i0,.int .i64 i1])]) ?_
    exact hoA⟩
 ·have ne1:(e1 != 0)=true:=by simpa using he1
  go_wp2_with fail
  refine bodyPost_box (b:=w.heap.size+1+1) (cs:=[.int .i64 0,.int .i64 0,.int .i64 0,.int .i64 0,.int .i64 0,.int .i64 0]) (v:=.tuple #[.agg #[.int .i64 0,.int .i64 0,.int .i64 0,.int .i64 0,.int .i64 0,.int .i64 0],.int .i64 e1]) bxA (fun X hX=>by simp [results,Tryz.results29,go_sem,hX]) rfl ⟨by simp_all [retD],by
   refine Ho.below (n:=w.heap.size+1+1) (l:=[(w.heap.size+1,[.int .i64 k,.int .i64 xl,.int .i64 xh,.int .i64 yl,.int .i64 yh,.int .i64 ul,.int .i64 uh,.int .i64 vl,.int .i64 vh]),(w.heap.size,[.slice (some ⟨nb,no,none⟩) L.length nc,.slice (some ⟨db,dd,none⟩) M.length dc,.int .i64 i0,.int .i64 i1])]) ?_
   exact hoA⟩
end Go.Proofs.YtiecdgcdcpmgaaaGreat.Iv

/- Contract of the closure in cell.Covers. -/
namespace Go.Proofs.YtiecdgcdcpmgaaaGreat.Iv
open Go.RowKit
attribute [local go_sem] Oper.semAt_some
def gapR (n:D) (dl dh:Int) (t:D):R:=if (dotR n t).e=0 then subR dl dh (dotR n t).lo (dotR n t).hi else ⟨0,0,(dotR n t).e⟩
def kindS (kd:Int) (g:R):Int:=if g.e=0 then (if g.hi<0 then 2 else if g.lo<0∧kd=1 then 3 else kd) else kd
structure Va (nb no nc db dd dc k lL lM b0 b2 kb n0:Nat) (i0 i1 dl dh kd p1 q1 e1 p2 q2 e2:Int) (n t:D) (w0 w:World) (l0 l1 l2 l3 l4 l5 l6 l7 l8 l9 l10 l11 l12:Bool) (v0 v1 v2 v3 v4 v5 v6 v7 v8 v9 v10 v12:Value) (b10:Nat):Prop where
 g:Ho w0 w n0 [(b2,[.int .i64 t.a,.int .i64 t.b,.int .i64 t.c,.int .i64 t.d,.int .i64 t.e,.int .i64 t.f]),(b0,[.slice (some ⟨nb,no,none⟩) lL nc,.slice (some ⟨db,dd,none⟩) lM dc,.int .i64 i0,.int .i64 i1])]
 sz:n0≤w.heap.size
 mn:n0≤n0
 u0:Rs w nb (no+k*6) [.int .i64 n.a,.int .i64 n.b,.int .i64 n.c,.int .i64 n.d,.int .i64 n.e,.int .i64 n.f]
 un0:nb<n0
 ev0:l0=true→v0 = .pointer (some ⟨b0,0,none⟩)
 ev1:l1=true→v1 = .slice (some ⟨nb,no,none⟩) lL nc
 ev2:l2=true→v2 = .int .i64 k
 ev3:l3=true→v3 = .pointer (some ⟨nb,no+k*6,none⟩)
 ev4:l4=true→v4=(dv n)
 ev5:l5=true→v5=(dv t)
 ev6:l6=true→v6 = .tuple #[(iv p1 q1),.int .i64 e1]
 ev7:l7=true→v7 = .tuple #[(iv p1 q1),.int .i64 e1]
 ev8:l8=true→v8=(iv p1 q1)
 ev9:l9=true→v9 = .int .i64 e1
 ev10:l10=true→v10 = .pointer (some ⟨b10,0,none⟩)
 ev12:l12=true→v12 = .int .i64 e1
 g10:l10=true→n0≤b10
 t10:l10=true→b10<w.heap.size
 o10:l11=true→l10=true
 z10:l10=true→l11=false→Bx w b10 [.int .i64 0,.int .i64 0]
 s10:l11=true→Bx w b10 [.int .i64 p1,.int .i64 q1]
theorem Va.kept {nb no nc db dd dc k lL lM b0 b2 kb n0:Nat} {i0 i1 dl dh kd p1 q1 e1 p2 q2 e2:Int} {n t:D} {w0 w:World} {l0 l1 l2 l3 l4 l5 l6 l7 l8 l9 l10 l11 l12:Bool} {v0 v1 v2 v3 v4 v5 v6 v7 v8 v9 v10 v12:Value} {b10:Nat} {w':World} (h:Va nb no nc db dd dc k lL lM b0 b2 kb n0 i0 i1 dl dh kd p1 q1 e1 p2 q2 e2 n t w0 w l0 l1 l2 l3 l4 l5 l6 l7 l8 l9 l10 l11 l12 v0 v1 v2 v3 v4 v5 v6 v7 v8 v9 v10 v12 b10) (hb:Below w.heap.size w w'):Va nb no nc db dd dc k lL lM b0 b2 kb n0 i0 i1 dl dh kd p1 q1 e1 p2 q2 e2 n t w0 w' l0 l1 l2 l3 l4 l5 l6 l7 l8 l9 l10 l11 l12 v0 v1 v2 v3 v4 v5 v6 v7 v8 v9 v10 v12 b10:=
 {h with g:=h.g.call hb,sz:=Nat.le_trans h.sz hb.size,u0:=h.u0.kept hb,t10:=fun p=>Nat.lt_of_lt_of_le (h.t10 p) hb.size,z10:=fun p q=>(h.z10 p q).kept hb,s10:=fun p=>(h.s10 p).kept hb}
def Va.I (nb no nc db dd dc k lL lM b0 b2 kb n0:Nat) (i0 i1 dl dh kd p1 q1 e1 p2 q2 e2:Int) (n t:D) (w0:World):Act→Array Bool→Act→World→Prop:=fun aO LX aX w=>∃(l0 l1 l2 l3 l4 l5 l6 l7 l8 l9 l10 l11 l12:Bool) (v0 v1 v2 v3 v4 v5 v6 v7 v8 v9 v10 v12:Value) (b10:Nat),LX=#[l0,l1,l2,l3,l4,l5,l6,l7,l8,l9,l10,l11,l12]∧aX=((((((((((((aO.put (some 10) v0).put (some 11) v1).put (some 12) v2).put (some 13) v3).put (some 14) v4).put (some 15) v5).put (some 16) v6).put (some 9) v7).put (some 17) v8).put (some 18) v9).put (some 6) v10).put (some 7) v12)∧Va nb no nc db dd dc k lL lM b0 b2 kb n0 i0 i1 dl dh kd p1 q1 e1 p2 q2 e2 n t w0 w l0 l1 l2 l3 l4 l5 l6 l7 l8 l9 l10 l11 l12 v0 v1 v2 v3 v4 v5 v6 v7 v8 v9 v10 v12 b10
structure Vb (nb no nc db dd dc k lL lM b0 b2 kb b6 n0:Nat) (i0 i1 dl dh kd p1 q1 e1 p2 q2 e2:Int) (n t:D) (w0 w:World) (l0 l1 l2 l3 l4 l5 l6 l7 l8 l9 l10 l11 l12:Bool) (v0 v1 v2 v3 v4 v5 v6 v7 v8 v9 v10 v12:Value) (b10:Nat):Prop where
 g:Ho w0 w n0 [(b6,[.int .i64 p1,.int .i64 q1]),(b2,[.int .i64 t.a,.int .i64 t.b,.int .i64 t.c,.int .i64 t.d,.int .i64 t.e,.int .i64 t.f]),(b0,[.slice (some ⟨nb,no,none⟩) lL nc,.slice (some ⟨db,dd,none⟩) lM dc,.int .i64 i0,.int .i64 i1])]
 sz:n0≤w.heap.size
 mn:n0≤n0
 u0:Rs w db (dd+k*2) [.int .i64 dl,.int .i64 dh]
 un0:db<n0
 ev0:l0=true→v0 = .pointer (some ⟨b0,1,none⟩)
 ev1:l1=true→v1 = .slice (some ⟨db,dd,none⟩) lM dc
 ev2:l2=true→v2 = .int .i64 k
 ev3:l3=true→v3 = .pointer (some ⟨db,dd+k*2,none⟩)
 ev4:l4=true→v4=(iv dl dh)
 ev5:l5=true→v5=(iv p1 q1)
 ev6:l6=true→v6 = .tuple #[(iv p2 q2),.int .i64 e2]
 ev7:l7=true→v7 = .tuple #[(iv p2 q2),.int .i64 e2]
 ev8:l8=true→v8=(iv p2 q2)
 ev9:l9=true→v9 = .int .i64 e2
 ev10:l10=true→v10 = .pointer (some ⟨b10,0,none⟩)
 ev12:l12=true→v12 = .int .i64 e2
 g10:l10=true→n0≤b10
 t10:l10=true→b10<w.heap.size
 o10:l11=true→l10=true
 z10:l10=true→l11=false→Bx w b10 [.int .i64 0,.int .i64 0]
 s10:l11=true→Bx w b10 [.int .i64 p2,.int .i64 q2]
theorem Vb.kept {nb no nc db dd dc k lL lM b0 b2 kb b6 n0:Nat} {i0 i1 dl dh kd p1 q1 e1 p2 q2 e2:Int} {n t:D} {w0 w:World} {l0 l1 l2 l3 l4 l5 l6 l7 l8 l9 l10 l11 l12:Bool} {v0 v1 v2 v3 v4 v5 v6 v7 v8 v9 v10 v12:Value} {b10:Nat} {w':World} (h:Vb nb no nc db dd dc k lL lM b0 b2 kb b6 n0 i0 i1 dl dh kd p1 q1 e1 p2 q2 e2 n t w0 w l0 l1 l2 l3 l4 l5 l6 l7 l8 l9 l10 l11 l12 v0 v1 v2 v3 v4 v5 v6 v7 v8 v9 v10 v12 b10) (hb:Below w.heap.size w w'):Vb nb no nc db dd dc k lL lM b0 b2 kb b6 n0 i0 i1 dl dh kd p1 q1 e1 p2 q2 e2 n t w0 w' l0 l1 l2 l3 l4 l5 l6 l7 l8 l9 l10 l11 l12 v0 v1 v2 v3 v4 v5 v6 v7 v8 v9 v10 v12 b10:=
 {h with g:=h.g.call hb,sz:=Nat.le_trans h.sz hb.size,u0:=h.u0.kept hb,t10:=fun p=>Nat.lt_of_lt_of_le (h.t10 p) hb.size,z10:=fun p q=>(h.z10 p q).kept hb,s10:=fun p=>(h.s10 p).kept hb}
def Vb.I (nb no nc db dd dc k lL lM b0 b2 kb b6 n0:Nat) (i0 i1 dl dh kd p1 q1 e1 p2 q2 e2:Int) (n t:D) (w0:World):Act→Array Bool→Act→World→Prop:=fun aO LX aX w=>∃(l0 l1 l2 l3 l4 l5 l6 l7 l8 l9 l10 l11 l12:Bool) (v0 v1 v2 v3 v4 v5 v6 v7 v8 v9 v10 v12:Value) (b10:Nat),LX=#[l0,l1,l2,l3,l4,l5,l6,l7,l8,l9,l10,l11,l12]∧aX=((((((((((((aO.put (some 23) v0).put (some 24) v1).put (some 25) v2).put (some 26) v3).put (some 27) v4).put (some 28) v5).put (some 29) v6).put (some 22) v7).put (some 30) v8).put (some 31) v9).put (some 8) v10).put (some 7) v12)∧Vb nb no nc db dd dc k lL lM b0 b2 kb b6 n0 i0 i1 dl dh kd p1 q1 e1 p2 q2 e2 n t w0 w l0 l1 l2 l3 l4 l5 l6 l7 l8 l9 l10 l11 l12 v0 v1 v2 v3 v4 v5 v6 v7 v8 v9 v10 v12 b10
set_option linter.unusedSimpArgs false in
set_option maxRecDepth 100000 in
set_option maxHeartbeats 16000000 in
theorem cover1_any {na da:Option Addr} {nc dc k b0 b2 kb:Nat} {L:List D} {M:List (Int × Int)} {i0 i1 dl dh kd:Int} {n t:D} (B:Nat) (w:World) (hn:NAt w na L) (hp:PAt w da M) (hx:L[k]? = some n) (hy:M[k]? = some (dl,dh))
  (h0:Rd w b0 [.slice na L.length nc,.slice da M.length dc,.int .i64 i0,.int .i64 i1]) (h2:Rd w b2 [.int .i64 t.a,.int .i64 t.b,.int .i64 t.c,.int .i64 t.d,.int .i64 t.e,.int .i64 t.f]) (hk:Ce w kb kd) :
  Calls Tryz.prog 55 #[.int .i64 k,.pointer (some ⟨b0,0,none⟩),.pointer (some ⟨b2,0,none⟩),.pointer (some ⟨kb,0,none⟩)] w fun e w'=>e = .returned (.int .i64 (gapR n dl dh t).e)∧Step B w kb (kindS kd (gapR n dl dh t)) w':=by
 have hk1:k<L.length:=(List.getElem?_eq_some_iff.1 hx).1;have hk2:k<M.length:=(List.getElem?_eq_some_iff.1 hy).1;obtain ⟨nb,no,rfl,hnb,hN⟩:=hn (by omega);obtain ⟨db,dd,rfl,hdb,hD⟩:=hp (by omega);have RN:=(Rs.mk hnb (hN k n hx):Rs w nb (no+k*6) [.int .i64 n.a,.int .i64 n.b,.int .i64 n.c,.int .i64 n.d,.int .i64 n.e,.int .i64 n.f]);have RP:=(Rs.mk hdb (hD k (dl,dh) hy):Rs w db (dd+k*2) [.int .i64 dl,.int .i64 dh])
 have hlt':(k:Int)<(L.length:Int):=by omega
 have hlt2:(k:Int)<(M.length:Int):=by omega
 have hge':(0:Int)≤(k:Int):=by omega
 clear hN hD hn hp hx hy;have HA:=((Ho.nil w).cons h0).cons h2;have kc:w.cell? ⟨kb,0,none⟩=some (.int .i64 kd):=hk.v;have HKC:=Lib.hid kc;have HBX:=Lib.hid hk;clear h0 h2 hk kc;obtain ⟨⟨p1,q1,e1⟩,h1⟩:∃r:R,dotR n t=r:=⟨_,rfl⟩;obtain ⟨⟨p2,q2,e2⟩,h2⟩:∃r:R,subR dl dh p1 q1=r:=⟨_,rfl⟩;have HG:=Lib.hid (show gapR n dl dh t=if e1=0 then ⟨p2,q2,e2⟩ else ⟨0,0,e1⟩ from by unfold gapR;rw [h1];dsimp only;rw [h2]);have X1:=Lib.hid h1;have X2:=Lib.hid h2;clear h1 h2;go_enter Tryz.func55,Tryz.ntmps55
 go_upto_region 1 with fail
 refine region_sets (Va.I nb no nc db dd dc k L.length M.length b0 b2 kb w.heap.size i0 i1 dl dh kd p1 q1 e1 p2 q2 e2 n t w) (by kernel_rfl) ?_ ?_ ?_
 ·refine ⟨false,false,false,false,false,false,false,false,false,false,false,false,false,undef,undef,undef,undef,undef,undef,undef,undef,undef,undef,undef,undef,0,rfl,by simp only [Act.put,sS],?_⟩;constructor
  ·exact hoA
  ·(first|(simp;done)|(simp;omega))
  ·(omega)
  ·(with_reducible repeat (first|exact RN|refine Rs.alc ?_ _|refine Rs.drew ?_))
  ·(omega)
  all_goals (intro h;cases h)
 ·intro L a' w' hI i hi;obtain ⟨l0,l1,l2,l3,l4,l5,l6,l7,l8,l9,l10,l11,l12,v0,v1,v2,v3,v4,v5,v6,v7,v8,v9,v10,v12,b10,rfl,rfl,h⟩:=hI;have hlt:=ready_lt hi
  match i,hi,hlt with
  |0,hi,_=>
   obtain rfl:l0=false:=rl rfl hi;clear hi hlt;have H:=Lib.hid h;clear h;refine wpOp_shut rfl (fun K hK=>?_)
   try simp only [Act.put,sS]
   go_simp;refine hK.out _ _ ?_;unfold Va.I;refine ⟨_,_,_,_,_,_,_,_,_,_,_,_,_,(.pointer (some ⟨b0,0,none⟩)),v1,v2,v3,v4,v5,v6,v7,v8,v9,v10,v12,b10,rfl,?_,?_⟩
   ·simp only [Act.put,sS]
   ·exact {H.out with ev0:=fun _=>rfl}
  |1,hi,_=>
   obtain rfl:l1=false:=rl rfl hi;obtain rfl:l0=true:=rk rfl hi 0 .data;clear hi hlt;obtain rfl:=h.ev0 rfl;have c:=(h.g.at 1 rfl).c;have H:=Lib.hid h;clear h;refine wpOp_shut rfl (fun K hK=>?_)
   try simp only [Act.put,sS]
   go_simp;refine hK.out _ _ ?_;unfold Va.I;refine ⟨_,_,_,_,_,_,_,_,_,_,_,_,_,(.pointer (some ⟨b0,0,none⟩)),(.slice (some ⟨nb,no,none⟩) L.length nc),v2,v3,v4,v5,v6,v7,v8,v9,v10,v12,b10,rfl,?_,?_⟩
   ·simp only [Act.put,sS]
   ·exact {H.out with ev1:=fun _=>rfl}
  |2,hi,_=>
   obtain rfl:l2=false:=rl rfl hi;clear hi hlt;have H:=Lib.hid h;clear h;refine wpOp_shut rfl (fun K hK=>?_)
   try simp only [Act.put,sS]
   go_simp;refine hK.out _ _ ?_;unfold Va.I;refine ⟨_,_,_,_,_,_,_,_,_,_,_,_,_,v0,v1,(.int .i64 k),v3,v4,v5,v6,v7,v8,v9,v10,v12,b10,rfl,?_,?_⟩
   ·simp only [Act.put,sS]
   ·exact {H.out with ev2:=fun _=>rfl}
  |3,hi,_=>
   obtain rfl:l3=false:=rl rfl hi;obtain rfl:l1=true:=rk rfl hi 1 .data;obtain rfl:l2=true:=rk rfl hi 2 .data;clear hi hlt;obtain rfl:=h.ev1 rfl;obtain rfl:=h.ev2 rfl;have H:=Lib.hid h;clear h;refine wpOp_shut rfl (fun K hK=>?_)
   try simp only [Act.put,sS]
   go_simp;refine hK.out _ _ ?_;unfold Va.I;refine ⟨_,_,_,_,_,_,_,_,_,_,_,_,_,v0,(.slice (some ⟨nb,no,none⟩) L.length nc),(.int .i64 k),(.pointer (some ⟨nb,no+k*6,none⟩)),v4,v5,v6,v7,v8,v9,v10,v12,b10,rfl,?_,?_⟩
   ·simp only [Act.put,sS]
   ·exact {H.out with ev3:=fun _=>rfl}
  |4,hi,_=>
   obtain rfl:l4=false:=rl rfl hi;obtain rfl:l3=true:=rk rfl hi 3 .data;clear hi hlt;obtain rfl:=h.ev3 rfl;have c0:w'.cell? ⟨nb,no+k*6,none⟩=some (.int .i64 n.a):=h.u0.c 0 (by simp);have c1:w'.cell? ⟨nb,no+k*6+1,none⟩=some (.int .i64 n.b):=h.u0.c 1 (by simp);have c2:w'.cell? ⟨nb,no+k*6+2,none⟩=some (.int .i64 n.c):=h.u0.c 2 (by simp);have c3:w'.cell? ⟨nb,no+k*6+3,none⟩=some (.int .i64 n.d):=h.u0.c 3 (by simp);have c4:w'.cell? ⟨nb,no+k*6+4,none⟩=some (.int .i64 n.e):=h.u0.c 4 (by simp);have c5:w'.cell? ⟨nb,no+k*6+5,none⟩=some (.int .i64 n.f):=h.u0.c 5 (by simp);have H:=Lib.hid h;clear h;refine wpOp_shut rfl (fun K hK=>?_)
   try simp only [Act.put,sS]
   go_simp;refine hK.out _ _ ?_;unfold Va.I;refine ⟨_,_,_,_,_,_,_,_,_,_,_,_,_,v0,v1,v2,(.pointer (some ⟨nb,no+k*6,none⟩)),((dv n)),v5,v6,v7,v8,v9,v10,v12,b10,rfl,?_,?_⟩
   ·simp only [Act.put,sS]
   ·exact {H.out with ev4:=fun _=>rfl}
  |5,hi,_=>
   obtain rfl:l5=false:=rl rfl hi;clear hi hlt;have c:=(h.g.at 0 rfl).c;have H:=Lib.hid h;clear h;refine wpOp_shut rfl (fun K hK=>?_)
   try simp only [Act.put,sS]
   go_simp;refine hK.out _ _ ?_;unfold Va.I;refine ⟨_,_,_,_,_,_,_,_,_,_,_,_,_,v0,v1,v2,v3,v4,((dv t)),v6,v7,v8,v9,v10,v12,b10,rfl,?_,?_⟩
   ·simp only [Act.put,sS]
   ·exact {H.out with ev5:=fun _=>rfl}
  |6,hi,_=>
   obtain rfl:l6=false:=rl rfl hi;obtain rfl:l4=true:=rk rfl hi 4 .data;obtain rfl:l5=true:=rk rfl hi 5 .data;clear hi hlt;obtain rfl:=h.ev4 rfl;obtain rfl:=h.ev5 rfl;have H:=Lib.hid h;clear h;refine wpOp_shut rfl (fun K hK=>?_)
   try simp only [Act.put,sS]
   go_simp;refine (ddot_any n t _).mono ?_;rintro e wY ⟨rfl,hb⟩;rw [X1.out];unfold retR;dsimp only
   try go_simp
   refine hK.out _ _ ?_;unfold Va.I;refine ⟨_,_,_,_,_,_,_,_,_,_,_,_,_,v0,v1,v2,v3,((dv n)),((dv t)),(.tuple #[(iv p1 q1),.int .i64 e1]),v7,v8,v9,v10,v12,b10,rfl,?_,?_⟩
   ·simp only [Act.put,sS]
   ·exact {(H.out.kept hb) with ev6:=fun _=>rfl}
  |7,hi,_=>
   obtain rfl:l7=false:=rl rfl hi;obtain rfl:l6=true:=rk rfl hi 6 .data;clear hi hlt;obtain rfl:=h.ev6 rfl;have H:=Lib.hid h;clear h;refine wpOp_shut rfl (fun K hK=>?_)
   try simp only [Act.put,sS]
   go_simp;refine hK.out _ _ ?_;unfold Va.I;refine ⟨_,_,_,_,_,_,_,_,_,_,_,_,_,v0,v1,v2,v3,v4,v5,(.tuple #[(iv p1 q1),.int .i64 e1]),(.tuple #[(iv p1 q1),.int .i64 e1]),v8,v9,v10,v12,b10,rfl,?_,?_⟩
   ·simp only [Act.put,sS]
   ·exact {H.out with ev7:=fun _=>rfl}
  |8,hi,_=>
   obtain rfl:l8=false:=rl rfl hi;obtain rfl:l7=true:=rk rfl hi 7 .data;clear hi hlt;obtain rfl:=h.ev7 rfl;have H:=Lib.hid h;clear h;refine wpOp_shut rfl (fun K hK=>?_)
   try simp only [Act.put,sS]
   go_simp;refine hK.out _ _ ?_;unfold Va.I;refine ⟨_,_,_,_,_,_,_,_,_,_,_,_,_,v0,v1,v2,v3,v4,v5,v6,(.tuple #[(iv p1 q1),.int .i64 e1]),((iv p1 q1)),v9,v10,v12,b10,rfl,?_,?_⟩
   ·simp only [Act.put,sS]
   ·exact {H.out with ev8:=fun _=>rfl}
  |9,hi,_=>
   obtain rfl:l9=false:=rl rfl hi;obtain rfl:l7=true:=rk rfl hi 7 .data;clear hi hlt;obtain rfl:=h.ev7 rfl;have H:=Lib.hid h;clear h;refine wpOp_shut rfl (fun K hK=>?_)
   try simp only [Act.put,sS]
   go_simp;refine hK.out _ _ ?_;unfold Va.I;refine ⟨_,_,_,_,_,_,_,_,_,_,_,_,_,v0,v1,v2,v3,v4,v5,v6,(.tuple #[(iv p1 q1),.int .i64 e1]),v8,(.int .i64 e1),v10,v12,b10,rfl,?_,?_⟩
   ·simp only [Act.put,sS]
   ·exact {H.out with ev9:=fun _=>rfl}
  |10,hi,_=>
   obtain rfl:l10=false:=rl rfl hi;clear hi hlt;have H:=Lib.hid h;clear h;refine wpOp_shut rfl (fun K hK=>?_)
   try simp only [Act.put,sS]
   go_simp;refine hK.out _ _ ?_;unfold Va.I;refine ⟨_,_,_,_,_,_,_,_,_,_,_,_,_,v0,v1,v2,v3,v4,v5,v6,v7,v8,v9,(.pointer (some ⟨w'.heap.size,0,none⟩)),v12,w'.heap.size,rfl,?_,?_⟩
   ·simp only [Act.put,sS]
   ·have h:=H.out;have h2:=h.kept ((Below.refl _ _).alloc (Nat.le_refl _) (.cells (List.toArray [.int .i64 0,.int .i64 0]) 25));exact {h2 with ev10:=fun _=>rfl,g10:=fun _=>h.sz,t10:=fun _=>by simp,o10:=fun p=>rfl,z10:=fun _ _=>Bx.new rfl,s10:=fun p=>(nomatch (h.o10 p))}
  |11,hi,_=>
   obtain rfl:l11=false:=rl rfl hi;obtain rfl:l10=true:=rk rfl hi 10 .phase;obtain rfl:l8=true:=rk rfl hi 8 .phase;obtain rfl:l6=true:=rk rfl hi 6 .phase;obtain rfl:l0=true:=rk rfl hi 0 .phase;obtain rfl:l1=true:=rk rfl hi 1 .phase;obtain rfl:l2=true:=rk rfl hi 2 .phase;obtain rfl:l3=true:=rk rfl hi 3 .phase;obtain rfl:l4=true:=rk rfl hi 4 .phase;obtain rfl:l5=true:=rk rfl hi 5 .phase;obtain rfl:l7=true:=rk rfl hi 7 .phase;clear hi hlt;obtain rfl:=h.ev10 rfl;obtain rfl:=h.ev8 rfl;obtain rfl:=h.ev6 rfl;obtain rfl:=h.ev0 rfl;obtain rfl:=h.ev1 rfl;obtain rfl:=h.ev2 rfl;obtain rfl:=h.ev3 rfl;obtain rfl:=h.ev4 rfl;obtain rfl:=h.ev5 rfl;obtain rfl:=h.ev7 rfl;have bz:=h.z10 rfl rfl;have c:=bz.c;have f:=bz.f;clear bz;have H:=Lib.hid h;clear h;refine wpOp_shut rfl (fun K hK=>?_)
   try simp only [Act.put,sS]
   go_simp;refine hK.out _ _ ?_;unfold Va.I;refine ⟨_,_,_,_,_,_,_,_,_,_,_,_,_,(.pointer (some ⟨b0,0,none⟩)),(.slice (some ⟨nb,no,none⟩) L.length nc),(.int .i64 k),(.pointer (some ⟨nb,no+k*6,none⟩)),((dv n)),((dv t)),(.tuple #[(iv p1 q1),.int .i64 e1]),(.tuple #[(iv p1 q1),.int .i64 e1]),((iv p1 q1)),v9,(.pointer (some ⟨b10,0,none⟩)),v12,b10,rfl,?_,?_⟩
   ·simp only [Act.put,sS]
   ·have h:=H.out;have gb:=h.g10 rfl;have gm:=Nat.le_trans h.mn gb;exact {h with g:=((h.g.put gm).put gm),sz:=by simpa using h.sz,o10:=fun _=>rfl,z10:=fun _ p=>(nomatch p),s10:=fun _=>(((h.z10 rfl rfl).put).put),t10:=fun p=>by simpa using h.t10 p,u0:=((h.u0.set (Nat.ne_of_lt (Nat.lt_of_lt_of_le h.un0 gb))).set (Nat.ne_of_lt (Nat.lt_of_lt_of_le h.un0 gb)))}
  |12,hi,_=>
   obtain rfl:l12=false:=rl rfl hi;obtain rfl:l9=true:=rk rfl hi 9 .phase;obtain rfl:l11=true:=rk rfl hi 11 .phase;obtain rfl:l0=true:=rk rfl hi 0 .phase;obtain rfl:l1=true:=rk rfl hi 1 .phase;obtain rfl:l2=true:=rk rfl hi 2 .phase;obtain rfl:l3=true:=rk rfl hi 3 .phase;obtain rfl:l4=true:=rk rfl hi 4 .phase;obtain rfl:l5=true:=rk rfl hi 5 .phase;obtain rfl:l6=true:=rk rfl hi 6 .phase;obtain rfl:l7=true:=rk rfl hi 7 .phase;obtain rfl:l8=true:=rk rfl hi 8 .phase;obtain rfl:l10=true:=rk rfl hi 10 .phase;clear hi hlt;obtain rfl:=h.ev9 rfl;obtain rfl:=h.ev0 rfl;obtain rfl:=h.ev1 rfl;obtain rfl:=h.ev2 rfl;obtain rfl:=h.ev3 rfl;obtain rfl:=h.ev4 rfl;obtain rfl:=h.ev5 rfl;obtain rfl:=h.ev6 rfl;obtain rfl:=h.ev7 rfl;obtain rfl:=h.ev8 rfl;obtain rfl:=h.ev10 rfl;have H:=Lib.hid h;clear h;refine wpOp_shut rfl (fun K hK=>?_)
   try simp only [Act.put,sS]
   go_simp;refine hK.out _ _ ?_;unfold Va.I;refine ⟨_,_,_,_,_,_,_,_,_,_,_,_,_,(.pointer (some ⟨b0,0,none⟩)),(.slice (some ⟨nb,no,none⟩) L.length nc),(.int .i64 k),(.pointer (some ⟨nb,no+k*6,none⟩)),((dv n)),((dv t)),(.tuple #[(iv p1 q1),.int .i64 e1]),(.tuple #[(iv p1 q1),.int .i64 e1]),((iv p1 q1)),(.int .i64 e1),(.pointer (some ⟨b10,0,none⟩)),(.int .i64 e1),b10,rfl,?_,?_⟩
   ·simp only [Act.put,sS]
   ·exact {H.out with ev12:=fun _=>rfl}
  |i+13,_,hlt=>exact absurd hlt (by simp)
 ·intro L a' w' hI hn;obtain ⟨l0,l1,l2,l3,l4,l5,l6,l7,l8,l9,l10,l11,l12,v0,v1,v2,v3,v4,v5,v6,v7,v8,v9,v10,v12,b10,rfl,rfl,h⟩:=hI;obtain rfl:l0=true:=nr 0 rfl hn;obtain rfl:l1=true:=nr 1 rfl hn;obtain rfl:l2=true:=nr 2 rfl hn;obtain rfl:l3=true:=nr 3 rfl hn;obtain rfl:l4=true:=nr 4 rfl hn;obtain rfl:l5=true:=nr 5 rfl hn;obtain rfl:l6=true:=nr 6 rfl hn;obtain rfl:l7=true:=nr 7 rfl hn;obtain rfl:l8=true:=nr 8 rfl hn;obtain rfl:l9=true:=nr 9 rfl hn;obtain rfl:l10=true:=nr 10 rfl hn;obtain rfl:l11=true:=nr 11 rfl hn;obtain rfl:l12=true:=nr 12 rfl hn;clear hn;obtain rfl:=h.ev0 rfl;obtain rfl:=h.ev1 rfl;obtain rfl:=h.ev2 rfl;obtain rfl:=h.ev3 rfl;obtain rfl:=h.ev4 rfl;obtain rfl:=h.ev5 rfl;obtain rfl:=h.ev6 rfl;obtain rfl:=h.ev7 rfl;obtain rfl:=h.ev8 rfl;obtain rfl:=h.ev9 rfl;obtain rfl:=h.ev10 rfl;obtain rfl:=h.ev12 rfl;simp only [Act.put,sS]
  rename World=>w1
  have H1:=h.g;have B10:=h.s10 rfl;have e10:=h.g10 rfl;have z1:=h.sz;clear h;have RP:=RP.kept H1.below
  by_cases he1:e1=0
  ·have HA:=H1.cons B10.rd;clear hlt';subst he1
   go_upto_region 4 with fail
   refine region_sets (Vb.I nb no nc db dd dc k L.length M.length b0 b2 kb b10 w1.heap.size i0 i1 dl dh kd p1 q1 0 p2 q2 e2 n t w) (by kernel_rfl) ?_ ?_ ?_
   ·refine ⟨false,false,false,false,false,false,false,false,false,false,false,false,false,undef,undef,undef,undef,undef,undef,undef,undef,undef,undef,undef,.int .i64 0,0,rfl,by simp only [Act.put,sS],?_⟩;constructor
    ·exact hoA
    ·(first|(simp;done)|(simp;omega))
    ·(omega)
    ·(with_reducible repeat (first|exact RP|refine Rs.alc ?_ _|refine Rs.drew ?_))
    ·(omega)
    all_goals (intro h;cases h)
   ·intro L a' w' hI i hi;obtain ⟨l0,l1,l2,l3,l4,l5,l6,l7,l8,l9,l10,l11,l12,v0,v1,v2,v3,v4,v5,v6,v7,v8,v9,v10,v12,b10,rfl,rfl,h⟩:=hI;have hlt:=ready_lt hi
    match i,hi,hlt with
    |0,hi,_=>
     obtain rfl:l0=false:=rl rfl hi;clear hi hlt;have H:=Lib.hid h;clear h;refine wpOp_shut rfl (fun K hK=>?_)
     try simp only [Act.put,sS]
     go_simp;refine hK.out _ _ ?_;unfold Vb.I;refine ⟨_,_,_,_,_,_,_,_,_,_,_,_,_,(.pointer (some ⟨b0,1,none⟩)),v1,v2,v3,v4,v5,v6,v7,v8,v9,v10,v12,b10,rfl,?_,?_⟩
     ·simp only [Act.put,sS]
     ·exact {H.out with ev0:=fun _=>rfl}
    |1,hi,_=>
     obtain rfl:l1=false:=rl rfl hi;obtain rfl:l0=true:=rk rfl hi 0 .data;clear hi hlt;obtain rfl:=h.ev0 rfl;have c:=(h.g.at 2 rfl).c;have H:=Lib.hid h;clear h;refine wpOp_shut rfl (fun K hK=>?_)
     try simp only [Act.put,sS]
     go_simp;refine hK.out _ _ ?_;unfold Vb.I;refine ⟨_,_,_,_,_,_,_,_,_,_,_,_,_,(.pointer (some ⟨b0,1,none⟩)),(.slice (some ⟨db,dd,none⟩) M.length dc),v2,v3,v4,v5,v6,v7,v8,v9,v10,v12,b10,rfl,?_,?_⟩
     ·simp only [Act.put,sS]
     ·exact {H.out with ev1:=fun _=>rfl}
    |2,hi,_=>
     obtain rfl:l2=false:=rl rfl hi;clear hi hlt;have H:=Lib.hid h;clear h;refine wpOp_shut rfl (fun K hK=>?_)
     try simp only [Act.put,sS]
     go_simp;refine hK.out _ _ ?_;unfold Vb.I;refine ⟨_,_,_,_,_,_,_,_,_,_,_,_,_,v0,v1,(.int .i64 k),v3,v4,v5,v6,v7,v8,v9,v10,v12,b10,rfl,?_,?_⟩
     ·simp only [Act.put,sS]
     ·exact {H.out with ev2:=fun _=>rfl}
    |3,hi,_=>
     obtain rfl:l3=false:=rl rfl hi;obtain rfl:l1=true:=rk rfl hi 1 .data;obtain rfl:l2=true:=rk rfl hi 2 .data;clear hi hlt;obtain rfl:=h.ev1 rfl;obtain rfl:=h.ev2 rfl;have H:=Lib.hid h;clear h;refine wpOp_shut rfl (fun K hK=>?_)
     try simp only [Act.put,sS]
     go_simp;refine hK.out _ _ ?_;unfold Vb.I;refine ⟨_,_,_,_,_,_,_,_,_,_,_,_,_,v0,(.slice (some ⟨db,dd,none⟩) M.length dc),(.int .i64 k),(.pointer (some ⟨db,dd+k*2,none⟩)),v4,v5,v6,v7,v8,v9,v10,v12,b10,rfl,?_,?_⟩
     ·simp only [Act.put,sS]
     ·exact {H.out with ev3:=fun _=>rfl}
    |4,hi,_=>
     obtain rfl:l4=false:=rl rfl hi;obtain rfl:l3=true:=rk rfl hi 3 .data;clear hi hlt;obtain rfl:=h.ev3 rfl;have c0:w'.cell? ⟨db,dd+k*2,none⟩=some (.int .i64 dl):=h.u0.c 0 (by simp);have c1:w'.cell? ⟨db,dd+k*2+1,none⟩=some (.int .i64 dh):=h.u0.c 1 (by simp);have H:=Lib.hid h;clear h;refine wpOp_shut rfl (fun K hK=>?_)
     try simp only [Act.put,sS]
     go_simp;refine hK.out _ _ ?_;unfold Vb.I;refine ⟨_,_,_,_,_,_,_,_,_,_,_,_,_,v0,v1,v2,(.pointer (some ⟨db,dd+k*2,none⟩)),((iv dl dh)),v5,v6,v7,v8,v9,v10,v12,b10,rfl,?_,?_⟩
     ·simp only [Act.put,sS]
     ·exact {H.out with ev4:=fun _=>rfl}
    |5,hi,_=>
     obtain rfl:l5=false:=rl rfl hi;clear hi hlt;have c:=(h.g.at 0 rfl).c;have H:=Lib.hid h;clear h;refine wpOp_shut rfl (fun K hK=>?_)
     try simp only [Act.put,sS]
     go_simp;refine hK.out _ _ ?_;unfold Vb.I;refine ⟨_,_,_,_,_,_,_,_,_,_,_,_,_,v0,v1,v2,v3,v4,((iv p1 q1)),v6,v7,v8,v9,v10,v12,b10,rfl,?_,?_⟩
     ·simp only [Act.put,sS]
     ·exact {H.out with ev5:=fun _=>rfl}
    |6,hi,_=>
     obtain rfl:l6=false:=rl rfl hi;obtain rfl:l4=true:=rk rfl hi 4 .data;obtain rfl:l5=true:=rk rfl hi 5 .data;clear hi hlt;obtain rfl:=h.ev4 rfl;obtain rfl:=h.ev5 rfl;have H:=Lib.hid h;clear h;refine wpOp_shut rfl (fun K hK=>?_)
     try simp only [Act.put,sS]
     go_simp;refine (sub_any dl dh p1 q1 _).mono ?_;rintro e wY ⟨rfl,hb⟩;rw [X2.out];unfold retR;dsimp only
     try go_simp
     refine hK.out _ _ ?_;unfold Vb.I;refine ⟨_,_,_,_,_,_,_,_,_,_,_,_,_,v0,v1,v2,v3,((iv dl dh)),((iv p1 q1)),(.tuple #[(iv p2 q2),.int .i64 e2]),v7,v8,v9,v10,v12,b10,rfl,?_,?_⟩
     ·simp only [Act.put,sS]
     ·exact {(H.out.kept hb) with ev6:=fun _=>rfl}
    |7,hi,_=>
     obtain rfl:l7=false:=rl rfl hi;obtain rfl:l6=true:=rk rfl hi 6 .data;clear hi hlt;obtain rfl:=h.ev6 rfl;have H:=Lib.hid h;clear h;refine wpOp_shut rfl (fun K hK=>?_)
     try simp only [Act.put,sS]
     go_simp;refine hK.out _ _ ?_;unfold Vb.I;refine ⟨_,_,_,_,_,_,_,_,_,_,_,_,_,v0,v1,v2,v3,v4,v5,(.tuple #[(iv p2 q2),.int .i64 e2]),(.tuple #[(iv p2 q2),.int .i64 e2]),v8,v9,v10,v12,b10,rfl,?_,?_⟩
     ·simp only [Act.put,sS]
     ·exact {H.out with ev7:=fun _=>rfl}
    |8,hi,_=>
     obtain rfl:l8=false:=rl rfl hi;obtain rfl:l7=true:=rk rfl hi 7 .data;clear hi hlt;obtain rfl:=h.ev7 rfl;have H:=Lib.hid h;clear h;refine wpOp_shut rfl (fun K hK=>?_)
     try simp only [Act.put,sS]
     go_simp;refine hK.out _ _ ?_;unfold Vb.I;refine ⟨_,_,_,_,_,_,_,_,_,_,_,_,_,v0,v1,v2,v3,v4,v5,v6,(.tuple #[(iv p2 q2),.int .i64 e2]),((iv p2 q2)),v9,v10,v12,b10,rfl,?_,?_⟩
     ·simp only [Act.put,sS]
     ·exact {H.out with ev8:=fun _=>rfl}
    |9,hi,_=>
     obtain rfl:l9=false:=rl rfl hi;obtain rfl:l7=true:=rk rfl hi 7 .data;clear hi hlt;obtain rfl:=h.ev7 rfl;have H:=Lib.hid h;clear h;refine wpOp_shut rfl (fun K hK=>?_)
     try simp only [Act.put,sS]
     go_simp;refine hK.out _ _ ?_;unfold Vb.I;refine ⟨_,_,_,_,_,_,_,_,_,_,_,_,_,v0,v1,v2,v3,v4,v5,v6,(.tuple #[(iv p2 q2),.int .i64 e2]),v8,(.int .i64 e2),v10,v12,b10,rfl,?_,?_⟩
     ·simp only [Act.put,sS]
     ·exact {H.out with ev9:=fun _=>rfl}
    |10,hi,_=>
     obtain rfl:l10=false:=rl rfl hi;clear hi hlt;have H:=Lib.hid h;clear h;refine wpOp_shut rfl (fun K hK=>?_)
     try simp only [Act.put,sS]
     go_simp;refine hK.out _ _ ?_;unfold Vb.I;refine ⟨_,_,_,_,_,_,_,_,_,_,_,_,_,v0,v1,v2,v3,v4,v5,v6,v7,v8,v9,(.pointer (some ⟨w'.heap.size,0,none⟩)),v12,w'.heap.size,rfl,?_,?_⟩
     ·simp only [Act.put,sS]
     ·have h:=H.out;have h2:=h.kept ((Below.refl _ _).alloc (Nat.le_refl _) (.cells (List.toArray [.int .i64 0,.int .i64 0]) 25));exact {h2 with ev10:=fun _=>rfl,g10:=fun _=>h.sz,t10:=fun _=>by simp,o10:=fun p=>rfl,z10:=fun _ _=>Bx.new rfl,s10:=fun p=>(nomatch (h.o10 p))}
    |11,hi,_=>
     obtain rfl:l11=false:=rl rfl hi;obtain rfl:l10=true:=rk rfl hi 10 .phase;obtain rfl:l8=true:=rk rfl hi 8 .phase;obtain rfl:l6=true:=rk rfl hi 6 .phase;obtain rfl:l0=true:=rk rfl hi 0 .phase;obtain rfl:l1=true:=rk rfl hi 1 .phase;obtain rfl:l2=true:=rk rfl hi 2 .phase;obtain rfl:l3=true:=rk rfl hi 3 .phase;obtain rfl:l4=true:=rk rfl hi 4 .phase;obtain rfl:l5=true:=rk rfl hi 5 .phase;obtain rfl:l7=true:=rk rfl hi 7 .phase;clear hi hlt;obtain rfl:=h.ev10 rfl;obtain rfl:=h.ev8 rfl;obtain rfl:=h.ev6 rfl;obtain rfl:=h.ev0 rfl;obtain rfl:=h.ev1 rfl;obtain rfl:=h.ev2 rfl;obtain rfl:=h.ev3 rfl;obtain rfl:=h.ev4 rfl;obtain rfl:=h.ev5 rfl;obtain rfl:=h.ev7 rfl;have bz:=h.z10 rfl rfl;have c:=bz.c;have f:=bz.f;clear bz;have H:=Lib.hid h;clear h;refine wpOp_shut rfl (fun K hK=>?_)
     try simp only [Act.put,sS]
     go_simp;refine hK.out _ _ ?_;unfold Vb.I;refine ⟨_,_,_,_,_,_,_,_,_,_,_,_,_,(.pointer (some ⟨b0,1,none⟩)),(.slice (some ⟨db,dd,none⟩) M.length dc),(.int .i64 k),(.pointer (some ⟨db,dd+k*2,none⟩)),((iv dl dh)),((iv p1 q1)),(.tuple #[(iv p2 q2),.int .i64 e2]),(.tuple #[(iv p2 q2),.int .i64 e2]),((iv p2 q2)),v9,(.pointer (some ⟨b10,0,none⟩)),v12,b10,rfl,?_,?_⟩
     ·simp only [Act.put,sS]
     ·have h:=H.out;have gb:=h.g10 rfl;have gm:=Nat.le_trans h.mn gb;exact {h with g:=((h.g.put gm).put gm),sz:=by simpa using h.sz,o10:=fun _=>rfl,z10:=fun _ p=>(nomatch p),s10:=fun _=>(((h.z10 rfl rfl).put).put),t10:=fun p=>by simpa using h.t10 p,u0:=((h.u0.set (Nat.ne_of_lt (Nat.lt_of_lt_of_le h.un0 gb))).set (Nat.ne_of_lt (Nat.lt_of_lt_of_le h.un0 gb)))}
    |12,hi,_=>
     obtain rfl:l12=false:=rl rfl hi;obtain rfl:l9=true:=rk rfl hi 9 .phase;obtain rfl:l11=true:=rk rfl hi 11 .phase;obtain rfl:l0=true:=rk rfl hi 0 .phase;obtain rfl:l1=true:=rk rfl hi 1 .phase;obtain rfl:l2=true:=rk rfl hi 2 .phase;obtain rfl:l3=true:=rk rfl hi 3 .phase;obtain rfl:l4=true:=rk rfl hi 4 .phase;obtain rfl:l5=true:=rk rfl hi 5 .phase;obtain rfl:l6=true:=rk rfl hi 6 .phase;obtain rfl:l7=true:=rk rfl hi 7 .phase;obtain rfl:l8=true:=rk rfl hi 8 .phase;obtain rfl:l10=true:=rk rfl hi 10 .phase;clear hi hlt;obtain rfl:=h.ev9 rfl;obtain rfl:=h.ev0 rfl;obtain rfl:=h.ev1 rfl;obtain rfl:=h.ev2 rfl;obtain rfl:=h.ev3 rfl;obtain rfl:=h.ev4 rfl;obtain rfl:=h.ev5 rfl;obtain rfl:=h.ev6 rfl;obtain rfl:=h.ev7 rfl;obtain rfl:=h.ev8 rfl;obtain rfl:=h.ev10 rfl;have H:=Lib.hid h;clear h;refine wpOp_shut rfl (fun K hK=>?_)
     try simp only [Act.put,sS]
     go_simp;refine hK.out _ _ ?_;unfold Vb.I;refine ⟨_,_,_,_,_,_,_,_,_,_,_,_,_,(.pointer (some ⟨b0,1,none⟩)),(.slice (some ⟨db,dd,none⟩) M.length dc),(.int .i64 k),(.pointer (some ⟨db,dd+k*2,none⟩)),((iv dl dh)),((iv p1 q1)),(.tuple #[(iv p2 q2),.int .i64 e2]),(.tuple #[(iv p2 q2),.int .i64 e2]),((iv p2 q2)),(.int .i64 e2),(.pointer (some ⟨b10,0,none⟩)),(.int .i64 e2),b10,rfl,?_,?_⟩
     ·simp only [Act.put,sS]
     ·exact {H.out with ev12:=fun _=>rfl}
    |i+13,_,hlt=>exact absurd hlt (by simp)
   ·intro L a' w' hI hn;obtain ⟨l0,l1,l2,l3,l4,l5,l6,l7,l8,l9,l10,l11,l12,v0,v1,v2,v3,v4,v5,v6,v7,v8,v9,v10,v12,b10,rfl,rfl,h⟩:=hI;obtain rfl:l0=true:=nr 0 rfl hn;obtain rfl:l1=true:=nr 1 rfl hn;obtain rfl:l2=true:=nr 2 rfl hn;obtain rfl:l3=true:=nr 3 rfl hn;obtain rfl:l4=true:=nr 4 rfl hn;obtain rfl:l5=true:=nr 5 rfl hn;obtain rfl:l6=true:=nr 6 rfl hn;obtain rfl:l7=true:=nr 7 rfl hn;obtain rfl:l8=true:=nr 8 rfl hn;obtain rfl:l9=true:=nr 9 rfl hn;obtain rfl:l10=true:=nr 10 rfl hn;obtain rfl:l11=true:=nr 11 rfl hn;obtain rfl:l12=true:=nr 12 rfl hn;clear hn;obtain rfl:=h.ev0 rfl;obtain rfl:=h.ev1 rfl;obtain rfl:=h.ev2 rfl;obtain rfl:=h.ev3 rfl;obtain rfl:=h.ev4 rfl;obtain rfl:=h.ev5 rfl;obtain rfl:=h.ev6 rfl;obtain rfl:=h.ev7 rfl;obtain rfl:=h.ev8 rfl;obtain rfl:=h.ev9 rfl;obtain rfl:=h.ev10 rfl;obtain rfl:=h.ev12 rfl;simp only [Act.put,sS]
    rename World=>w2
    have H2:=h.g;have B20:=h.s10 rfl;have e20:=h.g10 rfl;have z2:=h.sz;clear h;have x2:=B20.c;have y2:=B20.lt
    by_cases he2:e2=0
    ·subst he2;have KB:=HBX.out.kept H2.below;have kc:=KB.v;have kf:=KB.f;have kl:=KB.lt
     by_cases hq:q2<0
     ·go_wp2_with fail
      go_ret
      refine ⟨by rw [HG.out];simp [hq],?_⟩
      have KE:kindS kd (gapR n dl dh t)=2:=by
       rw [HG.out];simp [kindS,hq]
      rw [KE];have ST:=Step.start (B:=B) H2.below HKC.out;exact ST.putc
     ·have hq':¬(q2<0):=hq
      by_cases hp2:p2<0
      ·by_cases hkd:kd=1
       ·subst hkd
        go_wp2_with fail
        go_ret
        refine ⟨by rw [HG.out];simp [hq,hp2],?_⟩
        have KE:kindS 1 (gapR n dl dh t)=3:=by
         rw [HG.out];simp [kindS,hq,hp2]
        rw [KE];have ST:=Step.start (B:=B) H2.below HKC.out;exact ST.putc
       ·have hkd':(kd == 1)=false:=by simpa using hkd
        go_wp2_with fail
        go_ret
        refine ⟨by rw [HG.out];simp [hq,hp2,hkd],?_⟩
        have KE:kindS kd (gapR n dl dh t)=kd:=by
         rw [HG.out]
         first|rw [if_pos rfl]|rw [if_pos trivial]
         show (if (0:Int)=0 then (if q2<0 then (2:Int) else if p2<0∧kd=1 then 3 else kd) else kd)=kd;rw [if_pos rfl,if_neg (by omega),if_neg (by omega)]
        rw [KE];have ST:=Step.start (B:=B) H2.below HKC.out;exact ST
      ·go_wp2_with fail
       go_ret
       refine ⟨by rw [HG.out];simp [hq,hp2],?_⟩
       have KE:kindS kd (gapR n dl dh t)=kd:=by
        rw [HG.out]
        first|rw [if_pos rfl]|rw [if_pos trivial]
        show (if (0:Int)=0 then (if q2<0 then (2:Int) else if p2<0∧kd=1 then 3 else kd) else kd)=kd;rw [if_pos rfl,if_neg (by omega),if_neg (by omega)]
       rw [KE];have ST:=Step.start (B:=B) H2.below HKC.out;exact ST
    ·have ne2:(e2 != 0)=true:=by simpa using he2
     go_wp2_with fail
     go_ret
     refine ⟨by rw [HG.out];simp [he2],?_⟩
     have KE:kindS kd (gapR n dl dh t)=kd:=by
      rw [HG.out];simp [kindS,he2]
     rw [KE];have ST:=Step.start (B:=B) H2.below HKC.out;exact ST
  ·have ne1:(e1 != 0)=true:=by simpa using he1
   go_wp2_with fail
   go_ret
   refine ⟨by rw [HG.out];simp [he1],?_⟩
   have KE:kindS kd (gapR n dl dh t)=kd:=by
    rw [HG.out];simp [kindS,he1]
   rw [KE];have ST:=Step.start (B:=B) H1.below HKC.out;exact ST
end Go.Proofs.YtiecdgcdcpmgaaaGreat.Iv
