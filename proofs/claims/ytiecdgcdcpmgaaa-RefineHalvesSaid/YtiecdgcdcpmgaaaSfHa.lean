/- RefineHalves returns true. -/
import Derived.Test.YtiecdgcdcpmgaaaSfHm
import Derived.Test.YtiecdgcdcpmgaaaM29
import Derived.Test.YtiecdgcdcpmgaaaSfCi
import Derived.Test.YtiecdgcdcpmgaaaM06
namespace Go.Proofs.Ytiecdgcdcpmgaaa.Iv
open Go.RowKit
attribute [local go_sem] Oper.semAt_some
theorem wanted_of {o:Oper} {ops:Array Oper} {tmps:Array Value} {j d:Nat} {b:Bool} {o':Oper} (hg:o.guard=some (j,b)) (ho:ops[j]? = some o') (hd:o'.dst=some d) (hv:tmps[d]? = some (.bool b)):Region.wanted o (yielded ops tmps)=true:=by
 simp [Region.wanted,hg,yielded,ho,hd,hv]
theorem wanted_not {o:Oper} {ops:Array Oper} {tmps:Array Value} {j d:Nat} {b b':Bool} {o':Oper} (hg:o.guard=some (j,b)) (ho:ops[j]? = some o') (hd:o'.dst=some d) (hv:tmps[d]? = some (.bool b')) (hb:b'≠b):Region.wanted o (yielded ops tmps)=false:=by
 simp [Region.wanted,hg,yielded,ho,hd,hv,hb]
theorem wpOp_want {P:Program} {ops:Array Oper} {Q:Exit→Act→World→Prop} {i:Nat} {o:Oper} {K:Act→World→Prop} {a:Act} {w:World} (ho:ops[i]? = some o) (hw:Region.wanted o (yielded ops a.tmps)=true)
  (h:∀K':Act→World→Prop,Shut (∀a w,K a w→K' a w)→Oper.wp P o a w K' Q):wpOp P ops Q i K a w:=
 wpOp_shut ho (fun K' hK=>by rw [if_pos hw];exact h K' hK)
theorem wpOp_skip {P:Program} {ops:Array Oper} {Q:Exit→Act→World→Prop} {i:Nat} {o:Oper} {K:Act→World→Prop} {a:Act} {w:World} {d:Option Tmp} (ho:ops[i]? = some o) (hd:o.dst=d) (hw:Region.wanted o (yielded ops a.tmps)=false)
  (h:K (a.put d undef) w):wpOp P ops Q i K a w:=
 wpOp_shut ho (fun K' hK=>by rw [if_neg (by rw [hw];decide),hd];exact hK.out _ _ h)
theorem wanted_und {o:Oper} {ops:Array Oper} {tmps:Array Value} {j d:Nat} {b:Bool} {o':Oper} (hg:o.guard=some (j,b)) (ho:ops[j]? = some o') (hd:o'.dst=some d) (hv:tmps[d]? = some undef):Region.wanted o (yielded ops tmps)=false:=by
 simp [Region.wanted,hg,yielded,ho,hd,hv,undef]
structure Ja (b0 ab bb xb yb zb wb n0:Nat) (c:CV) (a1 a2 a3 a4 a5 a6 a7 a8 b1 b2 b3 b4 b5 b6 b7 b8 k i x0 x1 md w0' w1':Int) (w0 w:World) (l0 l1 l2 l3 l4 l5 l6 l7 l8 l9 l10 l11 l12 l13 l14 l15 l16 l17:Bool) (v0 v1 v2 v3 v4 v5 v6 v7 v8 v9 v10 v11 v12 v13 v14:Value) (b12 b13 b14:Nat):Prop where
 g:Ho w0 w n0 [(bb,[.int .i64 c.f,.int .i64 b1,.int .i64 b2,.int .i64 b3,.int .i64 b4,.int .i64 b5,.int .i64 b6,.int .i64 b7,.int .i64 b8]),(ab,[.int .i64 c.f,.int .i64 a1,.int .i64 a2,.int .i64 a3,.int .i64 a4,.int .i64 a5,.int .i64 a6,.int .i64 a7,.int .i64 a8]),(b0,[.int .i64 c.f,.int .i64 c.a,.int .i64 c.b,.int .i64 c.c,.int .i64 c.d,.int .i64 c.p,.int .i64 c.q,.int .i64 c.r,.int .i64 c.s])]
 sz:n0≤w.heap.size
 mn:n0≤n0
 ev0:l0=true→v0 = .agg #[.int .i64 c.f,.int .i64 c.a,.int .i64 c.b,.int .i64 c.c,.int .i64 c.d,.int .i64 c.p,.int .i64 c.q,.int .i64 c.r,.int .i64 c.s]
 ev1:l1=true→v1 = .agg #[.int .i64 c.f,.int .i64 c.a,.int .i64 c.b,.int .i64 c.c,.int .i64 c.d,.int .i64 c.p,.int .i64 c.q,.int .i64 c.r,.int .i64 c.s]
 ev2:l2=true→v2 = .int .i64 k
 ev3:l3=true→v3=(iv x0 x1)
 ev4:l4=true→v4 = .agg #[.int .i64 c.f,.int .i64 a1,.int .i64 a2,.int .i64 a3,.int .i64 a4,.int .i64 a5,.int .i64 a6,.int .i64 a7,.int .i64 a8]
 ev5:l5=true→v5 = .agg #[.int .i64 c.f,.int .i64 a1,.int .i64 a2,.int .i64 a3,.int .i64 a4,.int .i64 a5,.int .i64 a6,.int .i64 a7,.int .i64 a8]
 ev6:l6=true→v6 = .int .i64 k
 ev7:l7=true→v7=(iv x0 md)
 ev8:l8=true→v8 = .agg #[.int .i64 c.f,.int .i64 b1,.int .i64 b2,.int .i64 b3,.int .i64 b4,.int .i64 b5,.int .i64 b6,.int .i64 b7,.int .i64 b8]
 ev9:l9=true→v9 = .agg #[.int .i64 c.f,.int .i64 b1,.int .i64 b2,.int .i64 b3,.int .i64 b4,.int .i64 b5,.int .i64 b6,.int .i64 b7,.int .i64 b8]
 ev10:l10=true→v10 = .int .i64 k
 ev11:l11=true→v11=(iv md x1)
 ev12:l12=true→v12 = .pointer (some ⟨b12,0,none⟩)
 ev13:l13=true→v13 = .pointer (some ⟨b13,0,none⟩)
 ev14:l14=true→v14 = .pointer (some ⟨b14,0,none⟩)
 g12:l12=true→n0≤b12
 t12:l12=true→b12<w.heap.size
 o12:l15=true→l12=true
 z12:l12=true→l15=false→Bx w b12 [.int .i64 0,.int .i64 0]
 s12:l15=true→Bx w b12 [.int .i64 x0,.int .i64 x1]
 g13:l13=true→n0≤b13
 t13:l13=true→b13<w.heap.size
 o13:l16=true→l13=true
 z13:l13=true→l16=false→Bx w b13 [.int .i64 0,.int .i64 0]
 s13:l16=true→Bx w b13 [.int .i64 x0,.int .i64 md]
 g14:l14=true→n0≤b14
 t14:l14=true→b14<w.heap.size
 o14:l17=true→l14=true
 z14:l14=true→l17=false→Bx w b14 [.int .i64 0,.int .i64 0]
 s14:l17=true→Bx w b14 [.int .i64 md,.int .i64 x1]
 d12_13:l12=true→l13=true→¬(b12=b13)
 d12_14:l12=true→l14=true→¬(b12=b14)
 d13_14:l13=true→l14=true→¬(b13=b14)
theorem Ja.kept {b0 ab bb xb yb zb wb n0:Nat} {c:CV} {a1 a2 a3 a4 a5 a6 a7 a8 b1 b2 b3 b4 b5 b6 b7 b8 k i x0 x1 md w0' w1':Int} {w0 w:World} {l0 l1 l2 l3 l4 l5 l6 l7 l8 l9 l10 l11 l12 l13 l14 l15 l16 l17:Bool} {v0 v1 v2 v3 v4 v5 v6 v7 v8 v9 v10 v11 v12 v13 v14:Value} {b12 b13 b14:Nat} {w':World} (h:Ja b0 ab bb xb yb zb wb n0 c a1 a2 a3 a4 a5 a6 a7 a8 b1 b2 b3 b4 b5 b6 b7 b8 k i x0 x1 md w0' w1' w0 w l0 l1 l2 l3 l4 l5 l6 l7 l8 l9 l10 l11 l12 l13 l14 l15 l16 l17 v0 v1 v2 v3 v4 v5 v6 v7 v8 v9 v10 v11 v12 v13 v14 b12 b13 b14) (hb:Below w.heap.size w w'):Ja b0 ab bb xb yb zb wb n0 c a1 a2 a3 a4 a5 a6 a7 a8 b1 b2 b3 b4 b5 b6 b7 b8 k i x0 x1 md w0' w1' w0 w' l0 l1 l2 l3 l4 l5 l6 l7 l8 l9 l10 l11 l12 l13 l14 l15 l16 l17 v0 v1 v2 v3 v4 v5 v6 v7 v8 v9 v10 v11 v12 v13 v14 b12 b13 b14:=
 {h with g:=h.g.call hb,sz:=Nat.le_trans h.sz hb.size,t12:=fun p=>Nat.lt_of_lt_of_le (h.t12 p) hb.size,z12:=fun p q=>(h.z12 p q).kept hb,s12:=fun p=>(h.s12 p).kept hb,t13:=fun p=>Nat.lt_of_lt_of_le (h.t13 p) hb.size,z13:=fun p q=>(h.z13 p q).kept hb,s13:=fun p=>(h.s13 p).kept hb,t14:=fun p=>Nat.lt_of_lt_of_le (h.t14 p) hb.size,z14:=fun p q=>(h.z14 p q).kept hb,s14:=fun p=>(h.s14 p).kept hb}
def Ja.I (b0 ab bb xb yb zb wb n0:Nat) (c:CV) (a1 a2 a3 a4 a5 a6 a7 a8 b1 b2 b3 b4 b5 b6 b7 b8 k i x0 x1 md w0' w1':Int) (w0:World):Act→Array Bool→Act→World→Prop:=fun aO LX aX w=>∃(l0 l1 l2 l3 l4 l5 l6 l7 l8 l9 l10 l11 l12 l13 l14 l15 l16 l17:Bool) (v0 v1 v2 v3 v4 v5 v6 v7 v8 v9 v10 v11 v12 v13 v14:Value) (b12 b13 b14:Nat),LX=#[l0,l1,l2,l3,l4,l5,l6,l7,l8,l9,l10,l11,l12,l13,l14,l15,l16,l17]∧aX=(((((((((((((((aO.put (some 41) v0).put (some 42) v1).put (some 43) v2).put (some 44) v3).put (some 45) v4).put (some 46) v5).put (some 47) v6).put (some 48) v7).put (some 49) v8).put (some 50) v9).put (some 51) v10).put (some 52) v11).put (some 8) v12).put (some 9) v13).put (some 10) v14)∧Ja b0 ab bb xb yb zb wb n0 c a1 a2 a3 a4 a5 a6 a7 a8 b1 b2 b3 b4 b5 b6 b7 b8 k i x0 x1 md w0' w1' w0 w l0 l1 l2 l3 l4 l5 l6 l7 l8 l9 l10 l11 l12 l13 l14 l15 l16 l17 v0 v1 v2 v3 v4 v5 v6 v7 v8 v9 v10 v11 v12 v13 v14 b12 b13 b14
theorem Ja.all (b0 ab bb xb yb zb wb n0:Nat) (c:CV) (a1 a2 a3 a4 a5 a6 a7 a8 b1 b2 b3 b4 b5 b6 b7 b8 k i x0 x1 md w0' w1':Int) (w0:World) (aO:Act) {PP:Array Bool→Act→World→Prop} (hk:∀(w:World) (l0 l1 l2 l3 l4 l5 l6 l7 l8 l9 l10 l11 l12 l13 l14 l15 l16 l17:Bool) (v0 v1 v2 v3 v4 v5 v6 v7 v8 v9 v10 v11 v12 v13 v14:Value) (b12 b13 b14:Nat),Ja b0 ab bb xb yb zb wb n0 c a1 a2 a3 a4 a5 a6 a7 a8 b1 b2 b3 b4 b5 b6 b7 b8 k i x0 x1 md w0' w1' w0 w l0 l1 l2 l3 l4 l5 l6 l7 l8 l9 l10 l11 l12 l13 l14 l15 l16 l17 v0 v1 v2 v3 v4 v5 v6 v7 v8 v9 v10 v11 v12 v13 v14 b12 b13 b14→PP #[l0,l1,l2,l3,l4,l5,l6,l7,l8,l9,l10,l11,l12,l13,l14,l15,l16,l17] (((((((((((((((aO.put (some 41) v0).put (some 42) v1).put (some 43) v2).put (some 44) v3).put (some 45) v4).put (some 46) v5).put (some 47) v6).put (some 48) v7).put (some 49) v8).put (some 50) v9).put (some 51) v10).put (some 52) v11).put (some 8) v12).put (some 9) v13).put (some 10) v14) w):∀L a w,Ja.I b0 ab bb xb yb zb wb n0 c a1 a2 a3 a4 a5 a6 a7 a8 b1 b2 b3 b4 b5 b6 b7 b8 k i x0 x1 md w0' w1' w0 aO L a w→PP L a w:=by
 intro L a w hI;unfold Ja.I at hI;exact Exists.elim hI (fun l0 hh0=>Exists.elim hh0 (fun l1 hh1=>Exists.elim hh1 (fun l2 hh2=>Exists.elim hh2 (fun l3 hh3=>Exists.elim hh3 (fun l4 hh4=>Exists.elim hh4 (fun l5 hh5=>Exists.elim hh5 (fun l6 hh6=>Exists.elim hh6 (fun l7 hh7=>Exists.elim hh7 (fun l8 hh8=>Exists.elim hh8 (fun l9 hh9=>Exists.elim hh9 (fun l10 hh10=>Exists.elim hh10 (fun l11 hh11=>Exists.elim hh11 (fun l12 hh12=>Exists.elim hh12 (fun l13 hh13=>Exists.elim hh13 (fun l14 hh14=>Exists.elim hh14 (fun l15 hh15=>Exists.elim hh15 (fun l16 hh16=>Exists.elim hh16 (fun l17 hh17=>Exists.elim hh17 (fun v0 hh18=>Exists.elim hh18 (fun v1 hh19=>Exists.elim hh19 (fun v2 hh20=>Exists.elim hh20 (fun v3 hh21=>Exists.elim hh21 (fun v4 hh22=>Exists.elim hh22 (fun v5 hh23=>Exists.elim hh23 (fun v6 hh24=>Exists.elim hh24 (fun v7 hh25=>Exists.elim hh25 (fun v8 hh26=>Exists.elim hh26 (fun v9 hh27=>Exists.elim hh27 (fun v10 hh28=>Exists.elim hh28 (fun v11 hh29=>Exists.elim hh29 (fun v12 hh30=>Exists.elim hh30 (fun v13 hh31=>Exists.elim hh31 (fun v14 hh32=>Exists.elim hh32 (fun b12 hh33=>Exists.elim hh33 (fun b13 hh34=>Exists.elim hh34 (fun b14 hh35=>And.elim (fun e1 h1=>And.elim (fun e2 h=>by subst e1;subst e2;exact hk w l0 l1 l2 l3 l4 l5 l6 l7 l8 l9 l10 l11 l12 l13 l14 l15 l16 l17 v0 v1 v2 v3 v4 v5 v6 v7 v8 v9 v10 v11 v12 v13 v14 b12 b13 b14 h) h1) hh35))))))))))))))))))))))))))))))))))))
structure Jb (b0 ab bb xb yb zb wb n0:Nat) (c:CV) (a1 a2 a3 a4 a5 a6 a7 a8 b1 b2 b3 b4 b5 b6 b7 b8 k i x0 x1 md w0' w1':Int) (w0 w:World) (l0 l1 l2 l3 l4 l5 l6 l7 l8 l9 l10 l11 l12 l13 l14 l15 l16 l17 l18 l19 l20 l21 l22 l23 l24 l25 l26 l27 l28 l29 l30 l31:Bool) (v0 v1 v2 v3 v4 v5 v6 v7 v8 v9 v10 v11 v12 v13 v14 v15 v16 v17 v18 v19 v20 v21 v22 v23 v24 v25 v26 v27 v28 v29 v30 v31:Value):Prop where
 g:Ho w0 w n0 [(wb,[.int .i64 x0,.int .i64 x1]),(zb,[.int .i64 md,.int .i64 x1]),(yb,[.int .i64 x0,.int .i64 md]),(xb,[.int .i64 x0,.int .i64 x1]),(bb,[.int .i64 c.f,.int .i64 b1,.int .i64 b2,.int .i64 b3,.int .i64 b4,.int .i64 b5,.int .i64 b6,.int .i64 b7,.int .i64 b8]),(ab,[.int .i64 c.f,.int .i64 a1,.int .i64 a2,.int .i64 a3,.int .i64 a4,.int .i64 a5,.int .i64 a6,.int .i64 a7,.int .i64 a8]),(b0,[.int .i64 c.f,.int .i64 c.a,.int .i64 c.b,.int .i64 c.c,.int .i64 c.d,.int .i64 c.p,.int .i64 c.q,.int .i64 c.r,.int .i64 c.s])]
 sz:n0≤w.heap.size
 mn:n0≤n0
 ev0:l0=true→v0 = .pointer (some ⟨wb,1,none⟩)
 ev1:l1=true→v1 = .int .i64 x1
 ev2:l2=true→v2 = .pointer (some ⟨wb,0,none⟩)
 ev3:l3=true→v3 = .int .i64 x0
 ev4:l4=true→v4 = .int .i64 (x1 - x0)
 ev5:l5=true→v5 = .pointer (some ⟨xb,1,none⟩)
 ev6:l6=true→v6 = .int .i64 x1
 ev7:l7=true→v7 = .pointer (some ⟨xb,0,none⟩)
 ev8:l8=true→v8 = .int .i64 x0
 ev9:l9=true→v9 = .int .i64 (x1 - x0)
 ev10:l10=true→v10 = .bool false
 ev11:l11=true→v11 = .bool false
 ev12:l12=true→v12 = .int .i64 k
 ev13:l13=true→v13 = .int .i64 k
 ev14:l14=true→v14 = .bool false
 ev15:l15=true→v15 = .bool false
 ev16:l16=true→v16=undef
 ev17:l17=true→v17=undef
 ev18:l18=true→v18=undef
 ev19:l19=true→v19=undef
 ev20:l20=true→v20=undef
 ev21:l21=true→v21=undef
 ev22:l22=true→v22=undef
 ev23:l23=true→v23=undef
 ev24:l24=true→v24=undef
 ev25:l25=true→v25=undef
 ev26:l26=true→v26=undef
 ev27:l27=true→v27=undef
 ev28:l28=true→v28=undef
 ev29:l29=true→v29=undef
 ev30:l30=true→v30 = .bool false
 ev31:l31=true→v31 = .bool false
theorem Jb.kept {b0 ab bb xb yb zb wb n0:Nat} {c:CV} {a1 a2 a3 a4 a5 a6 a7 a8 b1 b2 b3 b4 b5 b6 b7 b8 k i x0 x1 md w0' w1':Int} {w0 w:World} {l0 l1 l2 l3 l4 l5 l6 l7 l8 l9 l10 l11 l12 l13 l14 l15 l16 l17 l18 l19 l20 l21 l22 l23 l24 l25 l26 l27 l28 l29 l30 l31:Bool} {v0 v1 v2 v3 v4 v5 v6 v7 v8 v9 v10 v11 v12 v13 v14 v15 v16 v17 v18 v19 v20 v21 v22 v23 v24 v25 v26 v27 v28 v29 v30 v31:Value} {w':World} (h:Jb b0 ab bb xb yb zb wb n0 c a1 a2 a3 a4 a5 a6 a7 a8 b1 b2 b3 b4 b5 b6 b7 b8 k i x0 x1 md w0' w1' w0 w l0 l1 l2 l3 l4 l5 l6 l7 l8 l9 l10 l11 l12 l13 l14 l15 l16 l17 l18 l19 l20 l21 l22 l23 l24 l25 l26 l27 l28 l29 l30 l31 v0 v1 v2 v3 v4 v5 v6 v7 v8 v9 v10 v11 v12 v13 v14 v15 v16 v17 v18 v19 v20 v21 v22 v23 v24 v25 v26 v27 v28 v29 v30 v31) (hb:Below w.heap.size w w'):Jb b0 ab bb xb yb zb wb n0 c a1 a2 a3 a4 a5 a6 a7 a8 b1 b2 b3 b4 b5 b6 b7 b8 k i x0 x1 md w0' w1' w0 w' l0 l1 l2 l3 l4 l5 l6 l7 l8 l9 l10 l11 l12 l13 l14 l15 l16 l17 l18 l19 l20 l21 l22 l23 l24 l25 l26 l27 l28 l29 l30 l31 v0 v1 v2 v3 v4 v5 v6 v7 v8 v9 v10 v11 v12 v13 v14 v15 v16 v17 v18 v19 v20 v21 v22 v23 v24 v25 v26 v27 v28 v29 v30 v31:=
 {h with g:=h.g.call hb,sz:=Nat.le_trans h.sz hb.size}
def Jb.I (b0 ab bb xb yb zb wb n0:Nat) (c:CV) (a1 a2 a3 a4 a5 a6 a7 a8 b1 b2 b3 b4 b5 b6 b7 b8 k i x0 x1 md w0' w1':Int) (w0:World):Act→Array Bool→Act→World→Prop:=fun aO LX aX w=>∃(l0 l1 l2 l3 l4 l5 l6 l7 l8 l9 l10 l11 l12 l13 l14 l15 l16 l17 l18 l19 l20 l21 l22 l23 l24 l25 l26 l27 l28 l29 l30 l31:Bool) (v0 v1 v2 v3 v4 v5 v6 v7 v8 v9 v10 v11 v12 v13 v14 v15 v16 v17 v18 v19 v20 v21 v22 v23 v24 v25 v26 v27 v28 v29 v30 v31:Value),LX=#[l0,l1,l2,l3,l4,l5,l6,l7,l8,l9,l10,l11,l12,l13,l14,l15,l16,l17,l18,l19,l20,l21,l22,l23,l24,l25,l26,l27,l28,l29,l30,l31]∧aX=((((((((((((((((((((((((((((((((aO.put (some 61) v0).put (some 62) v1).put (some 63) v2).put (some 64) v3).put (some 65) v4).put (some 66) v5).put (some 67) v6).put (some 68) v7).put (some 69) v8).put (some 70) v9).put (some 71) v10).put (some 72) v11).put (some 73) v12).put (some 74) v13).put (some 75) v14).put (some 76) v15).put (some 77) v16).put (some 78) v17).put (some 79) v18).put (some 80) v19).put (some 81) v20).put (some 82) v21).put (some 83) v22).put (some 84) v23).put (some 85) v24).put (some 86) v25).put (some 87) v26).put (some 88) v27).put (some 89) v28).put (some 90) v29).put (some 91) v30).put (some 92) v31)∧Jb b0 ab bb xb yb zb wb n0 c a1 a2 a3 a4 a5 a6 a7 a8 b1 b2 b3 b4 b5 b6 b7 b8 k i x0 x1 md w0' w1' w0 w l0 l1 l2 l3 l4 l5 l6 l7 l8 l9 l10 l11 l12 l13 l14 l15 l16 l17 l18 l19 l20 l21 l22 l23 l24 l25 l26 l27 l28 l29 l30 l31 v0 v1 v2 v3 v4 v5 v6 v7 v8 v9 v10 v11 v12 v13 v14 v15 v16 v17 v18 v19 v20 v21 v22 v23 v24 v25 v26 v27 v28 v29 v30 v31
theorem Jb.all (b0 ab bb xb yb zb wb n0:Nat) (c:CV) (a1 a2 a3 a4 a5 a6 a7 a8 b1 b2 b3 b4 b5 b6 b7 b8 k i x0 x1 md w0' w1':Int) (w0:World) (aO:Act) {PP:Array Bool→Act→World→Prop} (hk:∀(w:World) (l0 l1 l2 l3 l4 l5 l6 l7 l8 l9 l10 l11 l12 l13 l14 l15 l16 l17 l18 l19 l20 l21 l22 l23 l24 l25 l26 l27 l28 l29 l30 l31:Bool) (v0 v1 v2 v3 v4 v5 v6 v7 v8 v9 v10 v11 v12 v13 v14 v15 v16 v17 v18 v19 v20 v21 v22 v23 v24 v25 v26 v27 v28 v29 v30 v31:Value),Jb b0 ab bb xb yb zb wb n0 c a1 a2 a3 a4 a5 a6 a7 a8 b1 b2 b3 b4 b5 b6 b7 b8 k i x0 x1 md w0' w1' w0 w l0 l1 l2 l3 l4 l5 l6 l7 l8 l9 l10 l11 l12 l13 l14 l15 l16 l17 l18 l19 l20 l21 l22 l23 l24 l25 l26 l27 l28 l29 l30 l31 v0 v1 v2 v3 v4 v5 v6 v7 v8 v9 v10 v11 v12 v13 v14 v15 v16 v17 v18 v19 v20 v21 v22 v23 v24 v25 v26 v27 v28 v29 v30 v31→PP #[l0,l1,l2,l3,l4,l5,l6,l7,l8,l9,l10,l11,l12,l13,l14,l15,l16,l17,l18,l19,l20,l21,l22,l23,l24,l25,l26,l27,l28,l29,l30,l31] ((((((((((((((((((((((((((((((((aO.put (some 61) v0).put (some 62) v1).put (some 63) v2).put (some 64) v3).put (some 65) v4).put (some 66) v5).put (some 67) v6).put (some 68) v7).put (some 69) v8).put (some 70) v9).put (some 71) v10).put (some 72) v11).put (some 73) v12).put (some 74) v13).put (some 75) v14).put (some 76) v15).put (some 77) v16).put (some 78) v17).put (some 79) v18).put (some 80) v19).put (some 81) v20).put (some 82) v21).put (some 83) v22).put (some 84) v23).put (some 85) v24).put (some 86) v25).put (some 87) v26).put (some 88) v27).put (some 89) v28).put (some 90) v29).put (some 91) v30).put (some 92) v31) w):∀L a w,Jb.I b0 ab bb xb yb zb wb n0 c a1 a2 a3 a4 a5 a6 a7 a8 b1 b2 b3 b4 b5 b6 b7 b8 k i x0 x1 md w0' w1' w0 aO L a w→PP L a w:=by
 intro L a w hI;unfold Jb.I at hI;exact Exists.elim hI (fun l0 hh0=>Exists.elim hh0 (fun l1 hh1=>Exists.elim hh1 (fun l2 hh2=>Exists.elim hh2 (fun l3 hh3=>Exists.elim hh3 (fun l4 hh4=>Exists.elim hh4 (fun l5 hh5=>Exists.elim hh5 (fun l6 hh6=>Exists.elim hh6 (fun l7 hh7=>Exists.elim hh7 (fun l8 hh8=>Exists.elim hh8 (fun l9 hh9=>Exists.elim hh9 (fun l10 hh10=>Exists.elim hh10 (fun l11 hh11=>Exists.elim hh11 (fun l12 hh12=>Exists.elim hh12 (fun l13 hh13=>Exists.elim hh13 (fun l14 hh14=>Exists.elim hh14 (fun l15 hh15=>Exists.elim hh15 (fun l16 hh16=>Exists.elim hh16 (fun l17 hh17=>Exists.elim hh17 (fun l18 hh18=>Exists.elim hh18 (fun l19 hh19=>Exists.elim hh19 (fun l20 hh20=>Exists.elim hh20 (fun l21 hh21=>Exists.elim hh21 (fun l22 hh22=>Exists.elim hh22 (fun l23 hh23=>Exists.elim hh23 (fun l24 hh24=>Exists.elim hh24 (fun l25 hh25=>Exists.elim hh25 (fun l26 hh26=>Exists.elim hh26 (fun l27 hh27=>Exists.elim hh27 (fun l28 hh28=>Exists.elim hh28 (fun l29 hh29=>Exists.elim hh29 (fun l30 hh30=>Exists.elim hh30 (fun l31 hh31=>Exists.elim hh31 (fun v0 hh32=>Exists.elim hh32 (fun v1 hh33=>Exists.elim hh33 (fun v2 hh34=>Exists.elim hh34 (fun v3 hh35=>Exists.elim hh35 (fun v4 hh36=>Exists.elim hh36 (fun v5 hh37=>Exists.elim hh37 (fun v6 hh38=>Exists.elim hh38 (fun v7 hh39=>Exists.elim hh39 (fun v8 hh40=>Exists.elim hh40 (fun v9 hh41=>Exists.elim hh41 (fun v10 hh42=>Exists.elim hh42 (fun v11 hh43=>Exists.elim hh43 (fun v12 hh44=>Exists.elim hh44 (fun v13 hh45=>Exists.elim hh45 (fun v14 hh46=>Exists.elim hh46 (fun v15 hh47=>Exists.elim hh47 (fun v16 hh48=>Exists.elim hh48 (fun v17 hh49=>Exists.elim hh49 (fun v18 hh50=>Exists.elim hh50 (fun v19 hh51=>Exists.elim hh51 (fun v20 hh52=>Exists.elim hh52 (fun v21 hh53=>Exists.elim hh53 (fun v22 hh54=>Exists.elim hh54 (fun v23 hh55=>Exists.elim hh55 (fun v24 hh56=>Exists.elim hh56 (fun v25 hh57=>Exists.elim hh57 (fun v26 hh58=>Exists.elim hh58 (fun v27 hh59=>Exists.elim hh59 (fun v28 hh60=>Exists.elim hh60 (fun v29 hh61=>Exists.elim hh61 (fun v30 hh62=>Exists.elim hh62 (fun v31 hh63=>And.elim (fun e1 h1=>And.elim (fun e2 h=>by subst e1;subst e2;exact hk w l0 l1 l2 l3 l4 l5 l6 l7 l8 l9 l10 l11 l12 l13 l14 l15 l16 l17 l18 l19 l20 l21 l22 l23 l24 l25 l26 l27 l28 l29 l30 l31 v0 v1 v2 v3 v4 v5 v6 v7 v8 v9 v10 v11 v12 v13 v14 v15 v16 v17 v18 v19 v20 v21 v22 v23 v24 v25 v26 v27 v28 v29 v30 v31 h) h1) hh63))))))))))))))))))))))))))))))))))))))))))))))))))))))))))))))))
set_option maxRecDepth 100000 in
set_option maxHeartbeats 16000000 in
theorem halves_law (c:CV) (w:World):Calls Try.prog 5 #[cellv c] w fun e w'=>e = .returned (.bool true)∧Below w.heap.size w w':=by
 unfold cellv;obtain ⟨⟨k,ke⟩,hx⟩:∃r:Int × Int,axisR c=r:=⟨_,rfl⟩
 by_cases he:ke=0
 ·subst he;obtain ⟨hv,hk,hw,_⟩:=axis_facts hx;obtain ⟨⟨x0,x1⟩,hg⟩:∃r:Int × Int,getC c k=r:=⟨_,rfl⟩;have vk:=vget hk hv;rw [hg] at vk hw;dsimp only at vk hw;obtain ⟨v1,v2,v3⟩:=vB_iff.1 vk;have hh:=halves_eq hx hg;have hin:=halves_in hx hg;have WG:=Lib.hid (fun (i:Int) (hi:i=0∨i=1∨i=2∨i=3)=>(⟨wget hx hi,vget hi hv⟩:(getC c i).2 - (getC c i).1≤(getC c k).2 - (getC c k).1∧vB (getC c i).1 (getC c i).2=true));have fa:=put_f c k x0 ((x0+x1) / 2);have fb:=put_f c k ((x0+x1) / 2) x1;have ga:=get_same c x0 ((x0+x1) / 2) hk;have gb:=get_same c ((x0+x1) / 2) x1 hk;have oa:=fun i hi ne=>get_other c (k:=k) (i:=i) x0 ((x0+x1) / 2) hk hi ne;have ob:=fun i hi ne=>get_other c (k:=k) (i:=i) ((x0+x1) / 2) x1 hk hi ne;obtain ⟨md,hmd⟩:∃m,(x0+x1) / 2=m:=⟨_,rfl⟩;rw [hmd] at hh hin fa fb ga gb;obtain ⟨⟨a0,a1,a2,a3,a4,a5,a6,a7,a8⟩,hA⟩:∃r,putC c k x0 md=r:=⟨_,rfl⟩;obtain ⟨⟨b0,b1,b2,b3,b4,b5,b6,b7,b8⟩,hB⟩:∃r,putC c k md x1=r:=⟨_,rfl⟩;rw [hA] at hh hin fa ga;rw [hB] at hh hin fb gb;dsimp only at fa fb;subst fa fb;have GA:=Lib.hid ga;have GB:=Lib.hid gb;have OA:=Lib.hid (fun (i:Int) (hi:i=0∨i=1∨i=2∨i=3) (ne:¬(i=k))=>(by have:=oa i hi ne;rw [hmd,hA] at this;exact this:getC ⟨c.f,a1,a2,a3,a4,a5,a6,a7,a8⟩ i=getC c i));have OB:=Lib.hid (fun (i:Int) (hi:i=0∨i=1∨i=2∨i=3) (ne:¬(i=k))=>(by have:=ob i hi ne;rw [hmd,hB] at this;exact this:getC ⟨c.f,b1,b2,b3,b4,b5,b6,b7,b8⟩ i=getC c i));have GX:=Lib.hid hg;have XH:=Lib.hid hh;have XA:=Lib.hid hx;have HIN:=Lib.hid hin;have HK:=Lib.hid hk
  have kn1:¬(k<0):=by omega
  have kn2:¬(3<k):=by omega
  have iwx:IntKind.i64.wrap (x1 - x0)=x1 - x0:=IntWalk.i64_in _ (by omega);clear hv hk vk hh hin ga gb oa ob hg hx hA hB hmd;have H0:=((Ho.nil w).bx [.int .i64 c.f,.int .i64 c.a,.int .i64 c.b,.int .i64 c.c,.int .i64 c.d,.int .i64 c.p,.int .i64 c.q,.int .i64 c.r,.int .i64 c.s] 29 (w.heap.size) (by simp));go_enter Try.func5,Try.ntmps5
  go_wp2_with fail
  refine (awake33_any _).mono ?_;rintro r w1 ⟨rfl,hb⟩;have H1:Ho w w1 (w.heap.size+1) [(w.heap.size,[.int .i64 c.f,.int .i64 c.a,.int .i64 c.b,.int .i64 c.c,.int .i64 c.d,.int .i64 c.p,.int .i64 c.q,.int .i64 c.r,.int .i64 c.s])]:=Ho.call hoA hb;have hs1:=H1.size;have hz1:=hb.size
  (try simp at hz1)
  clear hb;have h0_1:=(H1.at 0 rfl).c;have zx1:=zq (w.heap.size) (w1.heap.size)
  go_wp2_with fail
  refine (halves_any c _).mono ?_;rintro r w2 ⟨rfl,hb⟩;rw [XH.out];unfold cellv;dsimp only;have H2:Ho w w2 (w.heap.size+1) [(w.heap.size,[.int .i64 c.f,.int .i64 c.a,.int .i64 c.b,.int .i64 c.c,.int .i64 c.d,.int .i64 c.p,.int .i64 c.q,.int .i64 c.r,.int .i64 c.s])]:=Ho.call hoA hb;clear h0_1 zx1;have hs2:=H2.size;have hz2:=hb.size
  (try simp at hz2)
  clear hb;have h0_2:=(H2.at 0 rfl).c;have zx2:=zq (w.heap.size) (w2.heap.size)
  go_wp2_with fail
  refine (axis_any c _).mono ?_;rintro r w3 ⟨rfl,hb⟩;rw [XA.out];dsimp only;have H3:Ho w w3 (w.heap.size+1) [(w.heap.size,[.int .i64 c.f,.int .i64 c.a,.int .i64 c.b,.int .i64 c.c,.int .i64 c.d,.int .i64 c.p,.int .i64 c.q,.int .i64 c.r,.int .i64 c.s])]:=Ho.call hoA hb;have a_3:Bx w3 (w2.heap.size) [.int .i64 c.f,.int .i64 a1,.int .i64 a2,.int .i64 a3,.int .i64 a4,.int .i64 a5,.int .i64 a6,.int .i64 a7,.int .i64 a8]:=Bx.kept bxA hb;have b_3:Bx w3 (w2.heap.size+1) [.int .i64 c.f,.int .i64 b1,.int .i64 b2,.int .i64 b3,.int .i64 b4,.int .i64 b5,.int .i64 b6,.int .i64 b7,.int .i64 b8]:=Bx.kept bxA hb;clear h0_2 zx2;have hs3:=H3.size;have hz3:=hb.size
  (try simp at hz3)
  clear hb;have h0_3:=(H3.at 0 rfl).c;have a_3c:=a_3.c;have a_3f:=a_3.f;have a_3l:=a_3.lt;have b_3c:=b_3.c;have b_3f:=b_3.f;have b_3l:=b_3.lt;have zx3:=ai (zq (w2.heap.size) (w3.heap.size))<|ai (zq (w2.heap.size+1) (w3.heap.size))<|ai (zq (w.heap.size) (w3.heap.size))<|ai (zp (w2.heap.size) (w2.heap.size+1))<|ai (zp (w2.heap.size) (w.heap.size))<|zp (w2.heap.size+1) (w.heap.size)
  go_upto_region 9 with fail
  have HG:=(H3.cons a_3.rd).cons b_3.rd;clear h0_3 a_3c a_3f b_3c b_3f zx3;refine region_sets (Ja.I w.heap.size w2.heap.size (w2.heap.size+1) 0 0 0 0 w3.heap.size c a1 a2 a3 a4 a5 a6 a7 a8 b1 b2 b3 b4 b5 b6 b7 b8 k 0 x0 x1 md 0 0 w) (by kernel_rfl) ?_ (Ja.all w.heap.size w2.heap.size (w2.heap.size+1) 0 0 0 0 w3.heap.size c a1 a2 a3 a4 a5 a6 a7 a8 b1 b2 b3 b4 b5 b6 b7 b8 k 0 x0 x1 md 0 0 w _ ?_) (Ja.all w.heap.size w2.heap.size (w2.heap.size+1) 0 0 0 0 w3.heap.size c a1 a2 a3 a4 a5 a6 a7 a8 b1 b2 b3 b4 b5 b6 b7 b8 k 0 x0 x1 md 0 0 w _ ?_)
  ·refine ⟨false,false,false,false,false,false,false,false,false,false,false,false,false,false,false,false,false,false,undef,undef,undef,undef,undef,undef,undef,undef,undef,undef,undef,undef,undef,undef,undef,0,0,0,rfl,by simp only [Act.put,sS],?_⟩;constructor
   ·exact hoA
   ·(first|(simp;done)|(simp;omega))
   ·(omega)
   all_goals (intro h;cases h)
  ·intro w' l0 l1 l2 l3 l4 l5 l6 l7 l8 l9 l10 l11 l12 l13 l14 l15 l16 l17 v0 v1 v2 v3 v4 v5 v6 v7 v8 v9 v10 v11 v12 v13 v14 b12 b13 b14 h i hi;have hlt:=ready_lt hi
   match i,hi,hlt with
   |0,hi,_=>
    obtain rfl:l0=false:=rl rfl hi;clear hi hlt;have cw:=(h.g.at 2 rfl).c;have H:=Lib.hid h;clear h;refine wpOp_shut rfl (fun K hK=>?_)
    try simp only [Act.put,sS]
    go_simp;refine hK.out _ _ ?_;unfold Ja.I;refine ⟨_,_,_,_,_,_,_,_,_,_,_,_,_,_,_,_,_,_,(.agg #[.int .i64 c.f,.int .i64 c.a,.int .i64 c.b,.int .i64 c.c,.int .i64 c.d,.int .i64 c.p,.int .i64 c.q,.int .i64 c.r,.int .i64 c.s]),v1,v2,v3,v4,v5,v6,v7,v8,v9,v10,v11,v12,v13,v14,b12,b13,b14,rfl,?_,?_⟩
    ·kernel_rfl
    ·exact {H.out with ev0:=fun _=>rfl}
   |1,hi,_=>
    obtain rfl:l1=false:=rl rfl hi;obtain rfl:l0=true:=rk rfl hi 0 .data;clear hi hlt;obtain rfl:=h.ev0 rfl;have H:=Lib.hid h;clear h;refine wpOp_shut rfl (fun K hK=>?_)
    try simp only [Act.put,sS]
    go_simp;refine (theirs33_any c _).mono ?_;rintro e wY ⟨rfl,hb⟩;unfold cellv
    try go_simp
    refine hK.out _ _ ?_;unfold Ja.I;refine ⟨_,_,_,_,_,_,_,_,_,_,_,_,_,_,_,_,_,_,(.agg #[.int .i64 c.f,.int .i64 c.a,.int .i64 c.b,.int .i64 c.c,.int .i64 c.d,.int .i64 c.p,.int .i64 c.q,.int .i64 c.r,.int .i64 c.s]),(.agg #[.int .i64 c.f,.int .i64 c.a,.int .i64 c.b,.int .i64 c.c,.int .i64 c.d,.int .i64 c.p,.int .i64 c.q,.int .i64 c.r,.int .i64 c.s]),v2,v3,v4,v5,v6,v7,v8,v9,v10,v11,v12,v13,v14,b12,b13,b14,rfl,?_,?_⟩
    ·kernel_rfl
    ·exact {(H.out.kept hb) with ev1:=fun _=>rfl}
   |2,hi,_=>
    obtain rfl:l2=false:=rl rfl hi;clear hi hlt;have H:=Lib.hid h;clear h;refine wpOp_shut rfl (fun K hK=>?_)
    try simp only [Act.put,sS]
    go_simp;refine hK.out _ _ ?_;unfold Ja.I;refine ⟨_,_,_,_,_,_,_,_,_,_,_,_,_,_,_,_,_,_,v0,v1,(.int .i64 k),v3,v4,v5,v6,v7,v8,v9,v10,v11,v12,v13,v14,b12,b13,b14,rfl,?_,?_⟩
    ·kernel_rfl
    ·exact {H.out with ev2:=fun _=>rfl}
   |3,hi,_=>
    obtain rfl:l3=false:=rl rfl hi;obtain rfl:l1=true:=rk rfl hi 1 .chain;obtain rfl:l2=true:=rk rfl hi 2 .data;clear hi hlt;obtain rfl:=h.ev1 rfl;obtain rfl:=h.ev2 rfl;have H:=Lib.hid h;clear h;refine wpOp_shut rfl (fun K hK=>?_)
    try simp only [Act.put,sS]
    go_simp;refine (part33_any c k HK.out _).mono ?_;rintro e wY ⟨rfl,hb⟩;rw [GX.out];dsimp only
    try go_simp
    refine hK.out _ _ ?_;unfold Ja.I;refine ⟨_,_,_,_,_,_,_,_,_,_,_,_,_,_,_,_,_,_,v0,(.agg #[.int .i64 c.f,.int .i64 c.a,.int .i64 c.b,.int .i64 c.c,.int .i64 c.d,.int .i64 c.p,.int .i64 c.q,.int .i64 c.r,.int .i64 c.s]),(.int .i64 k),((iv x0 x1)),v4,v5,v6,v7,v8,v9,v10,v11,v12,v13,v14,b12,b13,b14,rfl,?_,?_⟩
    ·kernel_rfl
    ·exact {(H.out.kept hb) with ev3:=fun _=>rfl}
   |4,hi,_=>
    obtain rfl:l4=false:=rl rfl hi;clear hi hlt;have cw:=(h.g.at 1 rfl).c;have H:=Lib.hid h;clear h;refine wpOp_shut rfl (fun K hK=>?_)
    try simp only [Act.put,sS]
    go_simp;refine hK.out _ _ ?_;unfold Ja.I;refine ⟨_,_,_,_,_,_,_,_,_,_,_,_,_,_,_,_,_,_,v0,v1,v2,v3,(.agg #[.int .i64 c.f,.int .i64 a1,.int .i64 a2,.int .i64 a3,.int .i64 a4,.int .i64 a5,.int .i64 a6,.int .i64 a7,.int .i64 a8]),v5,v6,v7,v8,v9,v10,v11,v12,v13,v14,b12,b13,b14,rfl,?_,?_⟩
    ·kernel_rfl
    ·exact {H.out with ev4:=fun _=>rfl}
   |5,hi,_=>
    obtain rfl:l5=false:=rl rfl hi;obtain rfl:l4=true:=rk rfl hi 4 .data;obtain rfl:l3=true:=rk rfl hi 3 .chain;clear hi hlt;obtain rfl:=h.ev4 rfl;obtain rfl:=h.ev3 rfl;have H:=Lib.hid h;clear h;refine wpOp_shut rfl (fun K hK=>?_)
    try simp only [Act.put,sS]
    go_simp;refine (theirs33_any ⟨c.f,a1,a2,a3,a4,a5,a6,a7,a8⟩ _).mono ?_;rintro e wY ⟨rfl,hb⟩;unfold cellv
    try go_simp
    refine hK.out _ _ ?_;unfold Ja.I;refine ⟨_,_,_,_,_,_,_,_,_,_,_,_,_,_,_,_,_,_,v0,v1,v2,((iv x0 x1)),(.agg #[.int .i64 c.f,.int .i64 a1,.int .i64 a2,.int .i64 a3,.int .i64 a4,.int .i64 a5,.int .i64 a6,.int .i64 a7,.int .i64 a8]),(.agg #[.int .i64 c.f,.int .i64 a1,.int .i64 a2,.int .i64 a3,.int .i64 a4,.int .i64 a5,.int .i64 a6,.int .i64 a7,.int .i64 a8]),v6,v7,v8,v9,v10,v11,v12,v13,v14,b12,b13,b14,rfl,?_,?_⟩
    ·kernel_rfl
    ·exact {(H.out.kept hb) with ev5:=fun _=>rfl}
   |6,hi,_=>
    obtain rfl:l6=false:=rl rfl hi;clear hi hlt;have H:=Lib.hid h;clear h;refine wpOp_shut rfl (fun K hK=>?_)
    try simp only [Act.put,sS]
    go_simp;refine hK.out _ _ ?_;unfold Ja.I;refine ⟨_,_,_,_,_,_,_,_,_,_,_,_,_,_,_,_,_,_,v0,v1,v2,v3,v4,v5,(.int .i64 k),v7,v8,v9,v10,v11,v12,v13,v14,b12,b13,b14,rfl,?_,?_⟩
    ·kernel_rfl
    ·exact {H.out with ev6:=fun _=>rfl}
   |7,hi,_=>
    obtain rfl:l7=false:=rl rfl hi;obtain rfl:l5=true:=rk rfl hi 5 .chain;obtain rfl:l6=true:=rk rfl hi 6 .data;clear hi hlt;obtain rfl:=h.ev5 rfl;obtain rfl:=h.ev6 rfl;have H:=Lib.hid h;clear h;refine wpOp_shut rfl (fun K hK=>?_)
    try simp only [Act.put,sS]
    go_simp;refine (part33_any ⟨c.f,a1,a2,a3,a4,a5,a6,a7,a8⟩ k HK.out _).mono ?_;rintro e wY ⟨rfl,hb⟩;rw [GA.out];dsimp only
    try go_simp
    refine hK.out _ _ ?_;unfold Ja.I;refine ⟨_,_,_,_,_,_,_,_,_,_,_,_,_,_,_,_,_,_,v0,v1,v2,v3,v4,(.agg #[.int .i64 c.f,.int .i64 a1,.int .i64 a2,.int .i64 a3,.int .i64 a4,.int .i64 a5,.int .i64 a6,.int .i64 a7,.int .i64 a8]),(.int .i64 k),((iv x0 md)),v8,v9,v10,v11,v12,v13,v14,b12,b13,b14,rfl,?_,?_⟩
    ·kernel_rfl
    ·exact {(H.out.kept hb) with ev7:=fun _=>rfl}
   |8,hi,_=>
    obtain rfl:l8=false:=rl rfl hi;clear hi hlt;have cw:=(h.g.at 0 rfl).c;have H:=Lib.hid h;clear h;refine wpOp_shut rfl (fun K hK=>?_)
    try simp only [Act.put,sS]
    go_simp;refine hK.out _ _ ?_;unfold Ja.I;refine ⟨_,_,_,_,_,_,_,_,_,_,_,_,_,_,_,_,_,_,v0,v1,v2,v3,v4,v5,v6,v7,(.agg #[.int .i64 c.f,.int .i64 b1,.int .i64 b2,.int .i64 b3,.int .i64 b4,.int .i64 b5,.int .i64 b6,.int .i64 b7,.int .i64 b8]),v9,v10,v11,v12,v13,v14,b12,b13,b14,rfl,?_,?_⟩
    ·kernel_rfl
    ·exact {H.out with ev8:=fun _=>rfl}
   |9,hi,_=>
    obtain rfl:l9=false:=rl rfl hi;obtain rfl:l8=true:=rk rfl hi 8 .data;obtain rfl:l7=true:=rk rfl hi 7 .chain;clear hi hlt;obtain rfl:=h.ev8 rfl;obtain rfl:=h.ev7 rfl;have H:=Lib.hid h;clear h;refine wpOp_shut rfl (fun K hK=>?_)
    try simp only [Act.put,sS]
    go_simp;refine (theirs33_any ⟨c.f,b1,b2,b3,b4,b5,b6,b7,b8⟩ _).mono ?_;rintro e wY ⟨rfl,hb⟩;unfold cellv
    try go_simp
    refine hK.out _ _ ?_;unfold Ja.I;refine ⟨_,_,_,_,_,_,_,_,_,_,_,_,_,_,_,_,_,_,v0,v1,v2,v3,v4,v5,v6,((iv x0 md)),(.agg #[.int .i64 c.f,.int .i64 b1,.int .i64 b2,.int .i64 b3,.int .i64 b4,.int .i64 b5,.int .i64 b6,.int .i64 b7,.int .i64 b8]),(.agg #[.int .i64 c.f,.int .i64 b1,.int .i64 b2,.int .i64 b3,.int .i64 b4,.int .i64 b5,.int .i64 b6,.int .i64 b7,.int .i64 b8]),v10,v11,v12,v13,v14,b12,b13,b14,rfl,?_,?_⟩
    ·kernel_rfl
    ·exact {(H.out.kept hb) with ev9:=fun _=>rfl}
   |10,hi,_=>
    obtain rfl:l10=false:=rl rfl hi;clear hi hlt;have H:=Lib.hid h;clear h;refine wpOp_shut rfl (fun K hK=>?_)
    try simp only [Act.put,sS]
    go_simp;refine hK.out _ _ ?_;unfold Ja.I;refine ⟨_,_,_,_,_,_,_,_,_,_,_,_,_,_,_,_,_,_,v0,v1,v2,v3,v4,v5,v6,v7,v8,v9,(.int .i64 k),v11,v12,v13,v14,b12,b13,b14,rfl,?_,?_⟩
    ·kernel_rfl
    ·exact {H.out with ev10:=fun _=>rfl}
   |11,hi,_=>
    obtain rfl:l11=false:=rl rfl hi;obtain rfl:l9=true:=rk rfl hi 9 .chain;obtain rfl:l10=true:=rk rfl hi 10 .data;clear hi hlt;obtain rfl:=h.ev9 rfl;obtain rfl:=h.ev10 rfl;have H:=Lib.hid h;clear h;refine wpOp_shut rfl (fun K hK=>?_)
    try simp only [Act.put,sS]
    go_simp;refine (part33_any ⟨c.f,b1,b2,b3,b4,b5,b6,b7,b8⟩ k HK.out _).mono ?_;rintro e wY ⟨rfl,hb⟩;rw [GB.out];dsimp only
    try go_simp
    refine hK.out _ _ ?_;unfold Ja.I;refine ⟨_,_,_,_,_,_,_,_,_,_,_,_,_,_,_,_,_,_,v0,v1,v2,v3,v4,v5,v6,v7,v8,(.agg #[.int .i64 c.f,.int .i64 b1,.int .i64 b2,.int .i64 b3,.int .i64 b4,.int .i64 b5,.int .i64 b6,.int .i64 b7,.int .i64 b8]),(.int .i64 k),((iv md x1)),v12,v13,v14,b12,b13,b14,rfl,?_,?_⟩
    ·kernel_rfl
    ·exact {(H.out.kept hb) with ev11:=fun _=>rfl}
   |12,hi,_=>
    obtain rfl:l12=false:=rl rfl hi;clear hi hlt;have H:=Lib.hid h;clear h;refine wpOp_shut rfl (fun K hK=>?_)
    try simp only [Act.put,sS]
    go_simp;refine hK.out _ _ ?_;unfold Ja.I;refine ⟨_,_,_,_,_,_,_,_,_,_,_,_,_,_,_,_,_,_,v0,v1,v2,v3,v4,v5,v6,v7,v8,v9,v10,v11,(.pointer (some ⟨w'.heap.size,0,none⟩)),v13,v14,w'.heap.size,b13,b14,rfl,?_,?_⟩
    ·kernel_rfl
    ·have h:=H.out;have h2:=h.kept ((Below.refl _ _).alloc (Nat.le_refl _) (.cells (List.toArray [.int .i64 0,.int .i64 0]) 25));exact {h2 with ev12:=fun _=>rfl,g12:=fun _=>h.sz,t12:=fun _=>by simp,o12:=fun p=>rfl,z12:=fun _ _=>Bx.new rfl,s12:=fun p=>(nomatch (h.o12 p)),d12_13:=fun _ p=>Nat.ne_of_gt (h.t13 p),d12_14:=fun _ p=>Nat.ne_of_gt (h.t14 p)}
   |13,hi,_=>
    obtain rfl:l13=false:=rl rfl hi;clear hi hlt;have H:=Lib.hid h;clear h;refine wpOp_shut rfl (fun K hK=>?_)
    try simp only [Act.put,sS]
    go_simp;refine hK.out _ _ ?_;unfold Ja.I;refine ⟨_,_,_,_,_,_,_,_,_,_,_,_,_,_,_,_,_,_,v0,v1,v2,v3,v4,v5,v6,v7,v8,v9,v10,v11,v12,(.pointer (some ⟨w'.heap.size,0,none⟩)),v14,b12,w'.heap.size,b14,rfl,?_,?_⟩
    ·kernel_rfl
    ·have h:=H.out;have h2:=h.kept ((Below.refl _ _).alloc (Nat.le_refl _) (.cells (List.toArray [.int .i64 0,.int .i64 0]) 25));exact {h2 with ev13:=fun _=>rfl,g13:=fun _=>h.sz,t13:=fun _=>by simp,o13:=fun p=>rfl,z13:=fun _ _=>Bx.new rfl,s13:=fun p=>(nomatch (h.o13 p)),d12_13:=fun p _=>Nat.ne_of_lt (h.t12 p),d13_14:=fun _ p=>Nat.ne_of_gt (h.t14 p)}
   |14,hi,_=>
    obtain rfl:l14=false:=rl rfl hi;clear hi hlt;have H:=Lib.hid h;clear h;refine wpOp_shut rfl (fun K hK=>?_)
    try simp only [Act.put,sS]
    go_simp;refine hK.out _ _ ?_;unfold Ja.I;refine ⟨_,_,_,_,_,_,_,_,_,_,_,_,_,_,_,_,_,_,v0,v1,v2,v3,v4,v5,v6,v7,v8,v9,v10,v11,v12,v13,(.pointer (some ⟨w'.heap.size,0,none⟩)),b12,b13,w'.heap.size,rfl,?_,?_⟩
    ·kernel_rfl
    ·have h:=H.out;have h2:=h.kept ((Below.refl _ _).alloc (Nat.le_refl _) (.cells (List.toArray [.int .i64 0,.int .i64 0]) 25));exact {h2 with ev14:=fun _=>rfl,g14:=fun _=>h.sz,t14:=fun _=>by simp,o14:=fun p=>rfl,z14:=fun _ _=>Bx.new rfl,s14:=fun p=>(nomatch (h.o14 p)),d12_14:=fun p _=>Nat.ne_of_lt (h.t12 p),d13_14:=fun p _=>Nat.ne_of_lt (h.t13 p)}
   |15,hi,_=>
    obtain rfl:l15=false:=rl rfl hi;obtain rfl:l12=true:=rk rfl hi 12 .phase;obtain rfl:l3=true:=rk rfl hi 3 .phase;obtain rfl:l11=true:=rk rfl hi 11 .chain;obtain rfl:l0=true:=rk rfl hi 0 .phase;obtain rfl:l1=true:=rk rfl hi 1 .phase;obtain rfl:l2=true:=rk rfl hi 2 .phase;obtain rfl:l13=true:=rk rfl hi 13 .phase;obtain rfl:l14=true:=rk rfl hi 14 .phase;clear hi hlt;obtain rfl:=h.ev12 rfl;obtain rfl:=h.ev3 rfl;obtain rfl:=h.ev11 rfl;obtain rfl:=h.ev0 rfl;obtain rfl:=h.ev1 rfl;obtain rfl:=h.ev2 rfl;obtain rfl:=h.ev13 rfl;obtain rfl:=h.ev14 rfl;have bz:=h.z12 rfl rfl;have cW:=bz.c;have fW:=bz.f;clear bz;have H:=Lib.hid h;clear h;refine wpOp_shut rfl (fun K hK=>?_)
    try simp only [Act.put,sS]
    go_simp;refine hK.out _ _ ?_;unfold Ja.I;refine ⟨_,_,_,_,_,_,_,_,_,_,_,_,_,_,_,_,_,_,(.agg #[.int .i64 c.f,.int .i64 c.a,.int .i64 c.b,.int .i64 c.c,.int .i64 c.d,.int .i64 c.p,.int .i64 c.q,.int .i64 c.r,.int .i64 c.s]),(.agg #[.int .i64 c.f,.int .i64 c.a,.int .i64 c.b,.int .i64 c.c,.int .i64 c.d,.int .i64 c.p,.int .i64 c.q,.int .i64 c.r,.int .i64 c.s]),(.int .i64 k),((iv x0 x1)),v4,v5,v6,v7,v8,v9,v10,((iv md x1)),(.pointer (some ⟨b12,0,none⟩)),(.pointer (some ⟨b13,0,none⟩)),(.pointer (some ⟨b14,0,none⟩)),b12,b13,b14,rfl,?_,?_⟩
    ·kernel_rfl
    ·have h:=H.out;have gb:=h.g12 rfl;have gm:=Nat.le_trans h.mn gb;exact {h with g:=((h.g.put gm).put gm),sz:=by simpa using h.sz,o12:=fun _=>rfl,z12:=fun _ p=>(nomatch p),s12:=fun _=>(((h.z12 rfl rfl).put).put),t12:=fun p=>by simpa using h.t12 p,t13:=fun p=>by simpa using h.t13 p,z13:=fun p r=>(((h.z13 p r).set (fun q=>(h.d12_13 rfl p) q.symm)).set (fun q=>(h.d12_13 rfl p) q.symm)),s13:=fun p=>(((h.s13 p).set (fun q=>(h.d12_13 rfl (h.o13 p)) q.symm)).set (fun q=>(h.d12_13 rfl (h.o13 p)) q.symm)),t14:=fun p=>by simpa using h.t14 p,z14:=fun p r=>(((h.z14 p r).set (fun q=>(h.d12_14 rfl p) q.symm)).set (fun q=>(h.d12_14 rfl p) q.symm)),s14:=fun p=>(((h.s14 p).set (fun q=>(h.d12_14 rfl (h.o14 p)) q.symm)).set (fun q=>(h.d12_14 rfl (h.o14 p)) q.symm))}
   |16,hi,_=>
    obtain rfl:l16=false:=rl rfl hi;obtain rfl:l13=true:=rk rfl hi 13 .phase;obtain rfl:l7=true:=rk rfl hi 7 .phase;obtain rfl:l15=true:=rk rfl hi 15 .phase;obtain rfl:l0=true:=rk rfl hi 0 .phase;obtain rfl:l1=true:=rk rfl hi 1 .phase;obtain rfl:l2=true:=rk rfl hi 2 .phase;obtain rfl:l3=true:=rk rfl hi 3 .phase;obtain rfl:l4=true:=rk rfl hi 4 .phase;obtain rfl:l5=true:=rk rfl hi 5 .phase;obtain rfl:l6=true:=rk rfl hi 6 .phase;obtain rfl:l12=true:=rk rfl hi 12 .phase;obtain rfl:l14=true:=rk rfl hi 14 .phase;clear hi hlt;obtain rfl:=h.ev13 rfl;obtain rfl:=h.ev7 rfl;obtain rfl:=h.ev0 rfl;obtain rfl:=h.ev1 rfl;obtain rfl:=h.ev2 rfl;obtain rfl:=h.ev3 rfl;obtain rfl:=h.ev4 rfl;obtain rfl:=h.ev5 rfl;obtain rfl:=h.ev6 rfl;obtain rfl:=h.ev12 rfl;obtain rfl:=h.ev14 rfl;have bz:=h.z13 rfl rfl;have cW:=bz.c;have fW:=bz.f;clear bz;have H:=Lib.hid h;clear h;refine wpOp_shut rfl (fun K hK=>?_)
    try simp only [Act.put,sS]
    go_simp;refine hK.out _ _ ?_;unfold Ja.I;refine ⟨_,_,_,_,_,_,_,_,_,_,_,_,_,_,_,_,_,_,(.agg #[.int .i64 c.f,.int .i64 c.a,.int .i64 c.b,.int .i64 c.c,.int .i64 c.d,.int .i64 c.p,.int .i64 c.q,.int .i64 c.r,.int .i64 c.s]),(.agg #[.int .i64 c.f,.int .i64 c.a,.int .i64 c.b,.int .i64 c.c,.int .i64 c.d,.int .i64 c.p,.int .i64 c.q,.int .i64 c.r,.int .i64 c.s]),(.int .i64 k),((iv x0 x1)),(.agg #[.int .i64 c.f,.int .i64 a1,.int .i64 a2,.int .i64 a3,.int .i64 a4,.int .i64 a5,.int .i64 a6,.int .i64 a7,.int .i64 a8]),(.agg #[.int .i64 c.f,.int .i64 a1,.int .i64 a2,.int .i64 a3,.int .i64 a4,.int .i64 a5,.int .i64 a6,.int .i64 a7,.int .i64 a8]),(.int .i64 k),((iv x0 md)),v8,v9,v10,v11,(.pointer (some ⟨b12,0,none⟩)),(.pointer (some ⟨b13,0,none⟩)),(.pointer (some ⟨b14,0,none⟩)),b12,b13,b14,rfl,?_,?_⟩
    ·kernel_rfl
    ·have h:=H.out;have gb:=h.g13 rfl;have gm:=Nat.le_trans h.mn gb;exact {h with g:=((h.g.put gm).put gm),sz:=by simpa using h.sz,o13:=fun _=>rfl,z13:=fun _ p=>(nomatch p),s13:=fun _=>(((h.z13 rfl rfl).put).put),t13:=fun p=>by simpa using h.t13 p,t12:=fun p=>by simpa using h.t12 p,z12:=fun p r=>(((h.z12 p r).set (fun q=>(h.d12_13 p rfl) q)).set (fun q=>(h.d12_13 p rfl) q)),s12:=fun p=>(((h.s12 p).set (fun q=>(h.d12_13 (h.o12 p) rfl) q)).set (fun q=>(h.d12_13 (h.o12 p) rfl) q)),t14:=fun p=>by simpa using h.t14 p,z14:=fun p r=>(((h.z14 p r).set (fun q=>(h.d13_14 rfl p) q.symm)).set (fun q=>(h.d13_14 rfl p) q.symm)),s14:=fun p=>(((h.s14 p).set (fun q=>(h.d13_14 rfl (h.o14 p)) q.symm)).set (fun q=>(h.d13_14 rfl (h.o14 p)) q.symm))}
   |17,hi,_=>
    obtain rfl:l17=false:=rl rfl hi;obtain rfl:l14=true:=rk rfl hi 14 .phase;obtain rfl:l11=true:=rk rfl hi 11 .phase;obtain rfl:l16=true:=rk rfl hi 16 .phase;obtain rfl:l0=true:=rk rfl hi 0 .phase;obtain rfl:l1=true:=rk rfl hi 1 .phase;obtain rfl:l2=true:=rk rfl hi 2 .phase;obtain rfl:l3=true:=rk rfl hi 3 .phase;obtain rfl:l4=true:=rk rfl hi 4 .phase;obtain rfl:l5=true:=rk rfl hi 5 .phase;obtain rfl:l6=true:=rk rfl hi 6 .phase;obtain rfl:l7=true:=rk rfl hi 7 .phase;obtain rfl:l8=true:=rk rfl hi 8 .phase;obtain rfl:l9=true:=rk rfl hi 9 .phase;obtain rfl:l10=true:=rk rfl hi 10 .phase;obtain rfl:l12=true:=rk rfl hi 12 .phase;obtain rfl:l13=true:=rk rfl hi 13 .phase;obtain rfl:l15=true:=rk rfl hi 15 .phase;clear hi hlt;obtain rfl:=h.ev14 rfl;obtain rfl:=h.ev11 rfl;obtain rfl:=h.ev0 rfl;obtain rfl:=h.ev1 rfl;obtain rfl:=h.ev2 rfl;obtain rfl:=h.ev3 rfl;obtain rfl:=h.ev4 rfl;obtain rfl:=h.ev5 rfl;obtain rfl:=h.ev6 rfl;obtain rfl:=h.ev7 rfl;obtain rfl:=h.ev8 rfl;obtain rfl:=h.ev9 rfl;obtain rfl:=h.ev10 rfl;obtain rfl:=h.ev12 rfl;obtain rfl:=h.ev13 rfl;have bz:=h.z14 rfl rfl;have cW:=bz.c;have fW:=bz.f;clear bz;have H:=Lib.hid h;clear h;refine wpOp_shut rfl (fun K hK=>?_)
    try simp only [Act.put,sS]
    go_simp;refine hK.out _ _ ?_;unfold Ja.I;refine ⟨_,_,_,_,_,_,_,_,_,_,_,_,_,_,_,_,_,_,(.agg #[.int .i64 c.f,.int .i64 c.a,.int .i64 c.b,.int .i64 c.c,.int .i64 c.d,.int .i64 c.p,.int .i64 c.q,.int .i64 c.r,.int .i64 c.s]),(.agg #[.int .i64 c.f,.int .i64 c.a,.int .i64 c.b,.int .i64 c.c,.int .i64 c.d,.int .i64 c.p,.int .i64 c.q,.int .i64 c.r,.int .i64 c.s]),(.int .i64 k),((iv x0 x1)),(.agg #[.int .i64 c.f,.int .i64 a1,.int .i64 a2,.int .i64 a3,.int .i64 a4,.int .i64 a5,.int .i64 a6,.int .i64 a7,.int .i64 a8]),(.agg #[.int .i64 c.f,.int .i64 a1,.int .i64 a2,.int .i64 a3,.int .i64 a4,.int .i64 a5,.int .i64 a6,.int .i64 a7,.int .i64 a8]),(.int .i64 k),((iv x0 md)),(.agg #[.int .i64 c.f,.int .i64 b1,.int .i64 b2,.int .i64 b3,.int .i64 b4,.int .i64 b5,.int .i64 b6,.int .i64 b7,.int .i64 b8]),(.agg #[.int .i64 c.f,.int .i64 b1,.int .i64 b2,.int .i64 b3,.int .i64 b4,.int .i64 b5,.int .i64 b6,.int .i64 b7,.int .i64 b8]),(.int .i64 k),((iv md x1)),(.pointer (some ⟨b12,0,none⟩)),(.pointer (some ⟨b13,0,none⟩)),(.pointer (some ⟨b14,0,none⟩)),b12,b13,b14,rfl,?_,?_⟩
    ·kernel_rfl
    ·have h:=H.out;have gb:=h.g14 rfl;have gm:=Nat.le_trans h.mn gb;exact {h with g:=((h.g.put gm).put gm),sz:=by simpa using h.sz,o14:=fun _=>rfl,z14:=fun _ p=>(nomatch p),s14:=fun _=>(((h.z14 rfl rfl).put).put),t14:=fun p=>by simpa using h.t14 p,t12:=fun p=>by simpa using h.t12 p,z12:=fun p r=>(((h.z12 p r).set (fun q=>(h.d12_14 p rfl) q)).set (fun q=>(h.d12_14 p rfl) q)),s12:=fun p=>(((h.s12 p).set (fun q=>(h.d12_14 (h.o12 p) rfl) q)).set (fun q=>(h.d12_14 (h.o12 p) rfl) q)),t13:=fun p=>by simpa using h.t13 p,z13:=fun p r=>(((h.z13 p r).set (fun q=>(h.d13_14 p rfl) q)).set (fun q=>(h.d13_14 p rfl) q)),s13:=fun p=>(((h.s13 p).set (fun q=>(h.d13_14 (h.o13 p) rfl) q)).set (fun q=>(h.d13_14 (h.o13 p) rfl) q))}
   |i+18,_,hlt=>exact absurd hlt (by simp)
  ·intro w' l0 l1 l2 l3 l4 l5 l6 l7 l8 l9 l10 l11 l12 l13 l14 l15 l16 l17 v0 v1 v2 v3 v4 v5 v6 v7 v8 v9 v10 v11 v12 v13 v14 b12 b13 b14 h hn;obtain rfl:l0=true:=nr 0 rfl hn;obtain rfl:l1=true:=nr 1 rfl hn;obtain rfl:l2=true:=nr 2 rfl hn;obtain rfl:l3=true:=nr 3 rfl hn;obtain rfl:l4=true:=nr 4 rfl hn;obtain rfl:l5=true:=nr 5 rfl hn;obtain rfl:l6=true:=nr 6 rfl hn;obtain rfl:l7=true:=nr 7 rfl hn;obtain rfl:l8=true:=nr 8 rfl hn;obtain rfl:l9=true:=nr 9 rfl hn;obtain rfl:l10=true:=nr 10 rfl hn;obtain rfl:l11=true:=nr 11 rfl hn;obtain rfl:l12=true:=nr 12 rfl hn;obtain rfl:l13=true:=nr 13 rfl hn;obtain rfl:l14=true:=nr 14 rfl hn;obtain rfl:l15=true:=nr 15 rfl hn;obtain rfl:l16=true:=nr 16 rfl hn;obtain rfl:l17=true:=nr 17 rfl hn;clear hn;obtain rfl:=h.ev0 rfl;obtain rfl:=h.ev1 rfl;obtain rfl:=h.ev2 rfl;obtain rfl:=h.ev3 rfl;obtain rfl:=h.ev4 rfl;obtain rfl:=h.ev5 rfl;obtain rfl:=h.ev6 rfl;obtain rfl:=h.ev7 rfl;obtain rfl:=h.ev8 rfl;obtain rfl:=h.ev9 rfl;obtain rfl:=h.ev10 rfl;obtain rfl:=h.ev11 rfl;obtain rfl:=h.ev12 rfl;obtain rfl:=h.ev13 rfl;obtain rfl:=h.ev14 rfl;simp only [Act.put,sS]
   rename World=>w4
   have HL0:=h.g;have bx:=h.s12 rfl;have by':=h.s13 rfl;have bz:=h.s14 rfl;clear h;have HL:=((HL0.cons bx.rd).cons by'.rd).cons bz.rd;clear HL0 bx by' bz H3 a_3 b_3 HG
   go_wp2_with fail
   go_loopw [11] (fun s wr=>∃i:Nat,i≤4∧s = .int .i64 i∧Ho w wr w4.heap.size [(b14,[.int .i64 md,.int .i64 x1]),(b13,[.int .i64 x0,.int .i64 md]),(b12,[.int .i64 x0,.int .i64 x1]),(w2.heap.size+1,[.int .i64 c.f,.int .i64 b1,.int .i64 b2,.int .i64 b3,.int .i64 b4,.int .i64 b5,.int .i64 b6,.int .i64 b7,.int .i64 b8]),(w2.heap.size,[.int .i64 c.f,.int .i64 a1,.int .i64 a2,.int .i64 a3,.int .i64 a4,.int .i64 a5,.int .i64 a6,.int .i64 a7,.int .i64 a8]),(w.heap.size,[.int .i64 c.f,.int .i64 c.a,.int .i64 c.b,.int .i64 c.c,.int .i64 c.d,.int .i64 c.p,.int .i64 c.q,.int .i64 c.r,.int .i64 c.s])]) (fun s _=>4 - (intOf s).toNat)
   case atStart=>exact ⟨0,Nat.zero_le _,rfl,HL⟩
   case round=>
    obtain ⟨j,hj,rfl,HR⟩:=hrel;have x0':=(HR.at 5 rfl).c;have hb':=HR.base;have hzr:=HR.size;have i15:IntKind.i64.wrap ((j:Int)+1)=(j:Int)+1:=IntWalk.i64_in _ (by omega);rcases Nat.lt_or_ge j 4 with hlt|hge
    ·have hlt':(j:Int)<4:=by omega
     obtain ⟨ix,hi⟩:∃i:Int,(j:Int)=i:=⟨_,rfl⟩;have HJ:=Lib.hid hi;have HII:=Lib.hid (by omega:ix=0∨ix=1∨ix=2∨ix=3);obtain ⟨⟨w0',w1'⟩,hgi⟩:∃r:Int × Int,getC c ix=r:=⟨_,rfl⟩;have wg:=WG.out ix HII.out;rw [hgi,GX.out] at wg;dsimp only at wg;obtain ⟨wg1,wg2⟩:=wg;obtain ⟨y1,y2,y3⟩:=vB_iff.1 wg2;have iww:IntKind.i64.wrap (w1' - w0')=w1' - w0':=IntWalk.i64_in _ (by omega)
     have hle:¬(x1 - x0<w1' - w0'):=by omega
     have GI:=Lib.hid hgi;rw [hi];rw [hi] at hlt' i15;clear hgi wg2 hi
     go_wp2_with fail
     refine (theirs33_any c _).mono ?_;rintro r w3' ⟨rfl,hb⟩;unfold cellv;have H4:=HR.call hb;clear hb x0'
     go_wp2_with fail
     refine (part33_any c ix HII.out _).mono ?_;rintro r w5 ⟨rfl,hb⟩;rw [GI.out];dsimp only;have H5:=H4.call hb;clear hb;have HW:Bx (w5.alloc (.cells (List.toArray [.int .i64 w0',.int .i64 w1']) 25)) w5.heap.size [.int .i64 w0',.int .i64 w1']:=Bx.new rfl;have H6:=H5.alc (.cells (List.toArray [.int .i64 w0',.int .i64 w1']) 25)
     go_upto_region 14 with fail
     revert HW H6;generalize (w5.alloc (.cells (List.toArray [.int .i64 w0',.int .i64 w1']) 25))=w6;intro HW H6;have HG:=H6.cons HW.rd;have hs6:=H6.size;clear HR H4 H5
     by_cases hik:ix=k
     ·have HQ:=GI.out;rw [hik,GX.out] at HQ;obtain ⟨rfl,rfl⟩:=Prod.mk.inj HQ;clear HQ;have hki:=hik.symm;clear hik;subst hki;refine region_sets (Jb.I w.heap.size w2.heap.size (w2.heap.size+1) b12 b13 b14 w5.heap.size w6.heap.size c a1 a2 a3 a4 a5 a6 a7 a8 b1 b2 b3 b4 b5 b6 b7 b8 k k x0 x1 md x0 x1 w) (by kernel_rfl) ?_ (Jb.all w.heap.size w2.heap.size (w2.heap.size+1) b12 b13 b14 w5.heap.size w6.heap.size c a1 a2 a3 a4 a5 a6 a7 a8 b1 b2 b3 b4 b5 b6 b7 b8 k k x0 x1 md x0 x1 w _ ?_) (Jb.all w.heap.size w2.heap.size (w2.heap.size+1) b12 b13 b14 w5.heap.size w6.heap.size c a1 a2 a3 a4 a5 a6 a7 a8 b1 b2 b3 b4 b5 b6 b7 b8 k k x0 x1 md x0 x1 w _ ?_)
      ·refine ⟨false,false,false,false,false,false,false,false,false,false,false,false,false,false,false,false,false,false,false,false,false,false,false,false,false,false,false,false,false,false,false,false,u61,u62,u63,u64,u65,u66,u67,u68,u69,u70,u71,u72,u73,u74,u75,u76,u77,u78,u79,u80,u81,u82,u83,u84,u85,u86,u87,u88,u89,u90,u91,u92,rfl,by simp only [Act.put,sS],?_⟩;constructor
       ·exact hoA
       ·(first|(simp;done)|(simp;omega))
       ·(omega)
       all_goals (intro h;cases h)
      ·intro w' l0 l1 l2 l3 l4 l5 l6 l7 l8 l9 l10 l11 l12 l13 l14 l15 l16 l17 l18 l19 l20 l21 l22 l23 l24 l25 l26 l27 l28 l29 l30 l31 v0 v1 v2 v3 v4 v5 v6 v7 v8 v9 v10 v11 v12 v13 v14 v15 v16 v17 v18 v19 v20 v21 v22 v23 v24 v25 v26 v27 v28 v29 v30 v31 h i hi;have hlt:=ready_lt hi
       match i,hi,hlt with
       |0,hi,_=>
        obtain rfl:l0=false:=rl rfl hi;clear hi hlt;have H:=Lib.hid h;clear h;refine wpOp_shut rfl (fun K hK=>?_)
        try simp only [Act.put,sS]
        go_simp;refine hK.out _ _ ?_;unfold Jb.I;refine ⟨_,_,_,_,_,_,_,_,_,_,_,_,_,_,_,_,_,_,_,_,_,_,_,_,_,_,_,_,_,_,_,_,(.pointer (some ⟨w5.heap.size,1,none⟩)),v1,v2,v3,v4,v5,v6,v7,v8,v9,v10,v11,v12,v13,v14,v15,v16,v17,v18,v19,v20,v21,v22,v23,v24,v25,v26,v27,v28,v29,v30,v31,rfl,?_,?_⟩
        ·kernel_rfl
        ·exact {H.out with ev0:=fun _=>rfl}
       |1,hi,_=>
        obtain rfl:l1=false:=rl rfl hi;obtain rfl:l0=true:=rk rfl hi 0 .data;clear hi hlt;obtain rfl:=h.ev0 rfl;have cw:=(h.g.at 0 rfl).c;have H:=Lib.hid h;clear h;refine wpOp_shut rfl (fun K hK=>?_)
        try simp only [Act.put,sS]
        go_simp;refine hK.out _ _ ?_;unfold Jb.I;refine ⟨_,_,_,_,_,_,_,_,_,_,_,_,_,_,_,_,_,_,_,_,_,_,_,_,_,_,_,_,_,_,_,_,(.pointer (some ⟨w5.heap.size,1,none⟩)),(.int .i64 x1),v2,v3,v4,v5,v6,v7,v8,v9,v10,v11,v12,v13,v14,v15,v16,v17,v18,v19,v20,v21,v22,v23,v24,v25,v26,v27,v28,v29,v30,v31,rfl,?_,?_⟩
        ·kernel_rfl
        ·exact {H.out with ev1:=fun _=>rfl}
       |2,hi,_=>
        obtain rfl:l2=false:=rl rfl hi;clear hi hlt;have H:=Lib.hid h;clear h;refine wpOp_shut rfl (fun K hK=>?_)
        try simp only [Act.put,sS]
        go_simp;refine hK.out _ _ ?_;unfold Jb.I;refine ⟨_,_,_,_,_,_,_,_,_,_,_,_,_,_,_,_,_,_,_,_,_,_,_,_,_,_,_,_,_,_,_,_,v0,v1,(.pointer (some ⟨w5.heap.size,0,none⟩)),v3,v4,v5,v6,v7,v8,v9,v10,v11,v12,v13,v14,v15,v16,v17,v18,v19,v20,v21,v22,v23,v24,v25,v26,v27,v28,v29,v30,v31,rfl,?_,?_⟩
        ·kernel_rfl
        ·exact {H.out with ev2:=fun _=>rfl}
       |3,hi,_=>
        obtain rfl:l3=false:=rl rfl hi;obtain rfl:l2=true:=rk rfl hi 2 .data;clear hi hlt;obtain rfl:=h.ev2 rfl;have cw:=(h.g.at 0 rfl).c;have H:=Lib.hid h;clear h;refine wpOp_shut rfl (fun K hK=>?_)
        try simp only [Act.put,sS]
        go_simp;refine hK.out _ _ ?_;unfold Jb.I;refine ⟨_,_,_,_,_,_,_,_,_,_,_,_,_,_,_,_,_,_,_,_,_,_,_,_,_,_,_,_,_,_,_,_,v0,v1,(.pointer (some ⟨w5.heap.size,0,none⟩)),(.int .i64 x0),v4,v5,v6,v7,v8,v9,v10,v11,v12,v13,v14,v15,v16,v17,v18,v19,v20,v21,v22,v23,v24,v25,v26,v27,v28,v29,v30,v31,rfl,?_,?_⟩
        ·kernel_rfl
        ·exact {H.out with ev3:=fun _=>rfl}
       |4,hi,_=>
        obtain rfl:l4=false:=rl rfl hi;obtain rfl:l1=true:=rk rfl hi 1 .data;obtain rfl:l3=true:=rk rfl hi 3 .data;clear hi hlt;obtain rfl:=h.ev1 rfl;obtain rfl:=h.ev3 rfl;have H:=Lib.hid h;clear h;refine wpOp_shut rfl (fun K hK=>?_)
        try simp only [Act.put,sS]
        go_simp;refine hK.out _ _ ?_;unfold Jb.I;refine ⟨_,_,_,_,_,_,_,_,_,_,_,_,_,_,_,_,_,_,_,_,_,_,_,_,_,_,_,_,_,_,_,_,v0,(.int .i64 x1),v2,(.int .i64 x0),(.int .i64 (x1 - x0)),v5,v6,v7,v8,v9,v10,v11,v12,v13,v14,v15,v16,v17,v18,v19,v20,v21,v22,v23,v24,v25,v26,v27,v28,v29,v30,v31,rfl,?_,?_⟩
        ·kernel_rfl
        ·exact {H.out with ev4:=fun _=>rfl}
       |5,hi,_=>
        obtain rfl:l5=false:=rl rfl hi;clear hi hlt;have H:=Lib.hid h;clear h;refine wpOp_shut rfl (fun K hK=>?_)
        try simp only [Act.put,sS]
        go_simp;refine hK.out _ _ ?_;unfold Jb.I;refine ⟨_,_,_,_,_,_,_,_,_,_,_,_,_,_,_,_,_,_,_,_,_,_,_,_,_,_,_,_,_,_,_,_,v0,v1,v2,v3,v4,(.pointer (some ⟨b12,1,none⟩)),v6,v7,v8,v9,v10,v11,v12,v13,v14,v15,v16,v17,v18,v19,v20,v21,v22,v23,v24,v25,v26,v27,v28,v29,v30,v31,rfl,?_,?_⟩
        ·kernel_rfl
        ·exact {H.out with ev5:=fun _=>rfl}
       |6,hi,_=>
        obtain rfl:l6=false:=rl rfl hi;obtain rfl:l5=true:=rk rfl hi 5 .data;clear hi hlt;obtain rfl:=h.ev5 rfl;have cw:=(h.g.at 3 rfl).c;have H:=Lib.hid h;clear h;refine wpOp_shut rfl (fun K hK=>?_)
        try simp only [Act.put,sS]
        go_simp;refine hK.out _ _ ?_;unfold Jb.I;refine ⟨_,_,_,_,_,_,_,_,_,_,_,_,_,_,_,_,_,_,_,_,_,_,_,_,_,_,_,_,_,_,_,_,v0,v1,v2,v3,v4,(.pointer (some ⟨b12,1,none⟩)),(.int .i64 x1),v7,v8,v9,v10,v11,v12,v13,v14,v15,v16,v17,v18,v19,v20,v21,v22,v23,v24,v25,v26,v27,v28,v29,v30,v31,rfl,?_,?_⟩
        ·kernel_rfl
        ·exact {H.out with ev6:=fun _=>rfl}
       |7,hi,_=>
        obtain rfl:l7=false:=rl rfl hi;clear hi hlt;have H:=Lib.hid h;clear h;refine wpOp_shut rfl (fun K hK=>?_)
        try simp only [Act.put,sS]
        go_simp;refine hK.out _ _ ?_;unfold Jb.I;refine ⟨_,_,_,_,_,_,_,_,_,_,_,_,_,_,_,_,_,_,_,_,_,_,_,_,_,_,_,_,_,_,_,_,v0,v1,v2,v3,v4,v5,v6,(.pointer (some ⟨b12,0,none⟩)),v8,v9,v10,v11,v12,v13,v14,v15,v16,v17,v18,v19,v20,v21,v22,v23,v24,v25,v26,v27,v28,v29,v30,v31,rfl,?_,?_⟩
        ·kernel_rfl
        ·exact {H.out with ev7:=fun _=>rfl}
       |8,hi,_=>
        obtain rfl:l8=false:=rl rfl hi;obtain rfl:l7=true:=rk rfl hi 7 .data;clear hi hlt;obtain rfl:=h.ev7 rfl;have cw:=(h.g.at 3 rfl).c;have H:=Lib.hid h;clear h;refine wpOp_shut rfl (fun K hK=>?_)
        try simp only [Act.put,sS]
        go_simp;refine hK.out _ _ ?_;unfold Jb.I;refine ⟨_,_,_,_,_,_,_,_,_,_,_,_,_,_,_,_,_,_,_,_,_,_,_,_,_,_,_,_,_,_,_,_,v0,v1,v2,v3,v4,v5,v6,(.pointer (some ⟨b12,0,none⟩)),(.int .i64 x0),v9,v10,v11,v12,v13,v14,v15,v16,v17,v18,v19,v20,v21,v22,v23,v24,v25,v26,v27,v28,v29,v30,v31,rfl,?_,?_⟩
        ·kernel_rfl
        ·exact {H.out with ev8:=fun _=>rfl}
       |9,hi,_=>
        obtain rfl:l9=false:=rl rfl hi;obtain rfl:l6=true:=rk rfl hi 6 .data;obtain rfl:l8=true:=rk rfl hi 8 .data;clear hi hlt;obtain rfl:=h.ev6 rfl;obtain rfl:=h.ev8 rfl;have H:=Lib.hid h;clear h;refine wpOp_shut rfl (fun K hK=>?_)
        try simp only [Act.put,sS]
        go_simp;refine hK.out _ _ ?_;unfold Jb.I;refine ⟨_,_,_,_,_,_,_,_,_,_,_,_,_,_,_,_,_,_,_,_,_,_,_,_,_,_,_,_,_,_,_,_,v0,v1,v2,v3,v4,v5,(.int .i64 x1),v7,(.int .i64 x0),(.int .i64 (x1 - x0)),v10,v11,v12,v13,v14,v15,v16,v17,v18,v19,v20,v21,v22,v23,v24,v25,v26,v27,v28,v29,v30,v31,rfl,?_,?_⟩
        ·kernel_rfl
        ·exact {H.out with ev9:=fun _=>rfl}
       |10,hi,_=>
        obtain rfl:l10=false:=rl rfl hi;obtain rfl:l4=true:=rk rfl hi 4 .data;obtain rfl:l9=true:=rk rfl hi 9 .data;clear hi hlt;obtain rfl:=h.ev4 rfl;obtain rfl:=h.ev9 rfl;have H:=Lib.hid h;clear h;refine wpOp_shut rfl (fun K hK=>?_)
        try simp only [Act.put,sS]
        go_simp;refine hK.out _ _ ?_;unfold Jb.I;refine ⟨_,_,_,_,_,_,_,_,_,_,_,_,_,_,_,_,_,_,_,_,_,_,_,_,_,_,_,_,_,_,_,_,v0,v1,v2,v3,(.int .i64 (x1 - x0)),v5,v6,v7,v8,(.int .i64 (x1 - x0)),(.bool false),v11,v12,v13,v14,v15,v16,v17,v18,v19,v20,v21,v22,v23,v24,v25,v26,v27,v28,v29,v30,v31,rfl,?_,?_⟩
        ·kernel_rfl
        ·exact {H.out with ev10:=fun _=>rfl}
       |11,hi,_=>
        obtain rfl:l11=false:=rl rfl hi;obtain rfl:l10=true:=rk rfl hi 10 .data;clear hi hlt;obtain rfl:=h.ev10 rfl;have H:=Lib.hid h;clear h;refine wpOp_shut rfl (fun K hK=>?_)
        try simp only [Act.put,sS]
        go_simp;refine hK.out _ _ ?_;unfold Jb.I;refine ⟨_,_,_,_,_,_,_,_,_,_,_,_,_,_,_,_,_,_,_,_,_,_,_,_,_,_,_,_,_,_,_,_,v0,v1,v2,v3,v4,v5,v6,v7,v8,v9,(.bool false),(.bool false),v12,v13,v14,v15,v16,v17,v18,v19,v20,v21,v22,v23,v24,v25,v26,v27,v28,v29,v30,v31,rfl,?_,?_⟩
        ·kernel_rfl
        ·exact {H.out with ev11:=fun _=>rfl}
       |12,hi,_=>
        obtain rfl:l12=false:=rl rfl hi;obtain rfl:l11=true:=rk rfl hi 11 .guard;clear hi hlt;obtain rfl:=h.ev11 rfl;have H:=Lib.hid h;clear h;generalize hact:Act.put _ _ _=act;refine wpOp_want rfl (by subst hact;exact wanted_of (j:=11) (d:=72) (b:=false) rfl rfl rfl (by kernel_rfl)) (fun K hK=>?_);subst hact
        try simp only [Act.put,sS]
        go_simp;refine hK.out _ _ ?_;unfold Jb.I;refine ⟨_,_,_,_,_,_,_,_,_,_,_,_,_,_,_,_,_,_,_,_,_,_,_,_,_,_,_,_,_,_,_,_,v0,v1,v2,v3,v4,v5,v6,v7,v8,v9,v10,(.bool false),(.int .i64 k),v13,v14,v15,v16,v17,v18,v19,v20,v21,v22,v23,v24,v25,v26,v27,v28,v29,v30,v31,rfl,?_,?_⟩
        ·kernel_rfl
        ·exact {H.out with ev12:=fun _=>rfl}
       |13,hi,_=>
        obtain rfl:l13=false:=rl rfl hi;obtain rfl:l11=true:=rk rfl hi 11 .guard;clear hi hlt;obtain rfl:=h.ev11 rfl;have H:=Lib.hid h;clear h;generalize hact:Act.put _ _ _=act;refine wpOp_want rfl (by subst hact;exact wanted_of (j:=11) (d:=72) (b:=false) rfl rfl rfl (by kernel_rfl)) (fun K hK=>?_);subst hact
        try simp only [Act.put,sS]
        go_simp;refine hK.out _ _ ?_;unfold Jb.I;refine ⟨_,_,_,_,_,_,_,_,_,_,_,_,_,_,_,_,_,_,_,_,_,_,_,_,_,_,_,_,_,_,_,_,v0,v1,v2,v3,v4,v5,v6,v7,v8,v9,v10,(.bool false),v12,(.int .i64 k),v14,v15,v16,v17,v18,v19,v20,v21,v22,v23,v24,v25,v26,v27,v28,v29,v30,v31,rfl,?_,?_⟩
        ·kernel_rfl
        ·exact {H.out with ev13:=fun _=>rfl}
       |14,hi,_=>
        obtain rfl:l14=false:=rl rfl hi;obtain rfl:l12=true:=rk rfl hi 12 .data;obtain rfl:l13=true:=rk rfl hi 13 .data;obtain rfl:l11=true:=rk rfl hi 11 .guard;clear hi hlt;obtain rfl:=h.ev12 rfl;obtain rfl:=h.ev13 rfl;obtain rfl:=h.ev11 rfl;have H:=Lib.hid h;clear h;generalize hact:Act.put _ _ _=act;refine wpOp_want rfl (by subst hact;exact wanted_of (j:=11) (d:=72) (b:=false) rfl rfl rfl (by kernel_rfl)) (fun K hK=>?_);subst hact
        try simp only [Act.put,sS]
        go_simp;refine hK.out _ _ ?_;unfold Jb.I;refine ⟨_,_,_,_,_,_,_,_,_,_,_,_,_,_,_,_,_,_,_,_,_,_,_,_,_,_,_,_,_,_,_,_,v0,v1,v2,v3,v4,v5,v6,v7,v8,v9,v10,(.bool false),(.int .i64 k),(.int .i64 k),(.bool false),v15,v16,v17,v18,v19,v20,v21,v22,v23,v24,v25,v26,v27,v28,v29,v30,v31,rfl,?_,?_⟩
        ·kernel_rfl
        ·exact {H.out with ev14:=fun _=>rfl}
       |15,hi,_=>
        obtain rfl:l15=false:=rl rfl hi;obtain rfl:l14=true:=rk rfl hi 14 .data;obtain rfl:l11=true:=rk rfl hi 11 .guard;clear hi hlt;obtain rfl:=h.ev14 rfl;obtain rfl:=h.ev11 rfl;have H:=Lib.hid h;clear h;generalize hact:Act.put _ _ _=act;refine wpOp_want rfl (by subst hact;exact wanted_of (j:=11) (d:=72) (b:=false) rfl rfl rfl (by kernel_rfl)) (fun K hK=>?_);subst hact
        try simp only [Act.put,sS]
        go_simp;refine hK.out _ _ ?_;unfold Jb.I;refine ⟨_,_,_,_,_,_,_,_,_,_,_,_,_,_,_,_,_,_,_,_,_,_,_,_,_,_,_,_,_,_,_,_,v0,v1,v2,v3,v4,v5,v6,v7,v8,v9,v10,(.bool false),v12,v13,(.bool false),(.bool false),v16,v17,v18,v19,v20,v21,v22,v23,v24,v25,v26,v27,v28,v29,v30,v31,rfl,?_,?_⟩
        ·kernel_rfl
        ·exact {H.out with ev15:=fun _=>rfl}
       |16,hi,_=>
        obtain rfl:l16=false:=rl rfl hi;obtain rfl:l15=true:=rk rfl hi 15 .guard;clear hi hlt;obtain rfl:=h.ev15 rfl;have H:=Lib.hid h;clear h;generalize hact:Act.put _ _ _=act;refine wpOp_skip (d:=some 77) rfl rfl (by subst hact;exact wanted_not (j:=15) (d:=76) (b:=true) (b':=false) rfl rfl rfl (by kernel_rfl) (by decide)) ?_;subst hact
        try simp only [Act.put,sS]
        unfold Jb.I;refine ⟨_,_,_,_,_,_,_,_,_,_,_,_,_,_,_,_,_,_,_,_,_,_,_,_,_,_,_,_,_,_,_,_,v0,v1,v2,v3,v4,v5,v6,v7,v8,v9,v10,v11,v12,v13,v14,(.bool false),(undef),v17,v18,v19,v20,v21,v22,v23,v24,v25,v26,v27,v28,v29,v30,v31,rfl,?_,?_⟩
        ·kernel_rfl
        ·exact {H.out with ev16:=fun _=>rfl}
       |17,hi,_=>
        obtain rfl:l17=false:=rl rfl hi;obtain rfl:l16=true:=rk rfl hi 16 .data;obtain rfl:l15=true:=rk rfl hi 15 .guard;clear hi hlt;obtain rfl:=h.ev16 rfl;obtain rfl:=h.ev15 rfl;have H:=Lib.hid h;clear h;generalize hact:Act.put _ _ _=act;refine wpOp_skip (d:=some 78) rfl rfl (by subst hact;exact wanted_not (j:=15) (d:=76) (b:=true) (b':=false) rfl rfl rfl (by kernel_rfl) (by decide)) ?_;subst hact
        try simp only [Act.put,sS]
        unfold Jb.I;refine ⟨_,_,_,_,_,_,_,_,_,_,_,_,_,_,_,_,_,_,_,_,_,_,_,_,_,_,_,_,_,_,_,_,v0,v1,v2,v3,v4,v5,v6,v7,v8,v9,v10,v11,v12,v13,v14,(.bool false),(undef),(undef),v18,v19,v20,v21,v22,v23,v24,v25,v26,v27,v28,v29,v30,v31,rfl,?_,?_⟩
        ·kernel_rfl
        ·exact {H.out with ev17:=fun _=>rfl}
       |18,hi,_=>
        obtain rfl:l18=false:=rl rfl hi;obtain rfl:l15=true:=rk rfl hi 15 .guard;clear hi hlt;obtain rfl:=h.ev15 rfl;have H:=Lib.hid h;clear h;generalize hact:Act.put _ _ _=act;refine wpOp_skip (d:=some 79) rfl rfl (by subst hact;exact wanted_not (j:=15) (d:=76) (b:=true) (b':=false) rfl rfl rfl (by kernel_rfl) (by decide)) ?_;subst hact
        try simp only [Act.put,sS]
        unfold Jb.I;refine ⟨_,_,_,_,_,_,_,_,_,_,_,_,_,_,_,_,_,_,_,_,_,_,_,_,_,_,_,_,_,_,_,_,v0,v1,v2,v3,v4,v5,v6,v7,v8,v9,v10,v11,v12,v13,v14,(.bool false),v16,v17,(undef),v19,v20,v21,v22,v23,v24,v25,v26,v27,v28,v29,v30,v31,rfl,?_,?_⟩
        ·kernel_rfl
        ·exact {H.out with ev18:=fun _=>rfl}
       |19,hi,_=>
        obtain rfl:l19=false:=rl rfl hi;obtain rfl:l17=true:=rk rfl hi 17 .chain;obtain rfl:l18=true:=rk rfl hi 18 .data;obtain rfl:l15=true:=rk rfl hi 15 .guard;clear hi hlt;obtain rfl:=h.ev17 rfl;obtain rfl:=h.ev18 rfl;obtain rfl:=h.ev15 rfl;have H:=Lib.hid h;clear h;generalize hact:Act.put _ _ _=act;refine wpOp_skip (d:=some 80) rfl rfl (by subst hact;exact wanted_not (j:=15) (d:=76) (b:=true) (b':=false) rfl rfl rfl (by kernel_rfl) (by decide)) ?_;subst hact
        try simp only [Act.put,sS]
        unfold Jb.I;refine ⟨_,_,_,_,_,_,_,_,_,_,_,_,_,_,_,_,_,_,_,_,_,_,_,_,_,_,_,_,_,_,_,_,v0,v1,v2,v3,v4,v5,v6,v7,v8,v9,v10,v11,v12,v13,v14,(.bool false),v16,(undef),(undef),(undef),v20,v21,v22,v23,v24,v25,v26,v27,v28,v29,v30,v31,rfl,?_,?_⟩
        ·kernel_rfl
        ·exact {H.out with ev19:=fun _=>rfl}
       |20,hi,_=>
        obtain rfl:l20=false:=rl rfl hi;obtain rfl:l15=true:=rk rfl hi 15 .guard;clear hi hlt;obtain rfl:=h.ev15 rfl;have H:=Lib.hid h;clear h;generalize hact:Act.put _ _ _=act;refine wpOp_skip (d:=some 81) rfl rfl (by subst hact;exact wanted_not (j:=15) (d:=76) (b:=true) (b':=false) rfl rfl rfl (by kernel_rfl) (by decide)) ?_;subst hact
        try simp only [Act.put,sS]
        unfold Jb.I;refine ⟨_,_,_,_,_,_,_,_,_,_,_,_,_,_,_,_,_,_,_,_,_,_,_,_,_,_,_,_,_,_,_,_,v0,v1,v2,v3,v4,v5,v6,v7,v8,v9,v10,v11,v12,v13,v14,(.bool false),v16,v17,v18,v19,(undef),v21,v22,v23,v24,v25,v26,v27,v28,v29,v30,v31,rfl,?_,?_⟩
        ·kernel_rfl
        ·exact {H.out with ev20:=fun _=>rfl}
       |21,hi,_=>
        obtain rfl:l21=false:=rl rfl hi;obtain rfl:l19=true:=rk rfl hi 19 .data;obtain rfl:l20=true:=rk rfl hi 20 .data;obtain rfl:l15=true:=rk rfl hi 15 .guard;clear hi hlt;obtain rfl:=h.ev19 rfl;obtain rfl:=h.ev20 rfl;obtain rfl:=h.ev15 rfl;have H:=Lib.hid h;clear h;generalize hact:Act.put _ _ _=act;refine wpOp_skip (d:=some 82) rfl rfl (by subst hact;exact wanted_not (j:=15) (d:=76) (b:=true) (b':=false) rfl rfl rfl (by kernel_rfl) (by decide)) ?_;subst hact
        try simp only [Act.put,sS]
        unfold Jb.I;refine ⟨_,_,_,_,_,_,_,_,_,_,_,_,_,_,_,_,_,_,_,_,_,_,_,_,_,_,_,_,_,_,_,_,v0,v1,v2,v3,v4,v5,v6,v7,v8,v9,v10,v11,v12,v13,v14,(.bool false),v16,v17,v18,(undef),(undef),(undef),v22,v23,v24,v25,v26,v27,v28,v29,v30,v31,rfl,?_,?_⟩
        ·kernel_rfl
        ·exact {H.out with ev21:=fun _=>rfl}
       |22,hi,_=>
        obtain rfl:l22=false:=rl rfl hi;obtain rfl:l21=true:=rk rfl hi 21 .data;obtain rfl:l19=true:=rk rfl hi 19 .chain;obtain rfl:l15=true:=rk rfl hi 15 .guard;clear hi hlt;obtain rfl:=h.ev21 rfl;obtain rfl:=h.ev19 rfl;obtain rfl:=h.ev15 rfl;have H:=Lib.hid h;clear h;generalize hact:Act.put _ _ _=act;refine wpOp_skip (d:=some 83) rfl rfl (by subst hact;exact wanted_not (j:=15) (d:=76) (b:=true) (b':=false) rfl rfl rfl (by kernel_rfl) (by decide)) ?_;subst hact
        try simp only [Act.put,sS]
        unfold Jb.I;refine ⟨_,_,_,_,_,_,_,_,_,_,_,_,_,_,_,_,_,_,_,_,_,_,_,_,_,_,_,_,_,_,_,_,v0,v1,v2,v3,v4,v5,v6,v7,v8,v9,v10,v11,v12,v13,v14,(.bool false),v16,v17,v18,(undef),v20,(undef),(undef),v23,v24,v25,v26,v27,v28,v29,v30,v31,rfl,?_,?_⟩
        ·kernel_rfl
        ·exact {H.out with ev22:=fun _=>rfl}
       |23,hi,_=>
        obtain rfl:l23=false:=rl rfl hi;obtain rfl:l22=true:=rk rfl hi 22 .guard;clear hi hlt;obtain rfl:=h.ev22 rfl;have H:=Lib.hid h;clear h;generalize hact:Act.put _ _ _=act;refine wpOp_skip (d:=some 84) rfl rfl (by subst hact;exact wanted_und (j:=22) (d:=83) (b:=false) rfl rfl rfl (by kernel_rfl)) ?_;subst hact
        try simp only [Act.put,sS]
        unfold Jb.I;refine ⟨_,_,_,_,_,_,_,_,_,_,_,_,_,_,_,_,_,_,_,_,_,_,_,_,_,_,_,_,_,_,_,_,v0,v1,v2,v3,v4,v5,v6,v7,v8,v9,v10,v11,v12,v13,v14,v15,v16,v17,v18,v19,v20,v21,(undef),(undef),v24,v25,v26,v27,v28,v29,v30,v31,rfl,?_,?_⟩
        ·kernel_rfl
        ·exact {H.out with ev23:=fun _=>rfl}
       |24,hi,_=>
        obtain rfl:l24=false:=rl rfl hi;obtain rfl:l23=true:=rk rfl hi 23 .data;obtain rfl:l22=true:=rk rfl hi 22 .guard;clear hi hlt;obtain rfl:=h.ev23 rfl;obtain rfl:=h.ev22 rfl;have H:=Lib.hid h;clear h;generalize hact:Act.put _ _ _=act;refine wpOp_skip (d:=some 85) rfl rfl (by subst hact;exact wanted_und (j:=22) (d:=83) (b:=false) rfl rfl rfl (by kernel_rfl)) ?_;subst hact
        try simp only [Act.put,sS]
        unfold Jb.I;refine ⟨_,_,_,_,_,_,_,_,_,_,_,_,_,_,_,_,_,_,_,_,_,_,_,_,_,_,_,_,_,_,_,_,v0,v1,v2,v3,v4,v5,v6,v7,v8,v9,v10,v11,v12,v13,v14,v15,v16,v17,v18,v19,v20,v21,(undef),(undef),(undef),v25,v26,v27,v28,v29,v30,v31,rfl,?_,?_⟩
        ·kernel_rfl
        ·exact {H.out with ev24:=fun _=>rfl}
       |25,hi,_=>
        obtain rfl:l25=false:=rl rfl hi;obtain rfl:l22=true:=rk rfl hi 22 .guard;clear hi hlt;obtain rfl:=h.ev22 rfl;have H:=Lib.hid h;clear h;generalize hact:Act.put _ _ _=act;refine wpOp_skip (d:=some 86) rfl rfl (by subst hact;exact wanted_und (j:=22) (d:=83) (b:=false) rfl rfl rfl (by kernel_rfl)) ?_;subst hact
        try simp only [Act.put,sS]
        unfold Jb.I;refine ⟨_,_,_,_,_,_,_,_,_,_,_,_,_,_,_,_,_,_,_,_,_,_,_,_,_,_,_,_,_,_,_,_,v0,v1,v2,v3,v4,v5,v6,v7,v8,v9,v10,v11,v12,v13,v14,v15,v16,v17,v18,v19,v20,v21,(undef),v23,v24,(undef),v26,v27,v28,v29,v30,v31,rfl,?_,?_⟩
        ·kernel_rfl
        ·exact {H.out with ev25:=fun _=>rfl}
       |26,hi,_=>
        obtain rfl:l26=false:=rl rfl hi;obtain rfl:l24=true:=rk rfl hi 24 .chain;obtain rfl:l25=true:=rk rfl hi 25 .data;obtain rfl:l22=true:=rk rfl hi 22 .guard;clear hi hlt;obtain rfl:=h.ev24 rfl;obtain rfl:=h.ev25 rfl;obtain rfl:=h.ev22 rfl;have H:=Lib.hid h;clear h;generalize hact:Act.put _ _ _=act;refine wpOp_skip (d:=some 87) rfl rfl (by subst hact;exact wanted_und (j:=22) (d:=83) (b:=false) rfl rfl rfl (by kernel_rfl)) ?_;subst hact
        try simp only [Act.put,sS]
        unfold Jb.I;refine ⟨_,_,_,_,_,_,_,_,_,_,_,_,_,_,_,_,_,_,_,_,_,_,_,_,_,_,_,_,_,_,_,_,v0,v1,v2,v3,v4,v5,v6,v7,v8,v9,v10,v11,v12,v13,v14,v15,v16,v17,v18,v19,v20,v21,(undef),v23,(undef),(undef),(undef),v27,v28,v29,v30,v31,rfl,?_,?_⟩
        ·kernel_rfl
        ·exact {H.out with ev26:=fun _=>rfl}
       |27,hi,_=>
        obtain rfl:l27=false:=rl rfl hi;obtain rfl:l22=true:=rk rfl hi 22 .guard;clear hi hlt;obtain rfl:=h.ev22 rfl;have H:=Lib.hid h;clear h;generalize hact:Act.put _ _ _=act;refine wpOp_skip (d:=some 88) rfl rfl (by subst hact;exact wanted_und (j:=22) (d:=83) (b:=false) rfl rfl rfl (by kernel_rfl)) ?_;subst hact
        try simp only [Act.put,sS]
        unfold Jb.I;refine ⟨_,_,_,_,_,_,_,_,_,_,_,_,_,_,_,_,_,_,_,_,_,_,_,_,_,_,_,_,_,_,_,_,v0,v1,v2,v3,v4,v5,v6,v7,v8,v9,v10,v11,v12,v13,v14,v15,v16,v17,v18,v19,v20,v21,(undef),v23,v24,v25,v26,(undef),v28,v29,v30,v31,rfl,?_,?_⟩
        ·kernel_rfl
        ·exact {H.out with ev27:=fun _=>rfl}
       |28,hi,_=>
        obtain rfl:l28=false:=rl rfl hi;obtain rfl:l26=true:=rk rfl hi 26 .data;obtain rfl:l27=true:=rk rfl hi 27 .data;obtain rfl:l22=true:=rk rfl hi 22 .guard;clear hi hlt;obtain rfl:=h.ev26 rfl;obtain rfl:=h.ev27 rfl;obtain rfl:=h.ev22 rfl;have H:=Lib.hid h;clear h;generalize hact:Act.put _ _ _=act;refine wpOp_skip (d:=some 89) rfl rfl (by subst hact;exact wanted_und (j:=22) (d:=83) (b:=false) rfl rfl rfl (by kernel_rfl)) ?_;subst hact
        try simp only [Act.put,sS]
        unfold Jb.I;refine ⟨_,_,_,_,_,_,_,_,_,_,_,_,_,_,_,_,_,_,_,_,_,_,_,_,_,_,_,_,_,_,_,_,v0,v1,v2,v3,v4,v5,v6,v7,v8,v9,v10,v11,v12,v13,v14,v15,v16,v17,v18,v19,v20,v21,(undef),v23,v24,v25,(undef),(undef),(undef),v29,v30,v31,rfl,?_,?_⟩
        ·kernel_rfl
        ·exact {H.out with ev28:=fun _=>rfl}
       |29,hi,_=>
        obtain rfl:l29=false:=rl rfl hi;obtain rfl:l22=true:=rk rfl hi 22 .data;obtain rfl:l28=true:=rk rfl hi 28 .data;obtain rfl:l15=true:=rk rfl hi 15 .guard;clear hi hlt;obtain rfl:=h.ev22 rfl;obtain rfl:=h.ev28 rfl;obtain rfl:=h.ev15 rfl;have H:=Lib.hid h;clear h;generalize hact:Act.put _ _ _=act;refine wpOp_skip (d:=some 90) rfl rfl (by subst hact;exact wanted_not (j:=15) (d:=76) (b:=true) (b':=false) rfl rfl rfl (by kernel_rfl) (by decide)) ?_;subst hact
        try simp only [Act.put,sS]
        unfold Jb.I;refine ⟨_,_,_,_,_,_,_,_,_,_,_,_,_,_,_,_,_,_,_,_,_,_,_,_,_,_,_,_,_,_,_,_,v0,v1,v2,v3,v4,v5,v6,v7,v8,v9,v10,v11,v12,v13,v14,(.bool false),v16,v17,v18,v19,v20,v21,(undef),v23,v24,v25,v26,v27,(undef),(undef),v30,v31,rfl,?_,?_⟩
        ·kernel_rfl
        ·exact {H.out with ev29:=fun _=>rfl}
       |30,hi,_=>
        obtain rfl:l30=false:=rl rfl hi;obtain rfl:l15=true:=rk rfl hi 15 .data;obtain rfl:l29=true:=rk rfl hi 29 .data;obtain rfl:l11=true:=rk rfl hi 11 .guard;clear hi hlt;obtain rfl:=h.ev15 rfl;obtain rfl:=h.ev29 rfl;obtain rfl:=h.ev11 rfl;have H:=Lib.hid h;clear h;generalize hact:Act.put _ _ _=act;refine wpOp_want rfl (by subst hact;exact wanted_of (j:=11) (d:=72) (b:=false) rfl rfl rfl (by kernel_rfl)) (fun K hK=>?_);subst hact
        try simp only [Act.put,sS]
        go_simp;refine hK.out _ _ ?_;unfold Jb.I;refine ⟨_,_,_,_,_,_,_,_,_,_,_,_,_,_,_,_,_,_,_,_,_,_,_,_,_,_,_,_,_,_,_,_,v0,v1,v2,v3,v4,v5,v6,v7,v8,v9,v10,(.bool false),v12,v13,v14,(.bool false),v16,v17,v18,v19,v20,v21,v22,v23,v24,v25,v26,v27,v28,(undef),(.bool false),v31,rfl,?_,?_⟩
        ·kernel_rfl
        ·exact {H.out with ev30:=fun _=>rfl}
       |31,hi,_=>
        obtain rfl:l31=false:=rl rfl hi;obtain rfl:l11=true:=rk rfl hi 11 .data;obtain rfl:l30=true:=rk rfl hi 30 .data;clear hi hlt;obtain rfl:=h.ev11 rfl;obtain rfl:=h.ev30 rfl;have H:=Lib.hid h;clear h;refine wpOp_shut rfl (fun K hK=>?_)
        try simp only [Act.put,sS]
        go_simp;refine hK.out _ _ ?_;unfold Jb.I;refine ⟨_,_,_,_,_,_,_,_,_,_,_,_,_,_,_,_,_,_,_,_,_,_,_,_,_,_,_,_,_,_,_,_,v0,v1,v2,v3,v4,v5,v6,v7,v8,v9,v10,(.bool false),v12,v13,v14,v15,v16,v17,v18,v19,v20,v21,v22,v23,v24,v25,v26,v27,v28,v29,(.bool false),(.bool false),rfl,?_,?_⟩
        ·kernel_rfl
        ·exact {H.out with ev31:=fun _=>rfl}
       |i+32,_,hlt=>exact absurd hlt (by simp)
      ·intro w' l0 l1 l2 l3 l4 l5 l6 l7 l8 l9 l10 l11 l12 l13 l14 l15 l16 l17 l18 l19 l20 l21 l22 l23 l24 l25 l26 l27 l28 l29 l30 l31 v0 v1 v2 v3 v4 v5 v6 v7 v8 v9 v10 v11 v12 v13 v14 v15 v16 v17 v18 v19 v20 v21 v22 v23 v24 v25 v26 v27 v28 v29 v30 v31 h hn;obtain rfl:l0=true:=nr 0 rfl hn;obtain rfl:l1=true:=nr 1 rfl hn;obtain rfl:l2=true:=nr 2 rfl hn;obtain rfl:l3=true:=nr 3 rfl hn;obtain rfl:l4=true:=nr 4 rfl hn;obtain rfl:l5=true:=nr 5 rfl hn;obtain rfl:l6=true:=nr 6 rfl hn;obtain rfl:l7=true:=nr 7 rfl hn;obtain rfl:l8=true:=nr 8 rfl hn;obtain rfl:l9=true:=nr 9 rfl hn;obtain rfl:l10=true:=nr 10 rfl hn;obtain rfl:l11=true:=nr 11 rfl hn;obtain rfl:l12=true:=nr 12 rfl hn;obtain rfl:l13=true:=nr 13 rfl hn;obtain rfl:l14=true:=nr 14 rfl hn;obtain rfl:l15=true:=nr 15 rfl hn;obtain rfl:l16=true:=nr 16 rfl hn;obtain rfl:l17=true:=nr 17 rfl hn;obtain rfl:l18=true:=nr 18 rfl hn;obtain rfl:l19=true:=nr 19 rfl hn;obtain rfl:l20=true:=nr 20 rfl hn;obtain rfl:l21=true:=nr 21 rfl hn;obtain rfl:l22=true:=nr 22 rfl hn;obtain rfl:l23=true:=nr 23 rfl hn;obtain rfl:l24=true:=nr 24 rfl hn;obtain rfl:l25=true:=nr 25 rfl hn;obtain rfl:l26=true:=nr 26 rfl hn;obtain rfl:l27=true:=nr 27 rfl hn;obtain rfl:l28=true:=nr 28 rfl hn;obtain rfl:l29=true:=nr 29 rfl hn;obtain rfl:l30=true:=nr 30 rfl hn;obtain rfl:l31=true:=nr 31 rfl hn;clear hn;obtain rfl:=h.ev0 rfl;obtain rfl:=h.ev1 rfl;obtain rfl:=h.ev2 rfl;obtain rfl:=h.ev3 rfl;obtain rfl:=h.ev4 rfl;obtain rfl:=h.ev5 rfl;obtain rfl:=h.ev6 rfl;obtain rfl:=h.ev7 rfl;obtain rfl:=h.ev8 rfl;obtain rfl:=h.ev9 rfl;obtain rfl:=h.ev10 rfl;obtain rfl:=h.ev11 rfl;obtain rfl:=h.ev12 rfl;obtain rfl:=h.ev13 rfl;obtain rfl:=h.ev14 rfl;obtain rfl:=h.ev15 rfl;obtain rfl:=h.ev16 rfl;obtain rfl:=h.ev17 rfl;obtain rfl:=h.ev18 rfl;obtain rfl:=h.ev19 rfl;obtain rfl:=h.ev20 rfl;obtain rfl:=h.ev21 rfl;obtain rfl:=h.ev22 rfl;obtain rfl:=h.ev23 rfl;obtain rfl:=h.ev24 rfl;obtain rfl:=h.ev25 rfl;obtain rfl:=h.ev26 rfl;obtain rfl:=h.ev27 rfl;obtain rfl:=h.ev28 rfl;obtain rfl:=h.ev29 rfl;obtain rfl:=h.ev30 rfl;obtain rfl:=h.ev31 rfl;simp only [Act.put,sS]
       rename World=>w7
       have H7:=h.g;clear h
       go_wp2_with fail
       go_roundw
       case rel=>exact ⟨j+1,by omega,by rw [←HJ.out];simp,⟨H7.below,by omega,by have:=H7.size;omega,fun p hp=>⟨(H6.rd p hp).1,(H7.rd p (List.mem_cons_of_mem _ hp)).2⟩⟩⟩
       case measure=>rw [←HJ.out];simp only [intOf];omega
     ·have HB1:=Lib.hid (beq_eq_false_iff_ne.2 hik:(ix == k)=false);have HB2:=Lib.hid (bne_iff_ne.2 hik:(ix != k)=true);have HB3:=Lib.hid (decide_eq_false hik:decide (ix=k)=false);have HLE:=Lib.hid (decide_eq_false (by omega):decide (x1 - x0<w1' - w0')=false);have GAI:=Lib.hid ((OA.out ix HII.out hik).trans GI.out);have GBI:=Lib.hid ((OB.out ix HII.out hik).trans GI.out);have hb1:=HB1.out;have hb2:=HB2.out;have hb3:=HB3.out;have hle':=HLE.out;have HX:=HG.drew
      go_region_held3 (fun X=>(∀j,X.cell? ⟨w5.heap.size,j,none⟩ = [.int .i64 w0',.int .i64 w1'][j]?)∧(∀j,X.cell? ⟨b12,j,none⟩ = [.int .i64 x0,.int .i64 x1][j]?)∧(∀j,X.cell? ⟨w2.heap.size,j,none⟩ = [.int .i64 c.f,.int .i64 a1,.int .i64 a2,.int .i64 a3,.int .i64 a4,.int .i64 a5,.int .i64 a6,.int .i64 a7,.int .i64 a8][j]?)∧(∀j,X.cell? ⟨w2.heap.size+1,j,none⟩ = [.int .i64 c.f,.int .i64 b1,.int .i64 b2,.int .i64 b3,.int .i64 b4,.int .i64 b5,.int .i64 b6,.int .i64 b7,.int .i64 b8][j]?)) (with_reducible first|exact ⟨(HX.at 0 rfl).c,(HX.at 3 rfl).c,(HX.at 5 rfl).c,(HX.at 4 rfl).c⟩|exact ⟨(HA.at 0 rfl).c,(HA.at 3 rfl).c,(HA.at 5 rfl).c,(HA.at 4 rfl).c⟩|exact ⟨(HB.at 0 rfl).c,(HB.at 3 rfl).c,(HB.at 5 rfl).c,(HB.at 4 rfl).c⟩|exact ⟨(HC.at 0 rfl).c,(HC.at 3 rfl).c,(HC.at 5 rfl).c,(HC.at 4 rfl).c⟩|exact ⟨(HD.at 0 rfl).c,(HD.at 3 rfl).c,(HD.at 5 rfl).c,(HD.at 4 rfl).c⟩)
       (first
        |(have hm:=hmarkC;go_at_call 24;refine (part33_any ⟨c.f,b1,b2,b3,b4,b5,b6,b7,b8⟩ ix HII.out _).mono ?_;rintro e wD ⟨rfl,hb⟩;rw [GBI.out];dsimp only;have HD:=HC.call hb)
        |(have hm:=hmarkB;go_at_call 25;refine (theirs33_any ⟨c.f,b1,b2,b3,b4,b5,b6,b7,b8⟩ _).mono ?_;rintro e wC ⟨rfl,hb⟩;unfold cellv;have HC:=HB.call hb;have hmarkC:wC=wC:=rfl)
        |(have hm:=hmarkA;go_at_call 24;refine (part33_any ⟨c.f,a1,a2,a3,a4,a5,a6,a7,a8⟩ ix HII.out _).mono ?_;rintro e wB ⟨rfl,hb⟩;rw [GAI.out];dsimp only;have HB:=HA.call hb;have hmarkB:wB=wB:=rfl)
        |(go_at_call 25;refine (theirs33_any ⟨c.f,a1,a2,a3,a4,a5,a6,a7,a8⟩ _).mono ?_;rintro e wA ⟨rfl,hb⟩;unfold cellv;have HA:=HX.call hb;have hmarkA:wA=wA:=rfl))
      have H7:=HD
      go_wp2_with fail
      go_roundw
      case rel=>exact ⟨j+1,by omega,by rw [←HJ.out];simp,⟨H7.below,by omega,by have:=H7.size;omega,fun p hp=>⟨(H6.rd p hp).1,(H7.rd p (List.mem_cons_of_mem _ hp)).2⟩⟩⟩
      case measure=>rw [←HJ.out];simp only [intOf];omega
    ·obtain rfl:j=4:=by omega
     have y0:=(HR.at 0 rfl).c;have y1:=(HR.at 1 rfl).c;have y2:=(HR.at 2 rfl).c;have y3:=(HR.at 3 rfl).c;have y4:=(HR.at 4 rfl).c
     go_wp2_with fail
     refine (cinside_any ⟨c.f,a1,a2,a3,a4,a5,a6,a7,a8⟩ c _).mono ?_;rintro r w7 ⟨rfl,hb⟩;rw [HIN.out.1];have H7:=HR.call hb;clear hb x0' y0 y1 y2 y3 y4;have x0':=(H7.at 5 rfl).c;have y3:=(H7.at 3 rfl).c;have y4:=(H7.at 4 rfl).c
     go_wp2_with fail
     refine (cinside_any ⟨c.f,b1,b2,b3,b4,b5,b6,b7,b8⟩ c _).mono ?_;rintro r w8 ⟨rfl,hb⟩;rw [HIN.out.2];have H8:=H7.call hb;clear hb x0' y3 y4;have x0':=(H8.at 5 rfl).c;have y3:=(H8.at 3 rfl).c;have y4:=(H8.at 4 rfl).c
     go_wp2_with fail
     go_ret
     exact ⟨rfl,H8.below⟩
 ·have XH:=Lib.hid (show halvesR c=⟨zC,zC,ke⟩ from by rw [halvesR,hx];exact if_neg he);have XA:=Lib.hid hx;have ne:=(by simpa using he:(ke != 0)=true);clear hx;have H0:=((Ho.nil w).bx [.int .i64 c.f,.int .i64 c.a,.int .i64 c.b,.int .i64 c.c,.int .i64 c.d,.int .i64 c.p,.int .i64 c.q,.int .i64 c.r,.int .i64 c.s] 29 (w.heap.size) (by simp));go_enter Try.func5,Try.ntmps5
  go_wp2_with fail
  refine (awake33_any _).mono ?_;rintro r w1 ⟨rfl,hb⟩;have H1:Ho w w1 (w.heap.size+1) [(w.heap.size,[.int .i64 c.f,.int .i64 c.a,.int .i64 c.b,.int .i64 c.c,.int .i64 c.d,.int .i64 c.p,.int .i64 c.q,.int .i64 c.r,.int .i64 c.s])]:=Ho.call hoA hb;have hs1:=H1.size;have hz1:=hb.size
  (try simp at hz1)
  clear hb;have h0_1:=(H1.at 0 rfl).c;have zx1:=zq (w.heap.size) (w1.heap.size)
  go_wp2_with fail
  refine (halves_any c _).mono ?_;rintro r w2 ⟨rfl,hb⟩;rw [XH.out];unfold cellv zC;dsimp only;have H2:Ho w w2 (w.heap.size+1) [(w.heap.size,[.int .i64 c.f,.int .i64 c.a,.int .i64 c.b,.int .i64 c.c,.int .i64 c.d,.int .i64 c.p,.int .i64 c.q,.int .i64 c.r,.int .i64 c.s])]:=Ho.call hoA hb;clear h0_1 zx1;have hs2:=H2.size;have hz2:=hb.size
  (try simp at hz2)
  clear hb;have h0_2:=(H2.at 0 rfl).c;have zx2:=zq (w.heap.size) (w2.heap.size)
  go_wp2_with fail
  refine (axis_any c _).mono ?_;rintro r w3 ⟨rfl,hb⟩;rw [XA.out];dsimp only;have H3:Ho w w3 (w.heap.size+1) [(w.heap.size,[.int .i64 c.f,.int .i64 c.a,.int .i64 c.b,.int .i64 c.c,.int .i64 c.d,.int .i64 c.p,.int .i64 c.q,.int .i64 c.r,.int .i64 c.s])]:=Ho.call hoA hb;have a_3:Bx w3 (w2.heap.size) [.int .i64 0,.int .i64 0,.int .i64 0,.int .i64 0,.int .i64 0,.int .i64 0,.int .i64 0,.int .i64 0,.int .i64 0]:=Bx.kept bxA hb;have b_3:Bx w3 (w2.heap.size+1) [.int .i64 0,.int .i64 0,.int .i64 0,.int .i64 0,.int .i64 0,.int .i64 0,.int .i64 0,.int .i64 0,.int .i64 0]:=Bx.kept bxA hb;clear h0_2 zx2;have hs3:=H3.size;have hz3:=hb.size
  (try simp at hz3)
  clear hb;have h0_3:=(H3.at 0 rfl).c;have a_3c:=a_3.c;have a_3f:=a_3.f;have a_3l:=a_3.lt;have b_3c:=b_3.c;have b_3f:=b_3.f;have b_3l:=b_3.lt;have zx3:=ai (zq (w2.heap.size) (w3.heap.size))<|ai (zq (w2.heap.size+1) (w3.heap.size))<|ai (zq (w.heap.size) (w3.heap.size))<|ai (zp (w2.heap.size) (w2.heap.size+1))<|ai (zp (w2.heap.size) (w.heap.size))<|zp (w2.heap.size+1) (w.heap.size)
  go_wp2_with fail
  go_ret
  exact ⟨rfl,H3.below⟩
end Go.Proofs.Ytiecdgcdcpmgaaa.Iv
