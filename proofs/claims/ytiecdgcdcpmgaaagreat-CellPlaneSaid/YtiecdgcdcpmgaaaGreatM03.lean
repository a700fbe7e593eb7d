/- Texts PIv1, PRf1, PIv2, PIv3. -/
import Derived.Test.YtiecdgcdcpmgaaaGreatProg
import Derived.Test.YtiecdgcdcpmgaaaGreatM02
import Derived.WalkKit
import Derived.WalkSpells
import Derived.WalkLawsBesides
import Derived.WalkSmall
import Derived.Below
import Derived.IntWalk
import Derived.Lib.Hide

/- Contracts of the program's tests and bounds of intervals: Valid, within, down, up and extremes of package interval return what the plain functions say. -/
namespace Go.Proofs.YtiecdgcdcpmgaaaGreat.Iv
open Go.RowKit
theorem ret_bool {a b:Bool} (h:a=b):Ending.returned (.bool a) = .returned (.bool b):=by rw [h]
theorem ret_int {k:IntKind} {a b:Int} (h:a=b):Ending.returned (.int k a) = .returned (.int k b):=by rw [h]
abbrev iv (a b:Int):Value:=.agg #[.int .i64 a,.int .i64 b]
abbrev retR (r:R):Ending:=.returned (.tuple #[.agg #[.int .i64 r.lo,.int .i64 r.hi],.int .i64 r.e])
abbrev boxed (w:World) (a b:Int):World:=w.alloc (.cells #[.int .i64 a,.int .i64 b] 25)
theorem valid_any (lo hi:Int) (w:World) :
  Calls Tryz.prog 64 #[iv lo hi] w fun e w'=>e = .returned (.bool (vB lo hi))∧boxed w lo hi=w':=by
 go_enter Tryz.func64,Tryz.ntmps64
 go_wp2
 all_goals go_ret
 all_goals refine ⟨ret_bool ?_,rfl⟩
 all_goals (simp only [vB];first|(rw [decide_eq_decide];omega)|(symm;rw [decide_eq_false_iff_not];omega))
theorem within_any (lo hi:Int) (w:World) :
  Calls Tryz.prog 96 #[.int .i64 lo,.int .i64 hi] w fun e w'=>e=retR (withinR lo hi)∧boxed w (withinR lo hi).lo (withinR lo hi).hi=w':=by
 by_cases h:lo < -1073741824∨1073741824<hi
 ·rw [within_no h]
  by_cases h1:lo < -1073741824
  ·go_enter Tryz.func96,Tryz.ntmps96
   go_wp2
   exact bodyPost_ret (v:=.tuple #[.agg #[.int .i64 0,.int .i64 0],.int .i64 3]) (by simp [results,Tryz.results96,go_sem]) rfl ⟨rfl,rfl⟩
  ·have h2:1073741824<hi:=by omega
   have h3 : -1073741824≤lo:=by omega
   clear h h1;go_enter Tryz.func96,Tryz.ntmps96
   go_wp2
   exact bodyPost_ret (v:=.tuple #[.agg #[.int .i64 0,.int .i64 0],.int .i64 3]) (by simp [results,Tryz.results96,go_sem]) rfl ⟨rfl,rfl⟩
 ·have h2:hi≤1073741824:=by omega
  have h3 : -1073741824≤lo:=by omega
  rw [within_yes h3 h2];clear h;go_enter Tryz.func96,Tryz.ntmps96
  go_wp2
  exact bodyPost_ret (v:=.tuple #[.agg #[.int .i64 lo,.int .i64 hi],.int .i64 0]) (by simp [results,Tryz.results96,go_sem]) rfl ⟨rfl,rfl⟩
theorem down_any (n:Int) (w:World) :
  Calls Tryz.prog 99 #[.int .i64 n] w fun e w'=>e = .returned (.int .i64 (fl n))∧w=w':=by
 go_enter Tryz.func99,Tryz.ntmps99
 go_wp2
 go_ret
 exact ⟨rfl,rfl⟩
theorem up_any (n:Int) (w:World) (h1 : -4611686018427387904≤n) (h2:n≤4611686018427387904) :
  Calls Tryz.prog 100 #[.int .i64 n] w fun e w'=>e = .returned (.int .i64 (ce n))∧w=w':=by
 go_enter Tryz.func100,Tryz.ntmps100
 go_wp2
 go_ret
 exact ⟨rfl,rfl⟩
def IntsAt (w:World) (ao:Option Addr) (L:List Int):Prop:=0<L.length→∃b off,ao=some ⟨b,off,none⟩∧b<w.heap.size∧∀i,i<L.length→w.cell? ⟨b,off+i,none⟩=some (.int .i64 (L[i]?.getD 0))
def minL (x:Int) (L:List Int) (k:Nat):Int:=(L.take k).foldl min x
def maxL (x:Int) (L:List Int) (k:Nat):Int:=(L.take k).foldl max x
theorem minL_succ (x:Int) (L:List Int) (k:Nat) (h:k<L.length):minL x L (k+1)=if L[k]?.getD 0<minL x L k then L[k]?.getD 0 else minL x L k:=by
 unfold minL;rw [List.take_succ_eq_append_getElem h,List.foldl_append,List.getElem?_eq_getElem h];simp only [List.foldl_cons,List.foldl_nil,Option.getD_some];split<;>omega
theorem maxL_succ (x:Int) (L:List Int) (k:Nat) (h:k<L.length):maxL x L (k+1)=if maxL x L k<L[k]?.getD 0 then L[k]?.getD 0 else maxL x L k:=by
 unfold maxL;rw [List.take_succ_eq_append_getElem h,List.foldl_append,List.getElem?_eq_getElem h];simp only [List.foldl_cons,List.foldl_nil,Option.getD_some];split<;>omega
theorem extremes_any (x:Int) (ao:Option Addr) (n cap:Nat) (L:List Int) (w:World) (hn:n=L.length) (hm:n≤20) (hL:IntsAt w ao L) :
  Calls Tryz.prog 98 #[.int .i64 x,.slice ao n cap] w fun e w'=>e = .returned (.tuple #[.int .i64 (minL x L n),.int .i64 (maxL x L n)])∧w=w':=by
 subst hn;go_enter Tryz.func98,Tryz.ntmps98
 go_wp2
 go_loop [4,5,12] (fun lo hi i=>∃k:Nat,k≤L.length∧i = .int .i64 k∧lo = .int .i64 (minL x L k)∧hi = .int .i64 (maxL x L k)) (fun _ _ i=>L.length - (intOf i).toNat)
 case atStart=>exact ⟨0,Nat.zero_le _,rfl,rfl,rfl⟩
 case round=>
  obtain ⟨k,hk,rfl,rfl,rfl⟩:=hrel
  by_cases hlt:k<L.length
  ·obtain ⟨b,off,rfl,hb1,hc⟩:=hL (by omega);have g0:=hc k hlt;have H1:=Lib.hid (minL_succ x L k hlt);have H2:=Lib.hid (maxL_succ x L k hlt);rw [List.getElem?_eq_getElem hlt,Option.getD_some] at H1 H2
   go_wp2
   go_round
   case rel=>exact ⟨k+1,by omega,by go_num,by rw [H1.out],by rw [H2.out]⟩
   case measure=>simp [intOf];omega
  ·obtain rfl:k=L.length:=by omega
   go_wp2_with fail
   go_ret2
   exact ⟨rfl,rfl⟩
theorem bcell {W w1:World} (hb:Below W.heap.size W w1):(∀b o,b<W.heap.size→w1.cell? ⟨b,o,none⟩=W.cell? ⟨b,o,none⟩)∧(∀b o,b<W.heap.size→w1.frozen? ⟨b,o,none⟩=W.frozen? ⟨b,o,none⟩):=
 ⟨fun b o h=>hb.cell (p:=⟨b,o,none⟩) h,fun b o h=>hb.frozen (p:=⟨b,o,none⟩) h⟩
end Go.Proofs.YtiecdgcdcpmgaaaGreat.Iv

/- Contracts of the reference's tests, bounds, roundings, sums and differences of intervals: package culetref27 returns what the plain functions say. -/
namespace Go.Proofs.YtiecdgcdcpmgaaaGreat.Iv
open Go.RowKit
theorem rvalid_any (lo hi:Int) (w:World) :
  Calls Tryz.prog 27 #[iv lo hi] w fun e w'=>e = .returned (.bool (vB lo hi))∧boxed w lo hi=w':=by
 go_enter Tryz.func27,Tryz.ntmps27
 go_wp2
 all_goals go_ret
 all_goals refine ⟨ret_bool ?_,rfl⟩
 all_goals (simp only [vB];first|(rw [decide_eq_decide];omega)|(symm;rw [decide_eq_false_iff_not];omega))
theorem both_any (a b c d:Int) (w:World) :
  Calls Tryz.prog 81 #[iv a b,iv c d] w fun e w'=>e = .returned (.bool (vB a b && vB c d))∧Below w.heap.size w w':=by
 cases h1:vB a b
 ·go_enter Tryz.func81,Tryz.ntmps81
  go_wp2_with (first|(go_at_call 27;refine (rvalid_any _ _ _).mono ?_;rintro e w1 ⟨rfl,rfl⟩))
  go_ret
  exact ⟨rfl,by repeat (first|exact Below.refl _ _|refine Below.drew ?_|refine Below.setCell ?_ (by first|omega|(simp<;>omega)) _|refine Below.alloc ?_ (by first|omega|(simp<;>omega)) _)⟩
 ·go_enter Tryz.func81,Tryz.ntmps81
  go_wp2_with (first|(go_at_call 27;refine (rvalid_any _ _ _).mono ?_;rintro e w1 ⟨rfl,rfl⟩))
  go_ret
  exact ⟨ret_bool (by simp),by repeat (first|exact Below.refl _ _|refine Below.drew ?_|refine Below.setCell ?_ (by first|omega|(simp<;>omega)) _|refine Below.alloc ?_ (by first|omega|(simp<;>omega)) _)⟩
def checkedR (lo hi:Int):R:=if vB lo hi=true then ⟨lo,hi,0⟩ else ⟨0,0,3⟩
theorem checked_within {lo hi:Int} (h:lo≤hi):checkedR lo hi=withinR lo hi:=by
 unfold checkedR withinR
 by_cases k:vB lo hi=true
 ·rw [if_pos k,if_neg (by have:=vB_iff.1 k;omega)]
 ·rw [if_neg k,if_pos (by have:=vB_not.1 (by simpa using k:vB lo hi=false);omega)]
theorem checked_any (lo hi:Int) (w:World) :
  Calls Tryz.prog 115 #[.int .i64 lo,.int .i64 hi] w fun e w'=>e=retR (checkedR lo hi)∧Below w.heap.size w w':=by
 unfold checkedR;cases h1:vB lo hi
 ·go_enter Tryz.func115,Tryz.ntmps115
  go_wp2_with (first|(go_at_call 27;refine (rvalid_any _ _ _).mono ?_;rintro e w1 ⟨rfl,rfl⟩))
  exact bodyPost_ret (v:=.tuple #[iv 0 0,.int .i64 3]) (by simp [results,Tryz.results115,go_sem]) rfl ⟨rfl,by repeat (first|exact Below.refl _ _|refine Below.drew ?_|refine Below.setCell ?_ (by first|omega|(simp<;>omega)) _|refine Below.alloc ?_ (by first|omega|(simp<;>omega)) _)⟩
 ·go_enter Tryz.func115,Tryz.ntmps115
  go_wp2_with (first|(go_at_call 27;refine (rvalid_any _ _ _).mono ?_;rintro e w1 ⟨rfl,rfl⟩))
  exact bodyPost_ret (v:=.tuple #[iv lo hi,.int .i64 0]) (by simp [results,Tryz.results115,go_sem]) rfl ⟨rfl,by repeat (first|exact Below.refl _ _|refine Below.drew ?_|refine Below.setCell ?_ (by first|omega|(simp<;>omega)) _|refine Below.alloc ?_ (by first|omega|(simp<;>omega)) _)⟩
theorem floor_up {a b:Int} (hb:0<b) (h:a<a.tdiv b*b):a.fdiv b=a.tdiv b - 1:=by
 have e:=Int.mul_tdiv_add_tmod a b;have l:=tm_lt a b (by omega);rw [Int.mul_comm] at e;refine fdiv_pos hb ?_ ?_
 ·rw [Int.sub_mul];omega
 ·rw [Int.sub_add_cancel];omega
theorem floor_same {a b:Int} (hb:0<b) (h:a.tdiv b*b≤a):a.fdiv b=a.tdiv b:=by
 have e:=Int.mul_tdiv_add_tmod a b;have l:=tm_lt a b (by omega);rw [Int.mul_comm] at e;refine fdiv_pos hb h ?_;rw [Int.add_mul];omega
theorem floor_bd {a b:Int} (hb:0<b) (h1 : -2305843009213693952≤a) (h2:a≤2305843009213693952) (h3:b≤2305843009213693952) :
  (-4611686018427387904≤a.tdiv b∧a.tdiv b≤4611686018427387904)∧-4611686018427387904≤a.tdiv b*b∧a.tdiv b*b≤4611686018427387904:=by
 have e:=Int.mul_tdiv_add_tmod a b;have l:=tm_lt a b (by omega);have t:=td_bd a b;rw [Int.mul_comm] at e;omega
set_option maxRecDepth 100000 in
theorem floor_any (a b:Int) (w:World) (h1 : -2305843009213693952≤a) (h2:a≤2305843009213693952) (h3 : -2305843009213693952≤b) (h4:b≤2305843009213693952) (h5:b≠0) :
  Calls Tryz.prog 116 #[.int .i64 a,.int .i64 b] w fun e w'=>e = .returned (.int .i64 (a.fdiv b))∧w=w':=by
 by_cases hb:0<b
 ·obtain ⟨⟨b1,b2⟩,b3,b4⟩:=floor_bd hb h1 h2 h4
  by_cases ht:a<a.tdiv b*b
  ·have e1:=Lib.hid (floor_up hb ht);go_enter Tryz.func116,Tryz.ntmps116
   go_wp2
   go_ret
   exact ⟨ret_int (by rw [e1.out]),rfl⟩
  ·have ht':a.tdiv b*b≤a:=by omega
   have e1:=Lib.hid (floor_same hb ht');clear ht;go_enter Tryz.func116,Tryz.ntmps116
   go_wp2
   go_ret
   exact ⟨ret_int (by rw [e1.out]),rfl⟩
 ·have hb':b<0:=by omega
  have hn:0 < -b:=by omega
  obtain ⟨⟨b1,b2⟩,b3,b4⟩:=floor_bd hn (show -2305843009213693952 ≤ -a by omega) (by omega) (by omega);have t:(-a).tdiv (-b)=a.tdiv b:=Int.neg_tdiv_neg a b;rw [t] at b1 b2 b3 b4
  by_cases ht : -a<a.tdiv b * -b
  ·have e1:=Lib.hid (floor_up hn (by rw [t];exact ht));rw [t] at e1;clear t;clear hb;go_enter Tryz.func116,Tryz.ntmps116
   go_wp2
   go_ret
   exact ⟨ret_int (by rw [←fdiv_negneg,e1.out]),rfl⟩
  ·have ht':a.tdiv b * -b ≤ -a:=by omega
   have e1:=Lib.hid (floor_same hn (by rw [t];exact ht'));rw [t] at e1;clear t;clear hb ht;go_enter Tryz.func116,Tryz.ntmps116
   go_wp2
   go_ret
   exact ⟨ret_int (by rw [←fdiv_negneg,e1.out]),rfl⟩
theorem ceil_any (a b:Int) (w:World) (h1 : -2305843009213693952≤a) (h2:a≤2305843009213693952) (h3 : -2305843009213693952≤b) (h4:b≤2305843009213693952) (h5:b≠0) (h6 : -4611686018427387904≤(-a).fdiv b∧(-a).fdiv b≤4611686018427387904) :
  Calls Tryz.prog 117 #[.int .i64 a,.int .i64 b] w fun e w'=>e = .returned (.int .i64 (-((-a).fdiv b)))∧w=w':=by
 obtain ⟨k1,k2⟩:=h6;go_enter Tryz.func117,Tryz.ntmps117
 go_wp2_with fail
 refine (floor_any (-a) b _ (by omega) (by omega) (by omega) (by omega) h5).mono ?_;rintro e w1 ⟨rfl,rfl⟩
 go_wp2_with fail
 go_ret
 exact ⟨rfl,rfl⟩
set_option maxRecDepth 100000 in
theorem radd_any (a b c d:Int) (w:World) :
  Calls Tryz.prog 84 #[iv a b,iv c d] w fun e w'=>e=retR (addR a b c d)∧Below w.heap.size w w':=by
 by_cases h1:vB a b=true∧vB c d=true
 ·have e1:addR a b c d=withinR (a+c) (b+d):=if_pos h1;rw [e1];obtain ⟨v1,v2⟩:=h1;have k1:=vB_iff.1 v1;have k2:=vB_iff.1 v2;obtain ⟨q1,q2,q3⟩:=k1;obtain ⟨q4,q5,q6⟩:=k2;rw [←checked_within (show a+c≤b+d by omega)];clear e1;go_enter Tryz.func84,Tryz.ntmps84
  go_wp2_with fail
  refine (both_any a b c d _).mono ?_;rintro e w1 ⟨rfl,hb1⟩;obtain ⟨hc1,hf1⟩:=bcell hb1;have hz1:=hb1.size
  try simp at hz1
  have hs1_0:w.heap.size<w1.heap.size:=by omega
  have hs1_1:w.heap.size+1<w1.heap.size:=by omega
  have hs1_2:w.heap.size+1+1<w1.heap.size:=by omega
  have hw1:Below w.heap.size w w1:=Below.trans (by repeat (first|exact Below.refl _ _|refine Below.drew ?_|refine Below.setCell ?_ (by first|omega|(simp<;>omega)) _|refine Below.alloc ?_ (by first|omega|(simp<;>omega)) _)) (hb1.mono (by first|omega|(simp<;>omega)));clear hb1 hz1
  go_wp2_with fail
  refine (checked_any (a+c) (b+d) _).mono ?_;rintro e w2 ⟨rfl,hb2⟩;obtain ⟨hc2,hf2⟩:=bcell hb2;have hz2:=hb2.size
  try simp at hz2
  have hs2_0:w.heap.size<w2.heap.size:=by omega
  have hs2_1:w.heap.size+1<w2.heap.size:=by omega
  have hs2_2:w.heap.size+1+1<w2.heap.size:=by omega
  have hw2:Below w.heap.size w w2:=Below.trans (by repeat (first|exact hw1|refine Below.drew ?_|refine Below.setCell ?_ (by first|omega|(simp<;>omega)) _|refine Below.alloc ?_ (by first|omega|(simp<;>omega)) _)) (hb2.mono (by first|omega|(simp<;>omega)));clear hb2 hz2
  go_wp2_with fail
  exact bodyPost_ret (v:=.tuple #[.agg #[.int .i64 (checkedR (a+c) (b+d)).lo,.int .i64 (checkedR (a+c) (b+d)).hi],.int .i64 (checkedR (a+c) (b+d)).e]) (by simp [results,Tryz.results84,go_sem, *]) rfl ⟨rfl,by repeat (first|exact hw2|refine Below.drew ?_|refine Below.setCell ?_ (by first|omega|(simp<;>omega)) _|refine Below.alloc ?_ (by first|omega|(simp<;>omega)) _)⟩
 ·have e1:addR a b c d=⟨0,0,1⟩:=if_neg h1;rw [e1]
  have hv:(vB a b && vB c d)=false:=by simpa using h1
  clear e1 h1;go_enter Tryz.func84,Tryz.ntmps84
  go_wp2_with fail
  refine (both_any a b c d _).mono ?_;rintro e w1 ⟨rfl,hb1⟩;obtain ⟨hc1,hf1⟩:=bcell hb1;have hz1:=hb1.size
  try simp at hz1
  have hs1_0:w.heap.size<w1.heap.size:=by omega
  have hs1_1:w.heap.size+1<w1.heap.size:=by omega
  have hs1_2:w.heap.size+1+1<w1.heap.size:=by omega
  have hw1:Below w.heap.size w w1:=Below.trans (by repeat (first|exact Below.refl _ _|refine Below.drew ?_|refine Below.setCell ?_ (by first|omega|(simp<;>omega)) _|refine Below.alloc ?_ (by first|omega|(simp<;>omega)) _)) (hb1.mono (by first|omega|(simp<;>omega)));clear hb1 hz1;rw [hv]
  go_wp2_with fail
  exact bodyPost_ret (v:=.tuple #[iv 0 0,.int .i64 1]) (by simp [results,Tryz.results84,go_sem, *]) rfl ⟨rfl,by repeat (first|exact hw1|refine Below.drew ?_|refine Below.setCell ?_ (by first|omega|(simp<;>omega)) _|refine Below.alloc ?_ (by first|omega|(simp<;>omega)) _)⟩
end Go.Proofs.YtiecdgcdcpmgaaaGreat.Iv

/- Contracts of the program's sums and differences of intervals: Add and Sub of package interval return what the plain functions say. -/
namespace Go.Proofs.YtiecdgcdcpmgaaaGreat.Iv
open Go.RowKit
theorem add_any (a b c d:Int) (w:World) :
  Calls Tryz.prog 62 #[iv a b,iv c d] w fun e w'=>e=retR (addR a b c d)∧Below w.heap.size w w':=by
 by_cases h1:vB a b=true
 ·by_cases h2:vB c d=true
  ·have e1:addR a b c d=withinR (a+c) (b+d):=if_pos ⟨h1,h2⟩;rw [e1];have k1:=vB_iff.1 h1;have k2:=vB_iff.1 h2;obtain ⟨_,_,_⟩:=k1;obtain ⟨_,_,_⟩:=k2;clear e1;go_enter Tryz.func62,Tryz.ntmps62
   go_wp2_with (first|(go_at_call 64;refine (valid_any _ _ _).mono ?_;rintro e w1 ⟨rfl,rfl⟩)|(go_at_call 96;refine (within_any _ _ _).mono ?_;rintro e w1 ⟨rfl,rfl⟩)|(go_at_call 99;refine (down_any _ _).mono ?_;rintro e w1 ⟨rfl,rfl⟩)|(go_at_call 100;refine (up_any _ _).mono ?_;rintro e w1 ⟨rfl,rfl⟩))
   exact bodyPost_ret (v:=.tuple #[.agg #[.int .i64 (withinR (a+c) (b+d)).lo,.int .i64 (withinR (a+c) (b+d)).hi],.int .i64 (withinR (a+c) (b+d)).e]) (by simp [results,Tryz.results62,go_sem]) rfl ⟨rfl,(by repeat (first|exact Below.refl _ _|refine Below.alloc ?_ (by simp<;>omega) _))⟩
  ·have h2':vB c d=false:=by simpa using h2
   have e1:addR a b c d=⟨0,0,1⟩:=if_neg (fun h=>h2 h.2);rw [e1];clear h2 e1;go_enter Tryz.func62,Tryz.ntmps62
   go_wp2_with (first|(go_at_call 64;refine (valid_any _ _ _).mono ?_;rintro e w1 ⟨rfl,rfl⟩)|(go_at_call 96;refine (within_any _ _ _).mono ?_;rintro e w1 ⟨rfl,rfl⟩)|(go_at_call 99;refine (down_any _ _).mono ?_;rintro e w1 ⟨rfl,rfl⟩)|(go_at_call 100;refine (up_any _ _).mono ?_;rintro e w1 ⟨rfl,rfl⟩))
   exact bodyPost_ret (v:=.tuple #[.agg #[.int .i64 0,.int .i64 0],.int .i64 1]) (by simp [results,Tryz.results62,go_sem]) rfl ⟨rfl,(by repeat (first|exact Below.refl _ _|refine Below.alloc ?_ (by simp<;>omega) _))⟩
 ·have h1':vB a b=false:=by simpa using h1
  have e1:addR a b c d=⟨0,0,1⟩:=if_neg (fun h=>h1 h.1);rw [e1];clear h1 e1;go_enter Tryz.func62,Tryz.ntmps62
  go_wp2_with (first|(go_at_call 64;refine (valid_any _ _ _).mono ?_;rintro e w1 ⟨rfl,rfl⟩)|(go_at_call 96;refine (within_any _ _ _).mono ?_;rintro e w1 ⟨rfl,rfl⟩)|(go_at_call 99;refine (down_any _ _).mono ?_;rintro e w1 ⟨rfl,rfl⟩)|(go_at_call 100;refine (up_any _ _).mono ?_;rintro e w1 ⟨rfl,rfl⟩))
  exact bodyPost_ret (v:=.tuple #[.agg #[.int .i64 0,.int .i64 0],.int .i64 1]) (by simp [results,Tryz.results62,go_sem]) rfl ⟨rfl,(by repeat (first|exact Below.refl _ _|refine Below.alloc ?_ (by simp<;>omega) _))⟩
theorem sub_any (a b c d:Int) (w:World) :
  Calls Tryz.prog 57 #[iv a b,iv c d] w fun e w'=>e=retR (subR a b c d)∧Below w.heap.size w w':=by
 by_cases h1:vB a b=true
 ·by_cases h2:vB c d=true
  ·have e1:subR a b c d=withinR (a - d) (b - c):=if_pos ⟨h1,h2⟩;rw [e1];have k1:=vB_iff.1 h1;have k2:=vB_iff.1 h2;obtain ⟨_,_,_⟩:=k1;obtain ⟨_,_,_⟩:=k2;clear e1;go_enter Tryz.func57,Tryz.ntmps57
   go_wp2_with (first|(go_at_call 64;refine (valid_any _ _ _).mono ?_;rintro e w1 ⟨rfl,rfl⟩)|(go_at_call 96;refine (within_any _ _ _).mono ?_;rintro e w1 ⟨rfl,rfl⟩)|(go_at_call 99;refine (down_any _ _).mono ?_;rintro e w1 ⟨rfl,rfl⟩)|(go_at_call 100;refine (up_any _ _).mono ?_;rintro e w1 ⟨rfl,rfl⟩))
   exact bodyPost_ret (v:=.tuple #[.agg #[.int .i64 (withinR (a - d) (b - c)).lo,.int .i64 (withinR (a - d) (b - c)).hi],.int .i64 (withinR (a - d) (b - c)).e]) (by simp [results,Tryz.results57,go_sem]) rfl ⟨rfl,(by repeat (first|exact Below.refl _ _|refine Below.alloc ?_ (by simp<;>omega) _))⟩
  ·have h2':vB c d=false:=by simpa using h2
   have e1:subR a b c d=⟨0,0,1⟩:=if_neg (fun h=>h2 h.2);rw [e1];clear h2 e1;go_enter Tryz.func57,Tryz.ntmps57
   go_wp2_with (first|(go_at_call 64;refine (valid_any _ _ _).mono ?_;rintro e w1 ⟨rfl,rfl⟩)|(go_at_call 96;refine (within_any _ _ _).mono ?_;rintro e w1 ⟨rfl,rfl⟩)|(go_at_call 99;refine (down_any _ _).mono ?_;rintro e w1 ⟨rfl,rfl⟩)|(go_at_call 100;refine (up_any _ _).mono ?_;rintro e w1 ⟨rfl,rfl⟩))
   exact bodyPost_ret (v:=.tuple #[.agg #[.int .i64 0,.int .i64 0],.int .i64 1]) (by simp [results,Tryz.results57,go_sem]) rfl ⟨rfl,(by repeat (first|exact Below.refl _ _|refine Below.alloc ?_ (by simp<;>omega) _))⟩
 ·have h1':vB a b=false:=by simpa using h1
  have e1:subR a b c d=⟨0,0,1⟩:=if_neg (fun h=>h1 h.1);rw [e1];clear h1 e1;go_enter Tryz.func57,Tryz.ntmps57
  go_wp2_with (first|(go_at_call 64;refine (valid_any _ _ _).mono ?_;rintro e w1 ⟨rfl,rfl⟩)|(go_at_call 96;refine (within_any _ _ _).mono ?_;rintro e w1 ⟨rfl,rfl⟩)|(go_at_call 99;refine (down_any _ _).mono ?_;rintro e w1 ⟨rfl,rfl⟩)|(go_at_call 100;refine (up_any _ _).mono ?_;rintro e w1 ⟨rfl,rfl⟩))
  exact bodyPost_ret (v:=.tuple #[.agg #[.int .i64 0,.int .i64 0],.int .i64 1]) (by simp [results,Tryz.results57,go_sem]) rfl ⟨rfl,(by repeat (first|exact Below.refl _ _|refine Below.alloc ?_ (by simp<;>omega) _))⟩
end Go.Proofs.YtiecdgcdcpmgaaaGreat.Iv

/- Contracts of the program's products and squares of intervals: Mul and Square of package interval return what the plain functions say. -/
namespace Go.Proofs.YtiecdgcdcpmgaaaGreat.Iv
open Go.RowKit
theorem ints3 {w:World} {g:Nat} (x y z:Int) (hg:g=w.heap.size):IntsAt (w.alloc (.cells #[.int .i64 x,.int .i64 y,.int .i64 z] 3)) (some ⟨g,0,none⟩) [x,y,z]:=by
 subst hg;intro _;refine ⟨_,_,rfl,by simp,fun i hi=>?_⟩
 have h:i=0∨i=1∨i=2:=by simp at hi;omega
 rcases h with rfl|rfl|rfl<;>simp [World.cell?_alloc_at]
theorem ints1 {w:World} {g:Nat} (x:Int) (hg:g=w.heap.size):IntsAt (w.alloc (.cells #[.int .i64 x] 3)) (some ⟨g,0,none⟩) [x]:=by
 subst hg;intro _;refine ⟨_,_,rfl,by simp,fun i hi=>?_⟩
 have h:i=0:=by simp at hi;omega
 subst h;simp [World.cell?_alloc_at]
set_option maxRecDepth 100000 in
theorem mul_any (a b c d:Int) (w:World) :
  Calls Tryz.prog 61 #[iv a b,iv c d] w fun e w'=>e=retR (mulR a b c d)∧Below w.heap.size w w':=by
 by_cases h1:vB a b=true
 ·by_cases h2:vB c d=true
  ·have e1:mulR a b c d=withinR (fl (minL (a*c) [a*d,b*c,b*d] 3)) (ce (maxL (a*c) [a*d,b*c,b*d] 3)):=if_pos ⟨h1,h2⟩;rw [e1];have k1:=vB_iff.1 h1;have k2:=vB_iff.1 h2;obtain ⟨q1,q2,q3⟩:=k1;obtain ⟨q4,q5,q6⟩:=k2;have m1:=mul_bd q1 (by omega:a≤1073741824) q4 (by omega:c≤1073741824);have m2:=mul_bd q1 (by omega:a≤1073741824) (by omega : -1073741824≤d) q6;have m3:=mul_bd (by omega : -1073741824≤b) q3 q4 (by omega:c≤1073741824);have m4:=mul_bd (by omega : -1073741824≤b) q3 (by omega : -1073741824≤d) q6;obtain ⟨m11,m12⟩:=m1;obtain ⟨m21,m22⟩:=m2;obtain ⟨m31,m32⟩:=m3;obtain ⟨m41,m42⟩:=m4;clear e1
   have hx1 : -4611686018427387904≤maxL (a*c) [a*d,b*c,b*d] 3:=by show _≤max (max (max (a*c) (a*d)) (b*c)) (b*d);omega
   have hx2:maxL (a*c) [a*d,b*c,b*d] 3≤4611686018427387904:=by show max (max (max (a*c) (a*d)) (b*c)) (b*d)≤_;omega
   go_enter Tryz.func61,Tryz.ntmps61
   go_wp2_with (first|(go_at_call 64;refine (valid_any _ _ _).mono ?_;rintro e w1 ⟨rfl,rfl⟩)|(go_at_call 96;refine (within_any _ _ _).mono ?_;rintro e w1 ⟨rfl,rfl⟩)|(go_at_call 99;refine (down_any _ _).mono ?_;rintro e w1 ⟨rfl,rfl⟩)|(go_at_call 100;refine (up_any _ _ hx1 hx2).mono ?_;rintro e w1 ⟨rfl,rfl⟩)|(go_at_call 98;refine (extremes_any (a*c) _ 3 3 [a*d,b*c,b*d] _ rfl (by decide) (ints3 _ _ _ (by simp))).mono ?_;rintro e w1 ⟨rfl,rfl⟩))
   exact bodyPost_ret (v:=.tuple #[.agg #[.int .i64 (withinR (fl (minL (a*c) [a*d,b*c,b*d] 3)) (ce (maxL (a*c) [a*d,b*c,b*d] 3))).lo,.int .i64 (withinR (fl (minL (a*c) [a*d,b*c,b*d] 3)) (ce (maxL (a*c) [a*d,b*c,b*d] 3))).hi],.int .i64 (withinR (fl (minL (a*c) [a*d,b*c,b*d] 3)) (ce (maxL (a*c) [a*d,b*c,b*d] 3))).e]) (by simp [results,Tryz.results61,go_sem]) rfl ⟨rfl,(by repeat (first|exact Below.refl _ _|refine Below.alloc ?_ (by simp<;>omega) _))⟩
  ·have h2':vB c d=false:=by simpa using h2
   have e1:mulR a b c d=⟨0,0,1⟩:=if_neg (fun h=>h2 h.2);rw [e1];clear h2 e1;go_enter Tryz.func61,Tryz.ntmps61
   go_wp2_with (first|(go_at_call 64;refine (valid_any _ _ _).mono ?_;rintro e w1 ⟨rfl,rfl⟩)|(go_at_call 96;refine (within_any _ _ _).mono ?_;rintro e w1 ⟨rfl,rfl⟩)|(go_at_call 99;refine (down_any _ _).mono ?_;rintro e w1 ⟨rfl,rfl⟩)|(go_at_call 100;refine (up_any _ _ hx1 hx2).mono ?_;rintro e w1 ⟨rfl,rfl⟩)|(go_at_call 98;refine (extremes_any (a*c) _ 3 3 [a*d,b*c,b*d] _ rfl (by decide) (ints3 _ _ _ (by simp))).mono ?_;rintro e w1 ⟨rfl,rfl⟩))
   exact bodyPost_ret (v:=.tuple #[.agg #[.int .i64 0,.int .i64 0],.int .i64 1]) (by simp [results,Tryz.results61,go_sem]) rfl ⟨rfl,(by repeat (first|exact Below.refl _ _|refine Below.alloc ?_ (by simp<;>omega) _))⟩
 ·have h1':vB a b=false:=by simpa using h1
  have e1:mulR a b c d=⟨0,0,1⟩:=if_neg (fun h=>h1 h.1);rw [e1];clear h1 e1;go_enter Tryz.func61,Tryz.ntmps61
  go_wp2_with (first|(go_at_call 64;refine (valid_any _ _ _).mono ?_;rintro e w1 ⟨rfl,rfl⟩)|(go_at_call 96;refine (within_any _ _ _).mono ?_;rintro e w1 ⟨rfl,rfl⟩)|(go_at_call 99;refine (down_any _ _).mono ?_;rintro e w1 ⟨rfl,rfl⟩)|(go_at_call 100;refine (up_any _ _ hx1 hx2).mono ?_;rintro e w1 ⟨rfl,rfl⟩)|(go_at_call 98;refine (extremes_any (a*c) _ 3 3 [a*d,b*c,b*d] _ rfl (by decide) (ints3 _ _ _ (by simp))).mono ?_;rintro e w1 ⟨rfl,rfl⟩))
  exact bodyPost_ret (v:=.tuple #[.agg #[.int .i64 0,.int .i64 0],.int .i64 1]) (by simp [results,Tryz.results61,go_sem]) rfl ⟨rfl,(by repeat (first|exact Below.refl _ _|refine Below.alloc ?_ (by simp<;>omega) _))⟩
set_option maxRecDepth 100000 in
theorem square_any (a b:Int) (w:World) :
  Calls Tryz.prog 67 #[iv a b] w fun e w'=>e=retR (sqR a b)∧Below w.heap.size w w':=by
 by_cases h1:vB a b=true
 ·have k1:=vB_iff.1 h1;obtain ⟨q1,q2,q3⟩:=k1;have m1:=mul_bd q1 (by omega:a≤1073741824) q1 (by omega:a≤1073741824);have m2:=mul_bd (by omega : -1073741824≤b) q3 (by omega : -1073741824≤b) q3;obtain ⟨m11,m12⟩:=m1;obtain ⟨m21,m22⟩:=m2
  have hx1 : -4611686018427387904≤maxL (a*a) [b*b] 1:=by show _≤max (a*a) (b*b);omega
  have hx2:maxL (a*a) [b*b] 1≤4611686018427387904:=by show max (a*a) (b*b)≤_;omega
  by_cases h2:a≤0∧0≤b
  ·have e1:sqR a b=withinR (fl 0) (ce (maxL (a*a) [b*b] 1)):=by
    show (if vB a b=true then withinR (fl (least2 a b)) _ else _)=_;rw [if_pos h1,least2,if_pos h2];rfl
   rw [e1];obtain ⟨r1,r2⟩:=h2;clear e1;go_enter Tryz.func67,Tryz.ntmps67
   go_wp2_with (first|(go_at_call 64;refine (valid_any _ _ _).mono ?_;rintro e w1 ⟨rfl,rfl⟩)|(go_at_call 96;refine (within_any _ _ _).mono ?_;rintro e w1 ⟨rfl,rfl⟩)|(go_at_call 99;refine (down_any _ _).mono ?_;rintro e w1 ⟨rfl,rfl⟩)|(go_at_call 100;refine (up_any _ _ hx1 hx2).mono ?_;rintro e w1 ⟨rfl,rfl⟩)|(go_at_call 98;refine (extremes_any (a*a) _ 1 1 [b*b] _ rfl (by decide) (ints1 _ (by simp))).mono ?_;rintro e w1 ⟨rfl,rfl⟩))
   exact bodyPost_ret (v:=.tuple #[.agg #[.int .i64 (withinR (fl 0) (ce (maxL (a*a) [b*b] 1))).lo,.int .i64 (withinR (fl 0) (ce (maxL (a*a) [b*b] 1))).hi],.int .i64 (withinR (fl 0) (ce (maxL (a*a) [b*b] 1))).e]) (by simp [results,Tryz.results67,go_sem]) rfl ⟨rfl,(by repeat (first|exact Below.refl _ _|refine Below.alloc ?_ (by simp<;>omega) _))⟩
  ·have e1:sqR a b=withinR (fl (minL (a*a) [b*b] 1)) (ce (maxL (a*a) [b*b] 1)):=by
    show (if vB a b=true then withinR (fl (least2 a b)) _ else _)=_;rw [if_pos h1,least2,if_neg h2];rfl
   rw [e1];clear e1
   by_cases r1:a≤0
   ·have r2:b<0:=by omega
    clear h2;go_enter Tryz.func67,Tryz.ntmps67
    go_wp2_with (first|(go_at_call 64;refine (valid_any _ _ _).mono ?_;rintro e w1 ⟨rfl,rfl⟩)|(go_at_call 96;refine (within_any _ _ _).mono ?_;rintro e w1 ⟨rfl,rfl⟩)|(go_at_call 99;refine (down_any _ _).mono ?_;rintro e w1 ⟨rfl,rfl⟩)|(go_at_call 100;refine (up_any _ _ hx1 hx2).mono ?_;rintro e w1 ⟨rfl,rfl⟩)|(go_at_call 98;refine (extremes_any (a*a) _ 1 1 [b*b] _ rfl (by decide) (ints1 _ (by simp))).mono ?_;rintro e w1 ⟨rfl,rfl⟩))
    exact bodyPost_ret (v:=.tuple #[.agg #[.int .i64 (withinR (fl (minL (a*a) [b*b] 1)) (ce (maxL (a*a) [b*b] 1))).lo,.int .i64 (withinR (fl (minL (a*a) [b*b] 1)) (ce (maxL (a*a) [b*b] 1))).hi],.int .i64 (withinR (fl (minL (a*a) [b*b] 1)) (ce (maxL (a*a) [b*b] 1))).e]) (by simp [results,Tryz.results67,go_sem]) rfl ⟨rfl,(by repeat (first|exact Below.refl _ _|refine Below.alloc ?_ (by simp<;>omega) _))⟩
   ·have r1':0<a:=by omega
    clear h2 r1;go_enter Tryz.func67,Tryz.ntmps67
    go_wp2_with (first|(go_at_call 64;refine (valid_any _ _ _).mono ?_;rintro e w1 ⟨rfl,rfl⟩)|(go_at_call 96;refine (within_any _ _ _).mono ?_;rintro e w1 ⟨rfl,rfl⟩)|(go_at_call 99;refine (down_any _ _).mono ?_;rintro e w1 ⟨rfl,rfl⟩)|(go_at_call 100;refine (up_any _ _ hx1 hx2).mono ?_;rintro e w1 ⟨rfl,rfl⟩)|(go_at_call 98;refine (extremes_any (a*a) _ 1 1 [b*b] _ rfl (by decide) (ints1 _ (by simp))).mono ?_;rintro e w1 ⟨rfl,rfl⟩))
    exact bodyPost_ret (v:=.tuple #[.agg #[.int .i64 (withinR (fl (minL (a*a) [b*b] 1)) (ce (maxL (a*a) [b*b] 1))).lo,.int .i64 (withinR (fl (minL (a*a) [b*b] 1)) (ce (maxL (a*a) [b*b] 1))).hi],.int .i64 (withinR (fl (minL (a*a) [b*b] 1)) (ce (maxL (a*a) [b*b] 1))).e]) (by simp [results,Tryz.results67,go_sem]) rfl ⟨rfl,(by repeat (first|exact Below.refl _ _|refine Below.alloc ?_ (by simp<;>omega) _))⟩
 ·have h1':vB a b=false:=by simpa using h1
  have e1:sqR a b=⟨0,0,1⟩:=if_neg h1;rw [e1];clear h1 e1;go_enter Tryz.func67,Tryz.ntmps67
  go_wp2_with (first|(go_at_call 64;refine (valid_any _ _ _).mono ?_;rintro e w1 ⟨rfl,rfl⟩)|(go_at_call 96;refine (within_any _ _ _).mono ?_;rintro e w1 ⟨rfl,rfl⟩)|(go_at_call 99;refine (down_any _ _).mono ?_;rintro e w1 ⟨rfl,rfl⟩)|(go_at_call 100;refine (up_any _ _ hx1 hx2).mono ?_;rintro e w1 ⟨rfl,rfl⟩)|(go_at_call 98;refine (extremes_any (a*a) _ 1 1 [b*b] _ rfl (by decide) (ints1 _ (by simp))).mono ?_;rintro e w1 ⟨rfl,rfl⟩))
  exact bodyPost_ret (v:=.tuple #[.agg #[.int .i64 0,.int .i64 0],.int .i64 1]) (by simp [results,Tryz.results67,go_sem]) rfl ⟨rfl,(by repeat (first|exact Below.refl _ _|refine Below.alloc ?_ (by simp<;>omega) _))⟩
end Go.Proofs.YtiecdgcdcpmgaaaGreat.Iv
