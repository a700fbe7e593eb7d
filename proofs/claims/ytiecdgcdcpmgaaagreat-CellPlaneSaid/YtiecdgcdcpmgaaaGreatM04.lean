/- Texts PRf2, PRf3. -/
import Derived.Test.YtiecdgcdcpmgaaaGreatM03
import Derived.Deep.QuietTactic
import Derived.BigQuiet

/- Contracts of the reference's products and squares of intervals: package culetref27 returns what the plain functions say. -/
namespace Go.Proofs.YtiecdgcdcpmgaaaGreat.Iv
open Go.RowKit
theorem fl_fdiv (n:Int):n.fdiv 16777216=fl n:=by rw [Int.fdiv_eq_ediv_of_nonneg _ (by decide)];rfl
theorem ce_fdiv (n:Int) : -((-n).fdiv 16777216)=ce n:=by rw [fl_fdiv];rfl
theorem run_min_int4 {P:Program} {w:World} (ts:Array TypeId) (t:TypeId) (x y z u:Int):(Builtin.min_ ts t #[.int .i64 x,.int .i64 y,.int .i64 z,.int .i64 u]).run P w = .ok (.int .i64 (min4 x y z u)) w:=by
 simp [Builtin.min_,Builtin.min2]
 have e:∀p q:Int,(if q<p then q else p)=min p q:=by intro p q;split<;>omega
 simp only [e];unfold min4;omega
theorem run_max_int4 {P:Program} {w:World} (ts:Array TypeId) (t:TypeId) (x y z u:Int):(Builtin.max_ ts t #[.int .i64 x,.int .i64 y,.int .i64 z,.int .i64 u]).run P w = .ok (.int .i64 (max4 x y z u)) w:=by
 simp [Builtin.max_,Builtin.max2]
 have e:∀p q:Int,(if p<q then q else p)=max p q:=by intro p q;split<;>omega
 simp only [e];unfold max4;omega
theorem frozen_drewN (w:World) (n:Nat) (p:Addr):(w.drewN n).frozen? p=w.frozen? p:=rfl
theorem run_min2' {P:Program} {w:World} (ts:Array TypeId) (t:TypeId) (x y:Int):(Builtin.min_ ts t #[.int .i64 x,.int .i64 y]).run P w = .ok (.int .i64 (min x y)) w:=by
 have e:(if y<x then y else x)=min x y:=by split<;>omega
 simp [Builtin.min_,Builtin.min2,e]
theorem run_max2' {P:Program} {w:World} (ts:Array TypeId) (t:TypeId) (x y:Int):(Builtin.max_ ts t #[.int .i64 x,.int .i64 y]).run P w = .ok (.int .i64 (max x y)) w:=by
 have e:(if x<y then y else x)=max x y:=by split<;>omega
 simp [Builtin.max_,Builtin.max2,e]
attribute [local go_sem ↓] run_min2' run_max2'
attribute [local go_sem] run_min_int4 run_max_int4 frozen_drewN
theorem fdiv_unit_bd {n:Int} (h1 : -2305843009213693952≤n) (h2:n≤2305843009213693952) : -4611686018427387904≤n.fdiv 16777216∧n.fdiv 16777216≤4611686018427387904:=by
 rw [fl_fdiv];unfold fl;omega
theorem rvalid_below (lo hi:Int) (w:World):Calls Tryz.prog 27 #[iv lo hi] w fun e w'=>e = .returned (.bool (vB lo hi))∧Below w.heap.size w w':=
 (rvalid_any lo hi w).mono fun _ _ ⟨he,hw⟩=>⟨he,by rw [←hw];exact (Below.refl _ _).alloc (Nat.le_refl _) _⟩
set_option maxRecDepth 100000 in
set_option maxHeartbeats 1000000 in
theorem rmul_any (a b c d:Int) (w:World) :
  Calls Tryz.prog 83 #[iv a b,iv c d] w fun e w'=>e=retR (mulR a b c d)∧Below w.heap.size w w':=by
 by_cases h1:vB a b=true∧vB c d=true
 ·have e1:mulR a b c d=withinR (fl (min4 (a*c) (a*d) (b*c) (b*d))) (ce (max4 (a*c) (a*d) (b*c) (b*d))):=if_pos h1;rw [e1];obtain ⟨v1,v2⟩:=h1;have k1:=vB_iff.1 v1;have k2:=vB_iff.1 v2;obtain ⟨q1,q2,q3⟩:=k1;obtain ⟨q4,q5,q6⟩:=k2;rw [←checked_within (fl_le_ce (min4_le_max4 _ _ _ _)),←fl_fdiv,←ce_fdiv];have m1:=mul_bd q1 (by omega:a≤1073741824) q4 (by omega:c≤1073741824);have m2:=mul_bd q1 (by omega:a≤1073741824) (by omega : -1073741824≤d) q6;have m3:=mul_bd (by omega : -1073741824≤b) q3 q4 (by omega:c≤1073741824);have m4:=mul_bd (by omega : -1073741824≤b) q3 (by omega : -1073741824≤d) q6;obtain ⟨m11,m12⟩:=m1;obtain ⟨m21,m22⟩:=m2;obtain ⟨m31,m32⟩:=m3;obtain ⟨m41,m42⟩:=m4
  have x1 : -2305843009213693952≤min4 (a*c) (a*d) (b*c) (b*d):=by unfold min4;omega
  have x2:min4 (a*c) (a*d) (b*c) (b*d)≤2305843009213693952:=by unfold min4;omega
  have x3 : -2305843009213693952≤max4 (a*c) (a*d) (b*c) (b*d):=by unfold max4;omega
  have x4:max4 (a*c) (a*d) (b*c) (b*d)≤2305843009213693952:=by unfold max4;omega
  clear e1;go_enter Tryz.func83,Tryz.ntmps83
  go_wp2_with fail
  refine (both_any a b c d _).mono ?_;rintro e w1 ⟨rfl,hb1⟩;obtain ⟨hc1,hf1⟩:=bcell hb1;have hz1:=hb1.size
  try simp at hz1
  have hs1_0:w.heap.size<w1.heap.size:=by omega
  have hs1_1:w.heap.size+1<w1.heap.size:=by omega
  have hs1_2:w.heap.size+1+1<w1.heap.size:=by omega
  have hw1:Below w.heap.size w w1:=Below.trans (by repeat (first|exact Below.refl _ _|refine Below.drew ?_|refine below_drewN ?_ _|refine Below.setCell ?_ (by first|omega|(simp<;>omega)) _|refine Below.alloc ?_ (by first|omega|(simp<;>omega)) _)) (hb1.mono (by first|omega|(simp<;>omega)));clear hb1 hz1
  go_wp2
  go_quiet (fail)
  obtain ⟨wq,hq⟩:∃wq,wq=w1.drewN nq:=⟨_,rfl⟩
  have cq:∀b o,wq.cell? ⟨b,o,none⟩=w1.cell? ⟨b,o,none⟩:=by intro b o;rw [hq];rfl
  have fq:∀b o,wq.frozen? ⟨b,o,none⟩=w1.frozen? ⟨b,o,none⟩:=by intro b o;rw [hq];rfl
  have zq:wq.heap.size=w1.heap.size:=by rw [hq];rfl
  have hwq:Below w.heap.size w wq:=by rw [hq];exact below_drewN hw1 _
  rw [←hq];clear hq
  go_wp2_with fail
  refine (floor_any (min4 (a*c) (a*d) (b*c) (b*d)) 16777216 _ x1 x2 (by decide) (by decide) (by decide)).mono ?_;rintro e wf ⟨rfl,rfl⟩
  go_wp2_with fail
  refine (ceil_any (max4 (a*c) (a*d) (b*c) (b*d)) 16777216 _ x3 x4 (by decide) (by decide) (by decide) (fdiv_unit_bd (by omega) (by omega))).mono ?_;rintro e wf ⟨rfl,rfl⟩
  go_wp2_with fail
  refine (checked_any ((min4 (a*c) (a*d) (b*c) (b*d)).fdiv 16777216) (-((-(max4 (a*c) (a*d) (b*c) (b*d))).fdiv 16777216)) _).mono ?_;rintro e w2 ⟨rfl,hb2⟩;obtain ⟨hc2,hf2⟩:=bcell hb2;have hz2:=hb2.size
  try simp at hz2
  have hs2_0:w.heap.size<w2.heap.size:=by omega
  have hs2_1:w.heap.size+1<w2.heap.size:=by omega
  have hs2_2:w.heap.size+1+1<w2.heap.size:=by omega
  have hw2:Below w.heap.size w w2:=Below.trans (by repeat (first|exact hwq|refine Below.drew ?_|refine below_drewN ?_ _|refine Below.setCell ?_ (by first|omega|(simp<;>omega)) _|refine Below.alloc ?_ (by first|omega|(simp<;>omega)) _)) (hb2.mono (by first|omega|(simp<;>omega)));clear hb2 hz2
  go_wp2_with fail
  exact bodyPost_ret (v:=.tuple #[.agg #[.int .i64 (checkedR ((min4 (a*c) (a*d) (b*c) (b*d)).fdiv 16777216) (-((-(max4 (a*c) (a*d) (b*c) (b*d))).fdiv 16777216))).lo,.int .i64 (checkedR ((min4 (a*c) (a*d) (b*c) (b*d)).fdiv 16777216) (-((-(max4 (a*c) (a*d) (b*c) (b*d))).fdiv 16777216))).hi],.int .i64 (checkedR ((min4 (a*c) (a*d) (b*c) (b*d)).fdiv 16777216) (-((-(max4 (a*c) (a*d) (b*c) (b*d))).fdiv 16777216))).e]) (by simp [results,Tryz.results83,go_sem, *]) rfl ⟨rfl,by repeat (first|exact hw2|refine Below.drew ?_|refine below_drewN ?_ _|refine Below.setCell ?_ (by first|omega|(simp<;>omega)) _|refine Below.alloc ?_ (by first|omega|(simp<;>omega)) _)⟩
 ·have e1:mulR a b c d=⟨0,0,1⟩:=if_neg h1;rw [e1]
  have hv:(vB a b && vB c d)=false:=by simpa using h1
  clear e1 h1;go_enter Tryz.func83,Tryz.ntmps83
  go_wp2_with fail
  refine (both_any a b c d _).mono ?_;rintro e w1 ⟨rfl,hb1⟩;obtain ⟨hc1,hf1⟩:=bcell hb1;have hz1:=hb1.size
  try simp at hz1
  have hs1_0:w.heap.size<w1.heap.size:=by omega
  have hs1_1:w.heap.size+1<w1.heap.size:=by omega
  have hs1_2:w.heap.size+1+1<w1.heap.size:=by omega
  have hw1:Below w.heap.size w w1:=Below.trans (by repeat (first|exact Below.refl _ _|refine Below.drew ?_|refine below_drewN ?_ _|refine Below.setCell ?_ (by first|omega|(simp<;>omega)) _|refine Below.alloc ?_ (by first|omega|(simp<;>omega)) _)) (hb1.mono (by first|omega|(simp<;>omega)));clear hb1 hz1;rw [hv]
  go_wp2_with fail
  exact bodyPost_ret (v:=.tuple #[iv 0 0,.int .i64 1]) (by simp [results,Tryz.results83,go_sem, *]) rfl ⟨rfl,by repeat (first|exact hw1|refine Below.drew ?_|refine below_drewN ?_ _|refine Below.setCell ?_ (by first|omega|(simp<;>omega)) _|refine Below.alloc ?_ (by first|omega|(simp<;>omega)) _)⟩
end Go.Proofs.YtiecdgcdcpmgaaaGreat.Iv

/- Contracts of the reference's quotients of intervals: Div of package culetref27 returns what the plain function says. -/
namespace Go.Proofs.YtiecdgcdcpmgaaaGreat.Iv
open Go.RowKit
attribute [local go_sem] run_min_int4 run_max_int4
theorem qfl_le_qce {n d:Int} (hd:d≠0):qfl n d≤qce n d:=by
 unfold qfl qce;obtain ⟨N,hN⟩:∃N,N=n*16777216:=⟨_,rfl⟩;rw [←hN];obtain ⟨q,hq⟩:∃q,q=N.fdiv d:=⟨_,rfl⟩;obtain ⟨p,hp⟩:∃p,p=(-N).fdiv d:=⟨_,rfl⟩;rw [←hq,←hp]
 by_cases h:0<d
 ·have a:=fdiv_le (n:=N) h;have b:=fdiv_le (n:=-N) h;rw [←hq] at a;rw [←hp] at b;rcases Int.lt_or_le 0 (q+p) with k|k
  ·have:=Int.mul_le_mul_of_nonneg_right (show (1:Int)≤q+p by omega) (show 0≤d by omega);rw [Int.add_mul] at this;omega
  ·omega
 ·have a:=fdiv_ge' (n:=N) (d:=d) (by omega);have b:=fdiv_ge' (n:=-N) (d:=d) (by omega);rw [←hq] at a;rw [←hp] at b;rcases Int.lt_or_le 0 (q+p) with k|k
  ·have:=Int.mul_le_mul_of_nonneg_right (show (1:Int)≤q+p by omega) (show 0 ≤ -d by omega);rw [Int.mul_neg,Int.mul_neg,Int.add_mul] at this;omega
  ·omega
end Go.Proofs.YtiecdgcdcpmgaaaGreat.Iv
