/- Texts PRf2, PRf3. -/
import Derived.Test.YtiecdgcdcpmgaaaM03
import Derived.Deep.QuietTactic
import Derived.BigQuiet

/- Contracts of the reference's products and squares of intervals: package culetref27 returns what the plain functions say. -/
namespace Go.Proofs.Ytiecdgcdcpmgaaa.Iv
open Go.RowKit
theorem run_min_int4 {P:Program} {w:World} (ts:Array TypeId) (t:TypeId) (x y z u:Int):(Builtin.min_ ts t #[.int .i64 x,.int .i64 y,.int .i64 z,.int .i64 u]).run P w = .ok (.int .i64 (min4 x y z u)) w:=by
 simp [Builtin.min_,Builtin.min2]
 have e:∀p q:Int,(if q<p then q else p)=min p q:=by intro p q;split<;>omega
 simp only [e];unfold min4;omega
theorem run_max_int4 {P:Program} {w:World} (ts:Array TypeId) (t:TypeId) (x y z u:Int):(Builtin.max_ ts t #[.int .i64 x,.int .i64 y,.int .i64 z,.int .i64 u]).run P w = .ok (.int .i64 (max4 x y z u)) w:=by
 simp [Builtin.max_,Builtin.max2]
 have e:∀p q:Int,(if p<q then q else p)=max p q:=by intro p q;split<;>omega
 simp only [e];unfold max4;omega
theorem frozen_drewN (w:World) (n:Nat) (p:Addr):(w.drewN n).frozen? p=w.frozen? p:=rfl
theorem run_min2' {P:Program} {w:World} (ts:Array TypeId) (t:TypeId) (x y:Int):(Builtin.min_ ts t #[.int .i64 x,.int .i64 y]).run P w = .ok (.int .i64 (min x y)) w:=by
 have e:(if y<x then y else x)=min x y:=by split<;>omega
 simp [Builtin.min_,Builtin.min2,e]
theorem run_max2' {P:Program} {w:World} (ts:Array TypeId) (t:TypeId) (x y:Int):(Builtin.max_ ts t #[.int .i64 x,.int .i64 y]).run P w = .ok (.int .i64 (max x y)) w:=by
 have e:(if x<y then y else x)=max x y:=by split<;>omega
 simp [Builtin.max_,Builtin.max2,e]
attribute [local go_sem ↓] run_min2' run_max2'
attribute [local go_sem] run_min_int4 run_max_int4 frozen_drewN
end Go.Proofs.Ytiecdgcdcpmgaaa.Iv

/- Contracts of the reference's quotients of intervals: Div of package culetref27 returns what the plain function says. -/
namespace Go.Proofs.Ytiecdgcdcpmgaaa.Iv
open Go.RowKit
attribute [local go_sem] run_min_int4 run_max_int4
theorem qfl_le_qce {n d:Int} (hd:d≠0):qfl n d≤qce n d:=by
 unfold qfl qce;obtain ⟨N,hN⟩:∃N,N=n*16777216:=⟨_,rfl⟩;rw [←hN];obtain ⟨q,hq⟩:∃q,q=N.fdiv d:=⟨_,rfl⟩;obtain ⟨p,hp⟩:∃p,p=(-N).fdiv d:=⟨_,rfl⟩;rw [←hq,←hp]
 by_cases h:0<d
 ·have a:=fdiv_le (n:=N) h;have b:=fdiv_le (n:=-N) h;rw [←hq] at a;rw [←hp] at b;rcases Int.lt_or_le 0 (q+p) with k|k
  ·have:=Int.mul_le_mul_of_nonneg_right (show (1:Int)≤q+p by omega) (show 0≤d by omega);rw [Int.add_mul] at this;omega
  ·omega
 ·have a:=fdiv_ge' (n:=N) (d:=d) (by omega);have b:=fdiv_ge' (n:=-N) (d:=d) (by omega);rw [←hq] at a;rw [←hp] at b;rcases Int.lt_or_le 0 (q+p) with k|k
  ·have:=Int.mul_le_mul_of_nonneg_right (show (1:Int)≤q+p by omega) (show 0 ≤ -d by omega);rw [Int.mul_neg,Int.mul_neg,Int.add_mul] at this;omega
  ·omega
end Go.Proofs.Ytiecdgcdcpmgaaa.Iv
