/- Texts PSq1. -/
import Derived.Test.YtiecdgcdcpmgaaaGreatM07
import Derived.Test.YtiecdgcdcpmgaaaGreatM03
import Derived.Test.YtiecdgcdcpmgaaaGreatM08

/- Contract of the program's square root of whole numbers: root of package interval returns the greatest integer whose square is not above. -/
namespace Go.Proofs.YtiecdgcdcpmgaaaGreat.Iv
open Go.RowKit
theorem bl_le {n:Int} (h0:0≤n) (h1:n≤18014398509481984):Lib.bitLen n.toNat≤55:=Lib.bitLen_le n.toNat 55 (by decide) (by omega)
set_option maxRecDepth 100000 in
theorem root_any (n:Int) (w:World) (h0:0≤n) (h1:n≤18014398509481984) :
  Calls Tryz.prog 123 #[.int .i64 n] w fun e w'=>e = .returned (.int .i64 (isq n))∧w=w':=by
 by_cases hz:n=0
 ·subst hz;go_enter Tryz.func123,Tryz.ntmps123
  go_wp2
  go_ret
  exact ⟨ret_int isq_zero.symm,rfl⟩
 ·have hb:=bl_le h0 h1;have hs:=start_ge (n:=n.toNat) (by omega);rw [Int.toNat_of_nonneg h0] at hs;obtain ⟨L,hL⟩:∃L,Lib.bitLen n.toNat=L:=⟨_,rfl⟩;rw [hL] at hb hs;have HL:=Lib.hid hL;clear hL
  have u1:n % 18446744073709551616=n:=by omega
  go_enter Tryz.func123,Tryz.ntmps123
  go_wp2_with (first|(go_at_call 127;refine (len_any n _ h0 (by omega)).mono ?_;rintro e w1 ⟨rfl,rfl⟩;rw [HL.out]))
  go_loop [3,4] (fun r _=>∃R:Int,r = .int .i64 R∧isq n≤R∧1≤R∧R≤268435456) (fun r _=>(intOf r).toNat)
  case atStart=>
   have p1:2 ^ ((L+1) / 2)≤2 ^ 28:=Nat.pow_le_pow_right (by decide) (by omega);have p2:=isq_pos (show 1≤n by omega);obtain ⟨p,hp⟩:∃p,2 ^ ((L+1) / 2)=p:=⟨_,rfl⟩
   have p3:(2:Int) ^ ((L+1) / 2)=(p:Int):=by rw [←hp];exact_mod_cast rfl
   rw [p3];rw [hp] at p1 hs
   have p4:wrap64 (p:Int)=p:=by unfold wrap64;omega
   exact ⟨p,by rw [p4],hs,by omega,by omega⟩
  case round=>
   obtain ⟨R,rfl,r1,r2,r3⟩:=hrel;have p2:=isq_pos (show 1≤n by omega)
   have q0:(R == 0)=false:=by simp;omega
   have q1:n.tdiv R=n / R:=Int.tdiv_eq_ediv_of_nonneg h0;have q2:0≤n / R:=Int.ediv_nonneg h0 (by omega);have q3:n / R≤n:=Int.ediv_le_self _ h0;obtain ⟨Q,hQ⟩:∃Q,n / R=Q:=⟨_,rfl⟩;have g1:=newton_ge h0 (by omega:0<R);have g2:=fun h=>newton_stop h0 (by omega:0<R) h r1;rw [hQ] at q1 q2 q3 g1 g2;have q4:(R+Q).tdiv 2=(R+Q) / 2:=Int.tdiv_eq_ediv_of_nonneg (by omega)
   go_wp2
   ·go_ret
    refine ⟨ret_int ?_,rfl⟩
    first|exact (g2 (by omega)).symm|rfl
   ·go_round
    case rel=>exact ⟨(R+Q) / 2,rfl,g1,by omega,by omega⟩
    case measure=>simp [intOf];omega
theorem isq_sq (n:Int) (h:0≤n) (h1:n≤1073741824):0≤isq (n*16777216)∧isq (n*16777216)≤134217728∧0≤isq (n*16777216)*isq (n*16777216)∧isq (n*16777216)*isq (n*16777216)≤n*16777216:=by
 have a:=isq_nonneg (n*16777216);have b:=isq_le (show 0≤n*16777216 by omega);refine ⟨a,?_,Int.mul_nonneg a a,b⟩;rcases (show isq (n*16777216)≤134217728∨134217729≤isq (n*16777216) from by omega) with k|k
 ·exact k
 ·have:=sq_mono (by decide) k;omega
set_option maxRecDepth 100000 in
theorem sqrt_any (a b:Int) (w:World) :
  Calls Tryz.prog 118 #[iv a b] w fun e w'=>e=retR (sqrtR a b)∧Below w.heap.size w w':=by
 cases h1:vB a b
 ·have e1:sqrtR a b=⟨0,0,1⟩:=if_neg (by rw [h1];decide);rw [e1];clear e1;go_enter Tryz.func118,Tryz.ntmps118
  go_wp2_with (first|(go_at_call 64;refine (valid_any _ _ _).mono ?_;rintro e w1 ⟨rfl,rfl⟩))
  exact bodyPost_ret (v:=.tuple #[iv 0 0,.int .i64 1]) (by simp [results,Tryz.results118,go_sem]) rfl ⟨rfl,(by repeat (first|exact Below.refl _ _|refine Below.drew ?_|refine below_drewN ?_ _|refine Below.setCell ?_ (by first|omega|(simp<;>omega)) _|refine Below.alloc ?_ (by first|omega|(simp<;>omega)) _))⟩
 ·obtain ⟨q1,q2,q3⟩:=vB_iff.1 h1
  by_cases h2:a<0
  ·have e1:sqrtR a b=⟨0,0,2⟩:=(if_pos h1).trans (if_pos h2);rw [e1];clear e1;go_enter Tryz.func118,Tryz.ntmps118
   go_wp2_with (first|(go_at_call 64;refine (valid_any _ _ _).mono ?_;rintro e w1 ⟨rfl,rfl⟩))
   exact bodyPost_ret (v:=.tuple #[iv 0 0,.int .i64 2]) (by simp [results,Tryz.results118,go_sem]) rfl ⟨rfl,(by repeat (first|exact Below.refl _ _|refine Below.drew ?_|refine below_drewN ?_ _|refine Below.setCell ?_ (by first|omega|(simp<;>omega)) _|refine Below.alloc ?_ (by first|omega|(simp<;>omega)) _))⟩
  ·have e1:sqrtR a b=⟨isq (a*16777216),rup b,0⟩:=(if_pos h1).trans (if_neg h2);rw [e1];clear e1;obtain ⟨s1,s2,s3,s4⟩:=isq_sq b (by omega) (by omega);unfold rup;obtain ⟨A,hA⟩:∃A,isq (a*16777216)=A:=⟨_,rfl⟩;obtain ⟨B,hB⟩:∃B,isq (b*16777216)=B:=⟨_,rfl⟩;rw [hA,hB];rw [hB] at s1 s2 s3 s4;have HA:=Lib.hid hA;have HB:=Lib.hid hB;clear hA hB
   by_cases h3:B*B=b*16777216
   ·rw [if_pos h3];go_enter Tryz.func118,Tryz.ntmps118
    go_wp2_with (first|(go_at_call 64;refine (valid_any _ _ _).mono ?_;rintro e w1 ⟨rfl,rfl⟩)|(go_at_call 123;refine (root_any _ _ (by omega) (by omega)).mono ?_;rintro e w1 ⟨rfl,rfl⟩;first|rw [HA.out]|rw [HB.out]))
    exact bodyPost_ret (v:=.tuple #[iv A B,.int .i64 0]) (by simp [results,Tryz.results118,go_sem]) rfl ⟨rfl,(by repeat (first|exact Below.refl _ _|refine Below.drew ?_|refine below_drewN ?_ _|refine Below.setCell ?_ (by first|omega|(simp<;>omega)) _|refine Below.alloc ?_ (by first|omega|(simp<;>omega)) _))⟩
   ·rw [if_neg h3];go_enter Tryz.func118,Tryz.ntmps118
    go_wp2_with (first|(go_at_call 64;refine (valid_any _ _ _).mono ?_;rintro e w1 ⟨rfl,rfl⟩)|(go_at_call 123;refine (root_any _ _ (by omega) (by omega)).mono ?_;rintro e w1 ⟨rfl,rfl⟩;first|rw [HA.out]|rw [HB.out]))
    exact bodyPost_ret (v:=.tuple #[iv A (B+1),.int .i64 0]) (by simp [results,Tryz.results118,go_sem]) rfl ⟨rfl,(by repeat (first|exact Below.refl _ _|refine Below.drew ?_|refine below_drewN ?_ _|refine Below.setCell ?_ (by first|omega|(simp<;>omega)) _|refine Below.alloc ?_ (by first|omega|(simp<;>omega)) _))⟩
end Go.Proofs.YtiecdgcdcpmgaaaGreat.Iv
