/- Texts PIv4. -/
import Derived.Test.YtiecdgcdcpmgaaaGreatM03
import Derived.Deep.RegionHeld3
import Derived.Deep.RegionWith

/- Contracts of the program's quotients of intervals: quotient and Div of package interval return what the plain functions say. -/
namespace Go.Proofs.YtiecdgcdcpmgaaaGreat.Iv
open Go.RowKit
theorem quotient_any (n d:Int) (w:World) (h1 : -1073741824≤n) (h2:n≤1073741824) (h5:d≠0) :
  Calls Tryz.prog 101 #[.int .i64 n,.int .i64 d] w fun e w'=>e = .returned (.int .i64 (qfl n d))∧w=w':=by
 have hd:(d == 0)=false:=by simpa using h5
 have hb:=td_bd (n*16777216) d
 have hb : -4611686018427387904≤(n*16777216).tdiv d∧(n*16777216).tdiv d≤4611686018427387904:=by omega
 go_enter Tryz.func101,Tryz.ntmps101
 go_wp2
 all_goals go_ret
 ·refine ⟨ret_int ?_,rfl⟩
  have t0:(n*16777216).tmod d=0:=by assumption
  exact (fdiv_same h5 (.inl t0)).symm
 ·refine ⟨ret_int ?_,rfl⟩
  have t0:¬(n*16777216).tmod d=0:=by assumption
  have t1:((n*16777216).tmod d != 0)=true∧(!decide (n*16777216<0) == decide (d<0))=true:=by assumption
  refine (fdiv_less h5 t0 (fun h=>?_)).symm;have:=t1.2;simp [h] at this
 ·refine ⟨ret_int ?_,rfl⟩
  have t0:¬(n*16777216).tmod d=0:=by assumption
  have t1:((n*16777216).tmod d != 0)=false∨(!decide (n*16777216<0) == decide (d<0))=false:=by assumption
  refine (fdiv_same h5 (.inr ?_)).symm;rcases t1 with t1|t1
  ·simp at t1;exact absurd t1 t0
  ·simpa using t1
theorem IntsAt.drew {w:World} {ao:Option Addr} {L:List Int} (h:IntsAt w ao L):IntsAt w.drew ao L:=h
theorem max4_neg (a b c d:Int) : -(min4 (qfl (-a) c) (qfl (-a) d) (qfl (-b) c) (qfl (-b) d))=max4 (qce a c) (qce a d) (qce b c) (qce b d):=by
 have e:∀n m:Int,qce n m = -(qfl (-n) m):=fun n m=>by unfold qce qfl;rw [Int.neg_mul]
 rw [e,e,e,e];unfold min4 max4;omega
theorem qfl_bd {n d:Int} (h1 : -1073741824≤n) (h2:n≤1073741824) (hd:d≠0) : -4611686018427387904≤qfl n d∧qfl n d≤4611686018427387904:=by
 have b:=td_bd (n*16777216) d;unfold qfl
 by_cases h:(n*16777216).tmod d=0∨(n*16777216<0↔d<0)
 ·rw [fdiv_same hd h];omega
 ·rw [fdiv_less hd (fun e=>h (.inl e)) (fun e=>h (.inr e))];omega
theorem ext_bd {x y z u:Int} (h1 : -4611686018427387904≤x∧x≤4611686018427387904) (h2 : -4611686018427387904≤y∧y≤4611686018427387904) (h3 : -4611686018427387904≤z∧z≤4611686018427387904) (h4 : -4611686018427387904≤u∧u≤4611686018427387904) :
  -4611686018427387904≤minL x [y,z,u] 3∧minL x [y,z,u] 3≤4611686018427387904:=by
 show -4611686018427387904≤min (min (min x y) z) u∧min (min (min x y) z) u≤4611686018427387904;omega
set_option maxRecDepth 100000 in
set_option maxHeartbeats 1000000 in
theorem div_any (a b c d:Int) (w:World) :
  Calls Tryz.prog 63 #[iv a b,iv c d] w fun e w'=>e=retR (divR a b c d)∧Below w.heap.size w w':=by
 by_cases h1:vB a b=true
 ·by_cases h2:vB c d=true
  ·have k1:=vB_iff.1 h1;have k2:=vB_iff.1 h2;obtain ⟨q1,q2,q3⟩:=k1;obtain ⟨q4,q5,q6⟩:=k2
   by_cases h3:c≤0∧0≤d
   ·have e1:divR a b c d=⟨0,0,10⟩:=by rw [divR,if_pos ⟨h1,h2⟩,if_pos h3]
    rw [e1];obtain ⟨h4,h5⟩:=h3;clear e1;go_enter Tryz.func63,Tryz.ntmps63
    go_wp2_with (first|(go_at_call 64;refine (valid_any _ _ _).mono ?_;rintro e w1 ⟨rfl,rfl⟩))
    exact bodyPost_ret (v:=.tuple #[.agg #[.int .i64 0,.int .i64 0],.int .i64 10]) (by simp [results,Tryz.results63,go_sem]) rfl ⟨rfl,(by repeat (first|exact Below.refl _ _|refine Below.drew ?_|refine Below.alloc ?_ (by simp<;>omega) _))⟩
   ·have e1:divR a b c d=withinR (minL (qfl a c) [qfl a d,qfl b c,qfl b d] 3) (-(minL (qfl (-a) c) [qfl (-a) d,qfl (-b) c,qfl (-b) d] 3)):=by
     rw [divR,if_pos ⟨h1,h2⟩,if_neg h3,←max4_neg];rfl
    rw [e1];clear e1;have x1:=ext_bd (qfl_bd q1 (by omega) (by omega:c≠0)) (qfl_bd q1 (by omega) (by omega:d≠0)) (qfl_bd (by omega : -1073741824≤b) q3 (by omega:c≠0)) (qfl_bd (by omega : -1073741824≤b) q3 (by omega:d≠0));have x2:=ext_bd (qfl_bd (by omega : -1073741824 ≤ -a) (by omega) (by omega:c≠0)) (qfl_bd (by omega : -1073741824 ≤ -a) (by omega) (by omega:d≠0)) (qfl_bd (by omega : -1073741824 ≤ -b) (by omega) (by omega:c≠0)) (qfl_bd (by omega : -1073741824 ≤ -b) (by omega) (by omega:d≠0));obtain ⟨x11,x12⟩:=x1;obtain ⟨x21,x22⟩:=x2
    by_cases h4:c≤0
    ·have h5:d<0:=by omega
     clear h3;go_enter Tryz.func63,Tryz.ntmps63
     go_wp2_with (first|(go_at_call 64;refine (valid_any _ _ _).mono ?_;rintro e w1 ⟨rfl,rfl⟩))
     go_region_held3 (fun w'=>w'.cell? ⟨w.heap.size,0,none⟩=some (.int .i64 a)∧w'.cell? ⟨w.heap.size,1,none⟩=some (.int .i64 b)∧w'.cell? ⟨w.heap.size+1,0,none⟩=some (.int .i64 c)∧w'.cell? ⟨w.heap.size+1,1,none⟩=some (.int .i64 d)) (simp [go_sem,World.cell?_alloc_past])
      (first
       |(go_at_call 101;refine (quotient_any _ _ _ (by omega) (by omega) (by omega)).mono ?_;rintro e w' ⟨rfl,rfl⟩)
       |(go_at_call 98;refine (extremes_any (qfl a c) _ 3 3 [qfl a d,qfl b c,qfl b d] _ rfl (by decide) (IntsAt.drew (ints3 _ _ _ (by simp)))).mono ?_;rintro e w' ⟨rfl,rfl⟩))
     go_wp2
     have wa:IntKind.i64.wrap (-a) = -a:=IntWalk.i64_in _ (by omega);have wb:IntKind.i64.wrap (-b) = -b:=IntWalk.i64_in _ (by omega)
     go_region_held3 (fun w'=>w'.cell? ⟨w.heap.size,0,none⟩=some (.int .i64 a)∧w'.cell? ⟨w.heap.size,1,none⟩=some (.int .i64 b)∧w'.cell? ⟨w.heap.size+1,0,none⟩=some (.int .i64 c)∧w'.cell? ⟨w.heap.size+1,1,none⟩=some (.int .i64 d)) (simp [go_sem,World.cell?_alloc_past])
      (first
       |(go_at_call 101;refine (quotient_any _ _ _ (by omega) (by omega) (by omega)).mono ?_;rintro e w' ⟨rfl,rfl⟩)
       |(go_at_call 98;refine (extremes_any (qfl (-a) c) _ 3 3 [qfl (-a) d,qfl (-b) c,qfl (-b) d] _ rfl (by decide) (IntsAt.drew (IntsAt.drew (ints3 _ _ _ (by simp))))).mono ?_;rintro e w' ⟨rfl,rfl⟩))
     clear wa wb
     go_wp2_with (first|(go_at_call 96;refine (within_any _ _ _).mono ?_;rintro e w1 ⟨rfl,rfl⟩))
     exact bodyPost_ret (v:=.tuple #[.agg #[.int .i64 (withinR (minL (qfl a c) [qfl a d,qfl b c,qfl b d] 3) (-(minL (qfl (-a) c) [qfl (-a) d,qfl (-b) c,qfl (-b) d] 3))).lo,.int .i64 (withinR (minL (qfl a c) [qfl a d,qfl b c,qfl b d] 3) (-(minL (qfl (-a) c) [qfl (-a) d,qfl (-b) c,qfl (-b) d] 3))).hi],.int .i64 (withinR (minL (qfl a c) [qfl a d,qfl b c,qfl b d] 3) (-(minL (qfl (-a) c) [qfl (-a) d,qfl (-b) c,qfl (-b) d] 3))).e]) (by simp [results,Tryz.results63,go_sem]) rfl ⟨rfl,by repeat (first|exact Below.refl _ _|refine Below.drew ?_|refine Below.alloc ?_ (by simp<;>omega) _)⟩
    ·have h4':0<c:=by omega
     clear h3 h4;go_enter Tryz.func63,Tryz.ntmps63
     go_wp2_with (first|(go_at_call 64;refine (valid_any _ _ _).mono ?_;rintro e w1 ⟨rfl,rfl⟩))
     go_region_held3 (fun w'=>w'.cell? ⟨w.heap.size,0,none⟩=some (.int .i64 a)∧w'.cell? ⟨w.heap.size,1,none⟩=some (.int .i64 b)∧w'.cell? ⟨w.heap.size+1,0,none⟩=some (.int .i64 c)∧w'.cell? ⟨w.heap.size+1,1,none⟩=some (.int .i64 d)) (simp [go_sem,World.cell?_alloc_past])
      (first
       |(go_at_call 101;refine (quotient_any _ _ _ (by omega) (by omega) (by omega)).mono ?_;rintro e w' ⟨rfl,rfl⟩)
       |(go_at_call 98;refine (extremes_any (qfl a c) _ 3 3 [qfl a d,qfl b c,qfl b d] _ rfl (by decide) (IntsAt.drew (ints3 _ _ _ (by simp)))).mono ?_;rintro e w' ⟨rfl,rfl⟩))
     go_wp2
     have wa:IntKind.i64.wrap (-a) = -a:=IntWalk.i64_in _ (by omega);have wb:IntKind.i64.wrap (-b) = -b:=IntWalk.i64_in _ (by omega)
     go_region_held3 (fun w'=>w'.cell? ⟨w.heap.size,0,none⟩=some (.int .i64 a)∧w'.cell? ⟨w.heap.size,1,none⟩=some (.int .i64 b)∧w'.cell? ⟨w.heap.size+1,0,none⟩=some (.int .i64 c)∧w'.cell? ⟨w.heap.size+1,1,none⟩=some (.int .i64 d)) (simp [go_sem,World.cell?_alloc_past])
      (first
       |(go_at_call 101;refine (quotient_any _ _ _ (by omega) (by omega) (by omega)).mono ?_;rintro e w' ⟨rfl,rfl⟩)
       |(go_at_call 98;refine (extremes_any (qfl (-a) c) _ 3 3 [qfl (-a) d,qfl (-b) c,qfl (-b) d] _ rfl (by decide) (IntsAt.drew (IntsAt.drew (ints3 _ _ _ (by simp))))).mono ?_;rintro e w' ⟨rfl,rfl⟩))
     clear wa wb
     go_wp2_with (first|(go_at_call 96;refine (within_any _ _ _).mono ?_;rintro e w1 ⟨rfl,rfl⟩))
     exact bodyPost_ret (v:=.tuple #[.agg #[.int .i64 (withinR (minL (qfl a c) [qfl a d,qfl b c,qfl b d] 3) (-(minL (qfl (-a) c) [qfl (-a) d,qfl (-b) c,qfl (-b) d] 3))).lo,.int .i64 (withinR (minL (qfl a c) [qfl a d,qfl b c,qfl b d] 3) (-(minL (qfl (-a) c) [qfl (-a) d,qfl (-b) c,qfl (-b) d] 3))).hi],.int .i64 (withinR (minL (qfl a c) [qfl a d,qfl b c,qfl b d] 3) (-(minL (qfl (-a) c) [qfl (-a) d,qfl (-b) c,qfl (-b) d] 3))).e]) (by simp [results,Tryz.results63,go_sem]) rfl ⟨rfl,by repeat (first|exact Below.refl _ _|refine Below.drew ?_|refine Below.alloc ?_ (by simp<;>omega) _)⟩
  ·have h2':vB c d=false:=by simpa using h2
   have e1:divR a b c d=⟨0,0,1⟩:=if_neg (fun h=>h2 h.2);rw [e1];clear h2 e1;go_enter Tryz.func63,Tryz.ntmps63
   go_wp2_with (first|(go_at_call 64;refine (valid_any _ _ _).mono ?_;rintro e w1 ⟨rfl,rfl⟩))
   exact bodyPost_ret (v:=.tuple #[.agg #[.int .i64 0,.int .i64 0],.int .i64 1]) (by simp [results,Tryz.results63,go_sem]) rfl ⟨rfl,(by repeat (first|exact Below.refl _ _|refine Below.drew ?_|refine Below.alloc ?_ (by simp<;>omega) _))⟩
 ·have h1':vB a b=false:=by simpa using h1
  have e1:divR a b c d=⟨0,0,1⟩:=if_neg (fun h=>h1 h.1);rw [e1];clear h1 e1;go_enter Tryz.func63,Tryz.ntmps63
  go_wp2_with (first|(go_at_call 64;refine (valid_any _ _ _).mono ?_;rintro e w1 ⟨rfl,rfl⟩))
  exact bodyPost_ret (v:=.tuple #[.agg #[.int .i64 0,.int .i64 0],.int .i64 1]) (by simp [results,Tryz.results63,go_sem]) rfl ⟨rfl,(by repeat (first|exact Below.refl _ _|refine Below.drew ?_|refine Below.alloc ?_ (by simp<;>omega) _))⟩
end Go.Proofs.YtiecdgcdcpmgaaaGreat.Iv
