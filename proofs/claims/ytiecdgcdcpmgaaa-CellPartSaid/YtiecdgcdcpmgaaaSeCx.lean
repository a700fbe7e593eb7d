/- The plain facts that CellPart asks of a part of a cell; and what eight numbers are when they come in. -/
import Derived.Test.YtiecdgcdcpmgaaaSeCm
import Derived.Test.YtiecdgcdcpmgaaaSeCp
import Derived.Test.YtiecdgcdcpmgaaaM22
import Derived.Test.YtiecdgcdcpmgaaaSeAw2
import Derived.Test.YtiecdgcdcpmgaaaSeCi
import Derived.Test.YtiecdgcdcpmgaaaSeCr2
import Derived.Test.YtiecdgcdcpmgaaaSeDj
import Derived.Test.YtiecdgcdcpmgaaaSeDkM
import Derived.Test.YtiecdgcdcpmgaaaSeDrb
import Derived.Test.YtiecdgcdcpmgaaaSeDsM
import Derived.Test.YtiecdgcdcpmgaaaSeEx
import Derived.Test.YtiecdgcdcpmgaaaSeExb
import Derived.Test.YtiecdgcdcpmgaaaSeFiM
import Derived.Test.YtiecdgcdcpmgaaaSeFr5
import Derived.Test.YtiecdgcdcpmgaaaSeHe
import Derived.Test.YtiecdgcdcpmgaaaSeIeM
import Derived.Test.YtiecdgcdcpmgaaaSeInM
import Derived.Test.YtiecdgcdcpmgaaaSePt
import Derived.Test.YtiecdgcdcpmgaaaSeRf1
import Derived.Test.YtiecdgcdcpmgaaaSeRf2
import Derived.Test.YtiecdgcdcpmgaaaSeRi0
import Derived.Test.YtiecdgcdcpmgaaaSeRv
import Derived.Test.YtiecdgcdcpmgaaaSeRw
import Derived.Test.YtiecdgcdcpmgaaaSeTv1
import Derived.Test.YtiecdgcdcpmgaaaSeTv3
import Derived.Test.YtiecdgcdcpmgaaaSeVs1
import Derived.Test.YtiecdgcdcpmgaaaM06
namespace Go.Proofs.Ytiecdgcdcpmgaaa.Iv
open Go.RowKit Go.WideShapes
theorem partC_sub {c:CV} (k:Nat→Int) (h:vC c=true):SubC (partC c k) c:=by
 have hv:vB c.a c.b=true∧vB c.c c.d=true∧vB c.p c.q=true∧vB c.r c.s=true:=by simpa [vC] using h
 exact ⟨part_sub _ _ hv.1,part_sub _ _ hv.2.1,part_sub _ _ hv.2.2.1,part_sub _ _ hv.2.2.2,rfl⟩
theorem insC_of {y c:CV} (s:SubC y c):insC y c=true:=by
 simp only [insC,ins_of_sub s.xa,ins_of_sub s.xc,ins_of_sub s.xp,ins_of_sub s.xr,s.xf,Bool.true_and,decide_true]
def relK (k k':Int):Prop:=k=3∨(k=k'∧(k=1∨k=2))
theorem kind_rel {kd kd':Int} {g g':R} (h:relK kd kd') (e:g.e=0) (i:Incl g g'):relK (kindS kd g) (kindS kd' g'):=by
 obtain ⟨e',s⟩:=i e;have l:=s.l;have r:=s.r;have v:=(vB_iff.1 s.v').2.1;unfold kindS relK at *;rw [if_pos e,if_pos e']
 by_cases h1:g.hi<0
 ·rw [if_pos h1,if_pos (by omega)];omega
 ·rw [if_neg h1]
  by_cases h2:g.lo<0∧kd=1
  ·rw [if_pos h2];exact .inl rfl
  ·rw [if_neg h2];rcases h with rfl|⟨rfl,rfl|rfl⟩
   ·exact .inl rfl
   ·have h3:¬g.lo<0:=fun z=>h2 ⟨z,rfl⟩;rw [if_neg (by omega),if_neg (by omega)];exact .inr ⟨rfl,.inl rfl⟩
   ·by_cases h4:g'.hi<0
    ·rw [if_pos h4];exact .inr ⟨rfl,.inr rfl⟩
    ·rw [if_neg h4,if_neg (fun z=>absurd z.2 (by decide))];exact .inr ⟨rfl,.inr rfl⟩
theorem coverL_rel {f:Int} {t t':D} (ht:SubD t' t):∀(l:List (D × Int × Int)) (i kd kd':Int),relK kd kd'→(coverL f t i l kd).2=0→(coverL f t' i l kd').2=0∧relK (coverL f t i l kd).1 (coverL f t' i l kd').1
 | [],i,kd,kd',hr,h=>by
  unfold coverL;exact ⟨rfl,hr⟩
 |x::l,i,kd,kd',hr,h=>by
  unfold coverL at h ⊢;split at h
  ·rename_i c;rw [if_pos c,if_pos c];exact coverL_rel ht l _ _ _ hr h
  ·rename_i c;rw [if_neg c,if_neg c];split at h
   ·rename_i c2;rw [if_pos c2,if_pos (incl_gap ht c2).1];exact coverL_rel ht l _ _ _ (kind_rel hr c2 (incl_gap ht)) h
   ·rename_i c2;exact absurd h c2
theorem part_plain {L:List D} {M:List (Int × Int)} {i0 i1:Int} {c:CV} (k:Nat→Int) (h:vCell L M i0 i1 c=true):partP L M i0 i1 c (partC c k):=by
 have hvc:vC c=true:=by
  have:=h;simp only [vCell,Bool.and_eq_true] at this;exact this.2.2.2.1
 have s:=partC_sub k hvc;refine ⟨insC_of s,fun e=>?_,fun e=>?_⟩
 ·obtain ⟨p1,p2⟩:=incl_pointV s h e;exact ⟨p1,p2.ins⟩
 ·unfold coverR at e ⊢;split at e
  ·rename_i z;obtain ⟨p1,p2⟩:=incl_pointV s h z;rw [if_pos z,if_pos p1,s.xf];obtain ⟨r1,r2⟩:=coverL_rel p2 (L.zip M) 0 1 1 (.inr ⟨rfl,.inl rfl⟩) e;refine ⟨r1,?_⟩;rcases r2 with z|⟨z,_⟩
   ·exact .inl z
   ·exact .inr z
  ·rename_i z;exact absurd e z
set_option maxRecDepth 100000 in
theorem word_in {w:World} {r:Reach} {b0:Nat} {v:Value} (h:Cell.okWide Try.prog w r b0 30 v):∃n:Int,v = .int .u32 n∧(0≤n∧n≤4294967295):=by
 have hv:Value.okWide Try.prog w r b0 30 v:=by
  unfold Value.okWide;rw [Try.underlying30];exact h
 obtain ⟨n,rfl⟩:=okWide_int Try.underlying30 hv;unfold Cell.okWide Cell.ok at h;rw [Try.underlying30] at h;exact ⟨n,rfl,h.2.1,h.2.2⟩
set_option maxRecDepth 100000 in
theorem words_of {w:World} {r:Reach} {b0:Nat} {v:Value} (hv:Value.okWide Try.prog w r b0 31 v) :
  ∃k:Nat→Int,v = .agg #[.int .u32 (k 0),.int .u32 (k 1),.int .u32 (k 2),.int .u32 (k 3),.int .u32 (k 4),.int .u32 (k 5),.int .u32 (k 6),.int .u32 (k 7)]∧∀i,i<8→0≤k i∧k i≤4294967295:=by
 unfold Value.okWide at hv;rw [Try.underlying31] at hv;obtain ⟨cs,rfl,hs,ts,h2,_,h3⟩:=hv
 have e:Try.prog.cellTypes Try.prog.depth 31=some (List.replicate 8 30):=by kernel_rfl
 have s:Try.prog.cellsOf 31=8:=by kernel_rfl
 rw [e] at h2;cases h2;rw [s] at hs
 have g (i:Nat) (hi:i<8):∃n:Int,cs[i]? = some (.int .u32 n)∧(0≤n∧n≤4294967295):=by
  have hl:i<cs.size:=by omega
  obtain ⟨u,h4,h5⟩:=h3 i cs[i] (Array.getElem?_eq_getElem hl)
  have h6:30=u:=by
   rw [List.length_replicate,List.getElem?_replicate,if_pos (Nat.mod_lt _ (by decide))] at h4;injection h4
  subst h6;obtain ⟨n,hn,hb⟩:=word_in h5;exact ⟨n,by rw [Array.getElem?_eq_getElem hl,hn],hb⟩
 refine ⟨fun i=>if h:i<8 then (g i h).choose else 0,?_,fun i hi=>?_⟩
 ·congr 1
  apply Array.ext_getElem?;intro i
  by_cases hi:i<8
  ·have q:=(g i hi).choose_spec.1;rw [q]
   match i,hi with
   |0,_=>rfl
   |1,_=>rfl
   |2,_=>rfl
   |3,_=>rfl
   |4,_=>rfl
   |5,_=>rfl
   |6,_=>rfl
   |7,_=>rfl
  ·rw [Array.getElem?_eq_none (by omega),Array.getElem?_eq_none (by simp;omega)]
 ·dsimp only;rw [dif_pos hi];exact (g i hi).choose_spec.2
end Go.Proofs.Ytiecdgcdcpmgaaa.Iv
