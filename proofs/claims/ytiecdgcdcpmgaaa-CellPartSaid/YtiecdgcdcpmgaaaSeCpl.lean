/- CellPart returns true for every input, and the arguments read afterwards as they read before; no conditions. -/
import Derived.Test.YtiecdgcdcpmgaaaRows
import Derived.Test.YtiecdgcdcpmgaaaSeCx
import Derived.Test.YtiecdgcdcpmgaaaM22
import Derived.Test.YtiecdgcdcpmgaaaSeTuSz
import Derived.SizedLaws
import Derived.ProofKit
import Derived.OpenShut
import Derived.ShutString
import Derived.ChangeOld
import Derived.Below
import Derived.Deep.Slices
import Derived.Test.YtiecdgcdcpmgaaaSeAw2
import Derived.Test.YtiecdgcdcpmgaaaSeCi
import Derived.Test.YtiecdgcdcpmgaaaSeCm
import Derived.Test.YtiecdgcdcpmgaaaSeCp
import Derived.Test.YtiecdgcdcpmgaaaSeCr2
import Derived.Test.YtiecdgcdcpmgaaaSeDj
import Derived.Test.YtiecdgcdcpmgaaaSeDkM
import Derived.Test.YtiecdgcdcpmgaaaSeDrb
import Derived.Test.YtiecdgcdcpmgaaaSeDsM
import Derived.Test.YtiecdgcdcpmgaaaSeEx
import Derived.Test.YtiecdgcdcpmgaaaSeExb
import Derived.Test.YtiecdgcdcpmgaaaSeFiM
import Derived.Test.YtiecdgcdcpmgaaaSeFr5
import Derived.Test.YtiecdgcdcpmgaaaSeHe
import Derived.Test.YtiecdgcdcpmgaaaSeIeM
import Derived.Test.YtiecdgcdcpmgaaaSeInM
import Derived.Test.YtiecdgcdcpmgaaaSePt
import Derived.Test.YtiecdgcdcpmgaaaSeRf1
import Derived.Test.YtiecdgcdcpmgaaaSeRf2
import Derived.Test.YtiecdgcdcpmgaaaSeRi0
import Derived.Test.YtiecdgcdcpmgaaaSeRv
import Derived.Test.YtiecdgcdcpmgaaaSeRw
import Derived.Test.YtiecdgcdcpmgaaaSeTv1
import Derived.Test.YtiecdgcdcpmgaaaSeTv3
import Derived.Test.YtiecdgcdcpmgaaaSeVs1
import Derived.Test.YtiecdgcdcpmgaaaM06
namespace Go.Proofs.Ytiecdgcdcpmgaaa.Iv.cellPart
open Go.ChangeShapes Go.WideShapes Go.ChangeAt Go.RowKit Go.Deep
theorem own:ownKnob Try.prog.godebug=none:=own31
theorem laidOut:laidOutB Try.prog=true:=laidOut31
set_option maxRecDepth 100000 in
set_option maxHeartbeats 4000000 in
theorem lifted (os:Os) (started:os.Started) (H:Type) (enc:TypeId × Value→H) :
  ReturnsInHanded {} Try.checked os 3 .any (Rows.cellPartSpec.pre6 enc Try.prog Try.f3 Rows.cellPartRow.domain false) (Rows.cellPartSpec.post enc Try.prog Try.f3 false true false false):=by
 refine returnsInHanded_of_change_sized (C:=Try.checked) own started (by kernel_rfl) Try.func3
  (ChangeSpec.witness6 (enc:=enc) (C:=Try.checked) false ⟨#[],#[.agg #[.slice none 0 0,.slice none 0 0,.int .i64 0,.int .i64 0],.agg #[.int .i64 0,.int .i64 0,.int .i64 0,.int .i64 0,.int .i64 0,.int .i64 0,.int .i64 0,.int .i64 0,.int .i64 0],.agg #[.int .u32 0,.int .u32 0,.int .u32 0,.int .u32 0,.int .u32 0,.int .u32 0,.int .u32 0,.int .u32 0]],[]⟩ 40 (by kernel_rfl) (by kernel_rfl) (by kernel_rfl) (by kernel_rfl)) ?_
 intro W base args ds gs before hval0 hW hcnd hsz _;have hval:∀(j:Nat) t v,Try.f3.params[j]? = some t→args[j]? = some v→Value.okWide Try.prog W .any base t v:=hval0;have hW':=hW;obtain ⟨p,q,hA0,hV,rfl,hfz,hnd⟩:=hW;have hA:DataW.TrodAll enc Try.prog W 0 (fun _=>true) true Try.f3.params.toList args.toList ds p:=hA0;rw [Try.params3] at hA hval;obtain ⟨v0,vs0,d0,ds0,p0,q0,hargs,rfl,rfl,h0,r0⟩:=trodAll_cons hA;obtain ⟨v1,vs1,d1,ds1,p1,q1,rfl,rfl,rfl,h1,r1⟩:=trodAll_cons r0;obtain ⟨v2,vs2,d2,ds2,p2,q2,rfl,rfl,rfl,h2,r2⟩:=trodAll_cons r1;obtain ⟨rfl,rfl,rfl⟩:=trodAll_nil r2
 obtain rfl:args=#[v0,v1,v2]:=by cases args;simp_all
 obtain ⟨rfl,rfl⟩:=trodVars_none hV;have k0:=h0;have k1:=h1;have k2:=h2
 have lt0:∀x∈p0,x.block<W.heap.size:=by obtain ⟨m,hm⟩:=k0;exact DataW.trod_lt m _ _ _ hm
 have lt1:∀x∈p1,x.block<W.heap.size:=by obtain ⟨m,hm⟩:=k1;exact DataW.trod_lt m _ _ _ hm
 have lt2:∀x∈p2,x.block<W.heap.size:=by obtain ⟨m,hm⟩:=k2;exact DataW.trod_lt m _ _ _ hm
 obtain ⟨na,L,nc,da,M,dc,i0,i1,rfl,hN,hM,hL,hLM⟩:=body_sz (hval 0 27 v0 rfl rfl) h0 (fun k hk=>by have:=List.all_eq_true.1 hsz k (DataW.weights_mem_each (j:=0) rfl rfl k hk);simpa using this);obtain ⟨c,rfl⟩:=cell_of (hval 1 29 v1 rfl rfl) h1;obtain ⟨k,rfl,hk⟩:=words_of (hval 2 31 v2 rfl rfl);clear hA0 hval0;refine (part_law c k W hN hM hL hk (fun z=>part_plain k z)).mono fun e W' ⟨he,bel⟩=>?_;subst he;exact ⟨_,rfl,_,_,_,[],_,[],hW',trodAll_mk1 (shut_bool Try.underlying4 _),(trodAll_cons_mk (Below.trod laidOut (by kernel_rfl) (of_decide_eq_true (by kernel_rfl)) k0 bel lt0) (trodAll_cons_mk (Below.trod laidOut (by kernel_rfl) (of_decide_eq_true (by kernel_rfl)) k1 bel lt1) (trodAll_cons_mk (Below.trod laidOut (by kernel_rfl) (of_decide_eq_true (by kernel_rfl)) k2 bel lt2) trodAll_mk0))),rfl,bel.frame _,fun h=>by cases h⟩
theorem holds:Rows.CellPartSaid:=
 OpenClaim.holds_of_wide 3 Try.f3 rfl rfl rfl rfl rfl rfl rfl ⟨rfl,rfl,rfl,rfl,rfl⟩ rfl rfl rfl rfl rfl (by kernel_rfl) Try.func3 (by kernel_rfl)
  (of_decide_eq_true (by kernel_rfl)) (by unfold Func.isWrapper;first|(rw [if_pos (by decide +kernel)];kernel_rfl)|(rw [if_neg (by decide +kernel)];exact ⟨rfl,rfl⟩))
  (fun os started H enc _=>lifted os started H enc)
end Go.Proofs.Ytiecdgcdcpmgaaa.Iv.cellPart
