/- Texts PThy. -/
import Derived.Test.YtiecdgcdcpmgaaaGreatM06
import Derived.Test.YtiecdgcdcpmgaaaGreatM15
import Derived.Test.YtiecdgcdcpmgaaaGreatM11
import Derived.Test.YtiecdgcdcpmgaaaGreatM01
import Derived.LoopNIn
import Derived.LoopIn

/- The region in which the iterator calls its loop's body. -/
namespace Go.Proofs.YtiecdgcdcpmgaaaGreat.Iv
open Go.RowKit
attribute [local go_sem] Oper.semAt_some
set_option maxRecDepth 100000 in
set_option maxHeartbeats 4000000 in
theorem yield_reg {yl b:Nat} {x:W4} {W:World} {Q:Exit→Act→World→Prop} {R:World→Prop} (v1 v2 v3 v4 v5 v6 v7 v8 v9 v10 v12 v13 v14 v15 v16 v17 v18 v19 v20 v21 v22 v23 v24 v25 v26 v27 v28 v29 v30 v31 v32 v33 v34 v35 v36 v37 v38 v39 v40 v41 v42 v43 v44 v45 v46 v47 v48 v49 v50 v51 v52 v53 v54 v55 v56 v57 v58 v59 v60 v61 v62 v63 v64 v65 v66 v67 v68 v69 v70 v71 v72 v73 v74 v75 v76 v77 v78 v79 v80 v81 v82 v83 v84 v85 v86 v87 v88 v89 v90 v91:Value) (_:b<W.heap.size)
  (hc0:W.cell? ⟨b,0,none⟩=some (.int .i64 x.f)) (hc1:W.cell? ⟨b,1,none⟩=some (.int .i64 x.l)) (hc2:W.cell? ⟨b,2,none⟩=some (.int .i64 x.g)) (hc3:W.cell? ⟨b,3,none⟩=some (.bool x.b))
  (hY:YieldAt Fence.wide 0 Tryz.prog yl #[.agg (wcells x).toArray] W fun e W'=>e = .returned (.bool true)∧R W')
  (hQ:∀W',R W'→Q .normal {tmps:=#[.func (.yield yl) #[] #[],v1,v2,v3,v4,v5,v6,v7,v8,v9,v10,.pointer (some ⟨b,0,none⟩),v12,v13,v14,v15,v16,v17,v18,v19,v20,v21,v22,v23,v24,v25,v26,v27,v28,v29,v30,v31,v32,v33,v34,v35,v36,v37,v38,v39,v40,v41,v42,v43,v44,v45,v46,v47,v48,v49,v50,v51,v52,v53,v54,v55,v56,v57,v58,v59,v60,v61,v62,v63,v64,v65,v66,v67,v68,v69,v70,v71,v72,v73,v74,v75,v76,v77,v78,v79,v80,v81,v82,v83,v84,v85,v86,.func (.yield yl) #[] #[],.agg #[.int .i64 x.f,.int .i64 x.l,.int .i64 x.g,.bool x.b],.bool true,.bool false,v91],defers:=[]} W') :
  (Code.region 17 #[{ dst := some 87, op := Go.Op.move (Go.Operand.tmp 0), type := 171, pos := "hit.go:44", after := #[], guard := none }, { dst := some 88, op := Go.Op.load 156 (Go.Operand.tmp 11), type := 156, pos := "hit.go:44", after := #[], guard := none }, { dst := some 89, op := Go.Op.call { callee := Go.Callee.value (Go.Operand.tmp 87), args := #[Go.Operand.tmp 88], argTypes := #[156] }, type := 4, pos := "hit.go:44", after := #[{ on := 0, ground := Go.Ground.data }, { on := 1, ground := Go.Ground.data }], guard := none }, { dst := some 90, op := Go.Op.unOp Go.UnOp.not 4 (Go.Operand.tmp 89), type := 4, pos := "hit.go:44", after := #[{ on := 2, ground := Go.Ground.data }], guard := none }] false).wp Tryz.prog Q { tmps := #[.func (.yield yl) #[] #[], v1, v2, v3, v4, v5, v6, v7, v8, v9, v10, .pointer (some ⟨b, 0, none⟩), v12, v13, v14, v15, v16, v17, v18, v19, v20, v21, v22, v23, v24, v25, v26, v27, v28, v29, v30, v31, v32, v33, v34, v35, v36, v37, v38, v39, v40, v41, v42, v43, v44, v45, v46, v47, v48, v49, v50, v51, v52, v53, v54, v55, v56, v57, v58, v59, v60, v61, v62, v63, v64, v65, v66, v67, v68, v69, v70, v71, v72, v73, v74, v75, v76, v77, v78, v79, v80, v81, v82, v83, v84, v85, v86, v87, v88, v89, v90, v91], defers := [] } W := by
 obtain ⟨fn,tmps,assign,body,hy,hR⟩:=hY;dsimp only [wcells] at hy;refine (wpIn_wide (n:=0)).1 ?_
 gi_wp2
 refine ⟨rfl,hR.mono ?_⟩;rintro e W5 ⟨rfl,h5⟩
 gi_wp2
 exact h5
end Go.Proofs.YtiecdgcdcpmgaaaGreat.Iv
