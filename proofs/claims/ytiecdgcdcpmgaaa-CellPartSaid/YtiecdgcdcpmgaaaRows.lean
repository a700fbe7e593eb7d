/-
  No cell of these rows narrows 'for every input' (looked for: loops, veiled, ifaces, maps, wideKeys, modest, calm, conditions, laid).
  DERIVED. THE GIVEN ROWS OF THIS SEAT. 6 by the template 'for every input the law returns true; each argument reads behind the call as it read before'; 0 by the template 'total and deterministic' (their statements: YtiecdgcdcpmgaaaTotals.lean).
  GIVEN WITH THE SEED: the statements are not yours to turn. If you find one false, say at which input.
  Laid BY PROGRAM, IN A SANDBOX (cutbox-rows.mjs): the forced cells as the released guide's own fill.sh prints them over the translation e81155c5eaef3ad9… (all of the seat's roots in one cut). By AI agents, Wed Nov 11 2026. No macro, syntax, notation, axiom, sorry.
-/
import Derived.Test.YtiecdgcdcpmgaaaChecked
import GoSem.Claim
import GoSem.ClaimJoined
import GoSem.ClaimMapViews
import Derived.JoinedTies
import Derived.KernelRfl
namespace Go.Proofs.Ytiecdgcdcpmgaaa
/- THE CELL 'sum', in the pinned program and in every row, IS THE sha256 OF THE DUMP (.gsa) THAT YtiecdgcdcpmgaaaProg.lean LOADS. Nothing in Lean hashes anything: it is a label: what it is worth is what the hold of that sum in a sandbox is worth. -/
noncomputable def Try.pinned : Pinned := { name := "ytiecdgcdcpmgaaa", sum := "e81155c5eaef3ad9ae04ab27f17d56cde227dfe3fd026c5037adbf0be0018415", checked := Try.checked }
namespace Rows
def none {H : Type} : Left H := { results := [], args := [] }

/-- 'culetlaw32.CellPart': WHATEVER THE INPUT: true; the input reads as it did. -/
def cellPartSpec : ChangeSpec := { name := "cellPart", fn := fun _ => fun
  | [d1, d2, d3] => { results := [.lit (.bool true)], args := [d1, d2, d3] }
  | _ => none }
def cellPartRow : OpenClaim := { program := "ytiecdgcdcpmgaaa", sum := "e81155c5eaef3ad9ae04ab27f17d56cde227dfe3fd026c5037adbf0be0018415", func := "culet/culetlaw32.CellPart", spec := "cellPart", unfollowed := true, recurses := true, apart := false }
def CellPartSaid : Prop := cellPartRow.holds Try.pinned (OpenSpec.ofChange cellPartSpec)

/-- ITS FALSE NEIGHBOUR: 'it returns false'. Refute it at one input. -/
def cellPartWrong : ChangeSpec := { name := "cellPart", fn := fun _ => fun
  | [d1, d2, d3] => { results := [.lit (.bool false)], args := [d1, d2, d3] }
  | _ => none }
def CellPartWrongFalsely : Prop := cellPartRow.holds Try.pinned (OpenSpec.ofChange cellPartWrong)

/-- 'culetlaw32.CellHeights': WHATEVER THE INPUT: true; the input reads as it did. -/
def cellHeightsSpec : ChangeSpec := { name := "cellHeights", fn := fun _ => fun
  | [d1, d2, d3] => { results := [.lit (.bool true)], args := [d1, d2, d3] }
  | _ => none }
def cellHeightsRow : OpenClaim := { program := "ytiecdgcdcpmgaaa", sum := "e81155c5eaef3ad9ae04ab27f17d56cde227dfe3fd026c5037adbf0be0018415", func := "culet/culetlaw32.CellHeights", spec := "cellHeights", unfollowed := true, recurses := true, apart := false }
def CellHeightsSaid : Prop := cellHeightsRow.holds Try.pinned (OpenSpec.ofChange cellHeightsSpec)

/-- ITS FALSE NEIGHBOUR: 'it returns false'. Refute it at one input. -/
def cellHeightsWrong : ChangeSpec := { name := "cellHeights", fn := fun _ => fun
  | [d1, d2, d3] => { results := [.lit (.bool false)], args := [d1, d2, d3] }
  | _ => none }
def CellHeightsWrongFalsely : Prop := cellHeightsRow.holds Try.pinned (OpenSpec.ofChange cellHeightsWrong)

/-- 'culetlaw33.RefineHalves': WHATEVER THE INPUT: true; the input reads as it did. -/
def refineHalvesSpec : ChangeSpec := { name := "refineHalves", fn := fun _ => fun
  | [d] => { results := [.lit (.bool true)], args := [d] }
  | _ => none }
def refineHalvesRow : OpenClaim := { program := "ytiecdgcdcpmgaaa", sum := "e81155c5eaef3ad9ae04ab27f17d56cde227dfe3fd026c5037adbf0be0018415", func := "culet/culetlaw33.RefineHalves", spec := "refineHalves", unfollowed := true, recurses := true, apart := false }
def RefineHalvesSaid : Prop := refineHalvesRow.holds Try.pinned (OpenSpec.ofChange refineHalvesSpec)

/-- ITS FALSE NEIGHBOUR: 'it returns false'. Refute it at one input. -/
def refineHalvesWrong : ChangeSpec := { name := "refineHalves", fn := fun _ => fun
  | [d] => { results := [.lit (.bool false)], args := [d] }
  | _ => none }
def RefineHalvesWrongFalsely : Prop := refineHalvesRow.holds Try.pinned (OpenSpec.ofChange refineHalvesWrong)

/-- 'culetlaw33.RefineMonotone': WHATEVER THE INPUT: true; the input reads as it did. -/
def refineMonotoneSpec : ChangeSpec := { name := "refineMonotone", fn := fun _ => fun
  | [d1, d2, d3] => { results := [.lit (.bool true)], args := [d1, d2, d3] }
  | _ => none }
def refineMonotoneRow : OpenClaim := { program := "ytiecdgcdcpmgaaa", sum := "e81155c5eaef3ad9ae04ab27f17d56cde227dfe3fd026c5037adbf0be0018415", func := "culet/culetlaw33.RefineMonotone", spec := "refineMonotone", unfollowed := true, recurses := true, apart := false }
def RefineMonotoneSaid : Prop := refineMonotoneRow.holds Try.pinned (OpenSpec.ofChange refineMonotoneSpec)

/-- ITS FALSE NEIGHBOUR: 'it returns false'. Refute it at one input. -/
def refineMonotoneWrong : ChangeSpec := { name := "refineMonotone", fn := fun _ => fun
  | [d1, d2, d3] => { results := [.lit (.bool false)], args := [d1, d2, d3] }
  | _ => none }
def RefineMonotoneWrongFalsely : Prop := refineMonotoneRow.holds Try.pinned (OpenSpec.ofChange refineMonotoneWrong)

/-- 'culetlaw33.RefineSum': WHATEVER THE INPUT: true; the input reads as it did. -/
def refineSumSpec : ChangeSpec := { name := "refineSum", fn := fun _ => fun
  | [d1, d2, d3] => { results := [.lit (.bool true)], args := [d1, d2, d3] }
  | _ => none }
def refineSumRow : OpenClaim := { program := "ytiecdgcdcpmgaaa", sum := "e81155c5eaef3ad9ae04ab27f17d56cde227dfe3fd026c5037adbf0be0018415", func := "culet/culetlaw33.RefineSum", spec := "refineSum", unfollowed := true, recurses := true, apart := false }
def RefineSumSaid : Prop := refineSumRow.holds Try.pinned (OpenSpec.ofChange refineSumSpec)

/-- ITS FALSE NEIGHBOUR: 'it returns false'. Refute it at one input. -/
def refineSumWrong : ChangeSpec := { name := "refineSum", fn := fun _ => fun
  | [d1, d2, d3] => { results := [.lit (.bool false)], args := [d1, d2, d3] }
  | _ => none }
def RefineSumWrongFalsely : Prop := refineSumRow.holds Try.pinned (OpenSpec.ofChange refineSumWrong)

/-- 'culetlaw33.RefineBounces': WHATEVER THE INPUT: true; the input reads as it did. -/
def refineBouncesSpec : ChangeSpec := { name := "refineBounces", fn := fun _ => fun
  | [d1, d2, d3] => { results := [.lit (.bool true)], args := [d1, d2, d3] }
  | _ => none }
def refineBouncesRow : OpenClaim := { program := "ytiecdgcdcpmgaaa", sum := "e81155c5eaef3ad9ae04ab27f17d56cde227dfe3fd026c5037adbf0be0018415", func := "culet/culetlaw33.RefineBounces", spec := "refineBounces", unfollowed := true, recurses := true, apart := false }
def RefineBouncesSaid : Prop := refineBouncesRow.holds Try.pinned (OpenSpec.ofChange refineBouncesSpec)

/-- ITS FALSE NEIGHBOUR: 'it returns false'. Refute it at one input. -/
def refineBouncesWrong : ChangeSpec := { name := "refineBounces", fn := fun _ => fun
  | [d1, d2, d3] => { results := [.lit (.bool false)], args := [d1, d2, d3] }
  | _ => none }
def RefineBouncesWrongFalsely : Prop := refineBouncesRow.holds Try.pinned (OpenSpec.ofChange refineBouncesWrong)

/- THE SECOND FORM. 'bulk': how many values and letters a reading holds, each counted each time it is reached (what is shared counts as often as it is met; a slice's spare places count too). A statement '..UptoSaid' is the law's where the arguments, and the package variables that the reading takes, are together of bulk at most 1048576: NARROWER than '..Said'. Prove '..Said' where nothing that the law and all that it calls make is longer than what came in: it says more and counts as full. Else prove '..UptoSaid'. A law counts once. -/
mutual
def uptoBulk {H : Type} : DataW H → Nat
  | .lit (.string bytes) => bytes.length + 1
  | .lit _ => 1
  | .nil => 1
  | .ptr d => uptoBulk d + 1
  | .slice elems spare => uptoBulkAll elems + uptoBulkAll spare + 1
  | .agg parts => uptoBulkAll parts + 1
  | .iface _ d => uptoBulk d + 1
  | .map entries => uptoBulkEntries entries + 1
  | .held _ => 1
def uptoBulkAll {H : Type} : List (DataW H) → Nat
  | [] => 0
  | d :: r => uptoBulk d + uptoBulkAll r
def uptoBulkEntries {H : Type} : List (Lit × DataW H) → Nat
  | [] => 0
  | x :: r => uptoBulkEntry x + uptoBulkEntries r
def uptoBulkEntry {H : Type} : Lit × DataW H → Nat
  | (.string bytes, d) => bytes.length + uptoBulk d + 1
  | (_, d) => uptoBulk d + 1
 end
def uptoSmall : (H : Type) → List (DataW H) → Bool := fun _ ds => decide (uptoBulkAll ds ≤ 1048576)
def OpenSpec.upto (s : _root_.Go.ChangeSpec) : _root_.Go.OpenSpec := { _root_.Go.OpenSpec.ofChange s with cond := some uptoSmall }

/-- 'culetlaw32.CellPart', WHERE WHAT IT READS IS OF BULK AT MOST 1048576: true; the input reads as it did. -/
def cellPartUptoRow : OpenClaim := { program := "ytiecdgcdcpmgaaa", sum := "e81155c5eaef3ad9ae04ab27f17d56cde227dfe3fd026c5037adbf0be0018415", func := "culet/culetlaw32.CellPart", spec := "cellPart", unfollowed := true, recurses := true, apart := false, narrowed := true }
def CellPartUptoSaid : Prop := cellPartUptoRow.holds Try.pinned (OpenSpec.upto cellPartSpec)

/-- 'culetlaw32.CellHeights', WHERE WHAT IT READS IS OF BULK AT MOST 1048576: true; the input reads as it did. -/
def cellHeightsUptoRow : OpenClaim := { program := "ytiecdgcdcpmgaaa", sum := "e81155c5eaef3ad9ae04ab27f17d56cde227dfe3fd026c5037adbf0be0018415", func := "culet/culetlaw32.CellHeights", spec := "cellHeights", unfollowed := true, recurses := true, apart := false, narrowed := true }
def CellHeightsUptoSaid : Prop := cellHeightsUptoRow.holds Try.pinned (OpenSpec.upto cellHeightsSpec)

/-- 'culetlaw33.RefineHalves', WHERE WHAT IT READS IS OF BULK AT MOST 1048576: true; the input reads as it did. -/
def refineHalvesUptoRow : OpenClaim := { program := "ytiecdgcdcpmgaaa", sum := "e81155c5eaef3ad9ae04ab27f17d56cde227dfe3fd026c5037adbf0be0018415", func := "culet/culetlaw33.RefineHalves", spec := "refineHalves", unfollowed := true, recurses := true, apart := false, narrowed := true }
def RefineHalvesUptoSaid : Prop := refineHalvesUptoRow.holds Try.pinned (OpenSpec.upto refineHalvesSpec)

/-- 'culetlaw33.RefineMonotone', WHERE WHAT IT READS IS OF BULK AT MOST 1048576: true; the input reads as it did. -/
def refineMonotoneUptoRow : OpenClaim := { program := "ytiecdgcdcpmgaaa", sum := "e81155c5eaef3ad9ae04ab27f17d56cde227dfe3fd026c5037adbf0be0018415", func := "culet/culetlaw33.RefineMonotone", spec := "refineMonotone", unfollowed := true, recurses := true, apart := false, narrowed := true }
def RefineMonotoneUptoSaid : Prop := refineMonotoneUptoRow.holds Try.pinned (OpenSpec.upto refineMonotoneSpec)

/-- 'culetlaw33.RefineSum', WHERE WHAT IT READS IS OF BULK AT MOST 1048576: true; the input reads as it did. -/
def refineSumUptoRow : OpenClaim := { program := "ytiecdgcdcpmgaaa", sum := "e81155c5eaef3ad9ae04ab27f17d56cde227dfe3fd026c5037adbf0be0018415", func := "culet/culetlaw33.RefineSum", spec := "refineSum", unfollowed := true, recurses := true, apart := false, narrowed := true }
def RefineSumUptoSaid : Prop := refineSumUptoRow.holds Try.pinned (OpenSpec.upto refineSumSpec)

/-- 'culetlaw33.RefineBounces', WHERE WHAT IT READS IS OF BULK AT MOST 1048576: true; the input reads as it did. -/
def refineBouncesUptoRow : OpenClaim := { program := "ytiecdgcdcpmgaaa", sum := "e81155c5eaef3ad9ae04ab27f17d56cde227dfe3fd026c5037adbf0be0018415", func := "culet/culetlaw33.RefineBounces", spec := "refineBounces", unfollowed := true, recurses := true, apart := false, narrowed := true }
def RefineBouncesUptoSaid : Prop := refineBouncesUptoRow.holds Try.pinned (OpenSpec.upto refineBouncesSpec)

end Rows
end Go.Proofs.Ytiecdgcdcpmgaaa
