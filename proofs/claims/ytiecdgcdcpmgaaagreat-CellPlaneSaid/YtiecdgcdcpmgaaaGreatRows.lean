/-
  No cell of these rows narrows 'for every input' (looked for: loops, veiled, ifaces, maps, wideKeys, modest, calm, conditions, laid).
  DERIVED. THE GIVEN ROWS OF THIS SEAT. 3 by the template 'for every input the law returns true; each argument reads behind the call as it read before'; 0 by the template 'total and deterministic' (their statements: YtiecdgcdcpmgaaaGreatTotals.lean).
  GIVEN WITH THE SEED: the statements are not yours to turn. If you find one false, say at which input.
  Laid BY PROGRAM, IN A SANDBOX (cutbox-rows.mjs): the forced cells as the released guide's own fill.sh prints them over the translation f146033a17a306f6… (all of the seat's roots in one cut). By AI agents, Wed Nov 11 2026. No macro, syntax, notation, axiom, sorry.
-/
import Derived.Test.YtiecdgcdcpmgaaaGreatChecked
import GoSem.Claim
import GoSem.ClaimJoined
import GoSem.ClaimMapViews
import Derived.JoinedTies
import Derived.KernelRfl
namespace Go.Proofs.YtiecdgcdcpmgaaaGreat
/- THE CELL 'sum', in the pinned program and in every row, IS THE sha256 OF THE DUMP (.gsa) THAT YtiecdgcdcpmgaaaGreatProg.lean LOADS. Nothing in Lean hashes anything: it is a label: what it is worth is what the hold of that sum in a sandbox is worth. -/
noncomputable def Tryz.pinned : Pinned := { name := "ytiecdgcdcpmgaaagreat", sum := "f146033a17a306f64967c82cd8de8422fd1e85de321daa4d60f32e1fb577366f", checked := Tryz.checked }
namespace Rows
def none {H : Type} : Left H := { results := [], args := [] }

/-- 'culetlaw32.CellRays': WHATEVER THE INPUT: true; the input reads as it did. -/
def cellRaysSpec : ChangeSpec := { name := "cellRays", fn := fun _ => fun
  | [d1, d2, d3] => { results := [.lit (.bool true)], args := [d1, d2, d3] }
  | _ => none }
def cellRaysRow : OpenClaim := { program := "ytiecdgcdcpmgaaagreat", sum := "f146033a17a306f64967c82cd8de8422fd1e85de321daa4d60f32e1fb577366f", func := "culet/culetlaw32.CellRays", spec := "cellRays", unfollowed := true, recurses := true, apart := false }
def CellRaysSaid : Prop := cellRaysRow.holds Tryz.pinned (OpenSpec.ofChange cellRaysSpec)

/-- ITS FALSE NEIGHBOUR: 'it returns false'. Refute it at one input. -/
def cellRaysWrong : ChangeSpec := { name := "cellRays", fn := fun _ => fun
  | [d1, d2, d3] => { results := [.lit (.bool false)], args := [d1, d2, d3] }
  | _ => none }
def CellRaysWrongFalsely : Prop := cellRaysRow.holds Tryz.pinned (OpenSpec.ofChange cellRaysWrong)

/-- 'culetlaw32.CellPlane': WHATEVER THE INPUT: true; the input reads as it did. -/
def cellPlaneSpec : ChangeSpec := { name := "cellPlane", fn := fun _ => fun
  | [d1, d2] => { results := [.lit (.bool true)], args := [d1, d2] }
  | _ => none }
def cellPlaneRow : OpenClaim := { program := "ytiecdgcdcpmgaaagreat", sum := "f146033a17a306f64967c82cd8de8422fd1e85de321daa4d60f32e1fb577366f", func := "culet/culetlaw32.CellPlane", spec := "cellPlane", unfollowed := true, recurses := true, apart := false }
def CellPlaneSaid : Prop := cellPlaneRow.holds Tryz.pinned (OpenSpec.ofChange cellPlaneSpec)

/-- ITS FALSE NEIGHBOUR: 'it returns false'. Refute it at one input. -/
def cellPlaneWrong : ChangeSpec := { name := "cellPlane", fn := fun _ => fun
  | [d1, d2] => { results := [.lit (.bool false)], args := [d1, d2] }
  | _ => none }
def CellPlaneWrongFalsely : Prop := cellPlaneRow.holds Tryz.pinned (OpenSpec.ofChange cellPlaneWrong)

/-- 'culetlaw33.RefineCover': WHATEVER THE INPUT: true; the input reads as it did. -/
def refineCoverSpec : ChangeSpec := { name := "refineCover", fn := fun _ => fun
  | [d1, d2, d3] => { results := [.lit (.bool true)], args := [d1, d2, d3] }
  | _ => none }
def refineCoverRow : OpenClaim := { program := "ytiecdgcdcpmgaaagreat", sum := "f146033a17a306f64967c82cd8de8422fd1e85de321daa4d60f32e1fb577366f", func := "culet/culetlaw33.RefineCover", spec := "refineCover", unfollowed := true, recurses := true, apart := false }
def RefineCoverSaid : Prop := refineCoverRow.holds Tryz.pinned (OpenSpec.ofChange refineCoverSpec)

/-- ITS FALSE NEIGHBOUR: 'it returns false'. Refute it at one input. -/
def refineCoverWrong : ChangeSpec := { name := "refineCover", fn := fun _ => fun
  | [d1, d2, d3] => { results := [.lit (.bool false)], args := [d1, d2, d3] }
  | _ => none }
def RefineCoverWrongFalsely : Prop := refineCoverRow.holds Tryz.pinned (OpenSpec.ofChange refineCoverWrong)

/- THE SECOND FORM. 'bulk': how many values and letters a reading holds, each counted each time it is reached (what is shared counts as often as it is met; a slice's spare places count too). A statement '..UptoSaid' is the law's where the arguments, and the package variables that the reading takes, are together of bulk at most 1048576: NARROWER than '..Said'. Prove '..Said' where nothing that the law and all that it calls make is longer than what came in: it says more and counts as full. Else prove '..UptoSaid'. A law counts once. -/
mutual
def uptoBulk {H : Type} : DataW H → Nat
  | .lit (.string bytes) => bytes.length + 1
  | .lit _ => 1
  | .nil => 1
  | .ptr d => uptoBulk d + 1
  | .slice elems spare => uptoBulkAll elems + uptoBulkAll spare + 1
  | .agg parts => uptoBulkAll parts + 1
  | .iface _ d => uptoBulk d + 1
  | .map entries => uptoBulkEntries entries + 1
  | .held _ => 1
def uptoBulkAll {H : Type} : List (DataW H) → Nat
  | [] => 0
  | d :: r => uptoBulk d + uptoBulkAll r
def uptoBulkEntries {H : Type} : List (Lit × DataW H) → Nat
  | [] => 0
  | x :: r => uptoBulkEntry x + uptoBulkEntries r
def uptoBulkEntry {H : Type} : Lit × DataW H → Nat
  | (.string bytes, d) => bytes.length + uptoBulk d + 1
  | (_, d) => uptoBulk d + 1
 end
def uptoSmall : (H : Type) → List (DataW H) → Bool := fun _ ds => decide (uptoBulkAll ds ≤ 1048576)
def OpenSpec.upto (s : _root_.Go.ChangeSpec) : _root_.Go.OpenSpec := { _root_.Go.OpenSpec.ofChange s with cond := some uptoSmall }

/-- 'culetlaw32.CellRays', WHERE WHAT IT READS IS OF BULK AT MOST 1048576: true; the input reads as it did. -/
def cellRaysUptoRow : OpenClaim := { program := "ytiecdgcdcpmgaaagreat", sum := "f146033a17a306f64967c82cd8de8422fd1e85de321daa4d60f32e1fb577366f", func := "culet/culetlaw32.CellRays", spec := "cellRays", unfollowed := true, recurses := true, apart := false, narrowed := true }
def CellRaysUptoSaid : Prop := cellRaysUptoRow.holds Tryz.pinned (OpenSpec.upto cellRaysSpec)

/-- 'culetlaw32.CellPlane', WHERE WHAT IT READS IS OF BULK AT MOST 1048576: true; the input reads as it did. -/
def cellPlaneUptoRow : OpenClaim := { program := "ytiecdgcdcpmgaaagreat", sum := "f146033a17a306f64967c82cd8de8422fd1e85de321daa4d60f32e1fb577366f", func := "culet/culetlaw32.CellPlane", spec := "cellPlane", unfollowed := true, recurses := true, apart := false, narrowed := true }
def CellPlaneUptoSaid : Prop := cellPlaneUptoRow.holds Tryz.pinned (OpenSpec.upto cellPlaneSpec)

/-- 'culetlaw33.RefineCover', WHERE WHAT IT READS IS OF BULK AT MOST 1048576: true; the input reads as it did. -/
def refineCoverUptoRow : OpenClaim := { program := "ytiecdgcdcpmgaaagreat", sum := "f146033a17a306f64967c82cd8de8422fd1e85de321daa4d60f32e1fb577366f", func := "culet/culetlaw33.RefineCover", spec := "refineCover", unfollowed := true, recurses := true, apart := false, narrowed := true }
def RefineCoverUptoSaid : Prop := refineCoverUptoRow.holds Tryz.pinned (OpenSpec.upto refineCoverSpec)

end Rows
end Go.Proofs.YtiecdgcdcpmgaaaGreat
