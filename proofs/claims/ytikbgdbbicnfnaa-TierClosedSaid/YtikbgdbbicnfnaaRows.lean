/-
  No cell of these rows narrows 'for every input' (looked for: loops, veiled, ifaces, maps, wideKeys, modest, calm, conditions, laid).
  DERIVED. THE GIVEN ROWS OF THIS SEAT. 7 by the template 'for every input the law returns true; each argument reads behind the call as it read before'; 0 by the template 'total and deterministic' (their statements: YtikbgdbbicnfnaaTotals.lean).
  GIVEN WITH THE SEED: the statements are not yours to turn. If you find one false, say at which input.
  Laid BY PROGRAM, IN A SANDBOX (cutbox-rows.mjs): the forced cells as the released guide's own fill.sh prints them over the translation e3f864ef8086d025… (all of the seat's roots in one cut). By AI agents, Wed Nov 11 2026. No macro, syntax, notation, axiom, sorry.
-/
import Derived.Test.YtikbgdbbicnfnaaChecked
import GoSem.Claim
import GoSem.ClaimJoined
import GoSem.ClaimMapViews
import Derived.JoinedTies
import Derived.KernelRfl
namespace Go.Proofs.Ytikbgdbbicnfnaa
/- THE CELL 'sum', in the pinned program and in every row, IS THE sha256 OF THE DUMP (.gsa) THAT YtikbgdbbicnfnaaProg.lean LOADS. Nothing in Lean hashes anything: it is a label: what it is worth is what the hold of that sum in a sandbox is worth. -/
noncomputable def Try.pinned : Pinned := { name := "ytikbgdbbicnfnaa", sum := "e3f864ef8086d0256791ca338850750e97c31e57304cc55fdb619edccf4195dd", checked := Try.checked }
namespace Rows
def none {H : Type} : Left H := { results := [], args := [] }

/-- 'culetlaw16.TierOrbit': WHATEVER THE INPUT: true; the input reads as it did. -/
def tierOrbitSpec : ChangeSpec := { name := "tierOrbit", fn := fun _ => fun
  | [d] => { results := [.lit (.bool true)], args := [d] }
  | _ => none }
def tierOrbitRow : OpenClaim := { program := "ytikbgdbbicnfnaa", sum := "e3f864ef8086d0256791ca338850750e97c31e57304cc55fdb619edccf4195dd", func := "culet/culetlaw16.TierOrbit", spec := "tierOrbit", apart := false }
def TierOrbitSaid : Prop := tierOrbitRow.holds Try.pinned (OpenSpec.ofChange tierOrbitSpec)

/-- ITS FALSE NEIGHBOUR: 'it returns false'. Refute it at one input. -/
def tierOrbitWrong : ChangeSpec := { name := "tierOrbit", fn := fun _ => fun
  | [d] => { results := [.lit (.bool false)], args := [d] }
  | _ => none }
def TierOrbitWrongFalsely : Prop := tierOrbitRow.holds Try.pinned (OpenSpec.ofChange tierOrbitWrong)

/-- 'culetlaw16.TierClosed': WHATEVER THE INPUT: true; the input reads as it did. -/
def tierClosedSpec : ChangeSpec := { name := "tierClosed", fn := fun _ => fun
  | [d1, d2] => { results := [.lit (.bool true)], args := [d1, d2] }
  | _ => none }
def tierClosedRow : OpenClaim := { program := "ytikbgdbbicnfnaa", sum := "e3f864ef8086d0256791ca338850750e97c31e57304cc55fdb619edccf4195dd", func := "culet/culetlaw16.TierClosed", spec := "tierClosed", apart := false }
def TierClosedSaid : Prop := tierClosedRow.holds Try.pinned (OpenSpec.ofChange tierClosedSpec)

/-- ITS FALSE NEIGHBOUR: 'it returns false'. Refute it at one input. -/
def tierClosedWrong : ChangeSpec := { name := "tierClosed", fn := fun _ => fun
  | [d1, d2] => { results := [.lit (.bool false)], args := [d1, d2] }
  | _ => none }
def TierClosedWrongFalsely : Prop := tierClosedRow.holds Try.pinned (OpenSpec.ofChange tierClosedWrong)

/-- 'culetlaw36.ContrastForms': WHATEVER THE INPUT: true; the input reads as it did. -/
def contrastFormsSpec : ChangeSpec := { name := "contrastForms", fn := fun _ => fun
  | [d1, d2] => { results := [.lit (.bool true)], args := [d1, d2] }
  | _ => none }
def contrastFormsRow : OpenClaim := { program := "ytikbgdbbicnfnaa", sum := "e3f864ef8086d0256791ca338850750e97c31e57304cc55fdb619edccf4195dd", func := "culet/culetlaw36.ContrastForms", spec := "contrastForms", unfollowed := true, recurses := true, apart := false }
def ContrastFormsSaid : Prop := contrastFormsRow.holds Try.pinned (OpenSpec.ofChange contrastFormsSpec)

/-- ITS FALSE NEIGHBOUR: 'it returns false'. Refute it at one input. -/
def contrastFormsWrong : ChangeSpec := { name := "contrastForms", fn := fun _ => fun
  | [d1, d2] => { results := [.lit (.bool false)], args := [d1, d2] }
  | _ => none }
def ContrastFormsWrongFalsely : Prop := contrastFormsRow.holds Try.pinned (OpenSpec.ofChange contrastFormsWrong)

/-- 'culetlaw36.ContrastPairs': WHATEVER THE INPUT: true; the input reads as it did. -/
def contrastPairsSpec : ChangeSpec := { name := "contrastPairs", fn := fun _ => fun
  | [d] => { results := [.lit (.bool true)], args := [d] }
  | _ => none }
def contrastPairsRow : OpenClaim := { program := "ytikbgdbbicnfnaa", sum := "e3f864ef8086d0256791ca338850750e97c31e57304cc55fdb619edccf4195dd", func := "culet/culetlaw36.ContrastPairs", spec := "contrastPairs", unfollowed := true, recurses := true, apart := false }
def ContrastPairsSaid : Prop := contrastPairsRow.holds Try.pinned (OpenSpec.ofChange contrastPairsSpec)

/-- ITS FALSE NEIGHBOUR: 'it returns false'. Refute it at one input. -/
def contrastPairsWrong : ChangeSpec := { name := "contrastPairs", fn := fun _ => fun
  | [d] => { results := [.lit (.bool false)], args := [d] }
  | _ => none }
def ContrastPairsWrongFalsely : Prop := contrastPairsRow.holds Try.pinned (OpenSpec.ofChange contrastPairsWrong)

/-- 'culetlaw36.ContrastOrder': WHATEVER THE INPUT: true; the input reads as it did. -/
def contrastOrderSpec : ChangeSpec := { name := "contrastOrder", fn := fun _ => fun
  | [d1, d2] => { results := [.lit (.bool true)], args := [d1, d2] }
  | _ => none }
def contrastOrderRow : OpenClaim := { program := "ytikbgdbbicnfnaa", sum := "e3f864ef8086d0256791ca338850750e97c31e57304cc55fdb619edccf4195dd", func := "culet/culetlaw36.ContrastOrder", spec := "contrastOrder", unfollowed := true, recurses := true, apart := false }
def ContrastOrderSaid : Prop := contrastOrderRow.holds Try.pinned (OpenSpec.ofChange contrastOrderSpec)

/-- ITS FALSE NEIGHBOUR: 'it returns false'. Refute it at one input. -/
def contrastOrderWrong : ChangeSpec := { name := "contrastOrder", fn := fun _ => fun
  | [d1, d2] => { results := [.lit (.bool false)], args := [d1, d2] }
  | _ => none }
def ContrastOrderWrongFalsely : Prop := contrastOrderRow.holds Try.pinned (OpenSpec.ofChange contrastOrderWrong)

/-- 'culetlaw36.ContrastMotions': WHATEVER THE INPUT: true; the input reads as it did. -/
def contrastMotionsSpec : ChangeSpec := { name := "contrastMotions", fn := fun _ => fun
  | [d] => { results := [.lit (.bool true)], args := [d] }
  | _ => none }
def contrastMotionsRow : OpenClaim := { program := "ytikbgdbbicnfnaa", sum := "e3f864ef8086d0256791ca338850750e97c31e57304cc55fdb619edccf4195dd", func := "culet/culetlaw36.ContrastMotions", spec := "contrastMotions", unfollowed := true, recurses := true, apart := false }
def ContrastMotionsSaid : Prop := contrastMotionsRow.holds Try.pinned (OpenSpec.ofChange contrastMotionsSpec)

/-- ITS FALSE NEIGHBOUR: 'it returns false'. Refute it at one input. -/
def contrastMotionsWrong : ChangeSpec := { name := "contrastMotions", fn := fun _ => fun
  | [d] => { results := [.lit (.bool false)], args := [d] }
  | _ => none }
def ContrastMotionsWrongFalsely : Prop := contrastMotionsRow.holds Try.pinned (OpenSpec.ofChange contrastMotionsWrong)

/-- 'culetlaw39.OptimizeKeep': WHATEVER THE INPUT: true; the input reads as it did. -/
def optimizeKeepSpec : ChangeSpec := { name := "optimizeKeep", fn := fun _ => fun
  | [d] => { results := [.lit (.bool true)], args := [d] }
  | _ => none }
def optimizeKeepRow : OpenClaim := { program := "ytikbgdbbicnfnaa", sum := "e3f864ef8086d0256791ca338850750e97c31e57304cc55fdb619edccf4195dd", func := "culet/culetlaw39.OptimizeKeep", spec := "optimizeKeep", apart := false }
def OptimizeKeepSaid : Prop := optimizeKeepRow.holds Try.pinned (OpenSpec.ofChange optimizeKeepSpec)

/-- ITS FALSE NEIGHBOUR: 'it returns false'. Refute it at one input. -/
def optimizeKeepWrong : ChangeSpec := { name := "optimizeKeep", fn := fun _ => fun
  | [d] => { results := [.lit (.bool false)], args := [d] }
  | _ => none }
def OptimizeKeepWrongFalsely : Prop := optimizeKeepRow.holds Try.pinned (OpenSpec.ofChange optimizeKeepWrong)

/- THE SECOND FORM. 'bulk': how many values and letters a reading holds, each counted each time it is reached (what is shared counts as often as it is met; a slice's spare places count too). A statement '..UptoSaid' is the law's where the arguments, and the package variables that the reading takes, are together of bulk at most 1048576: NARROWER than '..Said'. Prove '..Said' where nothing that the law and all that it calls make is longer than what came in: it says more and counts as full. Else prove '..UptoSaid'. A law counts once. -/
mutual
def uptoBulk {H : Type} : DataW H → Nat
  | .lit (.string bytes) => bytes.length + 1
  | .lit _ => 1
  | .nil => 1
  | .ptr d => uptoBulk d + 1
  | .slice elems spare => uptoBulkAll elems + uptoBulkAll spare + 1
  | .agg parts => uptoBulkAll parts + 1
  | .iface _ d => uptoBulk d + 1
  | .map entries => uptoBulkEntries entries + 1
  | .held _ => 1
def uptoBulkAll {H : Type} : List (DataW H) → Nat
  | [] => 0
  | d :: r => uptoBulk d + uptoBulkAll r
def uptoBulkEntries {H : Type} : List (Lit × DataW H) → Nat
  | [] => 0
  | x :: r => uptoBulkEntry x + uptoBulkEntries r
def uptoBulkEntry {H : Type} : Lit × DataW H → Nat
  | (.string bytes, d) => bytes.length + uptoBulk d + 1
  | (_, d) => uptoBulk d + 1
 end
def uptoSmall : (H : Type) → List (DataW H) → Bool := fun _ ds => decide (uptoBulkAll ds ≤ 1048576)
def OpenSpec.upto (s : _root_.Go.ChangeSpec) : _root_.Go.OpenSpec := { _root_.Go.OpenSpec.ofChange s with cond := some uptoSmall }

/-- 'culetlaw16.TierOrbit', WHERE WHAT IT READS IS OF BULK AT MOST 1048576: true; the input reads as it did. -/
def tierOrbitUptoRow : OpenClaim := { program := "ytikbgdbbicnfnaa", sum := "e3f864ef8086d0256791ca338850750e97c31e57304cc55fdb619edccf4195dd", func := "culet/culetlaw16.TierOrbit", spec := "tierOrbit", apart := false, narrowed := true }
def TierOrbitUptoSaid : Prop := tierOrbitUptoRow.holds Try.pinned (OpenSpec.upto tierOrbitSpec)

/-- 'culetlaw16.TierClosed', WHERE WHAT IT READS IS OF BULK AT MOST 1048576: true; the input reads as it did. -/
def tierClosedUptoRow : OpenClaim := { program := "ytikbgdbbicnfnaa", sum := "e3f864ef8086d0256791ca338850750e97c31e57304cc55fdb619edccf4195dd", func := "culet/culetlaw16.TierClosed", spec := "tierClosed", apart := false, narrowed := true }
def TierClosedUptoSaid : Prop := tierClosedUptoRow.holds Try.pinned (OpenSpec.upto tierClosedSpec)

/-- 'culetlaw36.ContrastForms', WHERE WHAT IT READS IS OF BULK AT MOST 1048576: true; the input reads as it did. -/
def contrastFormsUptoRow : OpenClaim := { program := "ytikbgdbbicnfnaa", sum := "e3f864ef8086d0256791ca338850750e97c31e57304cc55fdb619edccf4195dd", func := "culet/culetlaw36.ContrastForms", spec := "contrastForms", unfollowed := true, recurses := true, apart := false, narrowed := true }
def ContrastFormsUptoSaid : Prop := contrastFormsUptoRow.holds Try.pinned (OpenSpec.upto contrastFormsSpec)

/-- 'culetlaw36.ContrastPairs', WHERE WHAT IT READS IS OF BULK AT MOST 1048576: true; the input reads as it did. -/
def contrastPairsUptoRow : OpenClaim := { program := "ytikbgdbbicnfnaa", sum := "e3f864ef8086d0256791ca338850750e97c31e57304cc55fdb619edccf4195dd", func := "culet/culetlaw36.ContrastPairs", spec := "contrastPairs", unfollowed := true, recurses := true, apart := false, narrowed := true }
def ContrastPairsUptoSaid : Prop := contrastPairsUptoRow.holds Try.pinned (OpenSpec.upto contrastPairsSpec)

/-- 'culetlaw36.ContrastOrder', WHERE WHAT IT READS IS OF BULK AT MOST 1048576: true; the input reads as it did. -/
def contrastOrderUptoRow : OpenClaim := { program := "ytikbgdbbicnfnaa", sum := "e3f864ef8086d0256791ca338850750e97c31e57304cc55fdb619edccf4195dd", func := "culet/culetlaw36.ContrastOrder", spec := "contrastOrder", unfollowed := true, recurses := true, apart := false, narrowed := true }
def ContrastOrderUptoSaid : Prop := contrastOrderUptoRow.holds Try.pinned (OpenSpec.upto contrastOrderSpec)

/-- 'culetlaw36.ContrastMotions', WHERE WHAT IT READS IS OF BULK AT MOST 1048576: true; the input reads as it did. -/
def contrastMotionsUptoRow : OpenClaim := { program := "ytikbgdbbicnfnaa", sum := "e3f864ef8086d0256791ca338850750e97c31e57304cc55fdb619edccf4195dd", func := "culet/culetlaw36.ContrastMotions", spec := "contrastMotions", unfollowed := true, recurses := true, apart := false, narrowed := true }
def ContrastMotionsUptoSaid : Prop := contrastMotionsUptoRow.holds Try.pinned (OpenSpec.upto contrastMotionsSpec)

/-- 'culetlaw39.OptimizeKeep', WHERE WHAT IT READS IS OF BULK AT MOST 1048576: true; the input reads as it did. -/
def optimizeKeepUptoRow : OpenClaim := { program := "ytikbgdbbicnfnaa", sum := "e3f864ef8086d0256791ca338850750e97c31e57304cc55fdb619edccf4195dd", func := "culet/culetlaw39.OptimizeKeep", spec := "optimizeKeep", apart := false, narrowed := true }
def OptimizeKeepUptoSaid : Prop := optimizeKeepUptoRow.holds Try.pinned (OpenSpec.upto optimizeKeepSpec)

end Rows
end Go.Proofs.Ytikbgdbbicnfnaa
