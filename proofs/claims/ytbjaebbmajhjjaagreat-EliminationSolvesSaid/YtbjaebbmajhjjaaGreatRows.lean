/-
  No cell of these rows narrows 'for every input' (looked for: loops, veiled, ifaces, maps, wideKeys, modest, calm, conditions, laid).
  DERIVED. THE GIVEN ROWS OF THIS SEAT. 5 by the template 'for every input the law returns true; each argument reads behind the call as it read before'; 0 by the template 'total and deterministic' (their statements: YtbjaebbmajhjjaaGreatTotals.lean).
  GIVEN WITH THE SEED: the statements are not yours to turn. If you find one false, say at which input.
  Laid BY PROGRAM, IN A SANDBOX (cutbox-rows.mjs): the forced cells as the released guide's own fill.sh prints them over the translation 0dc265172edeb6e0… (all of the seat's roots in one cut). By AI agents, Wed Nov 11 2026. No macro, syntax, notation, axiom, sorry.
-/
import Derived.Test.YtbjaebbmajhjjaaGreatChecked
import GoSem.Claim
import GoSem.ClaimJoined
import GoSem.ClaimMapViews
import Derived.JoinedTies
import Derived.KernelRfl
namespace Go.Proofs.YtbjaebbmajhjjaaGreat
/- THE CELL 'sum', in the pinned program and in every row, IS THE sha256 OF THE DUMP (.gsa) THAT YtbjaebbmajhjjaaGreatProg.lean LOADS. Nothing in Lean hashes anything: it is a label: what it is worth is what the hold of that sum in a sandbox is worth. -/
noncomputable def Tryz.pinned : Pinned := { name := "ytbjaebbmajhjjaagreat", sum := "0dc265172edeb6e08789644272d3222805056bb4acee051714f65b52803f05a3", checked := Tryz.checked }
namespace Rows
def none {H : Type} : Left H := { results := [], args := [] }

/-- 'flqlaw13.EliminationExamples': WHATEVER THE INPUT: true; the input reads as it did. -/
def eliminationExamplesSpec : ChangeSpec := { name := "eliminationExamples", fn := fun _ => fun
  | [] => { results := [.lit (.bool true)], args := [] }
  | _ => none }
def eliminationExamplesRow : OpenClaim := { program := "ytbjaebbmajhjjaagreat", sum := "0dc265172edeb6e08789644272d3222805056bb4acee051714f65b52803f05a3", func := "flowquery/flqlaw13.EliminationExamples", spec := "eliminationExamples", inPlace := ["slices.overlaps[flowquery/api.Arc]"], unfollowed := true, recurses := true, apart := false }
def EliminationExamplesSaid : Prop := eliminationExamplesRow.holds Tryz.pinned (OpenSpec.ofChange eliminationExamplesSpec)

/-- ITS FALSE NEIGHBOUR: 'it returns false'. Refute it at one input. -/
def eliminationExamplesWrong : ChangeSpec := { name := "eliminationExamples", fn := fun _ => fun
  | [] => { results := [.lit (.bool false)], args := [] }
  | _ => none }
def EliminationExamplesWrongFalsely : Prop := eliminationExamplesRow.holds Tryz.pinned (OpenSpec.ofChange eliminationExamplesWrong)

/-- 'flqlaw13.EliminationAgrees': WHATEVER THE INPUT: true; the input reads as it did. -/
def eliminationAgreesSpec : ChangeSpec := { name := "eliminationAgrees", fn := fun _ => fun
  | [d1, d2, d3, d4] => { results := [.lit (.bool true)], args := [d1, d2, d3, d4] }
  | _ => none }
def eliminationAgreesRow : OpenClaim := { program := "ytbjaebbmajhjjaagreat", sum := "0dc265172edeb6e08789644272d3222805056bb4acee051714f65b52803f05a3", func := "flowquery/flqlaw13.EliminationAgrees", spec := "eliminationAgrees", inPlace := ["slices.overlaps[flowquery/api.Arc]"], unfollowed := true, recurses := true, apart := false }
def EliminationAgreesSaid : Prop := eliminationAgreesRow.holds Tryz.pinned (OpenSpec.ofChange eliminationAgreesSpec)

/-- ITS FALSE NEIGHBOUR: 'it returns false'. Refute it at one input. -/
def eliminationAgreesWrong : ChangeSpec := { name := "eliminationAgrees", fn := fun _ => fun
  | [d1, d2, d3, d4] => { results := [.lit (.bool false)], args := [d1, d2, d3, d4] }
  | _ => none }
def EliminationAgreesWrongFalsely : Prop := eliminationAgreesRow.holds Tryz.pinned (OpenSpec.ofChange eliminationAgreesWrong)

/-- 'flqlaw13.EliminationKeeps': WHATEVER THE INPUT: true; the input reads as it did. -/
def eliminationKeepsSpec : ChangeSpec := { name := "eliminationKeeps", fn := fun _ => fun
  | [d] => { results := [.lit (.bool true)], args := [d] }
  | _ => none }
def eliminationKeepsRow : OpenClaim := { program := "ytbjaebbmajhjjaagreat", sum := "0dc265172edeb6e08789644272d3222805056bb4acee051714f65b52803f05a3", func := "flowquery/flqlaw13.EliminationKeeps", spec := "eliminationKeeps", inPlace := ["slices.overlaps[flowquery/api.Arc]"], unfollowed := true, recurses := true, apart := false }
def EliminationKeepsSaid : Prop := eliminationKeepsRow.holds Tryz.pinned (OpenSpec.ofChange eliminationKeepsSpec)

/-- ITS FALSE NEIGHBOUR: 'it returns false'. Refute it at one input. -/
def eliminationKeepsWrong : ChangeSpec := { name := "eliminationKeeps", fn := fun _ => fun
  | [d] => { results := [.lit (.bool false)], args := [d] }
  | _ => none }
def EliminationKeepsWrongFalsely : Prop := eliminationKeepsRow.holds Tryz.pinned (OpenSpec.ofChange eliminationKeepsWrong)

/-- 'flqlaw13.EliminationReduces': WHATEVER THE INPUT: true; the input reads as it did. -/
def eliminationReducesSpec : ChangeSpec := { name := "eliminationReduces", fn := fun _ => fun
  | [d] => { results := [.lit (.bool true)], args := [d] }
  | _ => none }
def eliminationReducesRow : OpenClaim := { program := "ytbjaebbmajhjjaagreat", sum := "0dc265172edeb6e08789644272d3222805056bb4acee051714f65b52803f05a3", func := "flowquery/flqlaw13.EliminationReduces", spec := "eliminationReduces", inPlace := ["slices.overlaps[flowquery/api.Arc]"], unfollowed := true, recurses := true, apart := false }
def EliminationReducesSaid : Prop := eliminationReducesRow.holds Tryz.pinned (OpenSpec.ofChange eliminationReducesSpec)

/-- ITS FALSE NEIGHBOUR: 'it returns false'. Refute it at one input. -/
def eliminationReducesWrong : ChangeSpec := { name := "eliminationReduces", fn := fun _ => fun
  | [d] => { results := [.lit (.bool false)], args := [d] }
  | _ => none }
def EliminationReducesWrongFalsely : Prop := eliminationReducesRow.holds Tryz.pinned (OpenSpec.ofChange eliminationReducesWrong)

/-- 'flqlaw13.EliminationSolves': WHATEVER THE INPUT: true; the input reads as it did. -/
def eliminationSolvesSpec : ChangeSpec := { name := "eliminationSolves", fn := fun _ => fun
  | [d] => { results := [.lit (.bool true)], args := [d] }
  | _ => none }
def eliminationSolvesRow : OpenClaim := { program := "ytbjaebbmajhjjaagreat", sum := "0dc265172edeb6e08789644272d3222805056bb4acee051714f65b52803f05a3", func := "flowquery/flqlaw13.EliminationSolves", spec := "eliminationSolves", inPlace := ["slices.overlaps[flowquery/api.Arc]"], unfollowed := true, recurses := true, apart := false }
def EliminationSolvesSaid : Prop := eliminationSolvesRow.holds Tryz.pinned (OpenSpec.ofChange eliminationSolvesSpec)

/-- ITS FALSE NEIGHBOUR: 'it returns false'. Refute it at one input. -/
def eliminationSolvesWrong : ChangeSpec := { name := "eliminationSolves", fn := fun _ => fun
  | [d] => { results := [.lit (.bool false)], args := [d] }
  | _ => none }
def EliminationSolvesWrongFalsely : Prop := eliminationSolvesRow.holds Tryz.pinned (OpenSpec.ofChange eliminationSolvesWrong)

/- THE SECOND FORM. 'bulk': how many values and letters a reading holds, each counted each time it is reached (what is shared counts as often as it is met; a slice's spare places count too). A statement '..UptoSaid' is the law's where the arguments, and the package variables that the reading takes, are together of bulk at most 1048576: NARROWER than '..Said'. Prove '..Said' where nothing that the law and all that it calls make is longer than what came in: it says more and counts as full. Else prove '..UptoSaid'. A law counts once. -/
mutual
def uptoBulk {H : Type} : DataW H → Nat
  | .lit (.string bytes) => bytes.length + 1
  | .lit _ => 1
  | .nil => 1
  | .ptr d => uptoBulk d + 1
  | .slice elems spare => uptoBulkAll elems + uptoBulkAll spare + 1
  | .agg parts => uptoBulkAll parts + 1
  | .iface _ d => uptoBulk d + 1
  | .map entries => uptoBulkEntries entries + 1
  | .held _ => 1
def uptoBulkAll {H : Type} : List (DataW H) → Nat
  | [] => 0
  | d :: r => uptoBulk d + uptoBulkAll r
def uptoBulkEntries {H : Type} : List (Lit × DataW H) → Nat
  | [] => 0
  | x :: r => uptoBulkEntry x + uptoBulkEntries r
def uptoBulkEntry {H : Type} : Lit × DataW H → Nat
  | (.string bytes, d) => bytes.length + uptoBulk d + 1
  | (_, d) => uptoBulk d + 1
 end
def uptoSmall : (H : Type) → List (DataW H) → Bool := fun _ ds => decide (uptoBulkAll ds ≤ 1048576)
def OpenSpec.upto (s : _root_.Go.ChangeSpec) : _root_.Go.OpenSpec := { _root_.Go.OpenSpec.ofChange s with cond := some uptoSmall }

/-- 'flqlaw13.EliminationExamples', WHERE WHAT IT READS IS OF BULK AT MOST 1048576: true; the input reads as it did. -/
def eliminationExamplesUptoRow : OpenClaim := { program := "ytbjaebbmajhjjaagreat", sum := "0dc265172edeb6e08789644272d3222805056bb4acee051714f65b52803f05a3", func := "flowquery/flqlaw13.EliminationExamples", spec := "eliminationExamples", inPlace := ["slices.overlaps[flowquery/api.Arc]"], unfollowed := true, recurses := true, apart := false, narrowed := true }
def EliminationExamplesUptoSaid : Prop := eliminationExamplesUptoRow.holds Tryz.pinned (OpenSpec.upto eliminationExamplesSpec)

/-- 'flqlaw13.EliminationAgrees', WHERE WHAT IT READS IS OF BULK AT MOST 1048576: true; the input reads as it did. -/
def eliminationAgreesUptoRow : OpenClaim := { program := "ytbjaebbmajhjjaagreat", sum := "0dc265172edeb6e08789644272d3222805056bb4acee051714f65b52803f05a3", func := "flowquery/flqlaw13.EliminationAgrees", spec := "eliminationAgrees", inPlace := ["slices.overlaps[flowquery/api.Arc]"], unfollowed := true, recurses := true, apart := false, narrowed := true }
def EliminationAgreesUptoSaid : Prop := eliminationAgreesUptoRow.holds Tryz.pinned (OpenSpec.upto eliminationAgreesSpec)

/-- 'flqlaw13.EliminationKeeps', WHERE WHAT IT READS IS OF BULK AT MOST 1048576: true; the input reads as it did. -/
def eliminationKeepsUptoRow : OpenClaim := { program := "ytbjaebbmajhjjaagreat", sum := "0dc265172edeb6e08789644272d3222805056bb4acee051714f65b52803f05a3", func := "flowquery/flqlaw13.EliminationKeeps", spec := "eliminationKeeps", inPlace := ["slices.overlaps[flowquery/api.Arc]"], unfollowed := true, recurses := true, apart := false, narrowed := true }
def EliminationKeepsUptoSaid : Prop := eliminationKeepsUptoRow.holds Tryz.pinned (OpenSpec.upto eliminationKeepsSpec)

/-- 'flqlaw13.EliminationReduces', WHERE WHAT IT READS IS OF BULK AT MOST 1048576: true; the input reads as it did. -/
def eliminationReducesUptoRow : OpenClaim := { program := "ytbjaebbmajhjjaagreat", sum := "0dc265172edeb6e08789644272d3222805056bb4acee051714f65b52803f05a3", func := "flowquery/flqlaw13.EliminationReduces", spec := "eliminationReduces", inPlace := ["slices.overlaps[flowquery/api.Arc]"], unfollowed := true, recurses := true, apart := false, narrowed := true }
def EliminationReducesUptoSaid : Prop := eliminationReducesUptoRow.holds Tryz.pinned (OpenSpec.upto eliminationReducesSpec)

/-- 'flqlaw13.EliminationSolves', WHERE WHAT IT READS IS OF BULK AT MOST 1048576: true; the input reads as it did. -/
def eliminationSolvesUptoRow : OpenClaim := { program := "ytbjaebbmajhjjaagreat", sum := "0dc265172edeb6e08789644272d3222805056bb4acee051714f65b52803f05a3", func := "flowquery/flqlaw13.EliminationSolves", spec := "eliminationSolves", inPlace := ["slices.overlaps[flowquery/api.Arc]"], unfollowed := true, recurses := true, apart := false, narrowed := true }
def EliminationSolvesUptoSaid : Prop := eliminationSolvesUptoRow.holds Tryz.pinned (OpenSpec.upto eliminationSolvesSpec)

end Rows
end Go.Proofs.YtbjaebbmajhjjaaGreat
