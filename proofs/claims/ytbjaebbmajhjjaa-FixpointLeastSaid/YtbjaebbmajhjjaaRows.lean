/-
  No cell of these rows narrows 'for every input' (looked for: loops, veiled, ifaces, maps, wideKeys, modest, calm, conditions, laid).
  DERIVED. THE GIVEN ROWS OF THIS SEAT. 6 by the template 'for every input the law returns true; each argument reads behind the call as it read before'; 0 by the template 'total and deterministic' (their statements: YtbjaebbmajhjjaaTotals.lean).
  GIVEN WITH THE SEED: the statements are not yours to turn. If you find one false, say at which input.
  Laid BY PROGRAM, IN A SANDBOX (cutbox-rows.mjs): the forced cells as the released guide's own fill.sh prints them over the translation ab9e9d735e73bdd1… (all of the seat's roots in one cut). By AI agents, Wed Nov 11 2026. No macro, syntax, notation, axiom, sorry.
-/
import Derived.Test.YtbjaebbmajhjjaaChecked
import GoSem.Claim
import GoSem.ClaimJoined
import GoSem.ClaimMapViews
import Derived.JoinedTies
import Derived.KernelRfl
namespace Go.Proofs.Ytbjaebbmajhjjaa
/- THE CELL 'sum', in the pinned program and in every row, IS THE sha256 OF THE DUMP (.gsa) THAT YtbjaebbmajhjjaaProg.lean LOADS. Nothing in Lean hashes anything: it is a label: what it is worth is what the hold of that sum in a sandbox is worth. -/
noncomputable def Try.pinned : Pinned := { name := "ytbjaebbmajhjjaa", sum := "ab9e9d735e73bdd1d1e31061a0d009c22e89e788935fd7fc39a5ceb9a509fa90", checked := Try.checked }
namespace Rows
def none {H : Type} : Left H := { results := [], args := [] }

/-- 'flqlaw11.FixpointSolves': WHATEVER THE INPUT: true; the input reads as it did. -/
def fixpointSolvesSpec : ChangeSpec := { name := "fixpointSolves", fn := fun _ => fun
  | [d1, d2] => { results := [.lit (.bool true)], args := [d1, d2] }
  | _ => none }
def fixpointSolvesRow : OpenClaim := { program := "ytbjaebbmajhjjaa", sum := "ab9e9d735e73bdd1d1e31061a0d009c22e89e788935fd7fc39a5ceb9a509fa90", func := "flowquery/flqlaw11.FixpointSolves", spec := "fixpointSolves", unfollowed := true, recurses := true, apart := false }
def FixpointSolvesSaid : Prop := fixpointSolvesRow.holds Try.pinned (OpenSpec.ofChange fixpointSolvesSpec)

/-- ITS FALSE NEIGHBOUR: 'it returns false'. Refute it at one input. -/
def fixpointSolvesWrong : ChangeSpec := { name := "fixpointSolves", fn := fun _ => fun
  | [d1, d2] => { results := [.lit (.bool false)], args := [d1, d2] }
  | _ => none }
def FixpointSolvesWrongFalsely : Prop := fixpointSolvesRow.holds Try.pinned (OpenSpec.ofChange fixpointSolvesWrong)

/-- 'flqlaw11.FixpointChecks': WHATEVER THE INPUT: true; the input reads as it did. -/
def fixpointChecksSpec : ChangeSpec := { name := "fixpointChecks", fn := fun _ => fun
  | [d1, d2, d3] => { results := [.lit (.bool true)], args := [d1, d2, d3] }
  | _ => none }
def fixpointChecksRow : OpenClaim := { program := "ytbjaebbmajhjjaa", sum := "ab9e9d735e73bdd1d1e31061a0d009c22e89e788935fd7fc39a5ceb9a509fa90", func := "flowquery/flqlaw11.FixpointChecks", spec := "fixpointChecks", unfollowed := true, recurses := true, apart := false }
def FixpointChecksSaid : Prop := fixpointChecksRow.holds Try.pinned (OpenSpec.ofChange fixpointChecksSpec)

/-- ITS FALSE NEIGHBOUR: 'it returns false'. Refute it at one input. -/
def fixpointChecksWrong : ChangeSpec := { name := "fixpointChecks", fn := fun _ => fun
  | [d1, d2, d3] => { results := [.lit (.bool false)], args := [d1, d2, d3] }
  | _ => none }
def FixpointChecksWrongFalsely : Prop := fixpointChecksRow.holds Try.pinned (OpenSpec.ofChange fixpointChecksWrong)

/-- 'flqlaw11.FixpointLeast': WHATEVER THE INPUT: true; the input reads as it did. -/
def fixpointLeastSpec : ChangeSpec := { name := "fixpointLeast", fn := fun _ => fun
  | [d] => { results := [.lit (.bool true)], args := [d] }
  | _ => none }
def fixpointLeastRow : OpenClaim := { program := "ytbjaebbmajhjjaa", sum := "ab9e9d735e73bdd1d1e31061a0d009c22e89e788935fd7fc39a5ceb9a509fa90", func := "flowquery/flqlaw11.FixpointLeast", spec := "fixpointLeast", unfollowed := true, recurses := true, apart := false }
def FixpointLeastSaid : Prop := fixpointLeastRow.holds Try.pinned (OpenSpec.ofChange fixpointLeastSpec)

/-- ITS FALSE NEIGHBOUR: 'it returns false'. Refute it at one input. -/
def fixpointLeastWrong : ChangeSpec := { name := "fixpointLeast", fn := fun _ => fun
  | [d] => { results := [.lit (.bool false)], args := [d] }
  | _ => none }
def FixpointLeastWrongFalsely : Prop := fixpointLeastRow.holds Try.pinned (OpenSpec.ofChange fixpointLeastWrong)

/-- 'flqlaw12.ComponentsAgree': WHATEVER THE INPUT: true; the input reads as it did. -/
def componentsAgreeSpec : ChangeSpec := { name := "componentsAgree", fn := fun _ => fun
  | [d1, d2] => { results := [.lit (.bool true)], args := [d1, d2] }
  | _ => none }
def componentsAgreeRow : OpenClaim := { program := "ytbjaebbmajhjjaa", sum := "ab9e9d735e73bdd1d1e31061a0d009c22e89e788935fd7fc39a5ceb9a509fa90", func := "flowquery/flqlaw12.ComponentsAgree", spec := "componentsAgree", unfollowed := true, recurses := true, apart := false }
def ComponentsAgreeSaid : Prop := componentsAgreeRow.holds Try.pinned (OpenSpec.ofChange componentsAgreeSpec)

/-- ITS FALSE NEIGHBOUR: 'it returns false'. Refute it at one input. -/
def componentsAgreeWrong : ChangeSpec := { name := "componentsAgree", fn := fun _ => fun
  | [d1, d2] => { results := [.lit (.bool false)], args := [d1, d2] }
  | _ => none }
def ComponentsAgreeWrongFalsely : Prop := componentsAgreeRow.holds Try.pinned (OpenSpec.ofChange componentsAgreeWrong)

/-- 'flqlaw12.ComponentsOrder': WHATEVER THE INPUT: true; the input reads as it did. -/
def componentsOrderSpec : ChangeSpec := { name := "componentsOrder", fn := fun _ => fun
  | [d] => { results := [.lit (.bool true)], args := [d] }
  | _ => none }
def componentsOrderRow : OpenClaim := { program := "ytbjaebbmajhjjaa", sum := "ab9e9d735e73bdd1d1e31061a0d009c22e89e788935fd7fc39a5ceb9a509fa90", func := "flowquery/flqlaw12.ComponentsOrder", spec := "componentsOrder", unfollowed := true, recurses := true, apart := false }
def ComponentsOrderSaid : Prop := componentsOrderRow.holds Try.pinned (OpenSpec.ofChange componentsOrderSpec)

/-- ITS FALSE NEIGHBOUR: 'it returns false'. Refute it at one input. -/
def componentsOrderWrong : ChangeSpec := { name := "componentsOrder", fn := fun _ => fun
  | [d] => { results := [.lit (.bool false)], args := [d] }
  | _ => none }
def ComponentsOrderWrongFalsely : Prop := componentsOrderRow.holds Try.pinned (OpenSpec.ofChange componentsOrderWrong)

/-- 'flqlaw12.ComponentsSolve': WHATEVER THE INPUT: true; the input reads as it did. -/
def componentsSolveSpec : ChangeSpec := { name := "componentsSolve", fn := fun _ => fun
  | [d] => { results := [.lit (.bool true)], args := [d] }
  | _ => none }
def componentsSolveRow : OpenClaim := { program := "ytbjaebbmajhjjaa", sum := "ab9e9d735e73bdd1d1e31061a0d009c22e89e788935fd7fc39a5ceb9a509fa90", func := "flowquery/flqlaw12.ComponentsSolve", spec := "componentsSolve", unfollowed := true, recurses := true, apart := false }
def ComponentsSolveSaid : Prop := componentsSolveRow.holds Try.pinned (OpenSpec.ofChange componentsSolveSpec)

/-- ITS FALSE NEIGHBOUR: 'it returns false'. Refute it at one input. -/
def componentsSolveWrong : ChangeSpec := { name := "componentsSolve", fn := fun _ => fun
  | [d] => { results := [.lit (.bool false)], args := [d] }
  | _ => none }
def ComponentsSolveWrongFalsely : Prop := componentsSolveRow.holds Try.pinned (OpenSpec.ofChange componentsSolveWrong)

/- THE SECOND FORM. 'bulk': how many values and letters a reading holds, each counted each time it is reached (what is shared counts as often as it is met; a slice's spare places count too). A statement '..UptoSaid' is the law's where the arguments, and the package variables that the reading takes, are together of bulk at most 1048576: NARROWER than '..Said'. Prove '..Said' where nothing that the law and all that it calls make is longer than what came in: it says more and counts as full. Else prove '..UptoSaid'. A law counts once. -/
mutual
def uptoBulk {H : Type} : DataW H → Nat
  | .lit (.string bytes) => bytes.length + 1
  | .lit _ => 1
  | .nil => 1
  | .ptr d => uptoBulk d + 1
  | .slice elems spare => uptoBulkAll elems + uptoBulkAll spare + 1
  | .agg parts => uptoBulkAll parts + 1
  | .iface _ d => uptoBulk d + 1
  | .map entries => uptoBulkEntries entries + 1
  | .held _ => 1
def uptoBulkAll {H : Type} : List (DataW H) → Nat
  | [] => 0
  | d :: r => uptoBulk d + uptoBulkAll r
def uptoBulkEntries {H : Type} : List (Lit × DataW H) → Nat
  | [] => 0
  | x :: r => uptoBulkEntry x + uptoBulkEntries r
def uptoBulkEntry {H : Type} : Lit × DataW H → Nat
  | (.string bytes, d) => bytes.length + uptoBulk d + 1
  | (_, d) => uptoBulk d + 1
 end
def uptoSmall : (H : Type) → List (DataW H) → Bool := fun _ ds => decide (uptoBulkAll ds ≤ 1048576)
def OpenSpec.upto (s : _root_.Go.ChangeSpec) : _root_.Go.OpenSpec := { _root_.Go.OpenSpec.ofChange s with cond := some uptoSmall }

/-- 'flqlaw11.FixpointSolves', WHERE WHAT IT READS IS OF BULK AT MOST 1048576: true; the input reads as it did. -/
def fixpointSolvesUptoRow : OpenClaim := { program := "ytbjaebbmajhjjaa", sum := "ab9e9d735e73bdd1d1e31061a0d009c22e89e788935fd7fc39a5ceb9a509fa90", func := "flowquery/flqlaw11.FixpointSolves", spec := "fixpointSolves", unfollowed := true, recurses := true, apart := false, narrowed := true }
def FixpointSolvesUptoSaid : Prop := fixpointSolvesUptoRow.holds Try.pinned (OpenSpec.upto fixpointSolvesSpec)

/-- 'flqlaw11.FixpointChecks', WHERE WHAT IT READS IS OF BULK AT MOST 1048576: true; the input reads as it did. -/
def fixpointChecksUptoRow : OpenClaim := { program := "ytbjaebbmajhjjaa", sum := "ab9e9d735e73bdd1d1e31061a0d009c22e89e788935fd7fc39a5ceb9a509fa90", func := "flowquery/flqlaw11.FixpointChecks", spec := "fixpointChecks", unfollowed := true, recurses := true, apart := false, narrowed := true }
def FixpointChecksUptoSaid : Prop := fixpointChecksUptoRow.holds Try.pinned (OpenSpec.upto fixpointChecksSpec)

/-- 'flqlaw11.FixpointLeast', WHERE WHAT IT READS IS OF BULK AT MOST 1048576: true; the input reads as it did. -/
def fixpointLeastUptoRow : OpenClaim := { program := "ytbjaebbmajhjjaa", sum := "ab9e9d735e73bdd1d1e31061a0d009c22e89e788935fd7fc39a5ceb9a509fa90", func := "flowquery/flqlaw11.FixpointLeast", spec := "fixpointLeast", unfollowed := true, recurses := true, apart := false, narrowed := true }
def FixpointLeastUptoSaid : Prop := fixpointLeastUptoRow.holds Try.pinned (OpenSpec.upto fixpointLeastSpec)

/-- 'flqlaw12.ComponentsAgree', WHERE WHAT IT READS IS OF BULK AT MOST 1048576: true; the input reads as it did. -/
def componentsAgreeUptoRow : OpenClaim := { program := "ytbjaebbmajhjjaa", sum := "ab9e9d735e73bdd1d1e31061a0d009c22e89e788935fd7fc39a5ceb9a509fa90", func := "flowquery/flqlaw12.ComponentsAgree", spec := "componentsAgree", unfollowed := true, recurses := true, apart := false, narrowed := true }
def ComponentsAgreeUptoSaid : Prop := componentsAgreeUptoRow.holds Try.pinned (OpenSpec.upto componentsAgreeSpec)

/-- 'flqlaw12.ComponentsOrder', WHERE WHAT IT READS IS OF BULK AT MOST 1048576: true; the input reads as it did. -/
def componentsOrderUptoRow : OpenClaim := { program := "ytbjaebbmajhjjaa", sum := "ab9e9d735e73bdd1d1e31061a0d009c22e89e788935fd7fc39a5ceb9a509fa90", func := "flowquery/flqlaw12.ComponentsOrder", spec := "componentsOrder", unfollowed := true, recurses := true, apart := false, narrowed := true }
def ComponentsOrderUptoSaid : Prop := componentsOrderUptoRow.holds Try.pinned (OpenSpec.upto componentsOrderSpec)

/-- 'flqlaw12.ComponentsSolve', WHERE WHAT IT READS IS OF BULK AT MOST 1048576: true; the input reads as it did. -/
def componentsSolveUptoRow : OpenClaim := { program := "ytbjaebbmajhjjaa", sum := "ab9e9d735e73bdd1d1e31061a0d009c22e89e788935fd7fc39a5ceb9a509fa90", func := "flowquery/flqlaw12.ComponentsSolve", spec := "componentsSolve", unfollowed := true, recurses := true, apart := false, narrowed := true }
def ComponentsSolveUptoSaid : Prop := componentsSolveUptoRow.holds Try.pinned (OpenSpec.upto componentsSolveSpec)

end Rows
end Go.Proofs.Ytbjaebbmajhjjaa
