/-
  No cell of these rows narrows 'for every input' (looked for: loops, veiled, ifaces, maps, wideKeys, modest, calm, conditions, laid).
  DERIVED. THE GIVEN ROWS OF THIS SEAT. 4 by the template 'for every input the law returns true; each argument reads behind the call as it read before'; 0 by the template 'total and deterministic' (their statements: YtopkmeceakjocaaTotals.lean).
  GIVEN WITH THE SEED: the statements are not yours to turn. If you find one false, say at which input.
  Laid BY PROGRAM, IN A SANDBOX (cutbox-rows.mjs): the forced cells as the released guide's own fill.sh prints them over the translation 81cad227fa415420… (all of the seat's roots in one cut). By AI agents, Wed Nov 11 2026. No macro, syntax, notation, axiom, sorry.
-/
import Derived.Test.YtopkmeceakjocaaChecked
import GoSem.Claim
import GoSem.ClaimJoined
import GoSem.ClaimMapViews
import Derived.JoinedTies
import Derived.KernelRfl
namespace Go.Proofs.Ytopkmeceakjocaa
/- THE CELL 'sum', in the pinned program and in every row, IS THE sha256 OF THE DUMP (.gsa) THAT YtopkmeceakjocaaProg.lean LOADS. Nothing in Lean hashes anything: it is a label: what it is worth is what the hold of that sum in a sandbox is worth. -/
noncomputable def Try.pinned : Pinned := { name := "ytopkmeceakjocaa", sum := "81cad227fa415420d793550f0f0eaa8ab598f2e58fb788dae5457a9611237b86", checked := Try.checked }
namespace Rows
def none {H : Type} : Left H := { results := [], args := [] }

/-- 'flqlaw14.ConeAgrees': WHATEVER THE INPUT: true; the input reads as it did. -/
def coneAgreesSpec : ChangeSpec := { name := "coneAgrees", fn := fun _ => fun
  | [d1, d2, d3, d4, d5] => { results := [.lit (.bool true)], args := [d1, d2, d3, d4, d5] }
  | _ => none }
def coneAgreesRow : OpenClaim := { program := "ytopkmeceakjocaa", sum := "81cad227fa415420d793550f0f0eaa8ab598f2e58fb788dae5457a9611237b86", func := "flowquery/flqlaw14.ConeAgrees", spec := "coneAgrees", unfollowed := true, recurses := true, apart := false }
def ConeAgreesSaid : Prop := coneAgreesRow.holds Try.pinned (OpenSpec.ofChange coneAgreesSpec)

/-- ITS FALSE NEIGHBOUR: 'it returns false'. Refute it at one input. -/
def coneAgreesWrong : ChangeSpec := { name := "coneAgrees", fn := fun _ => fun
  | [d1, d2, d3, d4, d5] => { results := [.lit (.bool false)], args := [d1, d2, d3, d4, d5] }
  | _ => none }
def ConeAgreesWrongFalsely : Prop := coneAgreesRow.holds Try.pinned (OpenSpec.ofChange coneAgreesWrong)

/-- 'flqlaw14.ConeClosed': WHATEVER THE INPUT: true; the input reads as it did. -/
def coneClosedSpec : ChangeSpec := { name := "coneClosed", fn := fun _ => fun
  | [d] => { results := [.lit (.bool true)], args := [d] }
  | _ => none }
def coneClosedRow : OpenClaim := { program := "ytopkmeceakjocaa", sum := "81cad227fa415420d793550f0f0eaa8ab598f2e58fb788dae5457a9611237b86", func := "flowquery/flqlaw14.ConeClosed", spec := "coneClosed", unfollowed := true, recurses := true, apart := false }
def ConeClosedSaid : Prop := coneClosedRow.holds Try.pinned (OpenSpec.ofChange coneClosedSpec)

/-- ITS FALSE NEIGHBOUR: 'it returns false'. Refute it at one input. -/
def coneClosedWrong : ChangeSpec := { name := "coneClosed", fn := fun _ => fun
  | [d] => { results := [.lit (.bool false)], args := [d] }
  | _ => none }
def ConeClosedWrongFalsely : Prop := coneClosedRow.holds Try.pinned (OpenSpec.ofChange coneClosedWrong)

/-- 'flqlaw11.FixpointSolves': WHATEVER THE INPUT: true; the input reads as it did. -/
def fixpointSolvesSpec : ChangeSpec := { name := "fixpointSolves", fn := fun _ => fun
  | [d1, d2] => { results := [.lit (.bool true)], args := [d1, d2] }
  | _ => none }
def fixpointSolvesRow : OpenClaim := { program := "ytopkmeceakjocaa", sum := "81cad227fa415420d793550f0f0eaa8ab598f2e58fb788dae5457a9611237b86", func := "flowquery/flqlaw11.FixpointSolves", spec := "fixpointSolves", unfollowed := true, recurses := true, apart := false }
def FixpointSolvesSaid : Prop := fixpointSolvesRow.holds Try.pinned (OpenSpec.ofChange fixpointSolvesSpec)

/-- ITS FALSE NEIGHBOUR: 'it returns false'. Refute it at one input. -/
def fixpointSolvesWrong : ChangeSpec := { name := "fixpointSolves", fn := fun _ => fun
  | [d1, d2] => { results := [.lit (.bool false)], args := [d1, d2] }
  | _ => none }
def FixpointSolvesWrongFalsely : Prop := fixpointSolvesRow.holds Try.pinned (OpenSpec.ofChange fixpointSolvesWrong)

/-- 'flqlaw11.FixpointChecks': WHATEVER THE INPUT: true; the input reads as it did. -/
def fixpointChecksSpec : ChangeSpec := { name := "fixpointChecks", fn := fun _ => fun
  | [d1, d2, d3] => { results := [.lit (.bool true)], args := [d1, d2, d3] }
  | _ => none }
def fixpointChecksRow : OpenClaim := { program := "ytopkmeceakjocaa", sum := "81cad227fa415420d793550f0f0eaa8ab598f2e58fb788dae5457a9611237b86", func := "flowquery/flqlaw11.FixpointChecks", spec := "fixpointChecks", unfollowed := true, recurses := true, apart := false }
def FixpointChecksSaid : Prop := fixpointChecksRow.holds Try.pinned (OpenSpec.ofChange fixpointChecksSpec)

/-- ITS FALSE NEIGHBOUR: 'it returns false'. Refute it at one input. -/
def fixpointChecksWrong : ChangeSpec := { name := "fixpointChecks", fn := fun _ => fun
  | [d1, d2, d3] => { results := [.lit (.bool false)], args := [d1, d2, d3] }
  | _ => none }
def FixpointChecksWrongFalsely : Prop := fixpointChecksRow.holds Try.pinned (OpenSpec.ofChange fixpointChecksWrong)

/- THE SECOND FORM. 'bulk': how many values and letters a reading holds, each counted each time it is reached (what is shared counts as often as it is met; a slice's spare places count too). A statement '..UptoSaid' is the law's where the arguments, and the package variables that the reading takes, are together of bulk at most 1048576: NARROWER than '..Said'. Prove '..Said' where nothing that the law and all that it calls make is longer than what came in: it says more and counts as full. Else prove '..UptoSaid'. A law counts once. -/
mutual
def uptoBulk {H : Type} : DataW H → Nat
  | .lit (.string bytes) => bytes.length + 1
  | .lit _ => 1
  | .nil => 1
  | .ptr d => uptoBulk d + 1
  | .slice elems spare => uptoBulkAll elems + uptoBulkAll spare + 1
  | .agg parts => uptoBulkAll parts + 1
  | .iface _ d => uptoBulk d + 1
  | .map entries => uptoBulkEntries entries + 1
  | .held _ => 1
def uptoBulkAll {H : Type} : List (DataW H) → Nat
  | [] => 0
  | d :: r => uptoBulk d + uptoBulkAll r
def uptoBulkEntries {H : Type} : List (Lit × DataW H) → Nat
  | [] => 0
  | x :: r => uptoBulkEntry x + uptoBulkEntries r
def uptoBulkEntry {H : Type} : Lit × DataW H → Nat
  | (.string bytes, d) => bytes.length + uptoBulk d + 1
  | (_, d) => uptoBulk d + 1
 end
def uptoSmall : (H : Type) → List (DataW H) → Bool := fun _ ds => decide (uptoBulkAll ds ≤ 1048576)
def OpenSpec.upto (s : _root_.Go.ChangeSpec) : _root_.Go.OpenSpec := { _root_.Go.OpenSpec.ofChange s with cond := some uptoSmall }

/-- 'flqlaw14.ConeAgrees', WHERE WHAT IT READS IS OF BULK AT MOST 1048576: true; the input reads as it did. -/
def coneAgreesUptoRow : OpenClaim := { program := "ytopkmeceakjocaa", sum := "81cad227fa415420d793550f0f0eaa8ab598f2e58fb788dae5457a9611237b86", func := "flowquery/flqlaw14.ConeAgrees", spec := "coneAgrees", unfollowed := true, recurses := true, apart := false, narrowed := true }
def ConeAgreesUptoSaid : Prop := coneAgreesUptoRow.holds Try.pinned (OpenSpec.upto coneAgreesSpec)

/-- 'flqlaw14.ConeClosed', WHERE WHAT IT READS IS OF BULK AT MOST 1048576: true; the input reads as it did. -/
def coneClosedUptoRow : OpenClaim := { program := "ytopkmeceakjocaa", sum := "81cad227fa415420d793550f0f0eaa8ab598f2e58fb788dae5457a9611237b86", func := "flowquery/flqlaw14.ConeClosed", spec := "coneClosed", unfollowed := true, recurses := true, apart := false, narrowed := true }
def ConeClosedUptoSaid : Prop := coneClosedUptoRow.holds Try.pinned (OpenSpec.upto coneClosedSpec)

/-- 'flqlaw11.FixpointSolves', WHERE WHAT IT READS IS OF BULK AT MOST 1048576: true; the input reads as it did. -/
def fixpointSolvesUptoRow : OpenClaim := { program := "ytopkmeceakjocaa", sum := "81cad227fa415420d793550f0f0eaa8ab598f2e58fb788dae5457a9611237b86", func := "flowquery/flqlaw11.FixpointSolves", spec := "fixpointSolves", unfollowed := true, recurses := true, apart := false, narrowed := true }
def FixpointSolvesUptoSaid : Prop := fixpointSolvesUptoRow.holds Try.pinned (OpenSpec.upto fixpointSolvesSpec)

/-- 'flqlaw11.FixpointChecks', WHERE WHAT IT READS IS OF BULK AT MOST 1048576: true; the input reads as it did. -/
def fixpointChecksUptoRow : OpenClaim := { program := "ytopkmeceakjocaa", sum := "81cad227fa415420d793550f0f0eaa8ab598f2e58fb788dae5457a9611237b86", func := "flowquery/flqlaw11.FixpointChecks", spec := "fixpointChecks", unfollowed := true, recurses := true, apart := false, narrowed := true }
def FixpointChecksUptoSaid : Prop := fixpointChecksUptoRow.holds Try.pinned (OpenSpec.upto fixpointChecksSpec)

end Rows
end Go.Proofs.Ytopkmeceakjocaa
