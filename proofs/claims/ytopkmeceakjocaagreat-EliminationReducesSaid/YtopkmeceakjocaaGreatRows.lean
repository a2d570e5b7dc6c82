/-
  No cell of these rows narrows 'for every input' (looked for: loops, veiled, ifaces, maps, wideKeys, modest, calm, conditions, laid).
  DERIVED. THE GIVEN ROWS OF THIS SEAT. 5 by the template 'for every input the law returns true; each argument reads behind the call as it read before'; 0 by the template 'total and deterministic' (their statements: YtopkmeceakjocaaGreatTotals.lean).
  GIVEN WITH THE SEED: the statements are not yours to turn. If you find one false, say at which input.
  Laid BY PROGRAM, IN A SANDBOX (cutbox-rows.mjs): the forced cells as the released guide's own fill.sh prints them over the translation 3bfffdd3c1238ee5… (all of the seat's roots in one cut). By AI agents, Wed Nov 11 2026. No macro, syntax, notation, axiom, sorry.
-/
import Derived.Test.YtopkmeceakjocaaGreatChecked
import GoSem.Claim
import GoSem.ClaimJoined
import GoSem.ClaimMapViews
import Derived.JoinedTies
import Derived.KernelRfl
namespace Go.Proofs.YtopkmeceakjocaaGreat
/- THE CELL 'sum', in the pinned program and in every row, IS THE sha256 OF THE DUMP (.gsa) THAT YtopkmeceakjocaaGreatProg.lean LOADS. Nothing in Lean hashes anything: it is a label: what it is worth is what the hold of that sum in a sandbox is worth. -/
noncomputable def Tryz.pinned : Pinned := { name := "ytopkmeceakjocaagreat", sum := "3bfffdd3c1238ee54d78254db092d9811e8f41d9951c76bfefd00986c9299eb3", checked := Tryz.checked }
namespace Rows
def none {H : Type} : Left H := { results := [], args := [] }

/-- 'flqlaw14.ConeRestricts': WHATEVER THE INPUT: true; the input reads as it did. -/
def coneRestrictsSpec : ChangeSpec := { name := "coneRestricts", fn := fun _ => fun
  | [d1, d2, d3, d4, d5] => { results := [.lit (.bool true)], args := [d1, d2, d3, d4, d5] }
  | _ => none }
def coneRestrictsRow : OpenClaim := { program := "ytopkmeceakjocaagreat", sum := "3bfffdd3c1238ee54d78254db092d9811e8f41d9951c76bfefd00986c9299eb3", func := "flowquery/flqlaw14.ConeRestricts", spec := "coneRestricts", unfollowed := true, recurses := true, apart := false }
def ConeRestrictsSaid : Prop := coneRestrictsRow.holds Tryz.pinned (OpenSpec.ofChange coneRestrictsSpec)

/-- ITS FALSE NEIGHBOUR: 'it returns false'. Refute it at one input. -/
def coneRestrictsWrong : ChangeSpec := { name := "coneRestricts", fn := fun _ => fun
  | [d1, d2, d3, d4, d5] => { results := [.lit (.bool false)], args := [d1, d2, d3, d4, d5] }
  | _ => none }
def ConeRestrictsWrongFalsely : Prop := coneRestrictsRow.holds Tryz.pinned (OpenSpec.ofChange coneRestrictsWrong)

/-- 'flqlaw14.ConeExact': WHATEVER THE INPUT: true; the input reads as it did. -/
def coneExactSpec : ChangeSpec := { name := "coneExact", fn := fun _ => fun
  | [d] => { results := [.lit (.bool true)], args := [d] }
  | _ => none }
def coneExactRow : OpenClaim := { program := "ytopkmeceakjocaagreat", sum := "3bfffdd3c1238ee54d78254db092d9811e8f41d9951c76bfefd00986c9299eb3", func := "flowquery/flqlaw14.ConeExact", spec := "coneExact", unfollowed := true, recurses := true, apart := false }
def ConeExactSaid : Prop := coneExactRow.holds Tryz.pinned (OpenSpec.ofChange coneExactSpec)

/-- ITS FALSE NEIGHBOUR: 'it returns false'. Refute it at one input. -/
def coneExactWrong : ChangeSpec := { name := "coneExact", fn := fun _ => fun
  | [d] => { results := [.lit (.bool false)], args := [d] }
  | _ => none }
def ConeExactWrongFalsely : Prop := coneExactRow.holds Tryz.pinned (OpenSpec.ofChange coneExactWrong)

/-- 'flqlaw13.EliminationExamples': WHATEVER THE INPUT: true; the input reads as it did. -/
def eliminationExamplesSpec : ChangeSpec := { name := "eliminationExamples", fn := fun _ => fun
  | [] => { results := [.lit (.bool true)], args := [] }
  | _ => none }
def eliminationExamplesRow : OpenClaim := { program := "ytopkmeceakjocaagreat", sum := "3bfffdd3c1238ee54d78254db092d9811e8f41d9951c76bfefd00986c9299eb3", func := "flowquery/flqlaw13.EliminationExamples", spec := "eliminationExamples", inPlace := ["slices.overlaps[flowquery/api.Arc]"], unfollowed := true, recurses := true, apart := false }
def EliminationExamplesSaid : Prop := eliminationExamplesRow.holds Tryz.pinned (OpenSpec.ofChange eliminationExamplesSpec)

/-- ITS FALSE NEIGHBOUR: 'it returns false'. Refute it at one input. -/
def eliminationExamplesWrong : ChangeSpec := { name := "eliminationExamples", fn := fun _ => fun
  | [] => { results := [.lit (.bool false)], args := [] }
  | _ => none }
def EliminationExamplesWrongFalsely : Prop := eliminationExamplesRow.holds Tryz.pinned (OpenSpec.ofChange eliminationExamplesWrong)

/-- 'flqlaw13.EliminationKeeps': WHATEVER THE INPUT: true; the input reads as it did. -/
def eliminationKeepsSpec : ChangeSpec := { name := "eliminationKeeps", fn := fun _ => fun
  | [d] => { results := [.lit (.bool true)], args := [d] }
  | _ => none }
def eliminationKeepsRow : OpenClaim := { program := "ytopkmeceakjocaagreat", sum := "3bfffdd3c1238ee54d78254db092d9811e8f41d9951c76bfefd00986c9299eb3", func := "flowquery/flqlaw13.EliminationKeeps", spec := "eliminationKeeps", inPlace := ["slices.overlaps[flowquery/api.Arc]"], unfollowed := true, recurses := true, apart := false }
def EliminationKeepsSaid : Prop := eliminationKeepsRow.holds Tryz.pinned (OpenSpec.ofChange eliminationKeepsSpec)

/-- ITS FALSE NEIGHBOUR: 'it returns false'. Refute it at one input. -/
def eliminationKeepsWrong : ChangeSpec := { name := "eliminationKeeps", fn := fun _ => fun
  | [d] => { results := [.lit (.bool false)], args := [d] }
  | _ => none }
def EliminationKeepsWrongFalsely : Prop := eliminationKeepsRow.holds Tryz.pinned (OpenSpec.ofChange eliminationKeepsWrong)

/-- 'flqlaw13.EliminationReduces': WHATEVER THE INPUT: true; the input reads as it did. -/
def eliminationReducesSpec : ChangeSpec := { name := "eliminationReduces", fn := fun _ => fun
  | [d] => { results := [.lit (.bool true)], args := [d] }
  | _ => none }
def eliminationReducesRow : OpenClaim := { program := "ytopkmeceakjocaagreat", sum := "3bfffdd3c1238ee54d78254db092d9811e8f41d9951c76bfefd00986c9299eb3", func := "flowquery/flqlaw13.EliminationReduces", spec := "eliminationReduces", inPlace := ["slices.overlaps[flowquery/api.Arc]"], unfollowed := true, recurses := true, apart := false }
def EliminationReducesSaid : Prop := eliminationReducesRow.holds Tryz.pinned (OpenSpec.ofChange eliminationReducesSpec)

/-- ITS FALSE NEIGHBOUR: 'it returns false'. Refute it at one input. -/
def eliminationReducesWrong : ChangeSpec := { name := "eliminationReduces", fn := fun _ => fun
  | [d] => { results := [.lit (.bool false)], args := [d] }
  | _ => none }
def EliminationReducesWrongFalsely : Prop := eliminationReducesRow.holds Tryz.pinned (OpenSpec.ofChange eliminationReducesWrong)

/- THE SECOND FORM. 'bulk': how many values and letters a reading holds, each counted each time it is reached (what is shared counts as often as it is met; a slice's spare places count too). A statement '..UptoSaid' is the law's where the arguments, and the package variables that the reading takes, are together of bulk at most 1048576: NARROWER than '..Said'. Prove '..Said' where nothing that the law and all that it calls make is longer than what came in: it says more and counts as full. Else prove '..UptoSaid'. A law counts once. -/
mutual
def uptoBulk {H : Type} : DataW H → Nat
  | .lit (.string bytes) => bytes.length + 1
  | .lit _ => 1
  | .nil => 1
  | .ptr d => uptoBulk d + 1
  | .slice elems spare => uptoBulkAll elems + uptoBulkAll spare + 1
  | .agg parts => uptoBulkAll parts + 1
  | .iface _ d => uptoBulk d + 1
  | .map entries => uptoBulkEntries entries + 1
  | .held _ => 1
def uptoBulkAll {H : Type} : List (DataW H) → Nat
  | [] => 0
  | d :: r => uptoBulk d + uptoBulkAll r
def uptoBulkEntries {H : Type} : List (Lit × DataW H) → Nat
  | [] => 0
  | x :: r => uptoBulkEntry x + uptoBulkEntries r
def uptoBulkEntry {H : Type} : Lit × DataW H → Nat
  | (.string bytes, d) => bytes.length + uptoBulk d + 1
  | (_, d) => uptoBulk d + 1
 end
def uptoSmall : (H : Type) → List (DataW H) → Bool := fun _ ds => decide (uptoBulkAll ds ≤ 1048576)
def OpenSpec.upto (s : _root_.Go.ChangeSpec) : _root_.Go.OpenSpec := { _root_.Go.OpenSpec.ofChange s with cond := some uptoSmall }

/-- 'flqlaw14.ConeRestricts', WHERE WHAT IT READS IS OF BULK AT MOST 1048576: true; the input reads as it did. -/
def coneRestrictsUptoRow : OpenClaim := { program := "ytopkmeceakjocaagreat", sum := "3bfffdd3c1238ee54d78254db092d9811e8f41d9951c76bfefd00986c9299eb3", func := "flowquery/flqlaw14.ConeRestricts", spec := "coneRestricts", unfollowed := true, recurses := true, apart := false, narrowed := true }
def ConeRestrictsUptoSaid : Prop := coneRestrictsUptoRow.holds Tryz.pinned (OpenSpec.upto coneRestrictsSpec)

/-- 'flqlaw14.ConeExact', WHERE WHAT IT READS IS OF BULK AT MOST 1048576: true; the input reads as it did. -/
def coneExactUptoRow : OpenClaim := { program := "ytopkmeceakjocaagreat", sum := "3bfffdd3c1238ee54d78254db092d9811e8f41d9951c76bfefd00986c9299eb3", func := "flowquery/flqlaw14.ConeExact", spec := "coneExact", unfollowed := true, recurses := true, apart := false, narrowed := true }
def ConeExactUptoSaid : Prop := coneExactUptoRow.holds Tryz.pinned (OpenSpec.upto coneExactSpec)

/-- 'flqlaw13.EliminationExamples', WHERE WHAT IT READS IS OF BULK AT MOST 1048576: true; the input reads as it did. -/
def eliminationExamplesUptoRow : OpenClaim := { program := "ytopkmeceakjocaagreat", sum := "3bfffdd3c1238ee54d78254db092d9811e8f41d9951c76bfefd00986c9299eb3", func := "flowquery/flqlaw13.EliminationExamples", spec := "eliminationExamples", inPlace := ["slices.overlaps[flowquery/api.Arc]"], unfollowed := true, recurses := true, apart := false, narrowed := true }
def EliminationExamplesUptoSaid : Prop := eliminationExamplesUptoRow.holds Tryz.pinned (OpenSpec.upto eliminationExamplesSpec)

/-- 'flqlaw13.EliminationKeeps', WHERE WHAT IT READS IS OF BULK AT MOST 1048576: true; the input reads as it did. -/
def eliminationKeepsUptoRow : OpenClaim := { program := "ytopkmeceakjocaagreat", sum := "3bfffdd3c1238ee54d78254db092d9811e8f41d9951c76bfefd00986c9299eb3", func := "flowquery/flqlaw13.EliminationKeeps", spec := "eliminationKeeps", inPlace := ["slices.overlaps[flowquery/api.Arc]"], unfollowed := true, recurses := true, apart := false, narrowed := true }
def EliminationKeepsUptoSaid : Prop := eliminationKeepsUptoRow.holds Tryz.pinned (OpenSpec.upto eliminationKeepsSpec)

/-- 'flqlaw13.EliminationReduces', WHERE WHAT IT READS IS OF BULK AT MOST 1048576: true; the input reads as it did. -/
def eliminationReducesUptoRow : OpenClaim := { program := "ytopkmeceakjocaagreat", sum := "3bfffdd3c1238ee54d78254db092d9811e8f41d9951c76bfefd00986c9299eb3", func := "flowquery/flqlaw13.EliminationReduces", spec := "eliminationReduces", inPlace := ["slices.overlaps[flowquery/api.Arc]"], unfollowed := true, recurses := true, apart := false, narrowed := true }
def EliminationReducesUptoSaid : Prop := eliminationReducesUptoRow.holds Tryz.pinned (OpenSpec.upto eliminationReducesSpec)

end Rows
end Go.Proofs.YtopkmeceakjocaaGreat
