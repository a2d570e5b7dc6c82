/-
  No cell of these rows narrows 'for every input' (looked for: loops, veiled, ifaces, maps, wideKeys, modest, calm, conditions, laid).
  DERIVED. THE GIVEN ROWS OF THIS SEAT. 10 by the template 'for every input the law returns true; each argument reads behind the call as it read before'; 0 by the template 'total and deterministic' (their statements: YtkckkodoeepdpaaTotals.lean).
  GIVEN WITH THE SEED: the statements are not yours to turn. If you find one false, say at which input.
  Laid BY PROGRAM, IN A SANDBOX (cutbox-rows.mjs): the forced cells as the released guide's own fill.sh prints them over the translation f450c828b390d1a9… (all of the seat's roots in one cut). By AI agents, Wed Nov 11 2026. No macro, syntax, notation, axiom, sorry.
-/
import Derived.Test.YtkckkodoeepdpaaChecked
import GoSem.Claim
import GoSem.ClaimJoined
import GoSem.ClaimMapViews
import Derived.JoinedTies
import Derived.KernelRfl
namespace Go.Proofs.Ytkckkodoeepdpaa
/- THE CELL 'sum', in the pinned program and in every row, IS THE sha256 OF THE DUMP (.gsa) THAT YtkckkodoeepdpaaProg.lean LOADS. Nothing in Lean hashes anything: it is a label: what it is worth is what the hold of that sum in a sandbox is worth. -/
noncomputable def Try.pinned : Pinned := { name := "ytkckkodoeepdpaa", sum := "f450c828b390d1a96a7c75df3f65f459d913d499bdfd12eeef325ca5a26b5cf3", checked := Try.checked }
namespace Rows
def none {H : Type} : Left H := { results := [], args := [] }

/-- 'flqlaw3.TransferExamples': WHATEVER THE INPUT: true; the input reads as it did. -/
def transferExamplesSpec : ChangeSpec := { name := "transferExamples", fn := fun _ => fun
  | [] => { results := [.lit (.bool true)], args := [] }
  | _ => none }
def transferExamplesRow : OpenClaim := { program := "ytkckkodoeepdpaa", sum := "f450c828b390d1a96a7c75df3f65f459d913d499bdfd12eeef325ca5a26b5cf3", func := "flowquery/flqlaw3.TransferExamples", spec := "transferExamples", unfollowed := true, recurses := true, apart := false }
def TransferExamplesSaid : Prop := transferExamplesRow.holds Try.pinned (OpenSpec.ofChange transferExamplesSpec)

/-- ITS FALSE NEIGHBOUR: 'it returns false'. Refute it at one input. -/
def transferExamplesWrong : ChangeSpec := { name := "transferExamples", fn := fun _ => fun
  | [] => { results := [.lit (.bool false)], args := [] }
  | _ => none }
def TransferExamplesWrongFalsely : Prop := transferExamplesRow.holds Try.pinned (OpenSpec.ofChange transferExamplesWrong)

/-- 'flqlaw3.TransferApplies': WHATEVER THE INPUT: true; the input reads as it did. -/
def transferAppliesSpec : ChangeSpec := { name := "transferApplies", fn := fun _ => fun
  | [d1, d2, d3, d4, d5] => { results := [.lit (.bool true)], args := [d1, d2, d3, d4, d5] }
  | _ => none }
def transferAppliesRow : OpenClaim := { program := "ytkckkodoeepdpaa", sum := "f450c828b390d1a96a7c75df3f65f459d913d499bdfd12eeef325ca5a26b5cf3", func := "flowquery/flqlaw3.TransferApplies", spec := "transferApplies", unfollowed := true, recurses := true, apart := false }
def TransferAppliesSaid : Prop := transferAppliesRow.holds Try.pinned (OpenSpec.ofChange transferAppliesSpec)

/-- ITS FALSE NEIGHBOUR: 'it returns false'. Refute it at one input. -/
def transferAppliesWrong : ChangeSpec := { name := "transferApplies", fn := fun _ => fun
  | [d1, d2, d3, d4, d5] => { results := [.lit (.bool false)], args := [d1, d2, d3, d4, d5] }
  | _ => none }
def TransferAppliesWrongFalsely : Prop := transferAppliesRow.holds Try.pinned (OpenSpec.ofChange transferAppliesWrong)

/-- 'flqlaw3.TransferCombines': WHATEVER THE INPUT: true; the input reads as it did. -/
def transferCombinesSpec : ChangeSpec := { name := "transferCombines", fn := fun _ => fun
  | [d1, d2, d3] => { results := [.lit (.bool true)], args := [d1, d2, d3] }
  | _ => none }
def transferCombinesRow : OpenClaim := { program := "ytkckkodoeepdpaa", sum := "f450c828b390d1a96a7c75df3f65f459d913d499bdfd12eeef325ca5a26b5cf3", func := "flowquery/flqlaw3.TransferCombines", spec := "transferCombines", unfollowed := true, recurses := true, apart := false }
def TransferCombinesSaid : Prop := transferCombinesRow.holds Try.pinned (OpenSpec.ofChange transferCombinesSpec)

/-- ITS FALSE NEIGHBOUR: 'it returns false'. Refute it at one input. -/
def transferCombinesWrong : ChangeSpec := { name := "transferCombines", fn := fun _ => fun
  | [d1, d2, d3] => { results := [.lit (.bool false)], args := [d1, d2, d3] }
  | _ => none }
def TransferCombinesWrongFalsely : Prop := transferCombinesRow.holds Try.pinned (OpenSpec.ofChange transferCombinesWrong)

/-- 'flqlaw3.TransferStar': WHATEVER THE INPUT: true; the input reads as it did. -/
def transferStarSpec : ChangeSpec := { name := "transferStar", fn := fun _ => fun
  | [d1, d2] => { results := [.lit (.bool true)], args := [d1, d2] }
  | _ => none }
def transferStarRow : OpenClaim := { program := "ytkckkodoeepdpaa", sum := "f450c828b390d1a96a7c75df3f65f459d913d499bdfd12eeef325ca5a26b5cf3", func := "flowquery/flqlaw3.TransferStar", spec := "transferStar", unfollowed := true, recurses := true, apart := false }
def TransferStarSaid : Prop := transferStarRow.holds Try.pinned (OpenSpec.ofChange transferStarSpec)

/-- ITS FALSE NEIGHBOUR: 'it returns false'. Refute it at one input. -/
def transferStarWrong : ChangeSpec := { name := "transferStar", fn := fun _ => fun
  | [d1, d2] => { results := [.lit (.bool false)], args := [d1, d2] }
  | _ => none }
def TransferStarWrongFalsely : Prop := transferStarRow.holds Try.pinned (OpenSpec.ofChange transferStarWrong)

/-- 'flqlaw3.TransferFull': WHATEVER THE INPUT: true; the input reads as it did. -/
def transferFullSpec : ChangeSpec := { name := "transferFull", fn := fun _ => fun
  | [d] => { results := [.lit (.bool true)], args := [d] }
  | _ => none }
def transferFullRow : OpenClaim := { program := "ytkckkodoeepdpaa", sum := "f450c828b390d1a96a7c75df3f65f459d913d499bdfd12eeef325ca5a26b5cf3", func := "flowquery/flqlaw3.TransferFull", spec := "transferFull", unfollowed := true, recurses := true, apart := false }
def TransferFullSaid : Prop := transferFullRow.holds Try.pinned (OpenSpec.ofChange transferFullSpec)

/-- ITS FALSE NEIGHBOUR: 'it returns false'. Refute it at one input. -/
def transferFullWrong : ChangeSpec := { name := "transferFull", fn := fun _ => fun
  | [d] => { results := [.lit (.bool false)], args := [d] }
  | _ => none }
def TransferFullWrongFalsely : Prop := transferFullRow.holds Try.pinned (OpenSpec.ofChange transferFullWrong)

/-- 'flqlaw3.TransferMeans': WHATEVER THE INPUT: true; the input reads as it did. -/
def transferMeansSpec : ChangeSpec := { name := "transferMeans", fn := fun _ => fun
  | [d] => { results := [.lit (.bool true)], args := [d] }
  | _ => none }
def transferMeansRow : OpenClaim := { program := "ytkckkodoeepdpaa", sum := "f450c828b390d1a96a7c75df3f65f459d913d499bdfd12eeef325ca5a26b5cf3", func := "flowquery/flqlaw3.TransferMeans", spec := "transferMeans", unfollowed := true, recurses := true, apart := false }
def TransferMeansSaid : Prop := transferMeansRow.holds Try.pinned (OpenSpec.ofChange transferMeansSpec)

/-- ITS FALSE NEIGHBOUR: 'it returns false'. Refute it at one input. -/
def transferMeansWrong : ChangeSpec := { name := "transferMeans", fn := fun _ => fun
  | [d] => { results := [.lit (.bool false)], args := [d] }
  | _ => none }
def TransferMeansWrongFalsely : Prop := transferMeansRow.holds Try.pinned (OpenSpec.ofChange transferMeansWrong)

/-- 'flqlaw3.TransferStarLeast': WHATEVER THE INPUT: true; the input reads as it did. -/
def transferStarLeastSpec : ChangeSpec := { name := "transferStarLeast", fn := fun _ => fun
  | [d] => { results := [.lit (.bool true)], args := [d] }
  | _ => none }
def transferStarLeastRow : OpenClaim := { program := "ytkckkodoeepdpaa", sum := "f450c828b390d1a96a7c75df3f65f459d913d499bdfd12eeef325ca5a26b5cf3", func := "flowquery/flqlaw3.TransferStarLeast", spec := "transferStarLeast", unfollowed := true, recurses := true, apart := false }
def TransferStarLeastSaid : Prop := transferStarLeastRow.holds Try.pinned (OpenSpec.ofChange transferStarLeastSpec)

/-- ITS FALSE NEIGHBOUR: 'it returns false'. Refute it at one input. -/
def transferStarLeastWrong : ChangeSpec := { name := "transferStarLeast", fn := fun _ => fun
  | [d] => { results := [.lit (.bool false)], args := [d] }
  | _ => none }
def TransferStarLeastWrongFalsely : Prop := transferStarLeastRow.holds Try.pinned (OpenSpec.ofChange transferStarLeastWrong)

/-- 'flqlaw3.TransferDistributes': WHATEVER THE INPUT: true; the input reads as it did. -/
def transferDistributesSpec : ChangeSpec := { name := "transferDistributes", fn := fun _ => fun
  | [d] => { results := [.lit (.bool true)], args := [d] }
  | _ => none }
def transferDistributesRow : OpenClaim := { program := "ytkckkodoeepdpaa", sum := "f450c828b390d1a96a7c75df3f65f459d913d499bdfd12eeef325ca5a26b5cf3", func := "flowquery/flqlaw3.TransferDistributes", spec := "transferDistributes", unfollowed := true, recurses := true, apart := false }
def TransferDistributesSaid : Prop := transferDistributesRow.holds Try.pinned (OpenSpec.ofChange transferDistributesSpec)

/-- ITS FALSE NEIGHBOUR: 'it returns false'. Refute it at one input. -/
def transferDistributesWrong : ChangeSpec := { name := "transferDistributes", fn := fun _ => fun
  | [d] => { results := [.lit (.bool false)], args := [d] }
  | _ => none }
def TransferDistributesWrongFalsely : Prop := transferDistributesRow.holds Try.pinned (OpenSpec.ofChange transferDistributesWrong)

/-- 'flqlaw3.TransferMonoid': WHATEVER THE INPUT: true; the input reads as it did. -/
def transferMonoidSpec : ChangeSpec := { name := "transferMonoid", fn := fun _ => fun
  | [d] => { results := [.lit (.bool true)], args := [d] }
  | _ => none }
def transferMonoidRow : OpenClaim := { program := "ytkckkodoeepdpaa", sum := "f450c828b390d1a96a7c75df3f65f459d913d499bdfd12eeef325ca5a26b5cf3", func := "flowquery/flqlaw3.TransferMonoid", spec := "transferMonoid", unfollowed := true, recurses := true, apart := false }
def TransferMonoidSaid : Prop := transferMonoidRow.holds Try.pinned (OpenSpec.ofChange transferMonoidSpec)

/-- ITS FALSE NEIGHBOUR: 'it returns false'. Refute it at one input. -/
def transferMonoidWrong : ChangeSpec := { name := "transferMonoid", fn := fun _ => fun
  | [d] => { results := [.lit (.bool false)], args := [d] }
  | _ => none }
def TransferMonoidWrongFalsely : Prop := transferMonoidRow.holds Try.pinned (OpenSpec.ofChange transferMonoidWrong)

/-- 'flqlaw3.TransferFollows': WHATEVER THE INPUT: true; the input reads as it did. -/
def transferFollowsSpec : ChangeSpec := { name := "transferFollows", fn := fun _ => fun
  | [d] => { results := [.lit (.bool true)], args := [d] }
  | _ => none }
def transferFollowsRow : OpenClaim := { program := "ytkckkodoeepdpaa", sum := "f450c828b390d1a96a7c75df3f65f459d913d499bdfd12eeef325ca5a26b5cf3", func := "flowquery/flqlaw3.TransferFollows", spec := "transferFollows", unfollowed := true, recurses := true, apart := false }
def TransferFollowsSaid : Prop := transferFollowsRow.holds Try.pinned (OpenSpec.ofChange transferFollowsSpec)

/-- ITS FALSE NEIGHBOUR: 'it returns false'. Refute it at one input. -/
def transferFollowsWrong : ChangeSpec := { name := "transferFollows", fn := fun _ => fun
  | [d] => { results := [.lit (.bool false)], args := [d] }
  | _ => none }
def TransferFollowsWrongFalsely : Prop := transferFollowsRow.holds Try.pinned (OpenSpec.ofChange transferFollowsWrong)

/- THE SECOND FORM. 'bulk': how many values and letters a reading holds, each counted each time it is reached (what is shared counts as often as it is met; a slice's spare places count too). A statement '..UptoSaid' is the law's where the arguments, and the package variables that the reading takes, are together of bulk at most 1048576: NARROWER than '..Said'. Prove '..Said' where nothing that the law and all that it calls make is longer than what came in: it says more and counts as full. Else prove '..UptoSaid'. A law counts once. -/
mutual
def uptoBulk {H : Type} : DataW H → Nat
  | .lit (.string bytes) => bytes.length + 1
  | .lit _ => 1
  | .nil => 1
  | .ptr d => uptoBulk d + 1
  | .slice elems spare => uptoBulkAll elems + uptoBulkAll spare + 1
  | .agg parts => uptoBulkAll parts + 1
  | .iface _ d => uptoBulk d + 1
  | .map entries => uptoBulkEntries entries + 1
  | .held _ => 1
def uptoBulkAll {H : Type} : List (DataW H) → Nat
  | [] => 0
  | d :: r => uptoBulk d + uptoBulkAll r
def uptoBulkEntries {H : Type} : List (Lit × DataW H) → Nat
  | [] => 0
  | x :: r => uptoBulkEntry x + uptoBulkEntries r
def uptoBulkEntry {H : Type} : Lit × DataW H → Nat
  | (.string bytes, d) => bytes.length + uptoBulk d + 1
  | (_, d) => uptoBulk d + 1
 end
def uptoSmall : (H : Type) → List (DataW H) → Bool := fun _ ds => decide (uptoBulkAll ds ≤ 1048576)
def OpenSpec.upto (s : _root_.Go.ChangeSpec) : _root_.Go.OpenSpec := { _root_.Go.OpenSpec.ofChange s with cond := some uptoSmall }

/-- 'flqlaw3.TransferExamples', WHERE WHAT IT READS IS OF BULK AT MOST 1048576: true; the input reads as it did. -/
def transferExamplesUptoRow : OpenClaim := { program := "ytkckkodoeepdpaa", sum := "f450c828b390d1a96a7c75df3f65f459d913d499bdfd12eeef325ca5a26b5cf3", func := "flowquery/flqlaw3.TransferExamples", spec := "transferExamples", unfollowed := true, recurses := true, apart := false, narrowed := true }
def TransferExamplesUptoSaid : Prop := transferExamplesUptoRow.holds Try.pinned (OpenSpec.upto transferExamplesSpec)

/-- 'flqlaw3.TransferApplies', WHERE WHAT IT READS IS OF BULK AT MOST 1048576: true; the input reads as it did. -/
def transferAppliesUptoRow : OpenClaim := { program := "ytkckkodoeepdpaa", sum := "f450c828b390d1a96a7c75df3f65f459d913d499bdfd12eeef325ca5a26b5cf3", func := "flowquery/flqlaw3.TransferApplies", spec := "transferApplies", unfollowed := true, recurses := true, apart := false, narrowed := true }
def TransferAppliesUptoSaid : Prop := transferAppliesUptoRow.holds Try.pinned (OpenSpec.upto transferAppliesSpec)

/-- 'flqlaw3.TransferCombines', WHERE WHAT IT READS IS OF BULK AT MOST 1048576: true; the input reads as it did. -/
def transferCombinesUptoRow : OpenClaim := { program := "ytkckkodoeepdpaa", sum := "f450c828b390d1a96a7c75df3f65f459d913d499bdfd12eeef325ca5a26b5cf3", func := "flowquery/flqlaw3.TransferCombines", spec := "transferCombines", unfollowed := true, recurses := true, apart := false, narrowed := true }
def TransferCombinesUptoSaid : Prop := transferCombinesUptoRow.holds Try.pinned (OpenSpec.upto transferCombinesSpec)

/-- 'flqlaw3.TransferStar', WHERE WHAT IT READS IS OF BULK AT MOST 1048576: true; the input reads as it did. -/
def transferStarUptoRow : OpenClaim := { program := "ytkckkodoeepdpaa", sum := "f450c828b390d1a96a7c75df3f65f459d913d499bdfd12eeef325ca5a26b5cf3", func := "flowquery/flqlaw3.TransferStar", spec := "transferStar", unfollowed := true, recurses := true, apart := false, narrowed := true }
def TransferStarUptoSaid : Prop := transferStarUptoRow.holds Try.pinned (OpenSpec.upto transferStarSpec)

/-- 'flqlaw3.TransferFull', WHERE WHAT IT READS IS OF BULK AT MOST 1048576: true; the input reads as it did. -/
def transferFullUptoRow : OpenClaim := { program := "ytkckkodoeepdpaa", sum := "f450c828b390d1a96a7c75df3f65f459d913d499bdfd12eeef325ca5a26b5cf3", func := "flowquery/flqlaw3.TransferFull", spec := "transferFull", unfollowed := true, recurses := true, apart := false, narrowed := true }
def TransferFullUptoSaid : Prop := transferFullUptoRow.holds Try.pinned (OpenSpec.upto transferFullSpec)

/-- 'flqlaw3.TransferMeans', WHERE WHAT IT READS IS OF BULK AT MOST 1048576: true; the input reads as it did. -/
def transferMeansUptoRow : OpenClaim := { program := "ytkckkodoeepdpaa", sum := "f450c828b390d1a96a7c75df3f65f459d913d499bdfd12eeef325ca5a26b5cf3", func := "flowquery/flqlaw3.TransferMeans", spec := "transferMeans", unfollowed := true, recurses := true, apart := false, narrowed := true }
def TransferMeansUptoSaid : Prop := transferMeansUptoRow.holds Try.pinned (OpenSpec.upto transferMeansSpec)

/-- 'flqlaw3.TransferStarLeast', WHERE WHAT IT READS IS OF BULK AT MOST 1048576: true; the input reads as it did. -/
def transferStarLeastUptoRow : OpenClaim := { program := "ytkckkodoeepdpaa", sum := "f450c828b390d1a96a7c75df3f65f459d913d499bdfd12eeef325ca5a26b5cf3", func := "flowquery/flqlaw3.TransferStarLeast", spec := "transferStarLeast", unfollowed := true, recurses := true, apart := false, narrowed := true }
def TransferStarLeastUptoSaid : Prop := transferStarLeastUptoRow.holds Try.pinned (OpenSpec.upto transferStarLeastSpec)

/-- 'flqlaw3.TransferDistributes', WHERE WHAT IT READS IS OF BULK AT MOST 1048576: true; the input reads as it did. -/
def transferDistributesUptoRow : OpenClaim := { program := "ytkckkodoeepdpaa", sum := "f450c828b390d1a96a7c75df3f65f459d913d499bdfd12eeef325ca5a26b5cf3", func := "flowquery/flqlaw3.TransferDistributes", spec := "transferDistributes", unfollowed := true, recurses := true, apart := false, narrowed := true }
def TransferDistributesUptoSaid : Prop := transferDistributesUptoRow.holds Try.pinned (OpenSpec.upto transferDistributesSpec)

/-- 'flqlaw3.TransferMonoid', WHERE WHAT IT READS IS OF BULK AT MOST 1048576: true; the input reads as it did. -/
def transferMonoidUptoRow : OpenClaim := { program := "ytkckkodoeepdpaa", sum := "f450c828b390d1a96a7c75df3f65f459d913d499bdfd12eeef325ca5a26b5cf3", func := "flowquery/flqlaw3.TransferMonoid", spec := "transferMonoid", unfollowed := true, recurses := true, apart := false, narrowed := true }
def TransferMonoidUptoSaid : Prop := transferMonoidUptoRow.holds Try.pinned (OpenSpec.upto transferMonoidSpec)

/-- 'flqlaw3.TransferFollows', WHERE WHAT IT READS IS OF BULK AT MOST 1048576: true; the input reads as it did. -/
def transferFollowsUptoRow : OpenClaim := { program := "ytkckkodoeepdpaa", sum := "f450c828b390d1a96a7c75df3f65f459d913d499bdfd12eeef325ca5a26b5cf3", func := "flowquery/flqlaw3.TransferFollows", spec := "transferFollows", unfollowed := true, recurses := true, apart := false, narrowed := true }
def TransferFollowsUptoSaid : Prop := transferFollowsUptoRow.holds Try.pinned (OpenSpec.upto transferFollowsSpec)

end Rows
end Go.Proofs.Ytkckkodoeepdpaa
