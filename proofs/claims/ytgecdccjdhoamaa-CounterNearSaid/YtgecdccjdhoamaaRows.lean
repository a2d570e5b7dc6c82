/-
  No cell of these rows narrows 'for every input' (looked for: loops, veiled, ifaces, maps, wideKeys, modest, calm, conditions, laid).
  DERIVED. THE GIVEN ROWS OF THIS SEAT. 4 by the template 'for every input the law returns true; each argument reads behind the call as it read before'; 0 by the template 'total and deterministic' (their statements: YtgecdccjdhoamaaTotals.lean).
  GIVEN WITH THE SEED: the statements are not yours to turn. If you find one false, say at which input.
  Laid BY PROGRAM, IN A SANDBOX (cutbox-rows.mjs): the forced cells as the released guide's own fill.sh prints them over the translation 3e40e87fd22cfe7f… (all of the seat's roots in one cut). By AI agents, Wed Nov 11 2026. No macro, syntax, notation, axiom, sorry.
-/
import Derived.Test.YtgecdccjdhoamaaChecked
import GoSem.Claim
import GoSem.ClaimJoined
import GoSem.ClaimMapViews
import Derived.JoinedTies
import Derived.KernelRfl
namespace Go.Proofs.Ytgecdccjdhoamaa
/- THE CELL 'sum', in the pinned program and in every row, IS THE sha256 OF THE DUMP (.gsa) THAT YtgecdccjdhoamaaProg.lean LOADS. Nothing in Lean hashes anything: it is a label: what it is worth is what the hold of that sum in a sandbox is worth. -/
noncomputable def Try.pinned : Pinned := { name := "ytgecdccjdhoamaa", sum := "3e40e87fd22cfe7f42ae5f7431598f19cbfdd9a5c77105d4ac4472e8d58b51ff", checked := Try.checked }
namespace Rows
def none {H : Type} : Left H := { results := [], args := [] }

/-- 'flqlaw1.CounterComputes': WHATEVER THE INPUT: true; the input reads as it did. -/
def counterComputesSpec : ChangeSpec := { name := "counterComputes", fn := fun _ => fun
  | [d1, d2] => { results := [.lit (.bool true)], args := [d1, d2] }
  | _ => none }
def counterComputesRow : OpenClaim := { program := "ytgecdccjdhoamaa", sum := "3e40e87fd22cfe7f42ae5f7431598f19cbfdd9a5c77105d4ac4472e8d58b51ff", func := "flowquery/flqlaw1.CounterComputes", spec := "counterComputes", apart := false }
def CounterComputesSaid : Prop := counterComputesRow.holds Try.pinned (OpenSpec.ofChange counterComputesSpec)

/-- ITS FALSE NEIGHBOUR: 'it returns false'. Refute it at one input. -/
def counterComputesWrong : ChangeSpec := { name := "counterComputes", fn := fun _ => fun
  | [d1, d2] => { results := [.lit (.bool false)], args := [d1, d2] }
  | _ => none }
def CounterComputesWrongFalsely : Prop := counterComputesRow.holds Try.pinned (OpenSpec.ofChange counterComputesWrong)

/-- 'flqlaw1.CounterNear': WHATEVER THE INPUT: true; the input reads as it did. -/
def counterNearSpec : ChangeSpec := { name := "counterNear", fn := fun _ => fun
  | [d1, d2] => { results := [.lit (.bool true)], args := [d1, d2] }
  | _ => none }
def counterNearRow : OpenClaim := { program := "ytgecdccjdhoamaa", sum := "3e40e87fd22cfe7f42ae5f7431598f19cbfdd9a5c77105d4ac4472e8d58b51ff", func := "flowquery/flqlaw1.CounterNear", spec := "counterNear", apart := false }
def CounterNearSaid : Prop := counterNearRow.holds Try.pinned (OpenSpec.ofChange counterNearSpec)

/-- ITS FALSE NEIGHBOUR: 'it returns false'. Refute it at one input. -/
def counterNearWrong : ChangeSpec := { name := "counterNear", fn := fun _ => fun
  | [d1, d2] => { results := [.lit (.bool false)], args := [d1, d2] }
  | _ => none }
def CounterNearWrongFalsely : Prop := counterNearRow.holds Try.pinned (OpenSpec.ofChange counterNearWrong)

/-- 'flqlaw1.CounterAdds': WHATEVER THE INPUT: true; the input reads as it did. -/
def counterAddsSpec : ChangeSpec := { name := "counterAdds", fn := fun _ => fun
  | [d1, d2, d3] => { results := [.lit (.bool true)], args := [d1, d2, d3] }
  | _ => none }
def counterAddsRow : OpenClaim := { program := "ytgecdccjdhoamaa", sum := "3e40e87fd22cfe7f42ae5f7431598f19cbfdd9a5c77105d4ac4472e8d58b51ff", func := "flowquery/flqlaw1.CounterAdds", spec := "counterAdds", apart := false }
def CounterAddsSaid : Prop := counterAddsRow.holds Try.pinned (OpenSpec.ofChange counterAddsSpec)

/-- ITS FALSE NEIGHBOUR: 'it returns false'. Refute it at one input. -/
def counterAddsWrong : ChangeSpec := { name := "counterAdds", fn := fun _ => fun
  | [d1, d2, d3] => { results := [.lit (.bool false)], args := [d1, d2, d3] }
  | _ => none }
def CounterAddsWrongFalsely : Prop := counterAddsRow.holds Try.pinned (OpenSpec.ofChange counterAddsWrong)

/-- 'flqlaw1.CounterMultiplies': WHATEVER THE INPUT: true; the input reads as it did. -/
def counterMultipliesSpec : ChangeSpec := { name := "counterMultiplies", fn := fun _ => fun
  | [d1, d2, d3] => { results := [.lit (.bool true)], args := [d1, d2, d3] }
  | _ => none }
def counterMultipliesRow : OpenClaim := { program := "ytgecdccjdhoamaa", sum := "3e40e87fd22cfe7f42ae5f7431598f19cbfdd9a5c77105d4ac4472e8d58b51ff", func := "flowquery/flqlaw1.CounterMultiplies", spec := "counterMultiplies", apart := false }
def CounterMultipliesSaid : Prop := counterMultipliesRow.holds Try.pinned (OpenSpec.ofChange counterMultipliesSpec)

/-- ITS FALSE NEIGHBOUR: 'it returns false'. Refute it at one input. -/
def counterMultipliesWrong : ChangeSpec := { name := "counterMultiplies", fn := fun _ => fun
  | [d1, d2, d3] => { results := [.lit (.bool false)], args := [d1, d2, d3] }
  | _ => none }
def CounterMultipliesWrongFalsely : Prop := counterMultipliesRow.holds Try.pinned (OpenSpec.ofChange counterMultipliesWrong)

/- THE SECOND FORM. 'bulk': how many values and letters a reading holds, each counted each time it is reached (what is shared counts as often as it is met; a slice's spare places count too). A statement '..UptoSaid' is the law's where the arguments, and the package variables that the reading takes, are together of bulk at most 1048576: NARROWER than '..Said'. Prove '..Said' where nothing that the law and all that it calls make is longer than what came in: it says more and counts as full. Else prove '..UptoSaid'. A law counts once. -/
mutual
def uptoBulk {H : Type} : DataW H → Nat
  | .lit (.string bytes) => bytes.length + 1
  | .lit _ => 1
  | .nil => 1
  | .ptr d => uptoBulk d + 1
  | .slice elems spare => uptoBulkAll elems + uptoBulkAll spare + 1
  | .agg parts => uptoBulkAll parts + 1
  | .iface _ d => uptoBulk d + 1
  | .map entries => uptoBulkEntries entries + 1
  | .held _ => 1
def uptoBulkAll {H : Type} : List (DataW H) → Nat
  | [] => 0
  | d :: r => uptoBulk d + uptoBulkAll r
def uptoBulkEntries {H : Type} : List (Lit × DataW H) → Nat
  | [] => 0
  | x :: r => uptoBulkEntry x + uptoBulkEntries r
def uptoBulkEntry {H : Type} : Lit × DataW H → Nat
  | (.string bytes, d) => bytes.length + uptoBulk d + 1
  | (_, d) => uptoBulk d + 1
 end
def uptoSmall : (H : Type) → List (DataW H) → Bool := fun _ ds => decide (uptoBulkAll ds ≤ 1048576)
def OpenSpec.upto (s : _root_.Go.ChangeSpec) : _root_.Go.OpenSpec := { _root_.Go.OpenSpec.ofChange s with cond := some uptoSmall }

/-- 'flqlaw1.CounterComputes', WHERE WHAT IT READS IS OF BULK AT MOST 1048576: true; the input reads as it did. -/
def counterComputesUptoRow : OpenClaim := { program := "ytgecdccjdhoamaa", sum := "3e40e87fd22cfe7f42ae5f7431598f19cbfdd9a5c77105d4ac4472e8d58b51ff", func := "flowquery/flqlaw1.CounterComputes", spec := "counterComputes", apart := false, narrowed := true }
def CounterComputesUptoSaid : Prop := counterComputesUptoRow.holds Try.pinned (OpenSpec.upto counterComputesSpec)

/-- 'flqlaw1.CounterNear', WHERE WHAT IT READS IS OF BULK AT MOST 1048576: true; the input reads as it did. -/
def counterNearUptoRow : OpenClaim := { program := "ytgecdccjdhoamaa", sum := "3e40e87fd22cfe7f42ae5f7431598f19cbfdd9a5c77105d4ac4472e8d58b51ff", func := "flowquery/flqlaw1.CounterNear", spec := "counterNear", apart := false, narrowed := true }
def CounterNearUptoSaid : Prop := counterNearUptoRow.holds Try.pinned (OpenSpec.upto counterNearSpec)

/-- 'flqlaw1.CounterAdds', WHERE WHAT IT READS IS OF BULK AT MOST 1048576: true; the input reads as it did. -/
def counterAddsUptoRow : OpenClaim := { program := "ytgecdccjdhoamaa", sum := "3e40e87fd22cfe7f42ae5f7431598f19cbfdd9a5c77105d4ac4472e8d58b51ff", func := "flowquery/flqlaw1.CounterAdds", spec := "counterAdds", apart := false, narrowed := true }
def CounterAddsUptoSaid : Prop := counterAddsUptoRow.holds Try.pinned (OpenSpec.upto counterAddsSpec)

/-- 'flqlaw1.CounterMultiplies', WHERE WHAT IT READS IS OF BULK AT MOST 1048576: true; the input reads as it did. -/
def counterMultipliesUptoRow : OpenClaim := { program := "ytgecdccjdhoamaa", sum := "3e40e87fd22cfe7f42ae5f7431598f19cbfdd9a5c77105d4ac4472e8d58b51ff", func := "flowquery/flqlaw1.CounterMultiplies", spec := "counterMultiplies", apart := false, narrowed := true }
def CounterMultipliesUptoSaid : Prop := counterMultipliesUptoRow.holds Try.pinned (OpenSpec.upto counterMultipliesSpec)

end Rows
end Go.Proofs.Ytgecdccjdhoamaa
