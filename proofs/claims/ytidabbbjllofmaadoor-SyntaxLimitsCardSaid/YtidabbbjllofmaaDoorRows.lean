/-
  NARROWER THAN 'FOR EVERY INPUT', by the rows' own cells (each row's printed sentence says how): SyntaxParses: laid · SyntaxRoundTrip: laid · SyntaxLimits: laid · SyntaxSpoils: laid · ValidateDefines: laid · ValidateRenames: laid · ValidateLimits: laid.
  DERIVED. THE GIVEN ROWS OF THIS SEAT. 7 by the template 'for every input the law returns true; each argument reads behind the call as it read before'; 0 by the template 'total and deterministic' (their statements: YtidabbbjllofmaaDoorTotals.lean).
  GIVEN WITH THE SEED: the statements are not yours to turn. If you find one false, say at which input.
  Laid BY PROGRAM, IN A SANDBOX (cutbox-rows.mjs): the forced cells as the released guide's own fill.sh prints them over the translation 407e64ce8b08d410… (all of the seat's roots in one cut). By AI agents, Wed Nov 11 2026. No macro, syntax, notation, axiom, sorry.
-/
import Derived.Test.YtidabbbjllofmaaDoorChecked
import GoSem.Claim
import GoSem.ClaimJoined
import GoSem.ClaimMapViews
import Derived.JoinedTies
import Derived.KernelRfl
namespace Go.Proofs.YtidabbbjllofmaaDoor
/- THE CELL 'sum', in the pinned program and in every row, IS THE sha256 OF THE DUMP (.gsa) THAT YtidabbbjllofmaaDoorProg.lean LOADS. Nothing in Lean hashes anything: it is a label: what it is worth is what the hold of that sum in a sandbox is worth. -/
noncomputable def Tryd.pinned : Pinned := { name := "ytidabbbjllofmaadoor", sum := "407e64ce8b08d410f71fa0abefdf16d87422b5c4279fb69abb80943f2e63846e", checked := Tryd.checked }
namespace Rows
def none {H : Type} : Left H := { results := [], args := [] }

/- WHAT THE LISTED PACKAGE-LEVEL VARIABLES READ AS WHEN THE CALL BEGINS. Each datum BY PROGRAM (the guide's laid-datum.mjs) off the statement by which the dump's own 'gosem.cut.vars' lays the variable. In a bare row this is a premise. The card (YtidabbbjllofmaaDoorCards.lean) ties it to the program's text. -/
def laid_flowquery_syntax_shapes {H : Type} : DataW H := .agg [.agg [.lit (.string []), .lit (.bool false), .lit (.int .i64 0), .lit (.int .i64 0), .lit (.int .i64 0)], .agg [.lit (.string []), .lit (.bool true), .lit (.int .i64 0), .lit (.int .i64 4), .lit (.int .i64 0)], .agg [.lit (.string [117, 115, 101]), .lit (.bool false), .lit (.int .i64 1), .lit (.int .i64 4), .lit (.int .i64 0)], .agg [.lit (.string [99, 97, 108, 108]), .lit (.bool false), .lit (.int .i64 0), .lit (.int .i64 0), .lit (.int .i64 1)], .agg [.lit (.string [115, 111, 117, 114, 99, 101]), .lit (.bool true), .lit (.int .i64 0), .lit (.int .i64 0), .lit (.int .i64 0)], .agg [.lit (.string [115, 105, 110, 107]), .lit (.bool false), .lit (.int .i64 1), .lit (.int .i64 1), .lit (.int .i64 0)], .agg [.lit (.string [115, 97, 110, 105, 116, 105, 122, 101]), .lit (.bool true), .lit (.int .i64 0), .lit (.int .i64 0), .lit (.int .i64 0)], .agg [.lit (.string [103, 111, 116, 111]), .lit (.bool false), .lit (.int .i64 0), .lit (.int .i64 0), .lit (.int .i64 1)], .agg [.lit (.string [98, 114, 97, 110, 99, 104]), .lit (.bool false), .lit (.int .i64 1), .lit (.int .i64 1), .lit (.int .i64 2)], .agg [.lit (.string [114, 101, 116, 117, 114, 110]), .lit (.bool false), .lit (.int .i64 0), .lit (.int .i64 0), .lit (.int .i64 0)]]

/-- 'flqlaw5.SyntaxParses': WHATEVER THE INPUT: true; the input reads as it did. -/
def syntaxParsesSpec : ChangeSpec := { name := "syntaxParses", fn := fun _ => fun
  | [d1, d2] => { results := [.lit (.bool true)], args := [d1, d2] }
  | _ => none }
def syntaxParsesRow : OpenClaim := { program := "ytidabbbjllofmaadoor", sum := "407e64ce8b08d410f71fa0abefdf16d87422b5c4279fb69abb80943f2e63846e", func := "flowquery/flqlaw5.SyntaxParses", spec := "syntaxParses", unfollowed := true, recurses := true, named := ["flowquery/syntax.shapes"], apart := false, laid := [("flowquery/syntax.shapes", laid_flowquery_syntax_shapes)] }
def SyntaxParsesSaid : Prop := syntaxParsesRow.holds Tryd.pinned (OpenSpec.ofChange syntaxParsesSpec)

/-- ITS FALSE NEIGHBOUR: 'it returns false'. Refute it at one input. -/
def syntaxParsesWrong : ChangeSpec := { name := "syntaxParses", fn := fun _ => fun
  | [d1, d2] => { results := [.lit (.bool false)], args := [d1, d2] }
  | _ => none }
def SyntaxParsesWrongFalsely : Prop := syntaxParsesRow.holds Tryd.pinned (OpenSpec.ofChange syntaxParsesWrong)

/-- 'flqlaw5.SyntaxRoundTrip': WHATEVER THE INPUT: true; the input reads as it did. -/
def syntaxRoundTripSpec : ChangeSpec := { name := "syntaxRoundTrip", fn := fun _ => fun
  | [d] => { results := [.lit (.bool true)], args := [d] }
  | _ => none }
def syntaxRoundTripRow : OpenClaim := { program := "ytidabbbjllofmaadoor", sum := "407e64ce8b08d410f71fa0abefdf16d87422b5c4279fb69abb80943f2e63846e", func := "flowquery/flqlaw5.SyntaxRoundTrip", spec := "syntaxRoundTrip", inPlace := ["internal/abi.NoEscape", "internal/bytealg.MakeNoZero"], unfollowed := true, recurses := true, named := ["flowquery/syntax.shapes"], apart := false, laid := [("flowquery/syntax.shapes", laid_flowquery_syntax_shapes)] }
def SyntaxRoundTripSaid : Prop := syntaxRoundTripRow.holds Tryd.pinned (OpenSpec.ofChange syntaxRoundTripSpec)

/-- ITS FALSE NEIGHBOUR: 'it returns false'. Refute it at one input. -/
def syntaxRoundTripWrong : ChangeSpec := { name := "syntaxRoundTrip", fn := fun _ => fun
  | [d] => { results := [.lit (.bool false)], args := [d] }
  | _ => none }
def SyntaxRoundTripWrongFalsely : Prop := syntaxRoundTripRow.holds Tryd.pinned (OpenSpec.ofChange syntaxRoundTripWrong)

/-- 'flqlaw5.SyntaxLimits': WHATEVER THE INPUT: true; the input reads as it did. -/
def syntaxLimitsSpec : ChangeSpec := { name := "syntaxLimits", fn := fun _ => fun
  | [d1, d2] => { results := [.lit (.bool true)], args := [d1, d2] }
  | _ => none }
def syntaxLimitsRow : OpenClaim := { program := "ytidabbbjllofmaadoor", sum := "407e64ce8b08d410f71fa0abefdf16d87422b5c4279fb69abb80943f2e63846e", func := "flowquery/flqlaw5.SyntaxLimits", spec := "syntaxLimits", unfollowed := true, recurses := true, named := ["flowquery/syntax.shapes"], apart := false, laid := [("flowquery/syntax.shapes", laid_flowquery_syntax_shapes)] }
def SyntaxLimitsSaid : Prop := syntaxLimitsRow.holds Tryd.pinned (OpenSpec.ofChange syntaxLimitsSpec)

/-- ITS FALSE NEIGHBOUR: 'it returns false'. Refute it at one input. -/
def syntaxLimitsWrong : ChangeSpec := { name := "syntaxLimits", fn := fun _ => fun
  | [d1, d2] => { results := [.lit (.bool false)], args := [d1, d2] }
  | _ => none }
def SyntaxLimitsWrongFalsely : Prop := syntaxLimitsRow.holds Tryd.pinned (OpenSpec.ofChange syntaxLimitsWrong)

/-- 'flqlaw5.SyntaxSpoils': WHATEVER THE INPUT: true; the input reads as it did. -/
def syntaxSpoilsSpec : ChangeSpec := { name := "syntaxSpoils", fn := fun _ => fun
  | [d] => { results := [.lit (.bool true)], args := [d] }
  | _ => none }
def syntaxSpoilsRow : OpenClaim := { program := "ytidabbbjllofmaadoor", sum := "407e64ce8b08d410f71fa0abefdf16d87422b5c4279fb69abb80943f2e63846e", func := "flowquery/flqlaw5.SyntaxSpoils", spec := "syntaxSpoils", unfollowed := true, recurses := true, named := ["flowquery/syntax.shapes"], apart := false, laid := [("flowquery/syntax.shapes", laid_flowquery_syntax_shapes)] }
def SyntaxSpoilsSaid : Prop := syntaxSpoilsRow.holds Tryd.pinned (OpenSpec.ofChange syntaxSpoilsSpec)

/-- ITS FALSE NEIGHBOUR: 'it returns false'. Refute it at one input. -/
def syntaxSpoilsWrong : ChangeSpec := { name := "syntaxSpoils", fn := fun _ => fun
  | [d] => { results := [.lit (.bool false)], args := [d] }
  | _ => none }
def SyntaxSpoilsWrongFalsely : Prop := syntaxSpoilsRow.holds Tryd.pinned (OpenSpec.ofChange syntaxSpoilsWrong)

/-- 'flqlaw6.ValidateDefines': WHATEVER THE INPUT: true; the input reads as it did. -/
def validateDefinesSpec : ChangeSpec := { name := "validateDefines", fn := fun _ => fun
  | [d] => { results := [.lit (.bool true)], args := [d] }
  | _ => none }
def validateDefinesRow : OpenClaim := { program := "ytidabbbjllofmaadoor", sum := "407e64ce8b08d410f71fa0abefdf16d87422b5c4279fb69abb80943f2e63846e", func := "flowquery/flqlaw6.ValidateDefines", spec := "validateDefines", unfollowed := true, recurses := true, named := ["flowquery/syntax.shapes"], apart := false, laid := [("flowquery/syntax.shapes", laid_flowquery_syntax_shapes)] }
def ValidateDefinesSaid : Prop := validateDefinesRow.holds Tryd.pinned (OpenSpec.ofChange validateDefinesSpec)

/-- ITS FALSE NEIGHBOUR: 'it returns false'. Refute it at one input. -/
def validateDefinesWrong : ChangeSpec := { name := "validateDefines", fn := fun _ => fun
  | [d] => { results := [.lit (.bool false)], args := [d] }
  | _ => none }
def ValidateDefinesWrongFalsely : Prop := validateDefinesRow.holds Tryd.pinned (OpenSpec.ofChange validateDefinesWrong)

/-- 'flqlaw6.ValidateRenames': WHATEVER THE INPUT: true; the input reads as it did. -/
def validateRenamesSpec : ChangeSpec := { name := "validateRenames", fn := fun _ => fun
  | [d] => { results := [.lit (.bool true)], args := [d] }
  | _ => none }
def validateRenamesRow : OpenClaim := { program := "ytidabbbjllofmaadoor", sum := "407e64ce8b08d410f71fa0abefdf16d87422b5c4279fb69abb80943f2e63846e", func := "flowquery/flqlaw6.ValidateRenames", spec := "validateRenames", unfollowed := true, recurses := true, named := ["flowquery/syntax.shapes"], apart := false, laid := [("flowquery/syntax.shapes", laid_flowquery_syntax_shapes)] }
def ValidateRenamesSaid : Prop := validateRenamesRow.holds Tryd.pinned (OpenSpec.ofChange validateRenamesSpec)

/-- ITS FALSE NEIGHBOUR: 'it returns false'. Refute it at one input. -/
def validateRenamesWrong : ChangeSpec := { name := "validateRenames", fn := fun _ => fun
  | [d] => { results := [.lit (.bool false)], args := [d] }
  | _ => none }
def ValidateRenamesWrongFalsely : Prop := validateRenamesRow.holds Tryd.pinned (OpenSpec.ofChange validateRenamesWrong)

/-- 'flqlaw6.ValidateLimits': WHATEVER THE INPUT: true; the input reads as it did. -/
def validateLimitsSpec : ChangeSpec := { name := "validateLimits", fn := fun _ => fun
  | [d] => { results := [.lit (.bool true)], args := [d] }
  | _ => none }
def validateLimitsRow : OpenClaim := { program := "ytidabbbjllofmaadoor", sum := "407e64ce8b08d410f71fa0abefdf16d87422b5c4279fb69abb80943f2e63846e", func := "flowquery/flqlaw6.ValidateLimits", spec := "validateLimits", unfollowed := true, recurses := true, named := ["flowquery/syntax.shapes"], apart := false, laid := [("flowquery/syntax.shapes", laid_flowquery_syntax_shapes)] }
def ValidateLimitsSaid : Prop := validateLimitsRow.holds Tryd.pinned (OpenSpec.ofChange validateLimitsSpec)

/-- ITS FALSE NEIGHBOUR: 'it returns false'. Refute it at one input. -/
def validateLimitsWrong : ChangeSpec := { name := "validateLimits", fn := fun _ => fun
  | [d] => { results := [.lit (.bool false)], args := [d] }
  | _ => none }
def ValidateLimitsWrongFalsely : Prop := validateLimitsRow.holds Tryd.pinned (OpenSpec.ofChange validateLimitsWrong)

/- THE SECOND FORM. 'bulk': how many values and letters a reading holds, each counted each time it is reached (what is shared counts as often as it is met; a slice's spare places count too). A statement '..UptoSaid' is the law's where the arguments, and the package variables that the reading takes, are together of bulk at most 1048576: NARROWER than '..Said'. Prove '..Said' where nothing that the law and all that it calls make is longer than what came in: it says more and counts as full. Else prove '..UptoSaid'. A law counts once. -/
mutual
def uptoBulk {H : Type} : DataW H → Nat
  | .lit (.string bytes) => bytes.length + 1
  | .lit _ => 1
  | .nil => 1
  | .ptr d => uptoBulk d + 1
  | .slice elems spare => uptoBulkAll elems + uptoBulkAll spare + 1
  | .agg parts => uptoBulkAll parts + 1
  | .iface _ d => uptoBulk d + 1
  | .map entries => uptoBulkEntries entries + 1
  | .held _ => 1
def uptoBulkAll {H : Type} : List (DataW H) → Nat
  | [] => 0
  | d :: r => uptoBulk d + uptoBulkAll r
def uptoBulkEntries {H : Type} : List (Lit × DataW H) → Nat
  | [] => 0
  | x :: r => uptoBulkEntry x + uptoBulkEntries r
def uptoBulkEntry {H : Type} : Lit × DataW H → Nat
  | (.string bytes, d) => bytes.length + uptoBulk d + 1
  | (_, d) => uptoBulk d + 1
 end
def uptoSmall : (H : Type) → List (DataW H) → Bool := fun _ ds => decide (uptoBulkAll ds ≤ 1048576)
def OpenSpec.upto (s : _root_.Go.ChangeSpec) : _root_.Go.OpenSpec := { _root_.Go.OpenSpec.ofChange s with cond := some uptoSmall }

/-- 'flqlaw5.SyntaxParses', WHERE WHAT IT READS IS OF BULK AT MOST 1048576: true; the input reads as it did. -/
def syntaxParsesUptoRow : OpenClaim := { program := "ytidabbbjllofmaadoor", sum := "407e64ce8b08d410f71fa0abefdf16d87422b5c4279fb69abb80943f2e63846e", func := "flowquery/flqlaw5.SyntaxParses", spec := "syntaxParses", unfollowed := true, recurses := true, named := ["flowquery/syntax.shapes"], apart := false, laid := [("flowquery/syntax.shapes", laid_flowquery_syntax_shapes)], narrowed := true }
def SyntaxParsesUptoSaid : Prop := syntaxParsesUptoRow.holds Tryd.pinned (OpenSpec.upto syntaxParsesSpec)

/-- 'flqlaw5.SyntaxRoundTrip', WHERE WHAT IT READS IS OF BULK AT MOST 1048576: true; the input reads as it did. -/
def syntaxRoundTripUptoRow : OpenClaim := { program := "ytidabbbjllofmaadoor", sum := "407e64ce8b08d410f71fa0abefdf16d87422b5c4279fb69abb80943f2e63846e", func := "flowquery/flqlaw5.SyntaxRoundTrip", spec := "syntaxRoundTrip", inPlace := ["internal/abi.NoEscape", "internal/bytealg.MakeNoZero"], unfollowed := true, recurses := true, named := ["flowquery/syntax.shapes"], apart := false, laid := [("flowquery/syntax.shapes", laid_flowquery_syntax_shapes)], narrowed := true }
def SyntaxRoundTripUptoSaid : Prop := syntaxRoundTripUptoRow.holds Tryd.pinned (OpenSpec.upto syntaxRoundTripSpec)

/-- 'flqlaw5.SyntaxLimits', WHERE WHAT IT READS IS OF BULK AT MOST 1048576: true; the input reads as it did. -/
def syntaxLimitsUptoRow : OpenClaim := { program := "ytidabbbjllofmaadoor", sum := "407e64ce8b08d410f71fa0abefdf16d87422b5c4279fb69abb80943f2e63846e", func := "flowquery/flqlaw5.SyntaxLimits", spec := "syntaxLimits", unfollowed := true, recurses := true, named := ["flowquery/syntax.shapes"], apart := false, laid := [("flowquery/syntax.shapes", laid_flowquery_syntax_shapes)], narrowed := true }
def SyntaxLimitsUptoSaid : Prop := syntaxLimitsUptoRow.holds Tryd.pinned (OpenSpec.upto syntaxLimitsSpec)

/-- 'flqlaw5.SyntaxSpoils', WHERE WHAT IT READS IS OF BULK AT MOST 1048576: true; the input reads as it did. -/
def syntaxSpoilsUptoRow : OpenClaim := { program := "ytidabbbjllofmaadoor", sum := "407e64ce8b08d410f71fa0abefdf16d87422b5c4279fb69abb80943f2e63846e", func := "flowquery/flqlaw5.SyntaxSpoils", spec := "syntaxSpoils", unfollowed := true, recurses := true, named := ["flowquery/syntax.shapes"], apart := false, laid := [("flowquery/syntax.shapes", laid_flowquery_syntax_shapes)], narrowed := true }
def SyntaxSpoilsUptoSaid : Prop := syntaxSpoilsUptoRow.holds Tryd.pinned (OpenSpec.upto syntaxSpoilsSpec)

/-- 'flqlaw6.ValidateDefines', WHERE WHAT IT READS IS OF BULK AT MOST 1048576: true; the input reads as it did. -/
def validateDefinesUptoRow : OpenClaim := { program := "ytidabbbjllofmaadoor", sum := "407e64ce8b08d410f71fa0abefdf16d87422b5c4279fb69abb80943f2e63846e", func := "flowquery/flqlaw6.ValidateDefines", spec := "validateDefines", unfollowed := true, recurses := true, named := ["flowquery/syntax.shapes"], apart := false, laid := [("flowquery/syntax.shapes", laid_flowquery_syntax_shapes)], narrowed := true }
def ValidateDefinesUptoSaid : Prop := validateDefinesUptoRow.holds Tryd.pinned (OpenSpec.upto validateDefinesSpec)

/-- 'flqlaw6.ValidateRenames', WHERE WHAT IT READS IS OF BULK AT MOST 1048576: true; the input reads as it did. -/
def validateRenamesUptoRow : OpenClaim := { program := "ytidabbbjllofmaadoor", sum := "407e64ce8b08d410f71fa0abefdf16d87422b5c4279fb69abb80943f2e63846e", func := "flowquery/flqlaw6.ValidateRenames", spec := "validateRenames", unfollowed := true, recurses := true, named := ["flowquery/syntax.shapes"], apart := false, laid := [("flowquery/syntax.shapes", laid_flowquery_syntax_shapes)], narrowed := true }
def ValidateRenamesUptoSaid : Prop := validateRenamesUptoRow.holds Tryd.pinned (OpenSpec.upto validateRenamesSpec)

/-- 'flqlaw6.ValidateLimits', WHERE WHAT IT READS IS OF BULK AT MOST 1048576: true; the input reads as it did. -/
def validateLimitsUptoRow : OpenClaim := { program := "ytidabbbjllofmaadoor", sum := "407e64ce8b08d410f71fa0abefdf16d87422b5c4279fb69abb80943f2e63846e", func := "flowquery/flqlaw6.ValidateLimits", spec := "validateLimits", unfollowed := true, recurses := true, named := ["flowquery/syntax.shapes"], apart := false, laid := [("flowquery/syntax.shapes", laid_flowquery_syntax_shapes)], narrowed := true }
def ValidateLimitsUptoSaid : Prop := validateLimitsUptoRow.holds Tryd.pinned (OpenSpec.upto validateLimitsSpec)

end Rows
end Go.Proofs.YtidabbbjllofmaaDoor
