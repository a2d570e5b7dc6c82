/-
  NARROWER THAN 'FOR EVERY INPUT', by the rows' own cells (each row's printed sentence says how): SyntaxParses: laid · SyntaxRoundTrip: laid · SyntaxSpoils: laid · ValidateDefines: laid · ValidateRenames: laid · ValidateLimits: laid · NodesNumber: laid · NodesStatements: laid.
  DERIVED. THE GIVEN ROWS OF THIS SEAT. 8 by the template 'for every input the law returns true; each argument reads behind the call as it read before'; 0 by the template 'total and deterministic' (their statements: YtlepcgncphikhaaDoorTotals.lean).
  GIVEN WITH THE SEED: the statements are not yours to turn. If you find one false, say at which input.
  Laid BY PROGRAM, IN A SANDBOX (cutbox-rows.mjs): the forced cells as the released guide's own fill.sh prints them over the translation 70f9a8825465d364… (all of the seat's roots in one cut). By AI agents, Wed Nov 11 2026. No macro, syntax, notation, axiom, sorry.
-/
import Derived.Test.YtlepcgncphikhaaDoorChecked
import GoSem.Claim
import GoSem.ClaimJoined
import GoSem.ClaimMapViews
import Derived.JoinedTies
import Derived.KernelRfl
namespace Go.Proofs.YtlepcgncphikhaaDoor
/- THE CELL 'sum', in the pinned program and in every row, IS THE sha256 OF THE DUMP (.gsa) THAT YtlepcgncphikhaaDoorProg.lean LOADS. Nothing in Lean hashes anything: it is a label: what it is worth is what the hold of that sum in a sandbox is worth. -/
noncomputable def Tryd.pinned : Pinned := { name := "ytlepcgncphikhaadoor", sum := "70f9a8825465d364af751553e87a6529e42edb19d74fd163d06a5640755309f6", checked := Tryd.checked }
namespace Rows
def none {H : Type} : Left H := { results := [], args := [] }

/- WHAT THE LISTED PACKAGE-LEVEL VARIABLES READ AS WHEN THE CALL BEGINS. Each datum BY PROGRAM (the guide's laid-datum.mjs) off the statement by which the dump's own 'gosem.cut.vars' lays the variable. In a bare row this is a premise. The card (YtlepcgncphikhaaDoorCards.lean) ties it to the program's text. -/
def laid_flowquery_syntax_shapes {H : Type} : DataW H := .agg [.agg [.lit (.string []), .lit (.bool false), .lit (.int .i64 0), .lit (.int .i64 0), .lit (.int .i64 0)], .agg [.lit (.string []), .lit (.bool true), .lit (.int .i64 0), .lit (.int .i64 4), .lit (.int .i64 0)], .agg [.lit (.string [117, 115, 101]), .lit (.bool false), .lit (.int .i64 1), .lit (.int .i64 4), .lit (.int .i64 0)], .agg [.lit (.string [99, 97, 108, 108]), .lit (.bool false), .lit (.int .i64 0), .lit (.int .i64 0), .lit (.int .i64 1)], .agg [.lit (.string [115, 111, 117, 114, 99, 101]), .lit (.bool true), .lit (.int .i64 0), .lit (.int .i64 0), .lit (.int .i64 0)], .agg [.lit (.string [115, 105, 110, 107]), .lit (.bool false), .lit (.int .i64 1), .lit (.int .i64 1), .lit (.int .i64 0)], .agg [.lit (.string [115, 97, 110, 105, 116, 105, 122, 101]), .lit (.bool true), .lit (.int .i64 0), .lit (.int .i64 0), .lit (.int .i64 0)], .agg [.lit (.string [103, 111, 116, 111]), .lit (.bool false), .lit (.int .i64 0), .lit (.int .i64 0), .lit (.int .i64 1)], .agg [.lit (.string [98, 114, 97, 110, 99, 104]), .lit (.bool false), .lit (.int .i64 1), .lit (.int .i64 1), .lit (.int .i64 2)], .agg [.lit (.string [114, 101, 116, 117, 114, 110]), .lit (.bool false), .lit (.int .i64 0), .lit (.int .i64 0), .lit (.int .i64 0)]]
def laid_math_bits_deBruijn32tab {H : Type} : DataW H := .agg [.lit (.int .u8 0), .lit (.int .u8 1), .lit (.int .u8 28), .lit (.int .u8 2), .lit (.int .u8 29), .lit (.int .u8 14), .lit (.int .u8 24), .lit (.int .u8 3), .lit (.int .u8 30), .lit (.int .u8 22), .lit (.int .u8 20), .lit (.int .u8 15), .lit (.int .u8 25), .lit (.int .u8 17), .lit (.int .u8 4), .lit (.int .u8 8), .lit (.int .u8 31), .lit (.int .u8 27), .lit (.int .u8 13), .lit (.int .u8 23), .lit (.int .u8 21), .lit (.int .u8 19), .lit (.int .u8 16), .lit (.int .u8 7), .lit (.int .u8 26), .lit (.int .u8 12), .lit (.int .u8 18), .lit (.int .u8 6), .lit (.int .u8 11), .lit (.int .u8 5), .lit (.int .u8 10), .lit (.int .u8 9)]
def laid_math_bits_deBruijn64tab {H : Type} : DataW H := .agg [.lit (.int .u8 0), .lit (.int .u8 1), .lit (.int .u8 56), .lit (.int .u8 2), .lit (.int .u8 57), .lit (.int .u8 49), .lit (.int .u8 28), .lit (.int .u8 3), .lit (.int .u8 61), .lit (.int .u8 58), .lit (.int .u8 42), .lit (.int .u8 50), .lit (.int .u8 38), .lit (.int .u8 29), .lit (.int .u8 17), .lit (.int .u8 4), .lit (.int .u8 62), .lit (.int .u8 47), .lit (.int .u8 59), .lit (.int .u8 36), .lit (.int .u8 45), .lit (.int .u8 43), .lit (.int .u8 51), .lit (.int .u8 22), .lit (.int .u8 53), .lit (.int .u8 39), .lit (.int .u8 33), .lit (.int .u8 30), .lit (.int .u8 24), .lit (.int .u8 18), .lit (.int .u8 12), .lit (.int .u8 5), .lit (.int .u8 63), .lit (.int .u8 55), .lit (.int .u8 48), .lit (.int .u8 27), .lit (.int .u8 60), .lit (.int .u8 41), .lit (.int .u8 37), .lit (.int .u8 16), .lit (.int .u8 46), .lit (.int .u8 35), .lit (.int .u8 44), .lit (.int .u8 21), .lit (.int .u8 52), .lit (.int .u8 32), .lit (.int .u8 23), .lit (.int .u8 11), .lit (.int .u8 54), .lit (.int .u8 26), .lit (.int .u8 40), .lit (.int .u8 15), .lit (.int .u8 34), .lit (.int .u8 20), .lit (.int .u8 31), .lit (.int .u8 10), .lit (.int .u8 25), .lit (.int .u8 14), .lit (.int .u8 19), .lit (.int .u8 9), .lit (.int .u8 13), .lit (.int .u8 8), .lit (.int .u8 7), .lit (.int .u8 6)]
def laid_internal_strconv_uint64pow10 {H : Type} : DataW H := .agg [.lit (.int .u64 1), .lit (.int .u64 10), .lit (.int .u64 100), .lit (.int .u64 1000), .lit (.int .u64 10000), .lit (.int .u64 100000), .lit (.int .u64 1000000), .lit (.int .u64 10000000), .lit (.int .u64 100000000), .lit (.int .u64 1000000000), .lit (.int .u64 10000000000), .lit (.int .u64 100000000000), .lit (.int .u64 1000000000000), .lit (.int .u64 10000000000000), .lit (.int .u64 100000000000000), .lit (.int .u64 1000000000000000), .lit (.int .u64 10000000000000000), .lit (.int .u64 100000000000000000), .lit (.int .u64 1000000000000000000), .lit (.int .u64 10000000000000000000)]

/-- 'flqlaw5.SyntaxParses': WHATEVER THE INPUT: true; the input reads as it did. -/
def syntaxParsesSpec : ChangeSpec := { name := "syntaxParses", fn := fun _ => fun
  | [d1, d2] => { results := [.lit (.bool true)], args := [d1, d2] }
  | _ => none }
def syntaxParsesRow : OpenClaim := { program := "ytlepcgncphikhaadoor", sum := "70f9a8825465d364af751553e87a6529e42edb19d74fd163d06a5640755309f6", func := "flowquery/flqlaw5.SyntaxParses", spec := "syntaxParses", unfollowed := true, recurses := true, named := ["flowquery/syntax.shapes"], apart := false, laid := [("flowquery/syntax.shapes", laid_flowquery_syntax_shapes)] }
def SyntaxParsesSaid : Prop := syntaxParsesRow.holds Tryd.pinned (OpenSpec.ofChange syntaxParsesSpec)

/-- ITS FALSE NEIGHBOUR: 'it returns false'. Refute it at one input. -/
def syntaxParsesWrong : ChangeSpec := { name := "syntaxParses", fn := fun _ => fun
  | [d1, d2] => { results := [.lit (.bool false)], args := [d1, d2] }
  | _ => none }
def SyntaxParsesWrongFalsely : Prop := syntaxParsesRow.holds Tryd.pinned (OpenSpec.ofChange syntaxParsesWrong)

/-- 'flqlaw5.SyntaxRoundTrip': WHATEVER THE INPUT: true; the input reads as it did. -/
def syntaxRoundTripSpec : ChangeSpec := { name := "syntaxRoundTrip", fn := fun _ => fun
  | [d] => { results := [.lit (.bool true)], args := [d] }
  | _ => none }
def syntaxRoundTripRow : OpenClaim := { program := "ytlepcgncphikhaadoor", sum := "70f9a8825465d364af751553e87a6529e42edb19d74fd163d06a5640755309f6", func := "flowquery/flqlaw5.SyntaxRoundTrip", spec := "syntaxRoundTrip", inPlace := ["internal/abi.NoEscape", "internal/bytealg.MakeNoZero"], unfollowed := true, recurses := true, named := ["flowquery/syntax.shapes"], apart := false, laid := [("flowquery/syntax.shapes", laid_flowquery_syntax_shapes)] }
def SyntaxRoundTripSaid : Prop := syntaxRoundTripRow.holds Tryd.pinned (OpenSpec.ofChange syntaxRoundTripSpec)

/-- ITS FALSE NEIGHBOUR: 'it returns false'. Refute it at one input. -/
def syntaxRoundTripWrong : ChangeSpec := { name := "syntaxRoundTrip", fn := fun _ => fun
  | [d] => { results := [.lit (.bool false)], args := [d] }
  | _ => none }
def SyntaxRoundTripWrongFalsely : Prop := syntaxRoundTripRow.holds Tryd.pinned (OpenSpec.ofChange syntaxRoundTripWrong)

/-- 'flqlaw5.SyntaxSpoils': WHATEVER THE INPUT: true; the input reads as it did. -/
def syntaxSpoilsSpec : ChangeSpec := { name := "syntaxSpoils", fn := fun _ => fun
  | [d] => { results := [.lit (.bool true)], args := [d] }
  | _ => none }
def syntaxSpoilsRow : OpenClaim := { program := "ytlepcgncphikhaadoor", sum := "70f9a8825465d364af751553e87a6529e42edb19d74fd163d06a5640755309f6", func := "flowquery/flqlaw5.SyntaxSpoils", spec := "syntaxSpoils", unfollowed := true, recurses := true, named := ["flowquery/syntax.shapes"], apart := false, laid := [("flowquery/syntax.shapes", laid_flowquery_syntax_shapes)] }
def SyntaxSpoilsSaid : Prop := syntaxSpoilsRow.holds Tryd.pinned (OpenSpec.ofChange syntaxSpoilsSpec)

/-- ITS FALSE NEIGHBOUR: 'it returns false'. Refute it at one input. -/
def syntaxSpoilsWrong : ChangeSpec := { name := "syntaxSpoils", fn := fun _ => fun
  | [d] => { results := [.lit (.bool false)], args := [d] }
  | _ => none }
def SyntaxSpoilsWrongFalsely : Prop := syntaxSpoilsRow.holds Tryd.pinned (OpenSpec.ofChange syntaxSpoilsWrong)

/-- 'flqlaw6.ValidateDefines': WHATEVER THE INPUT: true; the input reads as it did. -/
def validateDefinesSpec : ChangeSpec := { name := "validateDefines", fn := fun _ => fun
  | [d] => { results := [.lit (.bool true)], args := [d] }
  | _ => none }
def validateDefinesRow : OpenClaim := { program := "ytlepcgncphikhaadoor", sum := "70f9a8825465d364af751553e87a6529e42edb19d74fd163d06a5640755309f6", func := "flowquery/flqlaw6.ValidateDefines", spec := "validateDefines", unfollowed := true, recurses := true, named := ["flowquery/syntax.shapes"], apart := false, laid := [("flowquery/syntax.shapes", laid_flowquery_syntax_shapes)] }
def ValidateDefinesSaid : Prop := validateDefinesRow.holds Tryd.pinned (OpenSpec.ofChange validateDefinesSpec)

/-- ITS FALSE NEIGHBOUR: 'it returns false'. Refute it at one input. -/
def validateDefinesWrong : ChangeSpec := { name := "validateDefines", fn := fun _ => fun
  | [d] => { results := [.lit (.bool false)], args := [d] }
  | _ => none }
def ValidateDefinesWrongFalsely : Prop := validateDefinesRow.holds Tryd.pinned (OpenSpec.ofChange validateDefinesWrong)

/-- 'flqlaw6.ValidateRenames': WHATEVER THE INPUT: true; the input reads as it did. -/
def validateRenamesSpec : ChangeSpec := { name := "validateRenames", fn := fun _ => fun
  | [d] => { results := [.lit (.bool true)], args := [d] }
  | _ => none }
def validateRenamesRow : OpenClaim := { program := "ytlepcgncphikhaadoor", sum := "70f9a8825465d364af751553e87a6529e42edb19d74fd163d06a5640755309f6", func := "flowquery/flqlaw6.ValidateRenames", spec := "validateRenames", unfollowed := true, recurses := true, named := ["flowquery/syntax.shapes"], apart := false, laid := [("flowquery/syntax.shapes", laid_flowquery_syntax_shapes)] }
def ValidateRenamesSaid : Prop := validateRenamesRow.holds Tryd.pinned (OpenSpec.ofChange validateRenamesSpec)

/-- ITS FALSE NEIGHBOUR: 'it returns false'. Refute it at one input. -/
def validateRenamesWrong : ChangeSpec := { name := "validateRenames", fn := fun _ => fun
  | [d] => { results := [.lit (.bool false)], args := [d] }
  | _ => none }
def ValidateRenamesWrongFalsely : Prop := validateRenamesRow.holds Tryd.pinned (OpenSpec.ofChange validateRenamesWrong)

/-- 'flqlaw6.ValidateLimits': WHATEVER THE INPUT: true; the input reads as it did. -/
def validateLimitsSpec : ChangeSpec := { name := "validateLimits", fn := fun _ => fun
  | [d] => { results := [.lit (.bool true)], args := [d] }
  | _ => none }
def validateLimitsRow : OpenClaim := { program := "ytlepcgncphikhaadoor", sum := "70f9a8825465d364af751553e87a6529e42edb19d74fd163d06a5640755309f6", func := "flowquery/flqlaw6.ValidateLimits", spec := "validateLimits", unfollowed := true, recurses := true, named := ["flowquery/syntax.shapes"], apart := false, laid := [("flowquery/syntax.shapes", laid_flowquery_syntax_shapes)] }
def ValidateLimitsSaid : Prop := validateLimitsRow.holds Tryd.pinned (OpenSpec.ofChange validateLimitsSpec)

/-- ITS FALSE NEIGHBOUR: 'it returns false'. Refute it at one input. -/
def validateLimitsWrong : ChangeSpec := { name := "validateLimits", fn := fun _ => fun
  | [d] => { results := [.lit (.bool false)], args := [d] }
  | _ => none }
def ValidateLimitsWrongFalsely : Prop := validateLimitsRow.holds Tryd.pinned (OpenSpec.ofChange validateLimitsWrong)

/-- 'flqlaw7.NodesNumber': WHATEVER THE INPUT: true; the input reads as it did. -/
def nodesNumberSpec : ChangeSpec := { name := "nodesNumber", fn := fun _ => fun
  | [d] => { results := [.lit (.bool true)], args := [d] }
  | _ => none }
def nodesNumberRow : OpenClaim := { program := "ytlepcgncphikhaadoor", sum := "70f9a8825465d364af751553e87a6529e42edb19d74fd163d06a5640755309f6", func := "flowquery/flqlaw7.NodesNumber", spec := "nodesNumber", unfollowed := true, recurses := true, named := ["flowquery/syntax.shapes", "internal/strconv.uint64pow10", "math/bits.deBruijn32tab", "math/bits.deBruijn64tab"], apart := false, laid := [("math/bits.deBruijn32tab", laid_math_bits_deBruijn32tab), ("math/bits.deBruijn64tab", laid_math_bits_deBruijn64tab), ("internal/strconv.uint64pow10", laid_internal_strconv_uint64pow10), ("flowquery/syntax.shapes", laid_flowquery_syntax_shapes)] }
def NodesNumberSaid : Prop := nodesNumberRow.holds Tryd.pinned (OpenSpec.ofChange nodesNumberSpec)

/-- ITS FALSE NEIGHBOUR: 'it returns false'. Refute it at one input. -/
def nodesNumberWrong : ChangeSpec := { name := "nodesNumber", fn := fun _ => fun
  | [d] => { results := [.lit (.bool false)], args := [d] }
  | _ => none }
def NodesNumberWrongFalsely : Prop := nodesNumberRow.holds Tryd.pinned (OpenSpec.ofChange nodesNumberWrong)

/-- 'flqlaw7.NodesStatements': WHATEVER THE INPUT: true; the input reads as it did. -/
def nodesStatementsSpec : ChangeSpec := { name := "nodesStatements", fn := fun _ => fun
  | [d] => { results := [.lit (.bool true)], args := [d] }
  | _ => none }
def nodesStatementsRow : OpenClaim := { program := "ytlepcgncphikhaadoor", sum := "70f9a8825465d364af751553e87a6529e42edb19d74fd163d06a5640755309f6", func := "flowquery/flqlaw7.NodesStatements", spec := "nodesStatements", unfollowed := true, recurses := true, named := ["flowquery/syntax.shapes", "internal/strconv.uint64pow10", "math/bits.deBruijn32tab", "math/bits.deBruijn64tab"], apart := false, laid := [("math/bits.deBruijn32tab", laid_math_bits_deBruijn32tab), ("math/bits.deBruijn64tab", laid_math_bits_deBruijn64tab), ("internal/strconv.uint64pow10", laid_internal_strconv_uint64pow10), ("flowquery/syntax.shapes", laid_flowquery_syntax_shapes)] }
def NodesStatementsSaid : Prop := nodesStatementsRow.holds Tryd.pinned (OpenSpec.ofChange nodesStatementsSpec)

/-- ITS FALSE NEIGHBOUR: 'it returns false'. Refute it at one input. -/
def nodesStatementsWrong : ChangeSpec := { name := "nodesStatements", fn := fun _ => fun
  | [d] => { results := [.lit (.bool false)], args := [d] }
  | _ => none }
def NodesStatementsWrongFalsely : Prop := nodesStatementsRow.holds Tryd.pinned (OpenSpec.ofChange nodesStatementsWrong)

/- THE SECOND FORM. 'bulk': how many values and letters a reading holds, each counted each time it is reached (what is shared counts as often as it is met; a slice's spare places count too). A statement '..UptoSaid' is the law's where the arguments, and the package variables that the reading takes, are together of bulk at most 1048576: NARROWER than '..Said'. Prove '..Said' where nothing that the law and all that it calls make is longer than what came in: it says more and counts as full. Else prove '..UptoSaid'. A law counts once. -/
mutual
def uptoBulk {H : Type} : DataW H → Nat
  | .lit (.string bytes) => bytes.length + 1
  | .lit _ => 1
  | .nil => 1
  | .ptr d => uptoBulk d + 1
  | .slice elems spare => uptoBulkAll elems + uptoBulkAll spare + 1
  | .agg parts => uptoBulkAll parts + 1
  | .iface _ d => uptoBulk d + 1
  | .map entries => uptoBulkEntries entries + 1
  | .held _ => 1
def uptoBulkAll {H : Type} : List (DataW H) → Nat
  | [] => 0
  | d :: r => uptoBulk d + uptoBulkAll r
def uptoBulkEntries {H : Type} : List (Lit × DataW H) → Nat
  | [] => 0
  | x :: r => uptoBulkEntry x + uptoBulkEntries r
def uptoBulkEntry {H : Type} : Lit × DataW H → Nat
  | (.string bytes, d) => bytes.length + uptoBulk d + 1
  | (_, d) => uptoBulk d + 1
 end
def uptoSmall : (H : Type) → List (DataW H) → Bool := fun _ ds => decide (uptoBulkAll ds ≤ 1048576)
def OpenSpec.upto (s : _root_.Go.ChangeSpec) : _root_.Go.OpenSpec := { _root_.Go.OpenSpec.ofChange s with cond := some uptoSmall }

/-- 'flqlaw5.SyntaxParses', WHERE WHAT IT READS IS OF BULK AT MOST 1048576: true; the input reads as it did. -/
def syntaxParsesUptoRow : OpenClaim := { program := "ytlepcgncphikhaadoor", sum := "70f9a8825465d364af751553e87a6529e42edb19d74fd163d06a5640755309f6", func := "flowquery/flqlaw5.SyntaxParses", spec := "syntaxParses", unfollowed := true, recurses := true, named := ["flowquery/syntax.shapes"], apart := false, laid := [("flowquery/syntax.shapes", laid_flowquery_syntax_shapes)], narrowed := true }
def SyntaxParsesUptoSaid : Prop := syntaxParsesUptoRow.holds Tryd.pinned (OpenSpec.upto syntaxParsesSpec)

/-- 'flqlaw5.SyntaxRoundTrip', WHERE WHAT IT READS IS OF BULK AT MOST 1048576: true; the input reads as it did. -/
def syntaxRoundTripUptoRow : OpenClaim := { program := "ytlepcgncphikhaadoor", sum := "70f9a8825465d364af751553e87a6529e42edb19d74fd163d06a5640755309f6", func := "flowquery/flqlaw5.SyntaxRoundTrip", spec := "syntaxRoundTrip", inPlace := ["internal/abi.NoEscape", "internal/bytealg.MakeNoZero"], unfollowed := true, recurses := true, named := ["flowquery/syntax.shapes"], apart := false, laid := [("flowquery/syntax.shapes", laid_flowquery_syntax_shapes)], narrowed := true }
def SyntaxRoundTripUptoSaid : Prop := syntaxRoundTripUptoRow.holds Tryd.pinned (OpenSpec.upto syntaxRoundTripSpec)

/-- 'flqlaw5.SyntaxSpoils', WHERE WHAT IT READS IS OF BULK AT MOST 1048576: true; the input reads as it did. -/
def syntaxSpoilsUptoRow : OpenClaim := { program := "ytlepcgncphikhaadoor", sum := "70f9a8825465d364af751553e87a6529e42edb19d74fd163d06a5640755309f6", func := "flowquery/flqlaw5.SyntaxSpoils", spec := "syntaxSpoils", unfollowed := true, recurses := true, named := ["flowquery/syntax.shapes"], apart := false, laid := [("flowquery/syntax.shapes", laid_flowquery_syntax_shapes)], narrowed := true }
def SyntaxSpoilsUptoSaid : Prop := syntaxSpoilsUptoRow.holds Tryd.pinned (OpenSpec.upto syntaxSpoilsSpec)

/-- 'flqlaw6.ValidateDefines', WHERE WHAT IT READS IS OF BULK AT MOST 1048576: true; the input reads as it did. -/
def validateDefinesUptoRow : OpenClaim := { program := "ytlepcgncphikhaadoor", sum := "70f9a8825465d364af751553e87a6529e42edb19d74fd163d06a5640755309f6", func := "flowquery/flqlaw6.ValidateDefines", spec := "validateDefines", unfollowed := true, recurses := true, named := ["flowquery/syntax.shapes"], apart := false, laid := [("flowquery/syntax.shapes", laid_flowquery_syntax_shapes)], narrowed := true }
def ValidateDefinesUptoSaid : Prop := validateDefinesUptoRow.holds Tryd.pinned (OpenSpec.upto validateDefinesSpec)

/-- 'flqlaw6.ValidateRenames', WHERE WHAT IT READS IS OF BULK AT MOST 1048576: true; the input reads as it did. -/
def validateRenamesUptoRow : OpenClaim := { program := "ytlepcgncphikhaadoor", sum := "70f9a8825465d364af751553e87a6529e42edb19d74fd163d06a5640755309f6", func := "flowquery/flqlaw6.ValidateRenames", spec := "validateRenames", unfollowed := true, recurses := true, named := ["flowquery/syntax.shapes"], apart := false, laid := [("flowquery/syntax.shapes", laid_flowquery_syntax_shapes)], narrowed := true }
def ValidateRenamesUptoSaid : Prop := validateRenamesUptoRow.holds Tryd.pinned (OpenSpec.upto validateRenamesSpec)

/-- 'flqlaw6.ValidateLimits', WHERE WHAT IT READS IS OF BULK AT MOST 1048576: true; the input reads as it did. -/
def validateLimitsUptoRow : OpenClaim := { program := "ytlepcgncphikhaadoor", sum := "70f9a8825465d364af751553e87a6529e42edb19d74fd163d06a5640755309f6", func := "flowquery/flqlaw6.ValidateLimits", spec := "validateLimits", unfollowed := true, recurses := true, named := ["flowquery/syntax.shapes"], apart := false, laid := [("flowquery/syntax.shapes", laid_flowquery_syntax_shapes)], narrowed := true }
def ValidateLimitsUptoSaid : Prop := validateLimitsUptoRow.holds Tryd.pinned (OpenSpec.upto validateLimitsSpec)

/-- 'flqlaw7.NodesNumber', WHERE WHAT IT READS IS OF BULK AT MOST 1048576: true; the input reads as it did. -/
def nodesNumberUptoRow : OpenClaim := { program := "ytlepcgncphikhaadoor", sum := "70f9a8825465d364af751553e87a6529e42edb19d74fd163d06a5640755309f6", func := "flowquery/flqlaw7.NodesNumber", spec := "nodesNumber", unfollowed := true, recurses := true, named := ["flowquery/syntax.shapes", "internal/strconv.uint64pow10", "math/bits.deBruijn32tab", "math/bits.deBruijn64tab"], apart := false, laid := [("math/bits.deBruijn32tab", laid_math_bits_deBruijn32tab), ("math/bits.deBruijn64tab", laid_math_bits_deBruijn64tab), ("internal/strconv.uint64pow10", laid_internal_strconv_uint64pow10), ("flowquery/syntax.shapes", laid_flowquery_syntax_shapes)], narrowed := true }
def NodesNumberUptoSaid : Prop := nodesNumberUptoRow.holds Tryd.pinned (OpenSpec.upto nodesNumberSpec)

/-- 'flqlaw7.NodesStatements', WHERE WHAT IT READS IS OF BULK AT MOST 1048576: true; the input reads as it did. -/
def nodesStatementsUptoRow : OpenClaim := { program := "ytlepcgncphikhaadoor", sum := "70f9a8825465d364af751553e87a6529e42edb19d74fd163d06a5640755309f6", func := "flowquery/flqlaw7.NodesStatements", spec := "nodesStatements", unfollowed := true, recurses := true, named := ["flowquery/syntax.shapes", "internal/strconv.uint64pow10", "math/bits.deBruijn32tab", "math/bits.deBruijn64tab"], apart := false, laid := [("math/bits.deBruijn32tab", laid_math_bits_deBruijn32tab), ("math/bits.deBruijn64tab", laid_math_bits_deBruijn64tab), ("internal/strconv.uint64pow10", laid_internal_strconv_uint64pow10), ("flowquery/syntax.shapes", laid_flowquery_syntax_shapes)], narrowed := true }
def NodesStatementsUptoSaid : Prop := nodesStatementsUptoRow.holds Tryd.pinned (OpenSpec.upto nodesStatementsSpec)

end Rows
end Go.Proofs.YtlepcgncphikhaaDoor
