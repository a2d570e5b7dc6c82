/-
  DERIVED. GIVEN WITH THE SEED: THE CARDS: each row of YtcgichfanfijjaaDoorRows.lean that lists a variable, with what it lists TIED to the program's text (the seventh form; the later family's looks); each row that meets fmt, with fmt's text TOLD by the authors' own Lean function (tested against real Go, not proved from fmt's source: count such statements apart). THE CARD IS WHAT COUNTS. Prove the row's statement (the work); the ties are given (YtcgichfanfijjaaDoorTie.lean); close each card by the builder's one call (the guide's Derived/Test/ToyasCard.lean, 'card_holds'). Laid BY PROGRAM, IN A SANDBOX (cutbox-door.mjs). By AI agents, Wed Nov 11 2026. No macro, syntax, notation, axiom, sorry.
-/
import Derived.Test.YtcgichfanfijjaaDoorRows
import GoSem.ClaimSeven
namespace Go.Proofs.YtcgichfanfijjaaDoor
namespace Rows

/-- THE TIED CARD OF 'flqlaw8.GraphExamples'. -/
def graphExamplesCard : Claim7 := { stood := { row := graphExamplesRow, standIns := [], harness := (true, "0fc0909394aa15b4fb91b15590437e6d20fff2c51c1cf96f4efab4f9e8d04161"), looks := false }, kinds := [], alts := [], laidByText := true, laidKinds := [.data], laidTests := true, laidLooks := .later }
def GraphExamplesCardSaid : Prop := Claim7.holds Tryd.pinned (.plain (OpenSpec.ofChange graphExamplesSpec)) graphExamplesCard

/-- THE TIED CARD OF 'flqlaw7.NodesNumber'. -/
def nodesNumberCard : Claim7 := { stood := { row := nodesNumberRow, standIns := [], harness := (true, "0fc0909394aa15b4fb91b15590437e6d20fff2c51c1cf96f4efab4f9e8d04161"), looks := false }, kinds := [], alts := [], laidByText := true, laidKinds := [.data, .data, .data, .data], laidTests := true, laidLooks := .later }
def NodesNumberCardSaid : Prop := Claim7.holds Tryd.pinned (.plain (OpenSpec.ofChange nodesNumberSpec)) nodesNumberCard

/-- THE TIED CARD OF 'flqlaw7.NodesStatements'. -/
def nodesStatementsCard : Claim7 := { stood := { row := nodesStatementsRow, standIns := [], harness := (true, "0fc0909394aa15b4fb91b15590437e6d20fff2c51c1cf96f4efab4f9e8d04161"), looks := false }, kinds := [], alts := [], laidByText := true, laidKinds := [.data, .data, .data, .data], laidTests := true, laidLooks := .later }
def NodesStatementsCardSaid : Prop := Claim7.holds Tryd.pinned (.plain (OpenSpec.ofChange nodesStatementsSpec)) nodesStatementsCard

/-- THE TIED CARD OF 'flqlaw6.ValidateRenames'. -/
def validateRenamesCard : Claim7 := { stood := { row := validateRenamesRow, standIns := [], harness := (true, "0fc0909394aa15b4fb91b15590437e6d20fff2c51c1cf96f4efab4f9e8d04161"), looks := false }, kinds := [], alts := [], laidByText := true, laidKinds := [.data], laidTests := true, laidLooks := .later }
def ValidateRenamesCardSaid : Prop := Claim7.holds Tryd.pinned (.plain (OpenSpec.ofChange validateRenamesSpec)) validateRenamesCard

/-- THE TIED CARD OF 'flqlaw5.SyntaxRoundTrip'. -/
def syntaxRoundTripCard : Claim7 := { stood := { row := syntaxRoundTripRow, standIns := [], harness := (true, "0fc0909394aa15b4fb91b15590437e6d20fff2c51c1cf96f4efab4f9e8d04161"), looks := false }, kinds := [], alts := [], laidByText := true, laidKinds := [.data], laidTests := true, laidLooks := .later }
def SyntaxRoundTripCardSaid : Prop := Claim7.holds Tryd.pinned (.plain (OpenSpec.ofChange syntaxRoundTripSpec)) syntaxRoundTripCard

/-- THE SECOND FORM's CARD OF 'flqlaw8.GraphExamples'. -/
def graphExamplesUptoCard : Claim7 := { stood := { row := graphExamplesUptoRow, standIns := [], harness := (true, "0fc0909394aa15b4fb91b15590437e6d20fff2c51c1cf96f4efab4f9e8d04161"), looks := false }, kinds := [], alts := [], laidByText := true, laidKinds := [.data], laidTests := true, laidLooks := .later }
def GraphExamplesUptoCardSaid : Prop := Claim7.holds Tryd.pinned (.plain (OpenSpec.upto graphExamplesSpec)) graphExamplesUptoCard

/-- THE SECOND FORM's CARD OF 'flqlaw7.NodesNumber'. -/
def nodesNumberUptoCard : Claim7 := { stood := { row := nodesNumberUptoRow, standIns := [], harness := (true, "0fc0909394aa15b4fb91b15590437e6d20fff2c51c1cf96f4efab4f9e8d04161"), looks := false }, kinds := [], alts := [], laidByText := true, laidKinds := [.data, .data, .data, .data], laidTests := true, laidLooks := .later }
def NodesNumberUptoCardSaid : Prop := Claim7.holds Tryd.pinned (.plain (OpenSpec.upto nodesNumberSpec)) nodesNumberUptoCard

/-- THE SECOND FORM's CARD OF 'flqlaw7.NodesStatements'. -/
def nodesStatementsUptoCard : Claim7 := { stood := { row := nodesStatementsUptoRow, standIns := [], harness := (true, "0fc0909394aa15b4fb91b15590437e6d20fff2c51c1cf96f4efab4f9e8d04161"), looks := false }, kinds := [], alts := [], laidByText := true, laidKinds := [.data, .data, .data, .data], laidTests := true, laidLooks := .later }
def NodesStatementsUptoCardSaid : Prop := Claim7.holds Tryd.pinned (.plain (OpenSpec.upto nodesStatementsSpec)) nodesStatementsUptoCard

/-- THE SECOND FORM's CARD OF 'flqlaw6.ValidateRenames'. -/
def validateRenamesUptoCard : Claim7 := { stood := { row := validateRenamesUptoRow, standIns := [], harness := (true, "0fc0909394aa15b4fb91b15590437e6d20fff2c51c1cf96f4efab4f9e8d04161"), looks := false }, kinds := [], alts := [], laidByText := true, laidKinds := [.data], laidTests := true, laidLooks := .later }
def ValidateRenamesUptoCardSaid : Prop := Claim7.holds Tryd.pinned (.plain (OpenSpec.upto validateRenamesSpec)) validateRenamesUptoCard

/-- THE SECOND FORM's CARD OF 'flqlaw5.SyntaxRoundTrip'. -/
def syntaxRoundTripUptoCard : Claim7 := { stood := { row := syntaxRoundTripUptoRow, standIns := [], harness := (true, "0fc0909394aa15b4fb91b15590437e6d20fff2c51c1cf96f4efab4f9e8d04161"), looks := false }, kinds := [], alts := [], laidByText := true, laidKinds := [.data], laidTests := true, laidLooks := .later }
def SyntaxRoundTripUptoCardSaid : Prop := Claim7.holds Tryd.pinned (.plain (OpenSpec.upto syntaxRoundTripSpec)) syntaxRoundTripUptoCard
end Rows
end Go.Proofs.YtcgichfanfijjaaDoor
