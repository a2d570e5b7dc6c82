/-
  DERIVED. GIVEN WITH THE SEED: THE CARDS: each row of YtlepcgncphikhaaDoorRows.lean that lists a variable, with what it lists TIED to the program's text (the seventh form; the later family's looks); each row that meets fmt, with fmt's text TOLD by the authors' own Lean function (tested against real Go, not proved from fmt's source: count such statements apart). THE CARD IS WHAT COUNTS. Prove the row's statement (the work); the ties are given (YtlepcgncphikhaaDoorTie.lean); close each card by the builder's one call (the guide's Derived/Test/ToyasCard.lean, 'card_holds'). Laid BY PROGRAM, IN A SANDBOX (cutbox-door.mjs). By AI agents, Wed Nov 11 2026. No macro, syntax, notation, axiom, sorry.
-/
import Derived.Test.YtlepcgncphikhaaDoorRows
import GoSem.ClaimSeven
namespace Go.Proofs.YtlepcgncphikhaaDoor
namespace Rows

/-- THE TIED CARD OF 'flqlaw5.SyntaxParses'. -/
def syntaxParsesCard : Claim7 := { stood := { row := syntaxParsesRow, standIns := [], harness := (true, "43d32899eeae02d965a1d307a3e65b55117d9cf88d7c886689717bb19b6abc23"), looks := false }, kinds := [], alts := [], laidByText := true, laidKinds := [.data], laidTests := true, laidLooks := .later }
def SyntaxParsesCardSaid : Prop := Claim7.holds Tryd.pinned (.plain (OpenSpec.ofChange syntaxParsesSpec)) syntaxParsesCard

/-- THE TIED CARD OF 'flqlaw5.SyntaxRoundTrip'. -/
def syntaxRoundTripCard : Claim7 := { stood := { row := syntaxRoundTripRow, standIns := [], harness := (true, "43d32899eeae02d965a1d307a3e65b55117d9cf88d7c886689717bb19b6abc23"), looks := false }, kinds := [], alts := [], laidByText := true, laidKinds := [.data], laidTests := true, laidLooks := .later }
def SyntaxRoundTripCardSaid : Prop := Claim7.holds Tryd.pinned (.plain (OpenSpec.ofChange syntaxRoundTripSpec)) syntaxRoundTripCard

/-- THE TIED CARD OF 'flqlaw5.SyntaxSpoils'. -/
def syntaxSpoilsCard : Claim7 := { stood := { row := syntaxSpoilsRow, standIns := [], harness := (true, "43d32899eeae02d965a1d307a3e65b55117d9cf88d7c886689717bb19b6abc23"), looks := false }, kinds := [], alts := [], laidByText := true, laidKinds := [.data], laidTests := true, laidLooks := .later }
def SyntaxSpoilsCardSaid : Prop := Claim7.holds Tryd.pinned (.plain (OpenSpec.ofChange syntaxSpoilsSpec)) syntaxSpoilsCard

/-- THE TIED CARD OF 'flqlaw6.ValidateDefines'. -/
def validateDefinesCard : Claim7 := { stood := { row := validateDefinesRow, standIns := [], harness := (true, "43d32899eeae02d965a1d307a3e65b55117d9cf88d7c886689717bb19b6abc23"), looks := false }, kinds := [], alts := [], laidByText := true, laidKinds := [.data], laidTests := true, laidLooks := .later }
def ValidateDefinesCardSaid : Prop := Claim7.holds Tryd.pinned (.plain (OpenSpec.ofChange validateDefinesSpec)) validateDefinesCard

/-- THE TIED CARD OF 'flqlaw6.ValidateRenames'. -/
def validateRenamesCard : Claim7 := { stood := { row := validateRenamesRow, standIns := [], harness := (true, "43d32899eeae02d965a1d307a3e65b55117d9cf88d7c886689717bb19b6abc23"), looks := false }, kinds := [], alts := [], laidByText := true, laidKinds := [.data], laidTests := true, laidLooks := .later }
def ValidateRenamesCardSaid : Prop := Claim7.holds Tryd.pinned (.plain (OpenSpec.ofChange validateRenamesSpec)) validateRenamesCard

/-- THE TIED CARD OF 'flqlaw6.ValidateLimits'. -/
def validateLimitsCard : Claim7 := { stood := { row := validateLimitsRow, standIns := [], harness := (true, "43d32899eeae02d965a1d307a3e65b55117d9cf88d7c886689717bb19b6abc23"), looks := false }, kinds := [], alts := [], laidByText := true, laidKinds := [.data], laidTests := true, laidLooks := .later }
def ValidateLimitsCardSaid : Prop := Claim7.holds Tryd.pinned (.plain (OpenSpec.ofChange validateLimitsSpec)) validateLimitsCard

/-- THE TIED CARD OF 'flqlaw7.NodesNumber'. -/
def nodesNumberCard : Claim7 := { stood := { row := nodesNumberRow, standIns := [], harness := (true, "43d32899eeae02d965a1d307a3e65b55117d9cf88d7c886689717bb19b6abc23"), looks := false }, kinds := [], alts := [], laidByText := true, laidKinds := [.data, .data, .data, .data], laidTests := true, laidLooks := .later }
def NodesNumberCardSaid : Prop := Claim7.holds Tryd.pinned (.plain (OpenSpec.ofChange nodesNumberSpec)) nodesNumberCard

/-- THE TIED CARD OF 'flqlaw7.NodesStatements'. -/
def nodesStatementsCard : Claim7 := { stood := { row := nodesStatementsRow, standIns := [], harness := (true, "43d32899eeae02d965a1d307a3e65b55117d9cf88d7c886689717bb19b6abc23"), looks := false }, kinds := [], alts := [], laidByText := true, laidKinds := [.data, .data, .data, .data], laidTests := true, laidLooks := .later }
def NodesStatementsCardSaid : Prop := Claim7.holds Tryd.pinned (.plain (OpenSpec.ofChange nodesStatementsSpec)) nodesStatementsCard

/-- THE SECOND FORM's CARD OF 'flqlaw5.SyntaxParses'. -/
def syntaxParsesUptoCard : Claim7 := { stood := { row := syntaxParsesUptoRow, standIns := [], harness := (true, "43d32899eeae02d965a1d307a3e65b55117d9cf88d7c886689717bb19b6abc23"), looks := false }, kinds := [], alts := [], laidByText := true, laidKinds := [.data], laidTests := true, laidLooks := .later }
def SyntaxParsesUptoCardSaid : Prop := Claim7.holds Tryd.pinned (.plain (OpenSpec.upto syntaxParsesSpec)) syntaxParsesUptoCard

/-- THE SECOND FORM's CARD OF 'flqlaw5.SyntaxRoundTrip'. -/
def syntaxRoundTripUptoCard : Claim7 := { stood := { row := syntaxRoundTripUptoRow, standIns := [], harness := (true, "43d32899eeae02d965a1d307a3e65b55117d9cf88d7c886689717bb19b6abc23"), looks := false }, kinds := [], alts := [], laidByText := true, laidKinds := [.data], laidTests := true, laidLooks := .later }
def SyntaxRoundTripUptoCardSaid : Prop := Claim7.holds Tryd.pinned (.plain (OpenSpec.upto syntaxRoundTripSpec)) syntaxRoundTripUptoCard

/-- THE SECOND FORM's CARD OF 'flqlaw5.SyntaxSpoils'. -/
def syntaxSpoilsUptoCard : Claim7 := { stood := { row := syntaxSpoilsUptoRow, standIns := [], harness := (true, "43d32899eeae02d965a1d307a3e65b55117d9cf88d7c886689717bb19b6abc23"), looks := false }, kinds := [], alts := [], laidByText := true, laidKinds := [.data], laidTests := true, laidLooks := .later }
def SyntaxSpoilsUptoCardSaid : Prop := Claim7.holds Tryd.pinned (.plain (OpenSpec.upto syntaxSpoilsSpec)) syntaxSpoilsUptoCard

/-- THE SECOND FORM's CARD OF 'flqlaw6.ValidateDefines'. -/
def validateDefinesUptoCard : Claim7 := { stood := { row := validateDefinesUptoRow, standIns := [], harness := (true, "43d32899eeae02d965a1d307a3e65b55117d9cf88d7c886689717bb19b6abc23"), looks := false }, kinds := [], alts := [], laidByText := true, laidKinds := [.data], laidTests := true, laidLooks := .later }
def ValidateDefinesUptoCardSaid : Prop := Claim7.holds Tryd.pinned (.plain (OpenSpec.upto validateDefinesSpec)) validateDefinesUptoCard

/-- THE SECOND FORM's CARD OF 'flqlaw6.ValidateRenames'. -/
def validateRenamesUptoCard : Claim7 := { stood := { row := validateRenamesUptoRow, standIns := [], harness := (true, "43d32899eeae02d965a1d307a3e65b55117d9cf88d7c886689717bb19b6abc23"), looks := false }, kinds := [], alts := [], laidByText := true, laidKinds := [.data], laidTests := true, laidLooks := .later }
def ValidateRenamesUptoCardSaid : Prop := Claim7.holds Tryd.pinned (.plain (OpenSpec.upto validateRenamesSpec)) validateRenamesUptoCard

/-- THE SECOND FORM's CARD OF 'flqlaw6.ValidateLimits'. -/
def validateLimitsUptoCard : Claim7 := { stood := { row := validateLimitsUptoRow, standIns := [], harness := (true, "43d32899eeae02d965a1d307a3e65b55117d9cf88d7c886689717bb19b6abc23"), looks := false }, kinds := [], alts := [], laidByText := true, laidKinds := [.data], laidTests := true, laidLooks := .later }
def ValidateLimitsUptoCardSaid : Prop := Claim7.holds Tryd.pinned (.plain (OpenSpec.upto validateLimitsSpec)) validateLimitsUptoCard

/-- THE SECOND FORM's CARD OF 'flqlaw7.NodesNumber'. -/
def nodesNumberUptoCard : Claim7 := { stood := { row := nodesNumberUptoRow, standIns := [], harness := (true, "43d32899eeae02d965a1d307a3e65b55117d9cf88d7c886689717bb19b6abc23"), looks := false }, kinds := [], alts := [], laidByText := true, laidKinds := [.data, .data, .data, .data], laidTests := true, laidLooks := .later }
def NodesNumberUptoCardSaid : Prop := Claim7.holds Tryd.pinned (.plain (OpenSpec.upto nodesNumberSpec)) nodesNumberUptoCard

/-- THE SECOND FORM's CARD OF 'flqlaw7.NodesStatements'. -/
def nodesStatementsUptoCard : Claim7 := { stood := { row := nodesStatementsUptoRow, standIns := [], harness := (true, "43d32899eeae02d965a1d307a3e65b55117d9cf88d7c886689717bb19b6abc23"), looks := false }, kinds := [], alts := [], laidByText := true, laidKinds := [.data, .data, .data, .data], laidTests := true, laidLooks := .later }
def NodesStatementsUptoCardSaid : Prop := Claim7.holds Tryd.pinned (.plain (OpenSpec.upto nodesStatementsSpec)) nodesStatementsUptoCard
end Rows
end Go.Proofs.YtlepcgncphikhaaDoor
