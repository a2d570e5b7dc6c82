/-
  DERIVED. GIVEN WITH THE SEED: THE CARDS: each row of YtidabbbjllofmaaDoorRows.lean that lists a variable, with what it lists TIED to the program's text (the seventh form; the later family's looks); each row that meets fmt, with fmt's text TOLD by the authors' own Lean function (tested against real Go, not proved from fmt's source: count such statements apart). THE CARD IS WHAT COUNTS. Prove the row's statement (the work); the ties are given (YtidabbbjllofmaaDoorTie.lean); close each card by the builder's one call (the guide's Derived/Test/ToyasCard.lean, 'card_holds'). Laid BY PROGRAM, IN A SANDBOX (cutbox-door.mjs). By AI agents, Wed Nov 11 2026. No macro, syntax, notation, axiom, sorry.
-/
import Derived.Test.YtidabbbjllofmaaDoorRows
import GoSem.ClaimSeven
namespace Go.Proofs.YtidabbbjllofmaaDoor
namespace Rows

/-- THE TIED CARD OF 'flqlaw5.SyntaxParses'. -/
def syntaxParsesCard : Claim7 := { stood := { row := syntaxParsesRow, standIns := [], harness := (true, "dab0e1f4e94a30dff466801a213e97c80dfcd1fcacb42cb5b8f99364748f3774"), looks := false }, kinds := [], alts := [], laidByText := true, laidKinds := [.data], laidTests := true, laidLooks := .later }
def SyntaxParsesCardSaid : Prop := Claim7.holds Tryd.pinned (.plain (OpenSpec.ofChange syntaxParsesSpec)) syntaxParsesCard

/-- THE TIED CARD OF 'flqlaw5.SyntaxRoundTrip'. -/
def syntaxRoundTripCard : Claim7 := { stood := { row := syntaxRoundTripRow, standIns := [], harness := (true, "dab0e1f4e94a30dff466801a213e97c80dfcd1fcacb42cb5b8f99364748f3774"), looks := false }, kinds := [], alts := [], laidByText := true, laidKinds := [.data], laidTests := true, laidLooks := .later }
def SyntaxRoundTripCardSaid : Prop := Claim7.holds Tryd.pinned (.plain (OpenSpec.ofChange syntaxRoundTripSpec)) syntaxRoundTripCard

/-- THE TIED CARD OF 'flqlaw5.SyntaxLimits'. -/
def syntaxLimitsCard : Claim7 := { stood := { row := syntaxLimitsRow, standIns := [], harness := (true, "dab0e1f4e94a30dff466801a213e97c80dfcd1fcacb42cb5b8f99364748f3774"), looks := false }, kinds := [], alts := [], laidByText := true, laidKinds := [.data], laidTests := true, laidLooks := .later }
def SyntaxLimitsCardSaid : Prop := Claim7.holds Tryd.pinned (.plain (OpenSpec.ofChange syntaxLimitsSpec)) syntaxLimitsCard

/-- THE TIED CARD OF 'flqlaw5.SyntaxSpoils'. -/
def syntaxSpoilsCard : Claim7 := { stood := { row := syntaxSpoilsRow, standIns := [], harness := (true, "dab0e1f4e94a30dff466801a213e97c80dfcd1fcacb42cb5b8f99364748f3774"), looks := false }, kinds := [], alts := [], laidByText := true, laidKinds := [.data], laidTests := true, laidLooks := .later }
def SyntaxSpoilsCardSaid : Prop := Claim7.holds Tryd.pinned (.plain (OpenSpec.ofChange syntaxSpoilsSpec)) syntaxSpoilsCard

/-- THE TIED CARD OF 'flqlaw6.ValidateDefines'. -/
def validateDefinesCard : Claim7 := { stood := { row := validateDefinesRow, standIns := [], harness := (true, "dab0e1f4e94a30dff466801a213e97c80dfcd1fcacb42cb5b8f99364748f3774"), looks := false }, kinds := [], alts := [], laidByText := true, laidKinds := [.data], laidTests := true, laidLooks := .later }
def ValidateDefinesCardSaid : Prop := Claim7.holds Tryd.pinned (.plain (OpenSpec.ofChange validateDefinesSpec)) validateDefinesCard

/-- THE TIED CARD OF 'flqlaw6.ValidateRenames'. -/
def validateRenamesCard : Claim7 := { stood := { row := validateRenamesRow, standIns := [], harness := (true, "dab0e1f4e94a30dff466801a213e97c80dfcd1fcacb42cb5b8f99364748f3774"), looks := false }, kinds := [], alts := [], laidByText := true, laidKinds := [.data], laidTests := true, laidLooks := .later }
def ValidateRenamesCardSaid : Prop := Claim7.holds Tryd.pinned (.plain (OpenSpec.ofChange validateRenamesSpec)) validateRenamesCard

/-- THE TIED CARD OF 'flqlaw6.ValidateLimits'. -/
def validateLimitsCard : Claim7 := { stood := { row := validateLimitsRow, standIns := [], harness := (true, "dab0e1f4e94a30dff466801a213e97c80dfcd1fcacb42cb5b8f99364748f3774"), looks := false }, kinds := [], alts := [], laidByText := true, laidKinds := [.data], laidTests := true, laidLooks := .later }
def ValidateLimitsCardSaid : Prop := Claim7.holds Tryd.pinned (.plain (OpenSpec.ofChange validateLimitsSpec)) validateLimitsCard

/-- THE SECOND FORM's CARD OF 'flqlaw5.SyntaxParses'. -/
def syntaxParsesUptoCard : Claim7 := { stood := { row := syntaxParsesUptoRow, standIns := [], harness := (true, "dab0e1f4e94a30dff466801a213e97c80dfcd1fcacb42cb5b8f99364748f3774"), looks := false }, kinds := [], alts := [], laidByText := true, laidKinds := [.data], laidTests := true, laidLooks := .later }
def SyntaxParsesUptoCardSaid : Prop := Claim7.holds Tryd.pinned (.plain (OpenSpec.upto syntaxParsesSpec)) syntaxParsesUptoCard

/-- THE SECOND FORM's CARD OF 'flqlaw5.SyntaxRoundTrip'. -/
def syntaxRoundTripUptoCard : Claim7 := { stood := { row := syntaxRoundTripUptoRow, standIns := [], harness := (true, "dab0e1f4e94a30dff466801a213e97c80dfcd1fcacb42cb5b8f99364748f3774"), looks := false }, kinds := [], alts := [], laidByText := true, laidKinds := [.data], laidTests := true, laidLooks := .later }
def SyntaxRoundTripUptoCardSaid : Prop := Claim7.holds Tryd.pinned (.plain (OpenSpec.upto syntaxRoundTripSpec)) syntaxRoundTripUptoCard

/-- THE SECOND FORM's CARD OF 'flqlaw5.SyntaxLimits'. -/
def syntaxLimitsUptoCard : Claim7 := { stood := { row := syntaxLimitsUptoRow, standIns := [], harness := (true, "dab0e1f4e94a30dff466801a213e97c80dfcd1fcacb42cb5b8f99364748f3774"), looks := false }, kinds := [], alts := [], laidByText := true, laidKinds := [.data], laidTests := true, laidLooks := .later }
def SyntaxLimitsUptoCardSaid : Prop := Claim7.holds Tryd.pinned (.plain (OpenSpec.upto syntaxLimitsSpec)) syntaxLimitsUptoCard

/-- THE SECOND FORM's CARD OF 'flqlaw5.SyntaxSpoils'. -/
def syntaxSpoilsUptoCard : Claim7 := { stood := { row := syntaxSpoilsUptoRow, standIns := [], harness := (true, "dab0e1f4e94a30dff466801a213e97c80dfcd1fcacb42cb5b8f99364748f3774"), looks := false }, kinds := [], alts := [], laidByText := true, laidKinds := [.data], laidTests := true, laidLooks := .later }
def SyntaxSpoilsUptoCardSaid : Prop := Claim7.holds Tryd.pinned (.plain (OpenSpec.upto syntaxSpoilsSpec)) syntaxSpoilsUptoCard

/-- THE SECOND FORM's CARD OF 'flqlaw6.ValidateDefines'. -/
def validateDefinesUptoCard : Claim7 := { stood := { row := validateDefinesUptoRow, standIns := [], harness := (true, "dab0e1f4e94a30dff466801a213e97c80dfcd1fcacb42cb5b8f99364748f3774"), looks := false }, kinds := [], alts := [], laidByText := true, laidKinds := [.data], laidTests := true, laidLooks := .later }
def ValidateDefinesUptoCardSaid : Prop := Claim7.holds Tryd.pinned (.plain (OpenSpec.upto validateDefinesSpec)) validateDefinesUptoCard

/-- THE SECOND FORM's CARD OF 'flqlaw6.ValidateRenames'. -/
def validateRenamesUptoCard : Claim7 := { stood := { row := validateRenamesUptoRow, standIns := [], harness := (true, "dab0e1f4e94a30dff466801a213e97c80dfcd1fcacb42cb5b8f99364748f3774"), looks := false }, kinds := [], alts := [], laidByText := true, laidKinds := [.data], laidTests := true, laidLooks := .later }
def ValidateRenamesUptoCardSaid : Prop := Claim7.holds Tryd.pinned (.plain (OpenSpec.upto validateRenamesSpec)) validateRenamesUptoCard

/-- THE SECOND FORM's CARD OF 'flqlaw6.ValidateLimits'. -/
def validateLimitsUptoCard : Claim7 := { stood := { row := validateLimitsUptoRow, standIns := [], harness := (true, "dab0e1f4e94a30dff466801a213e97c80dfcd1fcacb42cb5b8f99364748f3774"), looks := false }, kinds := [], alts := [], laidByText := true, laidKinds := [.data], laidTests := true, laidLooks := .later }
def ValidateLimitsUptoCardSaid : Prop := Claim7.holds Tryd.pinned (.plain (OpenSpec.upto validateLimitsSpec)) validateLimitsUptoCard
end Rows
end Go.Proofs.YtidabbbjllofmaaDoor
