/-
  DERIVED. GIVEN WITH THE SEED: THE CARDS: each row of YtfapgnbnfhpicaaGreatDoorRows.lean that lists a variable, with what it lists TIED to the program's text (the seventh form; the later family's looks); each row that meets fmt, with fmt's text TOLD by the authors' own Lean function (tested against real Go, not proved from fmt's source: count such statements apart). THE CARD IS WHAT COUNTS. Prove the row's statement (the work); the ties are given (YtfapgnbnfhpicaaGreatDoorTie.lean); close each card by the builder's one call (the guide's Derived/Test/ToyasCard.lean, 'card_holds'). Laid BY PROGRAM, IN A SANDBOX (cutbox-door.mjs). By AI agents, Wed Nov 11 2026. No macro, syntax, notation, axiom, sorry.
-/
import Derived.Test.YtfapgnbnfhpicaaGreatDoorRows
import GoSem.ClaimSeven
namespace Go.Proofs.YtfapgnbnfhpicaaGreatDoor
namespace Rows

/-- THE TIED CARD OF 'flqlaw8.GraphReach'. -/
def graphReachCard : Claim7 := { stood := { row := graphReachRow, standIns := [], harness := (true, "c46f8882cd988e10243f3c3831bd1da1c997ae919931b078c1395869ba3049e3"), looks := false }, kinds := [], alts := [], laidByText := true, laidKinds := [.data], laidTests := true, laidLooks := .later }
def GraphReachCardSaid : Prop := Claim7.holds Tryz.pinned (.plain (OpenSpec.ofChange graphReachSpec)) graphReachCard

/-- THE TIED CARD OF 'flqlaw8.GraphReverse'. -/
def graphReverseCard : Claim7 := { stood := { row := graphReverseRow, standIns := [], harness := (true, "c46f8882cd988e10243f3c3831bd1da1c997ae919931b078c1395869ba3049e3"), looks := false }, kinds := [], alts := [], laidByText := true, laidKinds := [.data], laidTests := true, laidLooks := .later }
def GraphReverseCardSaid : Prop := Claim7.holds Tryz.pinned (.plain (OpenSpec.ofChange graphReverseSpec)) graphReverseCard

/-- THE TIED CARD OF 'flqlaw9.FactsAgree'. -/
def factsAgreeCard : Claim7 := { stood := { row := factsAgreeRow, standIns := [], harness := (true, "c46f8882cd988e10243f3c3831bd1da1c997ae919931b078c1395869ba3049e3"), looks := false }, kinds := [], alts := [], laidByText := true, laidKinds := [.data, .data, .data, .data], laidTests := true, laidLooks := .later }
def FactsAgreeCardSaid : Prop := Claim7.holds Tryz.pinned (.plain (OpenSpec.ofChange factsAgreeSpec)) factsAgreeCard

/-- THE TIED CARD OF 'flqlaw9.FactsCount'. -/
def factsCountCard : Claim7 := { stood := { row := factsCountRow, standIns := [], harness := (true, "c46f8882cd988e10243f3c3831bd1da1c997ae919931b078c1395869ba3049e3"), looks := false }, kinds := [], alts := [], laidByText := true, laidKinds := [.data, .data, .data, .data], laidTests := true, laidLooks := .later }
def FactsCountCardSaid : Prop := Claim7.holds Tryz.pinned (.plain (OpenSpec.ofChange factsCountSpec)) factsCountCard

/-- THE SECOND FORM's CARD OF 'flqlaw8.GraphReach'. -/
def graphReachUptoCard : Claim7 := { stood := { row := graphReachUptoRow, standIns := [], harness := (true, "c46f8882cd988e10243f3c3831bd1da1c997ae919931b078c1395869ba3049e3"), looks := false }, kinds := [], alts := [], laidByText := true, laidKinds := [.data], laidTests := true, laidLooks := .later }
def GraphReachUptoCardSaid : Prop := Claim7.holds Tryz.pinned (.plain (OpenSpec.upto graphReachSpec)) graphReachUptoCard

/-- THE SECOND FORM's CARD OF 'flqlaw8.GraphReverse'. -/
def graphReverseUptoCard : Claim7 := { stood := { row := graphReverseUptoRow, standIns := [], harness := (true, "c46f8882cd988e10243f3c3831bd1da1c997ae919931b078c1395869ba3049e3"), looks := false }, kinds := [], alts := [], laidByText := true, laidKinds := [.data], laidTests := true, laidLooks := .later }
def GraphReverseUptoCardSaid : Prop := Claim7.holds Tryz.pinned (.plain (OpenSpec.upto graphReverseSpec)) graphReverseUptoCard

/-- THE SECOND FORM's CARD OF 'flqlaw9.FactsAgree'. -/
def factsAgreeUptoCard : Claim7 := { stood := { row := factsAgreeUptoRow, standIns := [], harness := (true, "c46f8882cd988e10243f3c3831bd1da1c997ae919931b078c1395869ba3049e3"), looks := false }, kinds := [], alts := [], laidByText := true, laidKinds := [.data, .data, .data, .data], laidTests := true, laidLooks := .later }
def FactsAgreeUptoCardSaid : Prop := Claim7.holds Tryz.pinned (.plain (OpenSpec.upto factsAgreeSpec)) factsAgreeUptoCard

/-- THE SECOND FORM's CARD OF 'flqlaw9.FactsCount'. -/
def factsCountUptoCard : Claim7 := { stood := { row := factsCountUptoRow, standIns := [], harness := (true, "c46f8882cd988e10243f3c3831bd1da1c997ae919931b078c1395869ba3049e3"), looks := false }, kinds := [], alts := [], laidByText := true, laidKinds := [.data, .data, .data, .data], laidTests := true, laidLooks := .later }
def FactsCountUptoCardSaid : Prop := Claim7.holds Tryz.pinned (.plain (OpenSpec.upto factsCountSpec)) factsCountUptoCard
end Rows
end Go.Proofs.YtfapgnbnfhpicaaGreatDoor
