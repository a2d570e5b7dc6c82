/-
  DERIVED. GIVEN WITH THE SEED: THE CARDS: each row of YtfapgnbnfhpicaaDoorRows.lean that lists a variable, with what it lists TIED to the program's text (the seventh form; the later family's looks); each row that meets fmt, with fmt's text TOLD by the authors' own Lean function (tested against real Go, not proved from fmt's source: count such statements apart). THE CARD IS WHAT COUNTS. Prove the row's statement (the work); the ties are given (YtfapgnbnfhpicaaDoorTie.lean); close each card by the builder's one call (the guide's Derived/Test/ToyasCard.lean, 'card_holds'). Laid BY PROGRAM, IN A SANDBOX (cutbox-door.mjs). By AI agents, Wed Nov 11 2026. No macro, syntax, notation, axiom, sorry.
-/
import Derived.Test.YtfapgnbnfhpicaaDoorRows
import GoSem.ClaimSeven
namespace Go.Proofs.YtfapgnbnfhpicaaDoor
namespace Rows

/-- THE TIED CARD OF 'flqlaw8.GraphExamples'. -/
def graphExamplesCard : Claim7 := { stood := { row := graphExamplesRow, standIns := [], harness := (true, "e1b9f8ed5fee3565d642d037f564d5200cf68712dc6ed898ef5619e2f021a97d"), looks := false }, kinds := [], alts := [], laidByText := true, laidKinds := [.data], laidTests := true, laidLooks := .later }
def GraphExamplesCardSaid : Prop := Claim7.holds Tryd.pinned (.plain (OpenSpec.ofChange graphExamplesSpec)) graphExamplesCard

/-- THE SECOND FORM's CARD OF 'flqlaw8.GraphExamples'. -/
def graphExamplesUptoCard : Claim7 := { stood := { row := graphExamplesUptoRow, standIns := [], harness := (true, "e1b9f8ed5fee3565d642d037f564d5200cf68712dc6ed898ef5619e2f021a97d"), looks := false }, kinds := [], alts := [], laidByText := true, laidKinds := [.data], laidTests := true, laidLooks := .later }
def GraphExamplesUptoCardSaid : Prop := Claim7.holds Tryd.pinned (.plain (OpenSpec.upto graphExamplesSpec)) graphExamplesUptoCard
end Rows
end Go.Proofs.YtfapgnbnfhpicaaDoor
