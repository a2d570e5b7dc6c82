/-
  DERIVED. GIVEN WITH THE SEED: THE CARDS: each row of YtmbelhdkaepohaaGreatDoorRows.lean that lists a variable, with what it lists TIED to the program's text (the seventh form; the later family's looks); each row that meets fmt, with fmt's text TOLD by the authors' own Lean function (tested against real Go, not proved from fmt's source: count such statements apart). THE CARD IS WHAT COUNTS. Prove the row's statement (the work); the ties are given (YtmbelhdkaepohaaGreatDoorTie.lean); close each card by the builder's one call (the guide's Derived/Test/ToyasCard.lean, 'card_holds'). Laid BY PROGRAM, IN A SANDBOX (cutbox-door.mjs). By AI agents, Wed Nov 11 2026. No macro, syntax, notation, axiom, sorry.
-/
import Derived.Test.YtmbelhdkaepohaaGreatDoorRows
import GoSem.ClaimSeven
namespace Go.Proofs.YtmbelhdkaepohaaGreatDoor
namespace Rows

/-- THE TIED CARD OF 'flqlaw8.GraphReads'. -/
def graphReadsCard : Claim7 := { stood := { row := graphReadsRow, standIns := [], harness := (true, "c75257d9dc28344b16454169601b496894441d4394c1b91d6fddd608c2cfa383"), looks := false }, kinds := [], alts := [], laidByText := true, laidKinds := [.data], laidTests := true, laidLooks := .later }
def GraphReadsCardSaid : Prop := Claim7.holds Tryz.pinned (.plain (OpenSpec.ofChange graphReadsSpec)) graphReadsCard

/-- THE SECOND FORM's CARD OF 'flqlaw8.GraphReads'. -/
def graphReadsUptoCard : Claim7 := { stood := { row := graphReadsUptoRow, standIns := [], harness := (true, "c75257d9dc28344b16454169601b496894441d4394c1b91d6fddd608c2cfa383"), looks := false }, kinds := [], alts := [], laidByText := true, laidKinds := [.data], laidTests := true, laidLooks := .later }
def GraphReadsUptoCardSaid : Prop := Claim7.holds Tryz.pinned (.plain (OpenSpec.upto graphReadsSpec)) graphReadsUptoCard
end Rows
end Go.Proofs.YtmbelhdkaepohaaGreatDoor
