/-
  DERIVED. GIVEN WITH THE SEED: THE CARDS: each row of YtcgichfanfijjaaGreatDoorRows.lean that lists a variable, with what it lists TIED to the program's text (the seventh form; the later family's looks); each row that meets fmt, with fmt's text TOLD by the authors' own Lean function (tested against real Go, not proved from fmt's source: count such statements apart). THE CARD IS WHAT COUNTS. Prove the row's statement (the work); the ties are given (YtcgichfanfijjaaGreatDoorTie.lean); close each card by the builder's one call (the guide's Derived/Test/ToyasCard.lean, 'card_holds'). Laid BY PROGRAM, IN A SANDBOX (cutbox-door.mjs). By AI agents, Wed Nov 11 2026. No macro, syntax, notation, axiom, sorry.
-/
import Derived.Test.YtcgichfanfijjaaGreatDoorRows
import GoSem.ClaimSeven
namespace Go.Proofs.YtcgichfanfijjaaGreatDoor
namespace Rows

/-- THE TIED CARD OF 'flqlaw8.GraphBuilds'. -/
def graphBuildsCard : Claim7 := { stood := { row := graphBuildsRow, standIns := [], harness := (true, "58bfc0a4ba90ec09802986bccae6fae51c3ea2e21ea28465d04629a4ef2079a7"), looks := false }, kinds := [], alts := [], laidByText := true, laidKinds := [.data], laidTests := true, laidLooks := .later }
def GraphBuildsCardSaid : Prop := Claim7.holds Tryz.pinned (.plain (OpenSpec.ofChange graphBuildsSpec)) graphBuildsCard

/-- THE TIED CARD OF 'flqlaw8.GraphReads'. -/
def graphReadsCard : Claim7 := { stood := { row := graphReadsRow, standIns := [], harness := (true, "58bfc0a4ba90ec09802986bccae6fae51c3ea2e21ea28465d04629a4ef2079a7"), looks := false }, kinds := [], alts := [], laidByText := true, laidKinds := [.data], laidTests := true, laidLooks := .later }
def GraphReadsCardSaid : Prop := Claim7.holds Tryz.pinned (.plain (OpenSpec.ofChange graphReadsSpec)) graphReadsCard

/-- THE TIED CARD OF 'flqlaw8.GraphOfPrograms'. -/
def graphOfProgramsCard : Claim7 := { stood := { row := graphOfProgramsRow, standIns := [], harness := (true, "58bfc0a4ba90ec09802986bccae6fae51c3ea2e21ea28465d04629a4ef2079a7"), looks := false }, kinds := [], alts := [], laidByText := true, laidKinds := [.data], laidTests := true, laidLooks := .later }
def GraphOfProgramsCardSaid : Prop := Claim7.holds Tryz.pinned (.plain (OpenSpec.ofChange graphOfProgramsSpec)) graphOfProgramsCard

/-- THE TIED CARD OF 'flqlaw8.GraphReach'. -/
def graphReachCard : Claim7 := { stood := { row := graphReachRow, standIns := [], harness := (true, "58bfc0a4ba90ec09802986bccae6fae51c3ea2e21ea28465d04629a4ef2079a7"), looks := false }, kinds := [], alts := [], laidByText := true, laidKinds := [.data], laidTests := true, laidLooks := .later }
def GraphReachCardSaid : Prop := Claim7.holds Tryz.pinned (.plain (OpenSpec.ofChange graphReachSpec)) graphReachCard

/-- THE TIED CARD OF 'flqlaw8.GraphReverse'. -/
def graphReverseCard : Claim7 := { stood := { row := graphReverseRow, standIns := [], harness := (true, "58bfc0a4ba90ec09802986bccae6fae51c3ea2e21ea28465d04629a4ef2079a7"), looks := false }, kinds := [], alts := [], laidByText := true, laidKinds := [.data], laidTests := true, laidLooks := .later }
def GraphReverseCardSaid : Prop := Claim7.holds Tryz.pinned (.plain (OpenSpec.ofChange graphReverseSpec)) graphReverseCard

/-- THE TIED CARD OF 'flqlaw7.NodesAgree'. -/
def nodesAgreeCard : Claim7 := { stood := { row := nodesAgreeRow, standIns := [], harness := (true, "58bfc0a4ba90ec09802986bccae6fae51c3ea2e21ea28465d04629a4ef2079a7"), looks := false }, kinds := [], alts := [], laidByText := true, laidKinds := [.data, .data, .data, .data], laidTests := true, laidLooks := .later }
def NodesAgreeCardSaid : Prop := Claim7.holds Tryz.pinned (.plain (OpenSpec.ofChange nodesAgreeSpec)) nodesAgreeCard

/-- THE SECOND FORM's CARD OF 'flqlaw8.GraphBuilds'. -/
def graphBuildsUptoCard : Claim7 := { stood := { row := graphBuildsUptoRow, standIns := [], harness := (true, "58bfc0a4ba90ec09802986bccae6fae51c3ea2e21ea28465d04629a4ef2079a7"), looks := false }, kinds := [], alts := [], laidByText := true, laidKinds := [.data], laidTests := true, laidLooks := .later }
def GraphBuildsUptoCardSaid : Prop := Claim7.holds Tryz.pinned (.plain (OpenSpec.upto graphBuildsSpec)) graphBuildsUptoCard

/-- THE SECOND FORM's CARD OF 'flqlaw8.GraphReads'. -/
def graphReadsUptoCard : Claim7 := { stood := { row := graphReadsUptoRow, standIns := [], harness := (true, "58bfc0a4ba90ec09802986bccae6fae51c3ea2e21ea28465d04629a4ef2079a7"), looks := false }, kinds := [], alts := [], laidByText := true, laidKinds := [.data], laidTests := true, laidLooks := .later }
def GraphReadsUptoCardSaid : Prop := Claim7.holds Tryz.pinned (.plain (OpenSpec.upto graphReadsSpec)) graphReadsUptoCard

/-- THE SECOND FORM's CARD OF 'flqlaw8.GraphOfPrograms'. -/
def graphOfProgramsUptoCard : Claim7 := { stood := { row := graphOfProgramsUptoRow, standIns := [], harness := (true, "58bfc0a4ba90ec09802986bccae6fae51c3ea2e21ea28465d04629a4ef2079a7"), looks := false }, kinds := [], alts := [], laidByText := true, laidKinds := [.data], laidTests := true, laidLooks := .later }
def GraphOfProgramsUptoCardSaid : Prop := Claim7.holds Tryz.pinned (.plain (OpenSpec.upto graphOfProgramsSpec)) graphOfProgramsUptoCard

/-- THE SECOND FORM's CARD OF 'flqlaw8.GraphReach'. -/
def graphReachUptoCard : Claim7 := { stood := { row := graphReachUptoRow, standIns := [], harness := (true, "58bfc0a4ba90ec09802986bccae6fae51c3ea2e21ea28465d04629a4ef2079a7"), looks := false }, kinds := [], alts := [], laidByText := true, laidKinds := [.data], laidTests := true, laidLooks := .later }
def GraphReachUptoCardSaid : Prop := Claim7.holds Tryz.pinned (.plain (OpenSpec.upto graphReachSpec)) graphReachUptoCard

/-- THE SECOND FORM's CARD OF 'flqlaw8.GraphReverse'. -/
def graphReverseUptoCard : Claim7 := { stood := { row := graphReverseUptoRow, standIns := [], harness := (true, "58bfc0a4ba90ec09802986bccae6fae51c3ea2e21ea28465d04629a4ef2079a7"), looks := false }, kinds := [], alts := [], laidByText := true, laidKinds := [.data], laidTests := true, laidLooks := .later }
def GraphReverseUptoCardSaid : Prop := Claim7.holds Tryz.pinned (.plain (OpenSpec.upto graphReverseSpec)) graphReverseUptoCard

/-- THE SECOND FORM's CARD OF 'flqlaw7.NodesAgree'. -/
def nodesAgreeUptoCard : Claim7 := { stood := { row := nodesAgreeUptoRow, standIns := [], harness := (true, "58bfc0a4ba90ec09802986bccae6fae51c3ea2e21ea28465d04629a4ef2079a7"), looks := false }, kinds := [], alts := [], laidByText := true, laidKinds := [.data, .data, .data, .data], laidTests := true, laidLooks := .later }
def NodesAgreeUptoCardSaid : Prop := Claim7.holds Tryz.pinned (.plain (OpenSpec.upto nodesAgreeSpec)) nodesAgreeUptoCard
end Rows
end Go.Proofs.YtcgichfanfijjaaGreatDoor
