/- The reference's stmtOK, where all names are names. -/
import Derived.Test.YtmbelhdkaepohaaGreatDoorSok
namespace Go.Proofs.YtmbelhdkaepohaaGreatDoor
set_option maxRecDepth 20000
set_option linter.unusedVariables false
open Go.ChangeShapes Go.WideShapes Go.ChangeAt Go.RowKit

def okP (o : Int) (v e : Bool) (u t : Int) : Bool :=
  if o = 1 then v && t == 0
  else if o = 2 then e && (decide (1 ≤ u) && t == 0)
  else if o = 5 then e && (u == 1 && t == 0)
  else if o = 3 ∨ o = 7 then e && (u == 0 && t == 1)
  else if o = 4 ∨ o = 6 then v && (u == 0 && t == 0)
  else if o = 8 then e && (u == 1 && t == 2)
  else if o = 9 then e && (u == 0 && t == 0)
  else false
theorem empty_list (d : ByteArray) : (d.toList == ([] : List UInt8)) = decide (d = ⟨#[]⟩) := by
  rw [toList_data]
  by_cases h : d = ⟨#[]⟩
  · subst h; rfl
  · rw [decide_eq_false h, beq_eq_false_iff_ne]
    intro h2
    exact h (ext_list h2)
end Go.Proofs.YtmbelhdkaepohaaGreatDoor
