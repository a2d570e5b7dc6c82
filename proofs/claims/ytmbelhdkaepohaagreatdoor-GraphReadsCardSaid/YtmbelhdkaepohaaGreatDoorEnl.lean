/- The scanner's endLine: it appends the end of a line that has a token. -/
import Derived.Test.YtmbelhdkaepohaaGreatDoorAdd
namespace Go.Proofs.YtmbelhdkaepohaaGreatDoor
set_option maxRecDepth 20000
set_option linter.unusedVariables false
open Go.ChangeShapes Go.WideShapes Go.ChangeAt Go.RowKit

theorem tcells_get {l : List Tok} {i : Nat} (h : i < l.length) : (tcells l)[i * 4]? = some (.int .i64 (l[i]).kind) ∧ (tcells l)[i * 4 + 1]? = some (.string (l[i]).text) ∧ (tcells l)[i * 4 + 2]? = some (.int .i64 ((l[i]).line : Int)) ∧ (tcells l)[i * 4 + 3]? = some (.int .i64 ((l[i]).col : Int)) := by
  induction l generalizing i with
  | nil => simp at h
  | cons t l ih =>
    cases i with
    | zero => exact ⟨rfl, rfl, rfl, rfl⟩
    | succ i =>
      have := ih (i := i) (by simpa using h)
      have e : ∀ k, (tcells (t :: l))[(i + 1) * 4 + k]? = (tcells l)[i * 4 + k]? := fun k => by
        show (tcell t ++ tcells l)[(i + 1) * 4 + k]? = _
        rw [List.getElem?_append_right (by simp [tcell]; omega)]
        congr 1
        simp [tcell]; omega
      have e0 := e 0
      simp only [Nat.add_zero] at e0
      rw [e0, e, e, e]
      exact this
end Go.Proofs.YtmbelhdkaepohaaGreatDoor
