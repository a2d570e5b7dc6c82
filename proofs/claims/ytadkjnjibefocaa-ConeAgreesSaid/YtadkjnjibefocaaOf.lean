/- The reference's Of returns the set of the given members, or the error that a width or a member is out of range. -/
import Derived.Test.YtadkjnjibefocaaMake
namespace Go.Proofs.Ytadkjnjibefocaa
open Go.ChangeShapes Go.WideShapes Go.ChangeAt Go.RowKit

def ofR (W : Int) (l : List Int) : Int × List Nat × Int :=
  if W < 0 ∨ 256 < W then (0, [], 3)
  else if l.any (fun x => decide (x < 0) || decide (W ≤ x)) then (0, [], 3)
  else (W, Bs.ofP W.toNat (fun i => decide ((i : Int) ∈ l)) W.toNat, 0)

theorem take_snoc {α : Type} (l : List α) (k : Nat) (h : k < l.length) : l.take (k + 1) = l.take k ++ [l[k]] := by
  rw [List.take_succ_eq_append_getElem h]

theorem mem_snoc (l : List Int) (b i : Nat) : decide ((i : Int) ∈ l ++ [(b : Int)]) = (decide ((i : Int) ∈ l) || decide (i = b)) := by
  rw [← Bool.decide_or]
  congr 1
  rw [List.mem_append, List.mem_singleton]
  apply propext
  constructor
  · rintro (h | h)
    · exact .inl h
    · exact .inr (by omega)
  · rintro (h | h)
    · exact .inl h
    · exact .inr (by omega)

end Go.Proofs.Ytadkjnjibefocaa
