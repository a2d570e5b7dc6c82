/- The reference's namesOK and Line; the law file's func2 and name. -/
import Derived.Test.YtmbelhdkaepohaaGreatDoorWds
namespace Go.Proofs.YtmbelhdkaepohaaGreatDoor
set_option maxRecDepth 20000
set_option linter.unusedVariables false
open Go.ChangeShapes Go.WideShapes Go.ChangeAt Go.RowKit

def namesB (l : List ByteArray) (a b : Int) : Bool := l.all nameB && (decide (a ≤ (l.length : Int)) && decide ((l.length : Int) ≤ b))
def f2 (k : Nat) : ByteArray := if k = 0 then ⟨#[97]⟩ else if k = 1 then ⟨#[98]⟩ else ⟨#[99]⟩
def nameCells : Array Value := #[.string ⟨#[120]⟩, .string ⟨#[121]⟩, .string ⟨#[122]⟩, .string ⟨#[119]⟩]
theorem nameCells_all : ∀ u ∈ nameCells.toList, ∃ x : ByteArray, u = .string x ∧ x.size ≤ 1 := by
  intro u hu
  simp [nameCells] at hu
  rcases hu with rfl | rfl | rfl | rfl <;> exact ⟨_, rfl, by decide⟩
end Go.Proofs.YtmbelhdkaepohaaGreatDoor
