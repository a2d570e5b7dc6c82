/- pieces: a text of typical pieces. -/
import Derived.Test.YtmbelhdkaepohaaGreatDoorLnm
namespace Go.Proofs.YtmbelhdkaepohaaGreatDoor
set_option maxRecDepth 20000
set_option linter.unusedVariables false
open Go.ChangeShapes Go.WideShapes Go.ChangeAt Go.RowKit

def pcsCells : Array Value := #[.string ⟨#[120]⟩, .string ⟨#[102, 117, 110, 99]⟩, .string ⟨#[95, 97, 57]⟩, .string ⟨#[61]⟩, .string ⟨#[32]⟩, .string ⟨#[10]⟩, .string ⟨#[59]⟩, .string ⟨#[35]⟩, .string ⟨#[9]⟩, .string ⟨#[55]⟩, .string ⟨#[51, 120]⟩, .string ⟨#[115, 105, 120, 116, 101, 101, 110, 95, 98, 121, 116, 101, 115, 95, 49, 54]⟩, .string ⟨#[115, 101, 118, 101, 110, 116, 101, 101, 110, 95, 98, 121, 116, 101, 115, 49, 55]⟩, .string ⟨#[13]⟩, .string ⟨#[45]⟩, .string ⟨#[114, 101, 116, 117, 114, 110]⟩, .string ⟨#[35, 59, 10]⟩, .string ⟨#[32, 59, 32]⟩, .string ⟨#[255]⟩]
theorem pcsCells_all : ∀ u ∈ pcsCells.toList, ∃ x : ByteArray, u = .string x ∧ x.size ≤ 17 := by
  intro u hu
  simp [pcsCells] at hu
  rcases hu with rfl | rfl | rfl | rfl | rfl | rfl | rfl | rfl | rfl | rfl | rfl | rfl | rfl | rfl | rfl | rfl | rfl | rfl | rfl <;> exact ⟨_, rfl, by decide⟩

end Go.Proofs.YtmbelhdkaepohaaGreatDoor
