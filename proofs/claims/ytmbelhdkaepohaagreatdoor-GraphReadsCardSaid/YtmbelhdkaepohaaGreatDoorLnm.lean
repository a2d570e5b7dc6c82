/- The walk of LexerNames: it returns true for every list of choices and every string, and writes new memory only. -/
import Derived.Test.YtmbelhdkaepohaaGreatDoorSnl
import Derived.Test.YtmbelhdkaepohaaGreatDoorRn
namespace Go.Proofs.YtmbelhdkaepohaaGreatDoor
set_option maxRecDepth 20000
set_option linter.unusedVariables false
open Go.ChangeShapes Go.WideShapes Go.ChangeAt Go.RowKit

def nameD (s : ByteArray) : Bool := decide (0 < s.size) && letB (byt s 0) && decide (s.size ≤ 16) && decide (runL wrdB s 0 = s.size) && !(kws.any fun k => s.data.toList == k)
theorem nameD_eq (s : ByteArray) : nameB s = nameD s := by unfold nameB nameD kwB; rw [toList_data]
theorem kw_names : ∀ x ∈ kwb, nameB x = false ∧ nameB (x ++ ⟨#[95]⟩) = true := by
  intro x hx
  rw [nameD_eq, nameD_eq]
  revert x
  decide +kernel
theorem kwb_small : ∀ x ∈ kwb, x.size ≤ 8 := by decide +kernel

/-- One of a block's strings. -/
theorem pickS {w w1 : World} {g T : Nat} {cs : Array Value} {t b : Nat} (h : Fb w g cs t) (hg : w.grownBy w1 (some T)) (hne : g ≠ T) (hall : ∀ u ∈ cs.toList, ∃ x : ByteArray, u = .string x ∧ x.size ≤ b) {r n : Int} (hn : n = cs.size) (h0 : 0 ≤ r) (h1 : r < n ∨ r = 0) (hpos : 0 < n) :
    ∃ x : ByteArray, w1.cell? ⟨g, r.toNat, none⟩ = some (.string x) ∧ x.size ≤ b := by
  have h' := h.grown hg (by simpa using hne)
  rw [h'.cell]
  have hlt : r.toNat < cs.size := by omega
  rw [Array.getElem?_eq_getElem hlt]
  obtain ⟨x, hx, hb⟩ := hall cs[r.toNat] (by simp)
  exact ⟨x, by rw [hx], hb⟩
theorem Going.lt {w wr : World} {T : Nat} (h : Going w T wr) : T < wr.heap.size := h.1.lt

def namCells : Array Value := #[.string ⟨#[97]⟩, .string ⟨#[90]⟩, .string ⟨#[95]⟩, .string ⟨#[48]⟩, .string ⟨#[102, 117, 110, 99]⟩, .string ⟨#[101, 110, 100]⟩, .string ⟨#[117, 115, 101]⟩, .string ⟨#[99, 97, 108, 108]⟩, .string ⟨#[103, 111, 116, 111]⟩, .string ⟨#[97, 98, 99, 100, 101, 102, 103, 104]⟩, .string ⟨#[45]⟩, .string ⟨#[]⟩]
theorem namCells_all : ∀ u ∈ namCells.toList, ∃ x : ByteArray, u = .string x ∧ x.size ≤ 8 := by
  intro u hu
  simp [namCells] at hu
  rcases hu with rfl | rfl | rfl | rfl | rfl | rfl | rfl | rfl | rfl | rfl | rfl | rfl <;> exact ⟨_, rfl, by decide⟩

end Go.Proofs.YtmbelhdkaepohaaGreatDoor
