/- The reference's words, namesOK, Line; the law file's func2 and name. -/
import Derived.Test.YtmbelhdkaepohaaGreatDoorPcs
namespace Go.Proofs.YtmbelhdkaepohaaGreatDoor
set_option maxRecDepth 20000
set_option linter.unusedVariables false
open Go.ChangeShapes Go.WideShapes Go.ChangeAt Go.RowKit

/-- A list of strings, as it lies: few and small. -/
structure SArg (w : World) (A : Option Addr) (n : Nat) (l : List ByteArray) : Prop where
  lies : At w w.heap.size A (l.map Value.string)
  len : l.length = n
  few : n ≤ 100000
  small : ∀ x ∈ l, x.size ≤ 100000
theorem SArg.below {w w' : World} {A : Option Addr} {n : Nat} {l : List ByteArray} (h : SArg w A n l) (hb : Below w.heap.size w w') : SArg w' A n l := ⟨h.lies.below hb hb.size, h.len, h.few, h.small⟩
theorem SArg.cell {w : World} {A : Option Addr} {n : Nat} {l : List ByteArray} (h : SArg w A n l) {i : Nat} (hi : i < n) :
    ∃ ad : Addr, A = some ad ∧ ad.block < w.heap.size ∧ w.cell? (ad.add i) = some (.string (l.getD i ByteArray.empty)) ∧ (l.getD i ByteArray.empty).size ≤ 100000 := by
  have hl : i < l.length := by rw [h.len]; exact hi
  have hg : (l.map Value.string)[i]? = some (.string (l.getD i ByteArray.empty)) := by
    rw [List.getElem?_map, List.getElem?_eq_getElem hl, List.getD_eq_getElem?_getD, List.getElem?_eq_getElem hl]; rfl
  obtain ⟨ad, e, hb, hc⟩ := h.lies.cell hg
  refine ⟨ad, e, hb, hc, ?_⟩
  rw [List.getD_eq_getElem?_getD, List.getElem?_eq_getElem hl]
  exact h.small _ (List.getElem_mem hl)

def wordsP : List ByteArray → ByteArray := fun l => l.foldl (fun s x => s ++ (⟨#[32]⟩ ++ x)) ⟨#[]⟩
theorem wordsP_snoc (l : List ByteArray) {k : Nat} (h : k < l.length) : wordsP (l.take (k + 1)) = wordsP (l.take k) ++ (⟨#[32]⟩ ++ l.getD k ByteArray.empty) := by
  unfold wordsP
  rw [List.take_add_one, List.foldl_append, List.getD_eq_getElem?_getD, List.getElem?_eq_getElem h]
  rfl
theorem wordsP_size (l : List ByteArray) (k b : Nat) (hk : k ≤ l.length) (hs : ∀ x ∈ l, x.size ≤ b) : (wordsP (l.take k)).size ≤ k * (b + 1) := by
  induction k with
  | zero => simp [wordsP]; rfl
  | succ k ih =>
    have h1 := ih (by omega)
    have hx : (l.getD k ByteArray.empty).size ≤ b := by rw [List.getD_eq_getElem?_getD, List.getElem?_eq_getElem (by omega)]; exact hs _ (List.getElem_mem _)
    rw [wordsP_snoc l (by omega), ByteArray.size_append, ByteArray.size_append]
    have : (⟨#[32]⟩ : ByteArray).size = 1 := rfl
    rw [this, Nat.succ_mul]
    omega

end Go.Proofs.YtmbelhdkaepohaaGreatDoor
