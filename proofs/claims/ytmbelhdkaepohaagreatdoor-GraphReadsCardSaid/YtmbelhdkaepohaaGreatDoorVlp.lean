/- Which programs are well formed. -/
import Derived.Test.YtmbelhdkaepohaaGreatDoorPrg
namespace Go.Proofs.YtmbelhdkaepohaaGreatDoor
set_option maxRecDepth 20000
set_option linter.unusedVariables false
open Go.ChangeShapes Go.WideShapes Go.ChangeAt Go.RowKit

def stmB (t : Stm) : Bool := namesB t.us 0 4 && namesB t.ts 0 2 && okP t.op (nameB t.d) (decide (t.d = ⟨#[]⟩)) (t.us.length : Nat) (t.ts.length : Nat)
def blkB (b : Blk) : Bool := nameB b.name && decide (1 ≤ b.ss.length) && decide (b.ss.length ≤ 32) && b.ss.all stmB
def fncB (f : Fnc) : Bool := nameB f.name && decide (1 ≤ f.bs.length) && decide (f.bs.length ≤ 16) && f.bs.all blkB
/-- P5.2. -/
def prgB (p : List Fnc) : Bool := decide (1 ≤ p.length) && decide (p.length ≤ 8) && p.all fncB
theorem take_all {α : Type} {p : α → Bool} {l : List α} {k : Nat} {x : α} (h : (l.take k).all p = true) (hx : l[k]? = some x) (hp : p x = true) : (l.take (k + 1)).all p = true := by
  rw [List.take_add_one, List.all_append, h, hx]; simp [hp]
theorem all_no {α : Type} {p : α → Bool} {l : List α} {k : Nat} {x : α} (hx : l[k]? = some x) (hp : p x = false) : l.all p = false := by
  rw [List.all_eq_false]
  exact ⟨x, List.mem_of_getElem? hx, by simp [hp]⟩
theorem get_at {α : Type} {l : List α} {n k : Nat} (hl : l.length = n) (hk : k < n) : ∃ x, l[k]? = some x ∧ x ∈ l :=
  ⟨l[k]'(by omega), List.getElem?_eq_getElem _, List.getElem_mem _⟩
theorem Fb.twoc {w : World} {g t : Nat} {a b : Value} (h : Fb w g #[a, b] t) : w.cell? ⟨g, 0, none⟩ = some a ∧ w.cell? ⟨g, 1, none⟩ = some b := ⟨h.cell 0, h.cell 1⟩
theorem Fb.onec {w : World} {g t : Nat} {a : Value} (h : Fb w g #[a] t) : w.cell? ⟨g, 0, none⟩ = some a := h.cell 0

end Go.Proofs.YtmbelhdkaepohaaGreatDoor
