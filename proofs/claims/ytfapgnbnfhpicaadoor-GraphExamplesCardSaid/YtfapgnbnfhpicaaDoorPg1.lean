/- While a program is generated: what stands, level by level. -/
import Derived.Test.YtfapgnbnfhpicaaDoorGst
import Derived.Test.YtfapgnbnfhpicaaDoorLns
namespace Go.Proofs.YtfapgnbnfhpicaaDoor
set_option maxRecDepth 20000
set_option linter.unusedVariables false
open Go.ChangeShapes Go.WideShapes Go.ChangeAt Go.RowKit

theorem own_ne {w : World} {b b' ty ty' k k' n n' : Nat} {v v' : Value} {xs xs' : List Value} (h : w.ownsRow b ty k v n xs) (h' : w.ownsRow b' ty' k' v' n' xs') (ht : ty ≠ ty') : v.ownBlock = none ∨ v.ownBlock ≠ v'.ownBlock := by
  rcases h.2 with ⟨rfl, _⟩ | ⟨g, cap, cur, rfl, _, hg, _⟩
  · exact .inl rfl
  · exact .inr (fb_ne_own (show Fb w g cur ty from hg) h' ht)
theorem own_far {w : World} {b ty k n : Nat} {v : Value} {xs : List Value} (h : w.ownsRow b ty k v n xs) {j : Nat} (hj : some j ≠ v.ownBlock) : v.ownBlock = none ∨ v.ownBlock ≠ some j :=
  .inr (Ne.symm hj)
theorem own_lt' {w : World} {b ty k n : Nat} {v : Value} {xs : List Value} (h : w.ownsRow b ty k v n xs) {j : Nat} (hj : v.ownBlock = some j) : b ≤ j ∧ j < w.heap.size := h.lt j hj

def ex1 (X : List (Option Nat)) (w : World) (T : Nat) (v : Value) : List (Option Nat) := some T :: some w.heap.size :: some (w.heap.size + 1) :: v.ownBlock :: X
def ex2 (X : List (Option Nat)) (w : World) (T : Nat) (v u : Value) (F : Nat) : List (Option Nat) := some T :: some w.heap.size :: some (w.heap.size + 1) :: v.ownBlock :: some F :: u.ownBlock :: X
def ex3 (X : List (Option Nat)) (w : World) (T : Nat) (v u s : Value) (F B : Nat) : List (Option Nat) := some T :: some w.heap.size :: some (w.heap.size + 1) :: v.ownBlock :: some F :: u.ownBlock :: some B :: s.ownBlock :: X

section
variable {X : List (Option Nat)} {w0 w wr w' : World} {T F B : Nat} {v u s : Value} {nf nb : ByteArray} {ls : List FH} {bs : List BH} {ss : List SH}
end
end Go.Proofs.YtfapgnbnfhpicaaDoor
