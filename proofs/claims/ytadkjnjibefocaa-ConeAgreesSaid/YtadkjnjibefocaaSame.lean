/- The reference's Same returns whether two sets have the same width and the same words. -/
import Derived.Test.YtadkjnjibefocaaTape
namespace Go.Proofs.Ytadkjnjibefocaa
open Go.ChangeShapes Go.WideShapes Go.ChangeAt Go.RowKit

def sameB (W : Int) (a : List Nat) (V : Int) (b : List Nat) : Bool := decide (W = V) && decide (a = b)

theorem wd_ext {a b : List Nat} (hl : a.length = b.length) (h : ∀ j, j < a.length → Bs.wd a j = Bs.wd b j) : a = b :=
  List.ext_getElem hl fun i h1 h2 => by have := h i h1; rwa [Bs.wd_get h1, Bs.wd_get h2] at this

end Go.Proofs.Ytadkjnjibefocaa
