/- A region that draws its order, whose operations only read and whose calls may make memory, walked once: the class of the worlds that keep all that was there. -/
import Derived.Test.YtadkjnjibefocaaTv
import Derived.BigQuiet
namespace Go.Proofs.Ytadkjnjibefocaa
open Go.ChangeShapes Go.WideShapes Go.ChangeAt Go.RowKit

structure Later (w0 : World) where
  wd : World
  keeps : Below w0.heap.size w0 wd

instance (w0 : World) : Nonempty (Later w0) := ⟨⟨w0, Below.refl _ _⟩⟩

theorem wp_region_below {P : Program} {id : Nat} {Q : Exit → Act → World → Prop} {a : Act} {w : World} {l : List Oper} (hm : P.follows .mixedOrders = true) (hB : Region.lexB .any l.toArray = true)
    (h : wpQuiet P l.toArray (fun w' => ∃ p : Later w, w' = p.wd) (fun a' => ∀ w', (∃ p : Later w, w' = p.wd) → Q .normal a' w') l a) : (Code.region id l.toArray true).wp P Q a w :=
  wp_region_quiet (C := fun w' => ∃ p : Later w, w' = p.wd) hm hB ⟨⟨_, (Below.refl _ _).drew⟩, rfl⟩ (by simpa using h)

theorem Later.call {P : Program} {f : FuncId} {args : Array Value} {w : World} {p : Later w} {v : Value}
    (h : Calls P f args p.wd fun e w' => e = .returned v ∧ Below p.wd.heap.size p.wd w') : Calls P f args p.wd fun e w'' => e = .returned v ∧ ∃ p' : Later w, w'' = p'.wd :=
  h.mono fun _ w' ⟨he, hb⟩ => ⟨he, ⟨w', p.keeps.trans (hb.mono p.keeps.size)⟩, rfl⟩
theorem Later.cell {w : World} {q : Addr} {v : Value} (hq : q.block < w.heap.size) (h : w.cell? q = some v) (p : Later w) : p.wd.cell? q = some v := (p.keeps.cell hq).trans h
end Go.Proofs.Ytadkjnjibefocaa
