/- A node as a value. -/
import Derived.Test.YtmbelhdkaepohaaGreatDoorVlp
import Derived.Deep.AppendLies
namespace Go.Proofs.YtmbelhdkaepohaaGreatDoor
set_option maxRecDepth 20000
set_option linter.unusedVariables false
set_option linter.unusedSimpArgs false
open Go.ChangeShapes Go.WideShapes Go.ChangeAt Go.RowKit

/-- A node: kind, function, block, statement. -/
structure Nd where
  kd : Int
  fn : Int
  bk : Int
  st : Int
deriving DecidableEq
def ndc (x : Nd) : List Value := [.int .i64 x.kd, .int .i64 x.fn, .int .i64 x.bk, .int .i64 x.st]
theorem ndc_len (x : Nd) : (ndc x).length = 4 := rfl
theorem one_ndc (x : Nd) : ∀ u ∈ ndc x, u.oneCell' = true := by
  intro u hu
  simp [ndc] at hu
  rcases hu with rfl | rfl | rfl | rfl <;> rfl
theorem nd_new (w : World) (x : Nd) : ∀ j u, (ndc x)[j]? = some u → (w.alloc (.cells #[.int .i64 x.kd, .int .i64 x.fn, .int .i64 x.bk, .int .i64 x.st] 55)).cell? ((⟨w.heap.size, 0, none⟩ : Addr).add j) = some u := by
  intro j u h
  have hb := Fb.new w #[.int .i64 x.kd, .int .i64 x.fn, .int .i64 x.bk, .int .i64 x.st] 55
  rw [add_of, hb.cell]
  simpa [ndc] using h
theorem ret_b {a b : Bool} (h : a = b) : Ending.returned (.bool b) = Ending.returned (.bool a) := by rw [h]
theorem ret_i {a b : Int} (h : a = b) : Ending.returned (.int .i64 b) = Ending.returned (.int .i64 a) := by rw [h]
end Go.Proofs.YtmbelhdkaepohaaGreatDoor
