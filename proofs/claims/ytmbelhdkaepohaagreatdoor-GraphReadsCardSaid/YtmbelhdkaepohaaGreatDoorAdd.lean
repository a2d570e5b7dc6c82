/- The scanner's add: it appends a token, and goes on. -/
import Derived.Test.YtmbelhdkaepohaaGreatDoorDl
import Derived.Deep.RegionLaw
import Derived.StillTailTactics
namespace Go.Proofs.YtmbelhdkaepohaaGreatDoor
set_option maxRecDepth 20000
set_option linter.unusedVariables false
open Go.ChangeShapes Go.WideShapes Go.ChangeAt Go.RowKit

theorem info47 : (Tryz.prog.info? 78).map (fun i => (i.zero, i.size, i.bytes)) = some (some (.agg #[.int .i64 0, .string ByteArray.empty, .int .i64 0, .int .i64 0]), 4, 40) := by kernel_rfl
theorem four_new (w : World) (a b c d : Value) (ty : TypeId) : ∀ j u, [a, b, c, d][j]? = some u → (w.alloc (.cells #[a, b, c, d] ty)).cell? ((⟨w.heap.size, 0, none⟩ : Addr).add j) = some u := by
  intro j u h
  have hb := Fb.new w #[a, b, c, d] ty
  rw [add_of, hb.cell]
  simpa using h
theorem one_tok (t : Tok) : ∀ u ∈ tcell t, u.oneCell' = true := by
  intro u hu
  simp [tcell] at hu
  rcases hu with rfl | rfl | rfl | rfl <;> rfl

section
variable {w0 w w' : World} {S : Nat} {s : ByteArray} {i line first : Nat} {v : Value} {l : List Tok}
end

end Go.Proofs.YtmbelhdkaepohaaGreatDoor
