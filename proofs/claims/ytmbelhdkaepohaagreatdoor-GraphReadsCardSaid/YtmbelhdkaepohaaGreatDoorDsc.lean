/- The package's Scan returns the tokens, or the first error, as the specification has it. -/
import Derived.Test.YtmbelhdkaepohaaGreatDoorRun
namespace Go.Proofs.YtmbelhdkaepohaaGreatDoor
set_option maxRecDepth 20000
set_option linter.unusedVariables false
open Go.ChangeShapes Go.WideShapes Go.ChangeAt Go.RowKit

/-- Tokens, as an argument: where they lie and how many they are. -/
structure TArg (w : World) (A : Option Addr) (n : Nat) (l : List Tok) : Prop where
  lies : At w w.heap.size A (tcells l)
  len : l.length = n
theorem TArg.below {w w' : World} {A : Option Addr} {n : Nat} {l : List Tok} (h : TArg w A n l) (hb : Below w.heap.size w w') : TArg w' A n l := ⟨h.lies.below hb hb.size, h.len⟩
theorem TArg.alloc {w : World} {A : Option Addr} {n : Nat} {l : List Tok} (h : TArg w A n l) (o : Obj) : TArg (w.alloc o) A n l := h.below ((Below.refl _ _).alloc (Nat.le_refl _) o)
theorem TArg.nil (w : World) : TArg w none 0 [] := ⟨At.nil, rfl⟩
/-- What a scan returns: tokens, a position, an error. -/
def RetScan (r : Res) (w : World) (e : Ending) (w' : World) : Prop :=
  ∃ (A : Option Addr) (c : Nat), e = .returned (.tuple #[.slice A r.1.length c, .int .i64 (r.2.1 : Int), .int .i64 (r.2.2.1 : Int), .int .i64 r.2.2.2]) ∧ TArg w' A r.1.length r.1 ∧ Below w.heap.size w w'

end Go.Proofs.YtmbelhdkaepohaaGreatDoor
