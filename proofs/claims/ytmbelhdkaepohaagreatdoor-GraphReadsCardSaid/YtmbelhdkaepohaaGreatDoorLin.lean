/- The reference's Line and stmtOK. -/
import Derived.Test.YtmbelhdkaepohaaGreatDoorNok
namespace Go.Proofs.YtmbelhdkaepohaaGreatDoor
set_option maxRecDepth 20000
set_option linter.unusedVariables false
open Go.ChangeShapes Go.WideShapes Go.ChangeAt Go.RowKit

/-- A statement. -/
structure Stm where
  op : Int
  d : ByteArray
  us : List ByteArray
  ts : List ByteArray
/-- A statement, as an argument. -/
structure StArg (w : World) (o : Int) (d : ByteArray) (A : Option Addr) (n : Nat) (B : Option Addr) (m : Nat) (t : Stm) : Prop where
  uses : SArg w A n t.us
  targets : SArg w B m t.ts
  op : o = t.op
  df : d = t.d
  small : d.size ≤ 100000
theorem SArg.words_le {w : World} {A : Option Addr} {n : Nat} {l : List ByteArray} (h : SArg w A n l) : (wordsP l).size ≤ 10000100000 := by
  have h1 := wordsP_size l l.length 100000 (Nat.le_refl _) h.small
  rw [List.take_length, h.len] at h1
  have h2 : n * (100000 + 1) ≤ 100000 * (100000 + 1) := Nat.mul_le_mul_right _ h.few
  omega
def lineP (t : Stm) : ByteArray :=
  if t.op = 1 then (t.d ++ ⟨#[32, 61]⟩) ++ wordsP t.us
  else if t.op = 2 then ⟨#[117, 115, 101]⟩ ++ wordsP t.us
  else if t.op = 3 then ⟨#[99, 97, 108, 108]⟩ ++ wordsP t.ts
  else if t.op = 4 then ⟨#[115, 111, 117, 114, 99, 101, 32]⟩ ++ t.d
  else if t.op = 5 then ⟨#[115, 105, 110, 107]⟩ ++ wordsP t.us
  else if t.op = 6 then ⟨#[115, 97, 110, 105, 116, 105, 122, 101, 32]⟩ ++ t.d
  else if t.op = 7 then ⟨#[103, 111, 116, 111]⟩ ++ wordsP t.ts
  else if t.op = 8 then (⟨#[98, 114, 97, 110, 99, 104]⟩ ++ wordsP t.us) ++ wordsP t.ts
  else ⟨#[114, 101, 116, 117, 114, 110]⟩

theorem sum_le {x y : ByteArray} (h : x.size + y.size ≤ 100000000000) : x.size + y.size ≤ 9223372036854775807 := by omega
end Go.Proofs.YtmbelhdkaepohaaGreatDoor
