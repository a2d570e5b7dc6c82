/- A function as an argument. -/
import Derived.Test.YtadkjnjibefocaaTr
namespace Go.Proofs.Ytadkjnjibefocaa
set_option maxRecDepth 20000
open Go.ChangeShapes Go.WideShapes Go.ChangeAt Go.RowKit

/-- A function, as an argument: where its words and its copies lie. -/
structure FArg (w : World) (A : Option Addr) (n : Nat) (B : Option Addr) (m : Nat) (C : Option Addr) (k : Nat) (gs ks : List Nat) (cs : List (Int × Int)) : Prop where
  gen : Arg w A n gs
  kill : Arg w B m ks
  cops : ArgC w C k cs
theorem FArg.below {w w' : World} {A B C : Option Addr} {n m k : Nat} {gs ks : List Nat} {cs : List (Int × Int)} (h : FArg w A n B m C k gs ks cs) (hb : Below w.heap.size w w') : FArg w' A n B m C k gs ks cs :=
  ⟨h.gen.below hb, h.kill.below hb, h.cops.below hb⟩
theorem FArg.alloc {w : World} {A B C : Option Addr} {n m k : Nat} {gs ks : List Nat} {cs : List (Int × Int)} (h : FArg w A n B m C k gs ks cs) (o : Obj) : FArg (w.alloc o) A n B m C k gs ks cs :=
  h.below ((Below.refl _ _).alloc (Nat.le_refl _) o)
end Go.Proofs.Ytadkjnjibefocaa
