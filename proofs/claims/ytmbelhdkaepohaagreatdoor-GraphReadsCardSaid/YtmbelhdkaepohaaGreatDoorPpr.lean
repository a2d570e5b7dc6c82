/- What a parser of programs returns. -/
import Derived.Test.YtmbelhdkaepohaaGreatDoorRp8
import Derived.Test.YtmbelhdkaepohaaGreatDoorPmd
namespace Go.Proofs.YtmbelhdkaepohaaGreatDoor
set_option linter.unusedVariables false
open Go.ChangeShapes Go.WideShapes Go.ChangeAt Go.RowKit

def PP (x : PH) : World → List (Option Nat) → Prop := fun w ex => PHok w ex x
theorem PP.go {x : PH} {w w' : World} {ex ex' : List (Option Nat)} (h : PP x w ex) (hg : Go2 w ex w' ex') : PP x w' ex' := PHok.go h hg
theorem pp_of {w : World} {base : Nat} {B : Option Addr} {d : Nat} {l : List FH} (hown : w.ownsRow base 75 2 (.slice B l.length d) l.length (l.flatMap fhc)) (hall : ∀ x ∈ l, Fr base (FP x) w) (hl : l.length ≤ 40) : Fr base (PP ⟨B, l.length, d, l⟩) w :=
  fun ex he => ⟨EAt.own hown (fun g hg hin => by have h1 := (hown.lt g hg).1; have h2 := he g hin; omega), rfl, hl, fun y hy => hall y hy ex he⟩
def RetParse (r : Par) (w : World) (e : Ending) (w' : World) : Prop :=
  ∃ x : PH, e = .returned (.tuple #[.agg #[.slice x.A x.n x.c], .int .i64 (r.2.1 : Int), .int .i64 (r.2.2.1 : Int), .int .i64 r.2.2.2]) ∧ x.p = r.1 ∧ Fr w.heap.size (PP x) w' ∧ Below w.heap.size w w'
theorem pp_nil (w : World) (N : Nat) : Fr N (PP ⟨none, 0, 0, []⟩) w := fun ex _ => ⟨EAt.nil _ _ _, rfl, by show (0 : Nat) ≤ 40; omega, by simp⟩
end Go.Proofs.YtmbelhdkaepohaaGreatDoor
