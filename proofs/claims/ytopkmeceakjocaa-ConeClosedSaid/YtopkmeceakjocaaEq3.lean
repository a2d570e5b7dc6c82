/- The package equations: copies of sets; Clone of words of any number. -/
import Derived.Test.YtopkmeceakjocaaEq2
import Derived.Test.YtopkmeceakjocaaDPut
import Derived.Test.YtopkmeceakjocaaDSet
import Derived.Deep.RegionLaw
namespace Go.Proofs.Ytopkmeceakjocaa
set_option maxRecDepth 20000
set_option linter.unusedVariables false
set_option linter.unusedSimpArgs false
open Go.ChangeShapes Go.WideShapes Go.ChangeAt Go.RowKit

/-- Cells that lie in a block of the call's own. -/
def NewAt (w w' : World) (A : Option Addr) (xs : List Value) : Prop := ∀ ex : List (Option Nat), (∀ k, some k ∈ ex → k < w.heap.size) → EAt w' ex A xs
theorem NewAt.own {w w' : World} {ty k n c : Nat} {A : Option Addr} {xs : List Value} (h : w'.ownsRow w.heap.size ty k (.slice A n c) n xs) : NewAt w w' A xs := fun ex hex =>
  EAt.own h fun g hg hm => by have := hex g hm; have := (h.lt g hg).1; omega
theorem NewAt.nil (w w' : World) (A : Option Addr) : NewAt w w' A [] := fun ex _ => EAt.nil _ _ _
theorem NewAt.below {w w' w'' : World} {A : Option Addr} {xs : List Value} (h : NewAt w w' A xs) (hb : Below w'.heap.size w' w'') : NewAt w w'' A xs := fun ex hex => (h ex hex).go (Go2.below hb)
theorem NewAt.back {w0 w w' : World} {A : Option Addr} {xs : List Value} (h : NewAt w w' A xs) (hz : w0.heap.size ≤ w.heap.size) : NewAt w0 w' A xs := fun ex hex => h ex fun k hk => by have := hex k hk; omega
def RetW (w : World) (n : Nat) (ws : List Nat) (e : Ending) (w' : World) : Prop := ∃ (A' : Option Addr) (c' : Nat), e = .returned (.slice A' n c') ∧ NewAt w w' A' (words ws) ∧ Below w.heap.size w w'
theorem cloneW_any (A : Option Addr) (n c : Nat) (ws : List Nat) (w : World) (hA : Arg w A n ws) (hn : n ≤ 100) :
    Calls Try.prog 108 #[.slice A n c] w (RetW w n ws) := by
  by_cases h0 : 0 < n
  · refine (clone_any A n c ws w hA hn h0).mono ?_
    rintro e w' ⟨g, c', rfl, ho, hb⟩
    exact ⟨_, _, rfl, NewAt.own ho, hb⟩
  · obtain rfl : n = 0 := by omega
    have hws : ws = [] := List.eq_nil_of_length_eq_zero hA.len
    subst hws
    obtain ⟨i0, hi, hz0, hz1, hz2⟩ := info_parts info62'
    have Hi := hid hi; have Hz0 := hid hz0; have Hz1 := hid hz1; have Hz2 := hid hz2
    clear hA hi hz0 hz1 hz2
    have hb := (Below.refl w.heap.size w).alloc (Nat.le_refl _) (.cells #[] 93)
    have Hb := hid hb
    clear hb
    cases A with
    | none =>
      have hnil : ∀ w : World, (binOp .eql 48 (.slice none 0 c) (.slice none 0 0)).run Try.prog w = .ok (.bool true) w := fun w => Lib.run_eql_slice_nil w 48 93 none 0 c 0 0 Try.underlying48
      go_enter Try.func108, Try.ntmps108
      go_wp2_with fail
      go_ret
      exact ⟨_, _, rfl, NewAt.nil _ _ _, Below.refl _ _⟩
    | some ad =>
      have hnil : ∀ w : World, (binOp .eql 48 (.slice (some ad) 0 c) (.slice none 0 0)).run Try.prog w = .ok (.bool false) w := fun w => Lib.run_eql_slice_nil w 48 93 (some ad) 0 c 0 0 Try.underlying48
      go_enter Try.func108, Try.ntmps108
      go_wp2_with fail
      go_ret
      exact ⟨_, _, rfl, NewAt.nil _ _ _, Hb.out⟩
end Go.Proofs.Ytopkmeceakjocaa
