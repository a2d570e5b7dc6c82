/- slices.Clone of a set's words, whether there are any or not. -/
import Derived.Test.YtmbelhdkaepohaaDSet
namespace Go.Proofs.Ytmbelhdkaepohaa
set_option maxRecDepth 20000
open Go.ChangeShapes Go.WideShapes Go.ChangeAt Go.RowKit

theorem clone_gen (A : Option Addr) (n c : Nat) (ws : List Nat) (w : World) (hA : Arg w A n ws) (hn : n ≤ 100) :
    Calls Try.prog 68 #[.slice A n c] w fun e w' => ∃ A' c', e = .returned (.slice A' n c') ∧ Arg w' A' n ws ∧ Below w.heap.size w w' := by
  by_cases h0 : 0 < n
  · have HA := hid hA
    refine (clone_any A n c ws w hA hn h0).mono ?_
    rintro e w' ⟨g, c', rfl, ho, hb⟩
    exact ⟨_, c', rfl, ho.arg HA.out.ok, hb⟩
  · have e0 : n = 0 := by omega
    subst e0
    have ew : ws = [] := List.eq_nil_of_length_eq_zero hA.len
    subst ew
    clear hA
    cases A with
    | none =>
      have hnil : ∀ w : World, (binOp .eql 23 (.slice none 0 c) (.slice none 0 0)).run Try.prog w = .ok (.bool true) w := fun w => Lib.run_eql_slice_nil w 23 66 none 0 c 0 0 Try.underlying23
      go_enter Try.func68, Try.ntmps68
      go_wp2
      go_ret
      exact ⟨none, 0, rfl, Arg.nil _ _, Below.refl _ _⟩
    | some ad =>
      have hnil : ∀ w : World, (binOp .eql 23 (.slice (some ad) 0 c) (.slice none 0 0)).run Try.prog w = .ok (.bool false) w := fun w => Lib.run_eql_slice_nil w 23 66 (some ad) 0 c 0 0 Try.underlying23
      have Hb := hid ((Below.refl w.heap.size w).alloc (Nat.le_refl _) (.cells #[] 66))
      go_enter Try.func68, Try.ntmps68
      go_wp2
      go_ret
      exact ⟨_, _, rfl, Arg.nil _ _, Hb.out⟩
end Go.Proofs.Ytmbelhdkaepohaa
