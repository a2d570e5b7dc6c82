/- The small functions of the set package: which widths are permitted, how many words they need, a bit's mask, whether a bit is set. -/
import Derived.Test.YtadkjnjibefocaaWide
import Derived.Deep.QuietTactic
import Derived.BigQuiet
namespace Go.Proofs.Ytadkjnjibefocaa
open Go.ChangeShapes Go.WideShapes Go.ChangeAt Go.RowKit

theorem permitted_any (W : Int) (w : World) : Calls Try.prog 48 #[.int .i64 W] w fun e w' => e = .returned (.bool (decide (0 ≤ W) && decide (W ≤ 256))) ∧ w' = w := by
  by_cases h : 0 ≤ W
  · go_enter Try.func48, Try.ntmps48
    go_wp2
    go_ret
    exact ⟨by simp [h], rfl⟩
  · have t : decide (0 ≤ W) = false := by simpa using h
    have h2 : W < 0 := by omega
    go_enter Try.func48, Try.ntmps48
    go_wp2
    go_ret
    exact ⟨by simp, rfl⟩

theorem permitted_is (W : Int) (r : Bool) (w : World) (h : Hid ((decide (0 ≤ W) && decide (W ≤ 256)) = r)) : Calls Try.prog 48 #[.int .i64 W] w fun e w' => e = .returned (.bool r) ∧ w' = w := by
  rw [← h.out]; exact permitted_any W w

theorem wordsOf_any (v : Nat) (w : World) (hv : v ≤ 256) : Calls Try.prog 49 #[.int .i64 v] w fun e w' => e = .returned (.int .i64 (Bs.nw v)) ∧ w' = w := by
  go_enter Try.func49, Try.ntmps49
  go_wp2
  go_ret
  exact ⟨ret_int (by unfold Bs.nw; omega), rfl⟩

end Go.Proofs.Ytadkjnjibefocaa
