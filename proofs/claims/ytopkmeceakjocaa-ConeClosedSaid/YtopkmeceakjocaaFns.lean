/- The small functions of the set package: which widths are permitted, how many words they need, a bit's mask, whether a bit is set. -/
import Derived.Test.YtopkmeceakjocaaWide
import Derived.Deep.QuietTactic
import Derived.BigQuiet
namespace Go.Proofs.Ytopkmeceakjocaa
open Go.ChangeShapes Go.WideShapes Go.ChangeAt Go.RowKit

theorem permitted_any (W : Int) (w : World) : Calls Try.prog 104 #[.int .i64 W] w fun e w' => e = .returned (.bool (decide (0 ≤ W) && decide (W ≤ 256))) ∧ w' = w := by
  by_cases h : 0 ≤ W
  · go_enter Try.func104, Try.ntmps104
    go_wp2
    go_ret
    exact ⟨by simp [h], rfl⟩
  · have t : decide (0 ≤ W) = false := by simpa using h
    have h2 : W < 0 := by omega
    go_enter Try.func104, Try.ntmps104
    go_wp2
    go_ret
    exact ⟨by simp, rfl⟩

theorem permitted_is (W : Int) (r : Bool) (w : World) (h : Hid ((decide (0 ≤ W) && decide (W ≤ 256)) = r)) : Calls Try.prog 104 #[.int .i64 W] w fun e w' => e = .returned (.bool r) ∧ w' = w := by
  rw [← h.out]; exact permitted_any W w

theorem inside_any (W b : Int) (w : World) : Calls Try.prog 121 #[.int .i64 W, .int .i64 b] w fun e w' => e = .returned (.bool (decide (0 ≤ b) && decide (b < W))) ∧ w' = w := by
  by_cases h : 0 ≤ b
  · go_enter Try.func121, Try.ntmps121
    go_wp2
    go_ret
    exact ⟨by simp [h], rfl⟩
  · have t : decide (0 ≤ b) = false := by simpa using h
    have h2 : b < 0 := by omega
    go_enter Try.func121, Try.ntmps121
    go_wp2
    go_ret
    exact ⟨by simp, rfl⟩

theorem inside_is (W b : Int) (r : Bool) (w : World) (h : Hid ((decide (0 ≤ b) && decide (b < W)) = r)) : Calls Try.prog 121 #[.int .i64 W, .int .i64 b] w fun e w' => e = .returned (.bool r) ∧ w' = w := by
  rw [← h.out]; exact inside_any W b w

theorem wordsOf_any (v : Nat) (w : World) (hv : v ≤ 256) : Calls Try.prog 105 #[.int .i64 v] w fun e w' => e = .returned (.int .i64 (Bs.nw v)) ∧ w' = w := by
  go_enter Try.func105, Try.ntmps105
  go_wp2
  go_ret
  exact ⟨ret_int (by unfold Bs.nw; omega), rfl⟩

theorem mask_any (k : Nat) (w : World) : Calls Try.prog 125 #[.int .i64 k] w fun e w' => e = .returned (.int .u64 (IntKind.u64.wrap (2 ^ (k % 64)))) ∧ w' = w := by
  have h1 : (0 : Int) ≤ k := by omega
  go_enter Try.func125, Try.ntmps125
  go_wp2
  go_ret
  exact ⟨ret_int (by simp), rfl⟩

theorem holds_any (W : Int) (A : Option Addr) (n c : Nat) (ws : List Nat) (k : Nat) (w : World) (hA : Arg w A n ws) (hk : k / 64 < n) (hk2 : k < 256) :
    Calls Try.prog 122 #[.agg #[.int .i64 W, .slice A n c], .int .i64 k] w fun e w' => e = .returned (.bool (Bs.bit ws k)) ∧ w' = w.alloc (.cells #[.int .i64 W, .slice A n c] 50) := by
  obtain ⟨ad, rfl, had, hcell⟩ := hA.lies.cell (words_get (i := k / 64) (by rw [hA.len]; exact hk))
  have hbit := test_bit_of hA.ok k
  generalize hx : Bs.wd ws (k / 64) = x at hcell hbit
  clear hx hA
  generalize Bs.bit ws k = r at hbit
  have hcell2 : (w.alloc (Obj.cells #[Value.int IntKind.i64 W, Value.slice (some ad) n c] 50)).cell? (ad.add (k / 64)) = some (.int .u64 x) :=
    (World.cell?_alloc_lt _ _ _ (by rw [add_block]; exact had)).trans hcell
  go_enter Try.func122, Try.ntmps122
  go_wp2
  go_ret
  exact ⟨rfl, rfl⟩
end Go.Proofs.Ytopkmeceakjocaa
