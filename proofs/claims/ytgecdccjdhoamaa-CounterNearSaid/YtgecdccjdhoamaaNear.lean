/- CounterNear returns true for every two numbers from -128 to 127: the walk of its loop. -/
import Derived.Test.YtgecdccjdhoamaaFns
namespace Go.Proofs.Ytgecdccjdhoamaa
open Go.ChangeShapes Go.WideShapes Go.ChangeAt Go.RowKit

theorem near_any (a b : Int) (w : World) :
    Calls Try.prog 4 #[.int .i8 a, .int .i8 b] w fun e w' => e = .returned (.bool true) ∧ w = w' := by
  go_enter Try.func4, Try.ntmps4
  go_wp2
  go_loop [5, 6, 7] (fun x y i => ∃ (p q : Int) (k : Nat), k ≤ 4 ∧ x = .int .i64 p ∧ y = .int .i64 q ∧ i = .int .i64 k) (fun _ _ i => 4 - (intOf i).toNat)
  case atStart => exact ⟨_, _, 0, by omega, rfl, rfl, rfl⟩
  case round =>
    obtain ⟨p, q, k, hk, rfl, rfl, rfl⟩ := hrel
    by_cases hlt : k < 4
    · by_cases hev : (k : Int) % 2 = 0
      all_goals
        go_wp2_with (first
          | (go_at_call 7; refine (clamp_any _ _).mono ?_; rintro e w' ⟨rfl, rfl⟩)
          | (go_at_call 8; refine (refClamp_any _ _).mono ?_; rintro e w' ⟨rfl, rfl⟩)
          | (go_at_call 9; refine (add_any _ _ _).mono ?_; rintro e w' ⟨rfl, rfl⟩)
          | (go_at_call 10; refine (refAdd_any _ _ _).mono ?_; rintro e w' ⟨rfl, rfl⟩)
          | (go_at_call 11; refine (sub_any _ _ _).mono ?_; rintro e w' ⟨rfl, rfl⟩)
          | (go_at_call 12; refine (refSub_any _ _ _).mono ?_; rintro e w' ⟨rfl, rfl⟩)
          | (go_at_call 13; refine (mul_any _ _ _).mono ?_; rintro e w' ⟨rfl, rfl⟩)
          | (go_at_call 14; refine (refMul_any _ _ _).mono ?_; rintro e w' ⟨rfl, rfl⟩)
          | (go_at_call 15; refine (div_any _ _ _).mono ?_; rintro e w' ⟨rfl, rfl⟩)
          | (go_at_call 16; refine (refDiv_any _ _ _).mono ?_; rintro e w' ⟨rfl, rfl⟩))
        go_round
        case rel => exact ⟨_, _, k + 1, by omega, rfl, rfl, by go_num⟩
        case measure => simp [intOf]; omega
    · go_wp2_with (go_at_call 17; refine (sane_any _).mono ?_; rintro e w' ⟨rfl, rfl⟩)
      go_ret
      exact ⟨rfl, rfl⟩
end Go.Proofs.Ytgecdccjdhoamaa
