/- The counter functions and their references return the clamped result that chapter 1 gives, for all ints, and leave the world as it is. -/
import Derived.Test.YtgecdccjdhoamaaRows
import Derived.WalkKit
import Derived.ProofKit
import Derived.OpenShut
namespace Go.Proofs.Ytgecdccjdhoamaa
open Go.ChangeShapes Go.WideShapes Go.ChangeAt Go.RowKit

def cl (a : Int) : Int := min (max a 0) 1073741824
theorem cl_lo (a : Int) : 0 ≤ cl a := by unfold cl; omega
theorem cl_hi (a : Int) : cl a ≤ 1073741824 := by unfold cl; omega
theorem cl_alt (a : Int) : max 0 (min a 1073741824) = cl a := by unfold cl; omega
theorem ret_int {k : IntKind} {a b : Int} (h : a = b) : Ending.returned (.int k a) = .returned (.int k b) := by rw [h]

theorem cl_neg {a : Int} (h : a < 0) : cl a = 0 := by unfold cl; omega
theorem cl_big {a : Int} (h : 1073741824 < a) : cl a = 1073741824 := by unfold cl; omega
theorem cl_mid {a : Int} (h : 0 ≤ a) (g : a ≤ 1073741824) : cl a = a := by unfold cl; omega

/-- Clamping, by three cases. -/
theorem cl_cases (a : Int) : (a < 0 ∧ cl a = 0) ∨ (1073741824 < a ∧ cl a = 1073741824) ∨ (0 ≤ a ∧ a ≤ 1073741824 ∧ cl a = a) := by
  unfold cl; omega

theorem nearest_any (a : Int) (w : World) :
    Calls Try.prog 18 #[.int .i64 a] w fun e w' => e = .returned (.int .i64 (cl a)) ∧ w = w' := by
  go_enter Try.func18, Try.ntmps18
  go_wp2
  all_goals
    go_ret
    exact ⟨ret_int (by unfold cl; omega), rfl⟩

theorem refClamp_any (a : Int) (w : World) :
    Calls Try.prog 8 #[.int .i64 a] w fun e w' => e = .returned (.int .i64 (cl a)) ∧ w = w' := by
  go_enter Try.func8, Try.ntmps8
  go_wp2
  all_goals
    go_ret
    exact ⟨ret_int (by unfold cl; omega), rfl⟩

theorem clamp_any (a : Int) (w : World) :
    Calls Try.prog 7 #[.int .i64 a] w fun e w' => e = .returned (.int .i64 (cl a)) ∧ w = w' := by
  go_enter Try.func7, Try.ntmps7
  go_wp2_with (go_at_call 18; refine (nearest_any _ _).mono ?_; rintro e w' ⟨rfl, rfl⟩)
  go_ret
  exact ⟨rfl, rfl⟩

theorem operands_any (a b : Int) (w : World) :
    Calls Try.prog 19 #[.int .i64 a, .int .i64 b] w fun e w' => e = .returned (.tuple #[.int .i64 (cl a), .int .i64 (cl b)]) ∧ w = w' := by
  go_enter Try.func19, Try.ntmps19
  go_wp2_with (go_at_call 18; refine (nearest_any _ _).mono ?_; rintro e w' ⟨rfl, rfl⟩)
  go_ret2
  exact ⟨rfl, rfl⟩

def ad (a b : Int) : Int := cl (cl a + cl b)
def sb (a b : Int) : Int := cl (cl a - cl b)
def ml (a b : Int) : Int := cl (cl a * cl b)
def dv (a b : Int) : Int := if cl b = 0 then 1073741824 else cl a / cl b

theorem mul_bd (a b : Int) : 0 ≤ cl a * cl b ∧ cl a * cl b ≤ 1152921504606846976 := by
  have h1 := cl_lo a; have h2 := cl_lo b; have h3 := cl_hi a; have h4 := cl_hi b
  refine ⟨Int.mul_nonneg h1 h2, ?_⟩
  have := Int.mul_le_mul h3 h4 h2 (by omega)
  omega

theorem add_any (a b : Int) (w : World) :
    Calls Try.prog 9 #[.int .i64 a, .int .i64 b] w fun e w' => e = .returned (.int .i64 (ad a b)) ∧ w = w' := by
  have h1 := cl_lo a; have h2 := cl_lo b; have h3 := cl_hi a; have h4 := cl_hi b
  go_enter Try.func9, Try.ntmps9
  go_wp2_with (first | (go_at_call 19; refine (operands_any _ _ _).mono ?_; rintro e w' ⟨rfl, rfl⟩) | (go_at_call 18; refine (nearest_any _ _).mono ?_; rintro e w' ⟨rfl, rfl⟩))
  go_ret
  exact ⟨rfl, rfl⟩

theorem refAdd_any (a b : Int) (w : World) :
    Calls Try.prog 10 #[.int .i64 a, .int .i64 b] w fun e w' => e = .returned (.int .i64 (ad a b)) ∧ w = w' := by
  have h1 := cl_lo a; have h2 := cl_lo b; have h3 := cl_hi a; have h4 := cl_hi b
  go_enter Try.func10, Try.ntmps10
  go_wp2_with (go_at_call 8; refine (refClamp_any _ _).mono ?_; rintro e w' ⟨rfl, rfl⟩)
  go_ret
  exact ⟨rfl, rfl⟩

theorem sub_any (a b : Int) (w : World) :
    Calls Try.prog 11 #[.int .i64 a, .int .i64 b] w fun e w' => e = .returned (.int .i64 (sb a b)) ∧ w = w' := by
  have h1 := cl_lo a; have h2 := cl_lo b; have h3 := cl_hi a; have h4 := cl_hi b
  go_enter Try.func11, Try.ntmps11
  go_wp2_with (first | (go_at_call 19; refine (operands_any _ _ _).mono ?_; rintro e w' ⟨rfl, rfl⟩) | (go_at_call 18; refine (nearest_any _ _).mono ?_; rintro e w' ⟨rfl, rfl⟩))
  go_ret
  exact ⟨rfl, rfl⟩

theorem refSub_any (a b : Int) (w : World) :
    Calls Try.prog 12 #[.int .i64 a, .int .i64 b] w fun e w' => e = .returned (.int .i64 (sb a b)) ∧ w = w' := by
  have h1 := cl_lo a; have h2 := cl_lo b; have h3 := cl_hi a; have h4 := cl_hi b
  go_enter Try.func12, Try.ntmps12
  go_wp2_with (go_at_call 8; refine (refClamp_any _ _).mono ?_; rintro e w' ⟨rfl, rfl⟩)
  go_ret
  exact ⟨rfl, rfl⟩

theorem mul_any (a b : Int) (w : World) :
    Calls Try.prog 13 #[.int .i64 a, .int .i64 b] w fun e w' => e = .returned (.int .i64 (ml a b)) ∧ w = w' := by
  obtain ⟨h1, h2⟩ := mul_bd a b
  go_enter Try.func13, Try.ntmps13
  go_wp2_with (first | (go_at_call 19; refine (operands_any _ _ _).mono ?_; rintro e w' ⟨rfl, rfl⟩) | (go_at_call 18; refine (nearest_any _ _).mono ?_; rintro e w' ⟨rfl, rfl⟩))
  go_ret
  exact ⟨rfl, rfl⟩

theorem refMul_any (a b : Int) (w : World) :
    Calls Try.prog 14 #[.int .i64 a, .int .i64 b] w fun e w' => e = .returned (.int .i64 (ml a b)) ∧ w = w' := by
  obtain ⟨h1, h2⟩ := mul_bd a b
  go_enter Try.func14, Try.ntmps14
  go_wp2_with (go_at_call 8; refine (refClamp_any _ _).mono ?_; rintro e w' ⟨rfl, rfl⟩)
  go_ret
  exact ⟨rfl, rfl⟩

theorem div_any (a b : Int) (w : World) :
    Calls Try.prog 15 #[.int .i64 a, .int .i64 b] w fun e w' => e = .returned (.int .i64 (dv a b)) ∧ w = w' := by
  have h1 := cl_lo a; have h2 := cl_lo b; have h3 := cl_hi a; have h4 := cl_hi b
  by_cases h : cl b = 0
  all_goals
    go_enter Try.func15, Try.ntmps15
    go_wp2_with (go_at_call 19; refine (operands_any _ _ _).mono ?_; rintro e w' ⟨rfl, rfl⟩)
    go_ret
    exact ⟨ret_int (by unfold dv; simp [h]), rfl⟩

theorem refDiv_any (a b : Int) (w : World) :
    Calls Try.prog 16 #[.int .i64 a, .int .i64 b] w fun e w' => e = .returned (.int .i64 (dv a b)) ∧ w = w' := by
  have h1 := cl_lo a; have h2 := cl_lo b; have h3 := cl_hi a; have h4 := cl_hi b
  by_cases h : cl b = 0
  all_goals
    go_enter Try.func16, Try.ntmps16
    go_wp2_with (go_at_call 8; refine (refClamp_any _ _).mono ?_; rintro e w' ⟨rfl, rfl⟩)
    go_ret
    exact ⟨ret_int (by unfold dv; simp [h]), rfl⟩

theorem sane_any (w : World) :
    Calls Try.prog 17 #[] w fun e w' => e = .returned (.bool true) ∧ w = w' := by
  have e1 : ad 1073741824 5 = 1073741824 := by decide
  have e2 : sb 3 5 = 0 := by decide
  have e3 : dv 7 2 = 3 := by decide
  have e4 : dv 1 0 = 1073741824 := by decide
  have e5 : cl 4 = 4 := by decide
  go_enter Try.func17, Try.ntmps17
  go_wp2_with (first | (go_at_call 9; refine (add_any _ _ _).mono ?_; rintro e w' ⟨rfl, rfl⟩) | (go_at_call 11; refine (sub_any _ _ _).mono ?_; rintro e w' ⟨rfl, rfl⟩) | (go_at_call 15; refine (div_any _ _ _).mono ?_; rintro e w' ⟨rfl, rfl⟩) | (go_at_call 7; refine (clamp_any _ _).mono ?_; rintro e w' ⟨rfl, rfl⟩))
  go_ret
  exact ⟨rfl, rfl⟩
end Go.Proofs.Ytgecdccjdhoamaa
