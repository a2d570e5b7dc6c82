/- Addition and multiplication of counters: the walks of CounterAdds and CounterMultiplies, which return true for every three ints. -/
import Derived.Test.YtgecdccjdhoamaaFns
namespace Go.Proofs.Ytgecdccjdhoamaa
open Go.ChangeShapes Go.WideShapes Go.ChangeAt Go.RowKit

theorem ad_comm (a b : Int) : ad b a = ad a b := by unfold ad; rw [Int.add_comm]
theorem ad_assoc (a b c : Int) : ad (ad a b) c = ad a (ad b c) := by unfold ad cl; omega
theorem ad_ge (a b : Int) : cl a ≤ ad a b := by unfold ad cl; omega
theorem ad_le (a b : Int) : ad a b ≤ 1073741824 := by unfold ad; exact cl_hi _
theorem ad_sub (a b : Int) : ad (sb a b) b = max (cl a) (cl b) := by unfold ad sb cl; omega

theorem adds_any (a b c : Int) (w : World) :
    Calls Try.prog 5 #[.int .i64 a, .int .i64 b, .int .i64 c] w fun e w' => e = .returned (.bool true) ∧ w = w' := by
  have h1 : (ad a b == ad b a) = true := by rw [ad_comm a b]; simp
  have h2 : (ad (ad a b) c == ad a (ad b c)) = true := by rw [ad_assoc a b]; simp
  have h3 := ad_ge a b
  have h4 := ad_le a b
  by_cases h : cl a < cl b
  · have h5 : (ad (sb a b) b == cl b) = true := by rw [ad_sub, Int.max_eq_right (by omega)]; simp
    go_enter Try.func5, Try.ntmps5
    go_wp2_with (first
      | (go_at_call 7; refine (clamp_any _ _).mono ?_; rintro e w' ⟨rfl, rfl⟩)
      | (go_at_call 9; refine (add_any _ _ _).mono ?_; rintro e w' ⟨rfl, rfl⟩)
      | (go_at_call 11; refine (sub_any _ _ _).mono ?_; rintro e w' ⟨rfl, rfl⟩)
      | (go_at_call 17; refine (sane_any _).mono ?_; rintro e w' ⟨rfl, rfl⟩))
    go_ret
    exact ⟨rfl, rfl⟩
  · have h5 : (ad (sb a b) b == cl a) = true := by rw [ad_sub, Int.max_eq_left (by omega)]; simp
    go_enter Try.func5, Try.ntmps5
    go_wp2_with (first
      | (go_at_call 7; refine (clamp_any _ _).mono ?_; rintro e w' ⟨rfl, rfl⟩)
      | (go_at_call 9; refine (add_any _ _ _).mono ?_; rintro e w' ⟨rfl, rfl⟩)
      | (go_at_call 11; refine (sub_any _ _ _).mono ?_; rintro e w' ⟨rfl, rfl⟩)
      | (go_at_call 17; refine (sane_any _).mono ?_; rintro e w' ⟨rfl, rfl⟩))
    go_ret
    exact ⟨rfl, rfl⟩

theorem ml_comm (a b : Int) : ml b a = ml a b := by unfold ml; rw [Int.mul_comm]
theorem ml_lo (a b : Int) : 0 ≤ ml a b := by unfold ml; exact cl_lo _
theorem ml_le (a b : Int) : ml a b ≤ 1073741824 := by unfold ml; exact cl_hi _
theorem cl_of (a : Int) (h : 0 ≤ a) : cl a = min a 1073741824 := by unfold cl; omega
theorem cl_cl (a : Int) : cl (cl a) = cl a := by unfold cl; omega

/-- Capping one factor at the greatest counter does not change the capped product with a natural number. -/
theorem cap_mul (p z : Int) (hz : 0 ≤ z) : min (min p 1073741824 * z) 1073741824 = min (p * z) 1073741824 := by
  by_cases h : p ≤ 1073741824
  · rw [Int.min_eq_left h]
  · have e : min p 1073741824 = 1073741824 := by omega
    rw [e]
    by_cases hz0 : z = 0
    · subst hz0; simp
    · have h1 : (1073741824 : Int) ≤ 1073741824 * z := by omega
      have h2 : 1073741824 * z ≤ p * z := Int.mul_le_mul_of_nonneg_right (by omega) hz
      rw [Int.min_eq_right h1, Int.min_eq_right (Int.le_trans h1 h2)]

theorem ml_three (a b c : Int) : ml (ml a b) c = min (cl a * cl b * cl c) 1073741824 := by
  have ha := cl_lo a; have hb := cl_lo b; have hc := cl_lo c
  have hab := Int.mul_nonneg ha hb
  have e : cl (ml a b) = min (cl a * cl b) 1073741824 := by unfold ml; rw [cl_cl, cl_of _ hab]
  have h0 : (0 : Int) ≤ min (cl a * cl b) 1073741824 := by omega
  show cl (cl (ml a b) * cl c) = _
  rw [e, cl_of _ (Int.mul_nonneg h0 hc), cap_mul _ _ hc]

theorem ml_assoc (a b c : Int) : ml (ml a b) c = ml a (ml b c) := by
  rw [← ml_comm a (ml b c), ml_three, ml_three, Int.mul_comm (cl b * cl c) (cl a), Int.mul_assoc]

theorem ml_div (a b : Int) (hb : cl b ≠ 0) (hx : ml a b ≠ 1073741824) : dv (ml a b) b = cl a := by
  have ha := cl_lo a; have hb' := cl_lo b
  have hab := Int.mul_nonneg ha hb'
  have e : ml a b = min (cl a * cl b) 1073741824 := by unfold ml; rw [cl_of _ hab]
  have e2 : ml a b = cl a * cl b := by omega
  unfold dv
  have e3 : cl (ml a b) = ml a b := by unfold ml; exact cl_cl _
  rw [if_neg hb, e3, e2, Int.mul_ediv_cancel _ hb]

theorem multiplies_any (a b c : Int) (w : World) :
    Calls Try.prog 6 #[.int .i64 a, .int .i64 b, .int .i64 c] w fun e w' => e = .returned (.bool true) ∧ w = w' := by
  have h1 : (ml a b == ml b a) = true := by rw [ml_comm a b]; simp
  have h1' : (ml a b != ml b a) = false := by rw [ml_comm a b]; simp
  have h2 : (ml (ml a b) c == ml a (ml b c)) = true := by rw [ml_assoc a b]; simp
  have h2' : (ml (ml a b) c != ml a (ml b c)) = false := by rw [ml_assoc a b]; simp
  have h3 := ml_lo a b
  have h4 := ml_le a b
  by_cases hb : cl b = 0
  · go_enter Try.func6, Try.ntmps6
    go_wp2_with (first
      | (go_at_call 7; refine (clamp_any _ _).mono ?_; rintro e w' ⟨rfl, rfl⟩)
      | (go_at_call 13; refine (mul_any _ _ _).mono ?_; rintro e w' ⟨rfl, rfl⟩)
      | (go_at_call 15; refine (div_any _ _ _).mono ?_; rintro e w' ⟨rfl, rfl⟩)
      | (go_at_call 17; refine (sane_any _).mono ?_; rintro e w' ⟨rfl, rfl⟩))
    go_ret
    exact ⟨rfl, rfl⟩
  · by_cases hx : ml a b = 1073741824
    · have h5 : (ml a b == 1073741824) = true := by rw [hx]; rfl
      clear hx
      go_enter Try.func6, Try.ntmps6
      go_wp2_with (first
        | (go_at_call 7; refine (clamp_any _ _).mono ?_; rintro e w' ⟨rfl, rfl⟩)
        | (go_at_call 13; refine (mul_any _ _ _).mono ?_; rintro e w' ⟨rfl, rfl⟩)
        | (go_at_call 15; refine (div_any _ _ _).mono ?_; rintro e w' ⟨rfl, rfl⟩)
        | (go_at_call 17; refine (sane_any _).mono ?_; rintro e w' ⟨rfl, rfl⟩))
      go_ret
      exact ⟨rfl, rfl⟩
    · have h5 : (dv (ml a b) b == cl a) = true := by rw [ml_div a b hb hx]; simp
      go_enter Try.func6, Try.ntmps6
      go_wp2_with (first
        | (go_at_call 7; refine (clamp_any _ _).mono ?_; rintro e w' ⟨rfl, rfl⟩)
        | (go_at_call 13; refine (mul_any _ _ _).mono ?_; rintro e w' ⟨rfl, rfl⟩)
        | (go_at_call 15; refine (div_any _ _ _).mono ?_; rintro e w' ⟨rfl, rfl⟩)
        | (go_at_call 17; refine (sane_any _).mono ?_; rintro e w' ⟨rfl, rfl⟩))
      go_ret
      exact ⟨rfl, rfl⟩
end Go.Proofs.Ytgecdccjdhoamaa
