/- Which bytes are letters, digits and parts of words, and the small functions that tell. -/
import Derived.Test.YtmbelhdkaepohaaGreatDoorSup
namespace Go.Proofs.YtmbelhdkaepohaaGreatDoor
set_option maxRecDepth 20000
set_option linter.unusedSimpArgs false
open Go.ChangeShapes Go.WideShapes Go.ChangeAt Go.RowKit

def letB (c : Int) : Bool := decide (97 ≤ c) && decide (c ≤ 122) || decide (65 ≤ c) && decide (c ≤ 90)
def digB (c : Int) : Bool := decide (48 ≤ c) && decide (c ≤ 57)
/-- A byte that belongs to a word. -/
def wrdB (c : Int) : Bool := letB c || digB c || decide (c = 95)
/-- The reference's letters: the underscore among them. -/
def lttB (c : Int) : Bool := letB c || decide (c = 95)

theorem isLetter_any (c : Int) (w : World) : Calls Tryz.prog 112 #[.int .u8 c] w fun e w' => e = .returned (.bool (letB c)) ∧ w = w' := by
  unfold letB
  by_cases h1 : 97 ≤ c <;> by_cases h2 : c ≤ 122 <;> by_cases h3 : 65 ≤ c <;> by_cases h4 : c ≤ 90 <;>
  · have t1 := h1; have t2 := h2; have t3 := h3; have t4 := h4
    first
    | omega
    | (go_enter Tryz.func112, Tryz.ntmps112
       go_wp2
       go_ret
       exact ⟨ret_bool (by simp [t1, t2, t3, t4]), rfl⟩)
theorem isDigit_any (c : Int) (w : World) : Calls Tryz.prog 121 #[.int .u8 c] w fun e w' => e = .returned (.bool (digB c)) ∧ w = w' := by
  unfold digB
  by_cases h1 : 48 ≤ c <;> by_cases h2 : c ≤ 57 <;>
  · have t1 := h1; have t2 := h2
    first
    | omega
    | (go_enter Tryz.func121, Tryz.ntmps121
       go_wp2
       go_ret
       exact ⟨ret_bool (by simp [t1, t2]), rfl⟩)
theorem refDigit_any (c : Int) (w : World) : Calls Tryz.prog 49 #[.int .u8 c] w fun e w' => e = .returned (.bool (digB c)) ∧ w = w' := by
  unfold digB
  by_cases h1 : 48 ≤ c <;> by_cases h2 : c ≤ 57 <;>
  · have t1 := h1; have t2 := h2
    first
    | omega
    | (go_enter Tryz.func49, Tryz.ntmps49
       go_wp2
       go_ret
       exact ⟨ret_bool (by simp [t1, t2]), rfl⟩)
theorem refLetter_any (c : Int) (w : World) : Calls Tryz.prog 48 #[.int .u8 c] w fun e w' => e = .returned (.bool (lttB c)) ∧ w = w' := by
  unfold lttB letB
  have e3 : decide (c = 95) = (c == 95) := by rw [Bool.eq_iff_iff]; simp
  rw [e3]
  clear e3
  by_cases h1 : 97 ≤ c <;> by_cases h2 : c ≤ 122 <;> by_cases h3 : 65 ≤ c <;> by_cases h4 : c ≤ 90 <;> cases h5 : (c == 95) <;>
  · have t1 := h1; have t2 := h2; have t3 := h3; have t4 := h4
    first
    | omega
    | (go_enter Tryz.func48, Tryz.ntmps48
       go_wp2
       go_ret
       exact ⟨ret_bool (by first | rfl | simp [t1, t2, t3, t4, h5]), rfl⟩)

theorem isInWord_any (c : Int) (w : World) : Calls Tryz.prog 119 #[.int .u8 c] w fun e w' => e = .returned (.bool (wrdB c)) ∧ w = w' := by
  unfold wrdB
  cases h1 : letB c with
  | true =>
    have H1 := hid h1
    clear h1
    go_enter Tryz.func119, Tryz.ntmps119
    go_wp2_with (go_at_call 112; refine (isLetter_any _ _).mono ?_; rw [H1.out]; rintro e w' ⟨rfl, rfl⟩)
    go_ret
    exact ⟨ret_bool (by simp), rfl⟩
  | false =>
    have H1 := hid h1
    clear h1
    cases h2 : digB c with
    | true =>
      have H2 := hid h2
      clear h2
      go_enter Tryz.func119, Tryz.ntmps119
      go_wp2_with (first | (go_at_call 112; refine (isLetter_any _ _).mono ?_; rw [H1.out]; rintro e w' ⟨rfl, rfl⟩) | (go_at_call 121; refine (isDigit_any _ _).mono ?_; rw [H2.out]; rintro e w' ⟨rfl, rfl⟩))
      go_ret
      exact ⟨ret_bool (by simp), rfl⟩
    | false =>
      have H2 := hid h2
      clear h2
      have e3 : decide (c = 95) = (c == 95) := by rw [Bool.eq_iff_iff]; simp
      rw [e3]
      clear e3
      cases h3 : (c == 95)
      all_goals
        go_enter Tryz.func119, Tryz.ntmps119
        go_wp2_with (first | (go_at_call 112; refine (isLetter_any _ _).mono ?_; rw [H1.out]; rintro e w' ⟨rfl, rfl⟩) | (go_at_call 121; refine (isDigit_any _ _).mono ?_; rw [H2.out]; rintro e w' ⟨rfl, rfl⟩))
        go_ret
        exact ⟨ret_bool (by first | rfl | simp), rfl⟩
end Go.Proofs.YtmbelhdkaepohaaGreatDoor
