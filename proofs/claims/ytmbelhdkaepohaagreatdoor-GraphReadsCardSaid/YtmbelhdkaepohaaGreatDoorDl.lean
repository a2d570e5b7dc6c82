/- The package's small functions: the rest of a text, the column, how long a word or a comment is, the error of a word. -/
import Derived.Test.YtmbelhdkaepohaaGreatDoorSpec
namespace Go.Proofs.YtmbelhdkaepohaaGreatDoor
set_option maxRecDepth 20000
set_option linter.unusedVariables false
set_option linter.unusedSimpArgs false
open Go.ChangeShapes Go.WideShapes Go.ChangeAt Go.RowKit

set_option maxHeartbeats 800000 in
theorem wordLength_any (s : ByteArray) (w : World) (hs : s.size ≤ maxLen) : Calls Tryz.prog 113 #[.string s] w fun e w' => e = .returned (.int .i64 (runL wrdB s 0 : Nat)) ∧ w = w' := by
  unfold maxLen at hs
  go_enter Tryz.func113, Tryz.ntmps113
  go_wp2
  go_loop [3] (fun i => ∃ k : Nat, k ≤ s.size ∧ i = .int .i64 k ∧ Hid (runL wrdB s 0 = k + runL wrdB s k)) (fun i => s.size - (intOf i).toNat)
  case atStart => exact ⟨0, by omega, rfl, hid (by omega)⟩
  case round =>
    obtain ⟨k, hk, rfl, hR⟩ := hrel
    by_cases hlt : k < s.size
    · cases hw : wrdB (byt s k) with
      | true =>
        have HW := hid hw
        have hn := hid (show runL wrdB s 0 = (k + 1) + runL wrdB s (k + 1) by rw [hR.out, runL_yes hlt hw]; omega)
        clear hw
        go_wp2_with (go_at_call 119; refine (isInWord_any _ _).mono ?_; rw [byt_at s k hlt, HW.out]; rintro e w' ⟨rfl, rfl⟩)
        go_round
        case rel => exact ⟨k + 1, by omega, by go_num, hn⟩
        case measure => simp [intOf]; omega
      | false =>
        have HW := hid hw
        have hn := hid (show runL wrdB s 0 = k by rw [hR.out, runL_no hw]; omega)
        clear hw
        go_wp2_with (go_at_call 119; refine (isInWord_any _ _).mono ?_; rw [byt_at s k hlt, HW.out]; rintro e w' ⟨rfl, rfl⟩)
        go_ret
        exact ⟨by rw [hn.out]; rfl, rfl⟩
    · have hn := hid (show runL wrdB s 0 = k by rw [hR.out, runL_end (by omega)]; omega)
      go_wp2
      go_ret
      exact ⟨by rw [hn.out]; rfl, rfl⟩
/-- The error of a word: 4 if it begins with a digit, 7 if it is too long. -/
def wordE (s : ByteArray) : Int := if digB (byt s 0) then 4 else if 16 < runL wrdB s 0 then 7 else 0
end Go.Proofs.YtmbelhdkaepohaaGreatDoor
