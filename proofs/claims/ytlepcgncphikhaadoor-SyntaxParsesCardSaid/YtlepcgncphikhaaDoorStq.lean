/- The reference's strs: of two equal lists it is true. -/
import Derived.Test.YtlepcgncphikhaaDoorWds
namespace Go.Proofs.YtlepcgncphikhaaDoor
set_option maxRecDepth 20000
set_option linter.unusedVariables false
open Go.ChangeShapes Go.WideShapes Go.ChangeAt Go.RowKit

set_option maxHeartbeats 1600000 in
theorem strs_yes (A B : Option Addr) (n c d : Nat) (l : List ByteArray) (w : World) (hA : SArg w A n l) (hB : SArg w B n l) :
    Calls Tryd.prog 54 #[.slice A n c, .slice B n d] w fun e w' => e = .returned (.bool true) ∧ Below w.heap.size w w' := by
  have HA := hid hA
  have HB := hid hB
  have hn := hA.few
  clear hA hB
  go_enter Tryd.func54, Tryd.ntmps54
  go_wp2_with fail
  go_loopw [5] (fun iv wr => ∃ k : Nat, k ≤ n ∧ iv = .int .i64 k ∧ Hid (Below w.heap.size w wr)) (fun iv wr => n - (intOf iv).toNat)
  case atStart => exact ⟨0, by omega, rfl, hid (Below.refl _ _)⟩
  case round =>
    obtain ⟨k, hk, rfl, HW⟩ := hrel
    by_cases hlt : k < n
    · obtain ⟨ad, rfl, hb, hc, hs⟩ := (HA.out.below HW.out).cell hlt
      obtain ⟨bd, rfl, hb2, hc2, hs2⟩ := (HB.out.below HW.out).cell hlt
      generalize l.getD k ByteArray.empty = y at *
      go_wp2_with fail
      go_quiet (fail)
      go_wp2_with fail
      go_roundw
      case rel => exact ⟨k + 1, by omega, by go_num, hid (below_drewN HW.out _)⟩
      case measure => simp [intOf]; omega
    · have hkn : k = n := by omega
      subst hkn
      go_wp2_with fail
      go_ret
      exact ⟨rfl, HW.out⟩
end Go.Proofs.YtlepcgncphikhaaDoor
