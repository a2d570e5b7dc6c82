/- Keywords and names. -/
import Derived.Test.YtmbelhdkaepohaaGreatDoorDl
namespace Go.Proofs.YtmbelhdkaepohaaGreatDoor
set_option maxRecDepth 20000
set_option linter.unusedVariables false
set_option linter.unusedSimpArgs false
open Go.ChangeShapes Go.WideShapes Go.ChangeAt Go.RowKit

theorem loop_eq (s : ByteArray) (k i : Nat) (r : List UInt8) (hk : s.size - i = k) : ByteArray.toList.loop s i r = r.reverse ++ s.data.toList.drop i := by
  have hsz : s.data.toList.length = s.size := len_list s
  induction k generalizing i r with
  | zero =>
    unfold ByteArray.toList.loop
    rw [if_neg (by omega), List.drop_of_length_le (by omega)]; simp
  | succ k ih =>
    unfold ByteArray.toList.loop
    rw [if_pos (by omega), ih _ _ (by omega)]
    have hi : i < s.data.toList.length := by omega
    rw [List.drop_eq_getElem_cons hi]
    have : s.get! i = s.data.toList[i] := by
      show s.data[i]! = _
      rw [getElem!_pos s.data i (by simpa using hi)]
      simp
    rw [this]; simp
theorem toList_data (s : ByteArray) : s.toList = s.data.toList := by
  unfold ByteArray.toList; rw [loop_eq s _ 0 [] rfl]; simp
def kws : List (List UInt8) := [[102, 117, 110, 99], [98, 108, 111, 99, 107], [101, 110, 100], [117, 115, 101], [99, 97, 108, 108], [115, 111, 117, 114, 99, 101], [115, 105, 110, 107], [115, 97, 110, 105, 116, 105, 122, 101], [103, 111, 116, 111], [98, 114, 97, 110, 99, 104], [114, 101, 116, 117, 114, 110]]
def kwB (s : ByteArray) : Bool := kws.any fun k => s.toList == k
theorem isKeyword_any (s : ByteArray) (w : World) : Calls Tryz.prog 114 #[.string s] w fun e w' => e = .returned (.bool (kwB s)) ∧ w = w' := by
  go_enter Tryz.func114, Tryz.ntmps114
  go_wp2_with fail
  all_goals
    go_ret
    refine ⟨ret_bool ?_, rfl⟩
    simp_all [kwB, kws]

/-- P4.3. -/
def nameB (s : ByteArray) : Bool := decide (0 < s.size) && letB (byt s 0) && decide (s.size ≤ 16) && decide (runL wrdB s 0 = s.size) && !kwB s
theorem toList_nil {s : ByteArray} (h : s.size = 0) : s.toList = [] := by
  rw [toList_data]; exact List.eq_nil_of_length_eq_zero (by rw [len_list]; exact h)
theorem run_all {p : Int → Bool} {s : ByteArray} (h : runL p s 0 = s.size) (k : Nat) (hk : k < s.size) : p (byt s k) = true := by
  have := runL_mem p s 0 k (by omega); rwa [Nat.zero_add] at this
set_option maxHeartbeats 800000 in
theorem devIsName_any (s : ByteArray) (w : World) (hs : s.size ≤ maxLen) : Calls Tryz.prog 96 #[.string s] w fun e w' => e = .returned (.bool (nameB s)) ∧ w = w' := by
  have hwl := wordLength_any s w hs
  have Hwl := hid hwl
  clear hwl
  unfold maxLen at hs
  have hr := runL_le wrdB s 0
  rw [Nat.zero_add, Nat.zero_max] at hr
  by_cases h0 : s.size = 0
  · have t0 : s.toList = [] := toList_nil h0
    have hn : nameB s = false := by unfold nameB; rw [h0]; rfl
    have Hn := hid hn
    have t1 : (!s.toList.isEmpty) = false := by rw [t0]; rfl
    clear hn
    go_enter Tryz.func96, Tryz.ntmps96
    go_wp2_with fail
    go_ret
    exact ⟨by rw [Hn.out]; rfl, rfl⟩
  · have h1 : 0 < s.size := by omega
    have hl : s.data.toList.length = s.size := len_list s
    have t1 : (!s.toList.isEmpty) = true := by
      cases h : s.toList with
      | nil =>
        have e : s.data.toList = [] := by
          rw [← toList_data]; exact h
        rw [e] at hl; simp at hl; omega
      | cons => rfl
    clear hl
    have hb := byt_at s 0 h1
    have Hb := hid hb
    clear hb
    cases hx : letB (byt s 0) with
    | false =>
      have HX := hid hx
      have Hn := hid (show nameB s = false by unfold nameB; rw [hx]; simp)
      clear hx
      go_enter Tryz.func96, Tryz.ntmps96
      go_wp2_with (go_at_call 112; refine (isLetter_any _ _).mono ?_; rw [Hb.out, HX.out]; rintro e w' ⟨rfl, rfl⟩)
      go_ret
      exact ⟨by rw [Hn.out]; rfl, rfl⟩
    | true =>
      have HX := hid hx
      by_cases h16 : s.size ≤ 16
      · by_cases hw : runL wrdB s 0 = s.size
        · have Hn := hid (show nameB s = !kwB s by unfold nameB; rw [hx]; simp [h1, h16, hw])
          have Hw := hid hw
          clear hx hw
          go_enter Tryz.func96, Tryz.ntmps96
          go_wp2_with (first | (go_at_call 112; refine (isLetter_any _ _).mono ?_; rw [Hb.out, HX.out]; rintro e w' ⟨rfl, rfl⟩) | (go_at_call 113; refine Hwl.out.mono ?_; rw [Hw.out]; rintro e w' ⟨rfl, rfl⟩) | (go_at_call 114; refine (isKeyword_any _ _).mono ?_; rintro e w' ⟨rfl, rfl⟩))
          go_ret
          exact ⟨by rw [Hn.out]; rfl, rfl⟩
        · have Hn := hid (show nameB s = false by unfold nameB; simp [hw])
          have ht : (runL wrdB s 0 == s.size) = false := by simpa using hw
          have ht2 : (((runL wrdB s 0 : Nat) : Int) == ((s.size : Nat) : Int)) = false := by simp; omega
          clear hx hw
          go_enter Tryz.func96, Tryz.ntmps96
          go_wp2_with (first | (go_at_call 112; refine (isLetter_any _ _).mono ?_; rw [Hb.out, HX.out]; rintro e w' ⟨rfl, rfl⟩) | (go_at_call 113; refine Hwl.out.mono ?_; rintro e w' ⟨rfl, rfl⟩))
          go_ret
          exact ⟨by rw [Hn.out]; rfl, rfl⟩
      · have Hn := hid (show nameB s = false by unfold nameB; simp [h16])
        clear hx
        go_enter Tryz.func96, Tryz.ntmps96
        go_wp2_with (go_at_call 112; refine (isLetter_any _ _).mono ?_; rw [Hb.out, HX.out]; rintro e w' ⟨rfl, rfl⟩)
        go_ret
        exact ⟨by rw [Hn.out]; rfl, rfl⟩
end Go.Proofs.YtmbelhdkaepohaaGreatDoor
