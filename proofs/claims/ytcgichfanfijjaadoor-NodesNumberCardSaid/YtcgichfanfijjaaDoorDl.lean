/- The package's small functions: the rest of a text, the column, how long a word or a comment is, the error of a word. -/
import Derived.Test.YtcgichfanfijjaaDoorSpec
namespace Go.Proofs.YtcgichfanfijjaaDoor
set_option maxRecDepth 20000
set_option linter.unusedVariables false
set_option linter.unusedSimpArgs false
open Go.ChangeShapes Go.WideShapes Go.ChangeAt Go.RowKit

set_option maxHeartbeats 800000 in
theorem wordLength_any (s : ByteArray) (w : World) (hs : s.size ≤ maxLen) : Calls Tryd.prog 137 #[.string s] w fun e w' => e = .returned (.int .i64 (runL wrdB s 0 : Nat)) ∧ w = w' := by
  unfold maxLen at hs
  go_enter Tryd.func137, Tryd.ntmps137
  go_wp2
  go_loop [3] (fun i => ∃ k : Nat, k ≤ s.size ∧ i = .int .i64 k ∧ Hid (runL wrdB s 0 = k + runL wrdB s k)) (fun i => s.size - (intOf i).toNat)
  case atStart => exact ⟨0, by omega, rfl, hid (by omega)⟩
  case round =>
    obtain ⟨k, hk, rfl, hR⟩ := hrel
    by_cases hlt : k < s.size
    · cases hw : wrdB (byt s k) with
      | true =>
        have HW := hid hw
        have hn := hid (show runL wrdB s 0 = (k + 1) + runL wrdB s (k + 1) by rw [hR.out, runL_yes hlt hw]; omega)
        clear hw
        go_wp2_with (go_at_call 133; refine (isInWord_any _ _).mono ?_; rw [byt_at s k hlt, HW.out]; rintro e w' ⟨rfl, rfl⟩)
        go_round
        case rel => exact ⟨k + 1, by omega, by go_num, hn⟩
        case measure => simp [intOf]; omega
      | false =>
        have HW := hid hw
        have hn := hid (show runL wrdB s 0 = k by rw [hR.out, runL_no hw]; omega)
        clear hw
        go_wp2_with (go_at_call 133; refine (isInWord_any _ _).mono ?_; rw [byt_at s k hlt, HW.out]; rintro e w' ⟨rfl, rfl⟩)
        go_ret
        exact ⟨by rw [hn.out]; rfl, rfl⟩
    · have hn := hid (show runL wrdB s 0 = k by rw [hR.out, runL_end (by omega)]; omega)
      go_wp2
      go_ret
      exact ⟨by rw [hn.out]; rfl, rfl⟩
set_option maxHeartbeats 800000 in
theorem commentLength_any (s : ByteArray) (w : World) (hs : s.size ≤ maxLen) : Calls Tryd.prog 139 #[.string s] w fun e w' => e = .returned (.int .i64 (runL notFeed s 0 : Nat)) ∧ w = w' := by
  unfold maxLen at hs
  go_enter Tryd.func139, Tryd.ntmps139
  go_wp2
  go_loop [3] (fun i => ∃ k : Nat, k ≤ s.size ∧ i = .int .i64 k ∧ Hid (runL notFeed s 0 = k + runL notFeed s k)) (fun i => s.size - (intOf i).toNat)
  case atStart => exact ⟨0, by omega, rfl, hid (by omega)⟩
  case round =>
    obtain ⟨k, hk, rfl, hR⟩ := hrel
    by_cases hlt : k < s.size
    · cases hw : (byt s k == 10) with
      | false =>
        have hn := hid (show runL notFeed s 0 = (k + 1) + runL notFeed s (k + 1) by rw [hR.out, runL_yes hlt (by unfold notFeed; rw [hw]; rfl)]; omega)
        have t := byt_at s k hlt
        have t2 : (((s[k]'hlt).toNat : Int) != 10) = true := by rw [t, bne, hw]; rfl
        clear hw t
        go_wp2
        go_round
        case rel => exact ⟨k + 1, by omega, by go_num, hn⟩
        case measure => simp [intOf]; omega
      | true =>
        have hn := hid (show runL notFeed s 0 = k by rw [hR.out, runL_no (by unfold notFeed; rw [hw]; rfl)]; omega)
        have t := byt_at s k hlt
        have t2 : (((s[k]'hlt).toNat : Int) != 10) = false := by rw [t, bne, hw]; rfl
        clear hw t
        go_wp2
        go_ret
        exact ⟨by rw [hn.out]; rfl, rfl⟩
    · have hn := hid (show runL notFeed s 0 = k by rw [hR.out, runL_end (by omega)]; omega)
      go_wp2
      go_ret
      exact ⟨by rw [hn.out]; rfl, rfl⟩

/-- The error of a word: 4 if it begins with a digit, 7 if it is too long. -/
def wordE (s : ByteArray) : Int := if digB (byt s 0) then 4 else if 16 < runL wrdB s 0 then 7 else 0
theorem checkWord_any (s : ByteArray) (w : World) (hs : s.size ≤ maxLen) (h0 : 0 < s.size) : Calls Tryd.prog 134 #[.string s] w fun e w' => e = .returned (.int .i64 (wordE s)) ∧ w = w' := by
  have hk := hs
  unfold maxLen at hs
  have hr := runL_le wrdB s 0
  unfold wordE
  cases hd : digB (byt s 0) with
  | true =>
    have HD := hid hd
    clear hd
    go_enter Tryd.func134, Tryd.ntmps134
    go_wp2_with (go_at_call 172; refine (isDigit_any _ _).mono ?_; rw [byt_at s 0 h0, HD.out]; rintro e w' ⟨rfl, rfl⟩)
    go_ret
    exact ⟨rfl, rfl⟩
  | false =>
    have HD := hid hd
    clear hd
    by_cases hl : 16 < runL wrdB s 0
    all_goals
      have hc := wordLength_any s w hk
      have hl2 := hl
      generalize runL wrdB s 0 = n at *
      go_enter Tryd.func134, Tryd.ntmps134
      go_wp2_with (first | (go_at_call 172; refine (isDigit_any _ _).mono ?_; rw [byt_at s 0 h0, HD.out]; rintro e w' ⟨rfl, rfl⟩) | (go_at_call 137; refine hc.mono ?_; rintro e w' ⟨rfl, rfl⟩))
      go_ret
      exact ⟨by simp [hl2], rfl⟩

/-- Block S is a scanner: its text, its index, its line, the beginning of that line, its tokens' slice. -/
def Sb (w : World) (S : Nat) (s : ByteArray) (i line first : Nat) (v : Value) : Prop := Fb w S #[.string s, .int .i64 (i : Int), .int .i64 (line : Int), .int .i64 (first : Int), v] 143
theorem rest_any (S : Nat) (s : ByteArray) (i line first : Nat) (v : Value) (w : World) (h : Sb w S s i line first v) (hi : i ≤ s.size) (hs : s.size ≤ maxLen) :
    Calls Tryd.prog 135 #[.pointer (some ⟨S, 0, none⟩)] w fun e w' => e = .returned (.string (s.extract i s.size)) ∧ ∃ n, w' = w.drewN n := by
  unfold maxLen at hs
  obtain ⟨⟨c0, c1, c2, c3, c4⟩, -⟩ := Fb.five h
  clear h
  go_enter Tryd.func135, Tryd.ntmps135
  go_wp2_with fail
  go_quiet (fail)
  go_wp2
  go_ret
  exact ⟨rfl, _, rfl⟩
theorem column_any (S : Nat) (s : ByteArray) (i line first : Nat) (v : Value) (w : World) (h : Sb w S s i line first v) (hi : first ≤ i) (hs : i ≤ 100000) :
    Calls Tryd.prog 99 #[.pointer (some ⟨S, 0, none⟩)] w fun e w' => e = .returned (.int .i64 (((i + 1 - first : Nat) : Int))) ∧ ∃ n, w' = w.drewN n := by
  obtain ⟨⟨c0, c1, c2, c3, c4⟩, -⟩ := Fb.five h
  clear h
  have e2 : IntKind.i64.wrap ((i : Int) - first + 1) = (i : Int) - first + 1 := IntWalk.i64_in _ (by omega)
  have e1 : IntKind.i64.wrap ((i : Int) - first) = (i : Int) - first := IntWalk.i64_in _ (by omega)
  go_enter Tryd.func99, Tryd.ntmps99
  go_wp2_with fail
  go_quiet (fail)
  go_wp2
  go_ret
  refine ⟨ret_int ?_, _, rfl⟩
  first | omega | (rw [IntWalk.i64_in _ (by omega)]; omega) | (simp; omega)
end Go.Proofs.YtcgichfanfijjaaDoor
