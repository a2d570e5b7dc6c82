/- The walk of LexerLimits: it returns true for every number. -/
import Derived.Test.YtnbbpcfhofmmfaaSnl
namespace Go.Proofs.Ytnbbpcfhofmmfaa
set_option maxRecDepth 20000
set_option linter.unusedVariables false
open Go.ChangeShapes Go.WideShapes Go.ChangeAt Go.RowKit

/-- A byte, many times. -/
def many (c : UInt8) (n : Nat) : ByteArray := ⟨(List.replicate n c).toArray⟩
theorem many_size (c : UInt8) (n : Nat) : (many c n).size = n := by show (List.replicate n c).toArray.size = n; simp
theorem many_snoc (c : UInt8) (n : Nat) : many c n ++ ⟨#[c]⟩ = many c (n + 1) := by
  apply ext_list
  show (many c n ++ ⟨#[c]⟩).data.toList = (List.replicate (n + 1) c).toArray.toList
  rw [ByteArray.data_append]
  simp [many, List.replicate_succ']
theorem many_byt (c : UInt8) (n i : Nat) (h : i < n) : byt (many c n) i = c.toNat := by
  unfold byt many
  simp [List.getD_eq_getElem?_getD, h]
/-- Spaces have no tokens. -/
theorem scan_blank (n i line col : Nat) (h : i ≤ n) : scanL (many 32 n) i line col [] = ([], 0, 0, 0) := by
  induction hk : n - i generalizing i col with
  | zero => rw [scanL_end (by rw [many_size]; omega)]; rfl
  | succ k ih =>
    have hb := many_byt 32 n i (by omega)
    have hs : stp (many 32 n) i line col [] = .go (i + 1) line (col + 1) [] := stp_blank (by rw [hb]; rfl) (by rw [hb]; rfl) (by rw [hb]; rfl) (by rw [hb]; rfl) (by rw [hb]; rfl) (by rw [hb]; rfl)
    rw [scanL_go (by rw [many_size]; omega) hs, ih (i + 1) (col + 1) (by omega) (by omega)]
theorem blanks (n : Nat) : scanR (many 32 n) = if n ≤ 4096 then ([], 0, 0, 0) else ([], 0, 0, 7) := by
  unfold scanR
  rw [many_size]
  split
  · exact scan_blank n 0 1 1 (by omega)
  · rfl
/-- The second text: a line feed, a space, a word of n letters. -/
theorem word14 : scanR (⟨#[10, 32]⟩ ++ many 110 14) = ([⟨1, many 110 14, 2, 2⟩, ⟨3, ByteArray.empty, 2, 16⟩], 0, 0, 0) := by kernel_rfl
theorem word15 : scanR (⟨#[10, 32]⟩ ++ many 110 15) = ([⟨1, many 110 15, 2, 2⟩, ⟨3, ByteArray.empty, 2, 17⟩], 0, 0, 0) := by kernel_rfl
theorem word16 : scanR (⟨#[10, 32]⟩ ++ many 110 16) = ([⟨1, many 110 16, 2, 2⟩, ⟨3, ByteArray.empty, 2, 18⟩], 0, 0, 0) := by kernel_rfl
theorem word17 : scanR (⟨#[10, 32]⟩ ++ many 110 17) = ([], 2, 2, 7) := by kernel_rfl
theorem word18 : scanR (⟨#[10, 32]⟩ ++ many 110 18) = ([], 2, 2, 7) := by kernel_rfl

theorem word_no (k : Nat) (h : 17 ≤ k) (h2 : k ≤ 18) : scanR (⟨#[10, 32]⟩ ++ many 110 k) = ([], 2, 2, 7) := by
  rcases (by omega : k = 17 ∨ k = 18) with rfl | rfl
  · exact word17
  · exact word18
theorem word_yes (k : Nat) (h : 14 ≤ k) (h2 : k ≤ 16) : ∃ a b : Tok, scanR (⟨#[10, 32]⟩ ++ many 110 k) = ([a, b], 0, 0, 0) := by
  rcases (by omega : k = 14 ∨ k = 15 ∨ k = 16) with rfl | rfl | rfl
  · exact ⟨_, _, word14⟩
  · exact ⟨_, _, word15⟩
  · exact ⟨_, _, word16⟩

set_option maxHeartbeats 800000 in
theorem lawLimits (n : Int) (w : World) :
    Calls Try.prog 5 #[.int .i8 n] w fun e w' => e = .returned (.bool true) ∧ Below w.heap.size w w' := by
  have hd0 : -3 < n.tmod 3 := Int.lt_tmod_of_pos n (by decide)
  have hd1 : n.tmod 3 < 3 := Int.tmod_lt_of_pos n (by decide)
  go_enter Try.func5, Try.ntmps5
  go_wp2_with fail
  generalize n.tmod 3 = d at *
  obtain ⟨N, hN⟩ : ∃ N : Nat, (N : Int) = 4096 + d := ⟨(4096 + d).toNat, by omega⟩
  obtain ⟨M, hM⟩ : ∃ M : Nat, (M : Int) = 16 + d := ⟨(16 + d).toNat, by omega⟩
  have HN := hid hN; have HM := hid hM
  have hNl : N ≤ 4098 := by omega
  have hMl : M ≤ 18 := by omega
  clear hN hM
  go_loop [4] (fun a => ∃ (k : Nat) (x : ByteArray), k ≤ N ∧ a = .string x ∧ x.size = k ∧ Hid (x = many 32 k)) (fun a => match a with | .string x => N - x.size | _ => 0)
  case atStart => exact ⟨0, ⟨#[]⟩, by omega, rfl, rfl, hid rfl⟩
  case round =>
    obtain ⟨k, x, hk, rfl, hx, hX⟩ := hrel
    subst hx
    have hx2 : x.size ≤ 4098 := by omega
    have hsum : x.size + (⟨#[32]⟩ : ByteArray).size ≤ 9223372036854775807 := by show x.size + 1 ≤ _; omega
    have hsz : (x ++ ⟨#[32]⟩).size = x.size + 1 := ByteArray.size_append
    by_cases hlt : x.size < N
    · have Hsz := hid hsz
      have tl : decide ((x.size : Int) < 4096 + d) = true := by have := HN.out; simp; omega
      clear hsz
      go_wp2
      go_round
      case rel => exact ⟨x.size + 1, x ++ ⟨#[32]⟩, by omega, rfl, Hsz.out, hid (by have := hX.out; rw [this, many_snoc, many_size])⟩
      case measure => simp [Hsz.out]; omega
    · have HA := hid (show x = many 32 N from by have := hX.out; rw [this, show x.size = N by omega])
      have tl : decide ((x.size : Int) < 4096 + d) = false := by have := HN.out; simp; omega
      clear hsz hsum
      go_wp2_with fail
      go_loop [5] (fun a => ∃ (k : Nat) (y : ByteArray), k ≤ M ∧ a = .string y ∧ y.size = k ∧ Hid (y = many 110 k)) (fun a => match a with | .string y => M - y.size | _ => 0)
      case atStart => exact ⟨0, ⟨#[]⟩, by omega, rfl, rfl, hid rfl⟩
      case round =>
        obtain ⟨k, y, hky, rfl, hy, hY⟩ := hrel
        subst hy
        clear tl
        have hx2 : y.size ≤ 18 := by omega
        have hsum : y.size + (⟨#[110]⟩ : ByteArray).size ≤ 9223372036854775807 := by show y.size + 1 ≤ _; omega
        have hsz : (y ++ ⟨#[110]⟩).size = y.size + 1 := ByteArray.size_append
        by_cases hlt2 : y.size < M
        · have Hsz := hid hsz
          have tl : decide ((y.size : Int) < 16 + d) = true := by have := HM.out; simp; omega
          clear hsz
          go_wp2
          go_round
          case rel => exact ⟨y.size + 1, y ++ ⟨#[110]⟩, by omega, rfl, Hsz.out, hid (by have := hY.out; rw [this, many_snoc, many_size])⟩
          case measure => simp [Hsz.out]; omega
        · have HB := hid (show y = many 110 M from by have := hY.out; rw [this, show y.size = M by omega])
          have tl : decide ((y.size : Int) < 16 + d) = false := by have := HM.out; simp; omega
          have hxm : x.size ≤ maxLen := by unfold maxLen; omega
          have hym : ((⟨#[10, 32]⟩ : ByteArray) ++ y).size ≤ maxLen := by rw [ByteArray.size_append]; show 2 + y.size ≤ _; unfold maxLen; omega
          have hsum2 : (⟨#[10, 32]⟩ : ByteArray).size + y.size ≤ 9223372036854775807 := by show 2 + y.size ≤ _; omega
          clear hsz hsum
          have HXm := hid hxm; have HYm := hid hym
          clear hxm hym
          by_cases hd : 0 < d
          · have hr1 := hid (show scanR x = ([], 0, 0, 7) by rw [HA.out, blanks, if_neg (by have := HN.out; omega)])
            have hr2 := hid (show scanR (⟨#[10, 32]⟩ ++ y) = ([], 2, 2, 7) by rw [HB.out]; exact word_no M (by have := HM.out; omega) hMl)
            clear HA HB
            go_wp2_with fail
            refine (devScan_any x _ HXm.out).mono ?_
            rw [hr1.out]
            rintro e w1 ⟨A1, c1, rfl, ha1, hb1⟩
            have Hb1 := hid hb1
            clear ha1 hb1
            go_wp2_with fail
            refine (devScan_any _ _ HYm.out).mono ?_
            rw [hr2.out]
            rintro e w2 ⟨A2, c2, rfl, ha2, hb2⟩
            have Hb2 := hid (below_step Hb1.out hb2)
            clear ha2 hb2 Hb1
            go_wp2_with fail
            refine (sane_any _).mono ?_
            rintro e w3 ⟨rfl, hb3⟩
            have Hb3 := hid (below_step Hb2.out hb3)
            clear hb3
            go_wp2
            go_ret
            exact ⟨rfl, Hb3.out⟩
          · have hr1 := hid (show scanR x = ([], 0, 0, 0) by rw [HA.out, blanks, if_pos (by have := HN.out; omega)])
            obtain ⟨ta, tb, hr⟩ := word_yes M (by have := HM.out; omega) (by have := HM.out; omega)
            have hr2 := hid (show scanR (⟨#[10, 32]⟩ ++ y) = ([ta, tb], 0, 0, 0) by rw [HB.out]; exact hr)
            clear HA HB hr
            go_wp2_with fail
            refine (devScan_any x _ HXm.out).mono ?_
            rw [hr1.out]
            rintro e w1 ⟨A1, c1, rfl, ha1, hb1⟩
            have Hb1 := hid hb1
            clear ha1 hb1
            go_wp2_with fail
            refine (devScan_any _ _ HYm.out).mono ?_
            rw [hr2.out]
            rintro e w2 ⟨A2, c2, rfl, ha2, hb2⟩
            have Hb2 := hid (below_step Hb1.out hb2)
            clear ha2 hb2 Hb1
            go_wp2_with fail
            refine (sane_any _).mono ?_
            rintro e w3 ⟨rfl, hb3⟩
            have Hb3 := hid (below_step Hb2.out hb3)
            clear hb3
            go_wp2
            go_ret
            exact ⟨rfl, Hb3.out⟩
end Go.Proofs.Ytnbbpcfhofmmfaa
