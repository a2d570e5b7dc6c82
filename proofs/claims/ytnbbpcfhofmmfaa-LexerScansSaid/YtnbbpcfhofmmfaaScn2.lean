/- scans: the package's Scan and the reference's return the same. -/
import Derived.Test.YtnbbpcfhofmmfaaSnl
import Derived.Test.YtnbbpcfhofmmfaaRsc
namespace Go.Proofs.Ytnbbpcfhofmmfaa
set_option maxRecDepth 20000
set_option linter.unusedVariables false
open Go.ChangeShapes Go.WideShapes Go.ChangeAt Go.RowKit

theorem scanL_few (s : ByteArray) (n i line col : Nat) (l : List Tok) (hn : s.size - i ≤ n) (hf : Fine s i line col l) : (scanL s i line col l).1.length ≤ s.size + 1 ∧ (scanL s i line col l).2.1 ≤ s.size + 1 ∧ (scanL s i line col l).2.2.1 ≤ s.size + 1 := by
  induction n generalizing i line col l with
  | zero =>
    have h := hf.few; have h2 := hf.le; have he := endT_len line col l
    rw [scanL_end (by omega)]
    exact ⟨by simp; omega, by simp, by simp⟩
  | succ n ih =>
    by_cases hlt : i < s.size
    · cases e : stp s i line col l with
      | go i' line' col' l' =>
        have hg := stp_go hlt e
        rw [scanL_go hlt e]
        exact ih i' line' col' l' (by omega) (hf.go hlt e)
      | stop line' col' er =>
        have h3 := hf.line2; have h4 := hf.col2; have h5 := hf.le
        have hst : line' = line ∧ col' = col := by
          unfold stp at e
          repeat' split at e
          all_goals (first | (cases e; done) | (cases e; exact ⟨rfl, rfl⟩))
        rw [scanL_stop hlt e]
        exact ⟨by simp, by simp; omega, by simp; omega⟩
    · have h := hf.few; have h2 := hf.le; have he := endT_len line col l
      rw [scanL_end (by omega)]
      exact ⟨by simp; omega, by simp, by simp⟩
theorem scanR_few (s : ByteArray) : (scanR s).1.length ≤ 100000 := by
  unfold scanR
  split
  · have := (scanL_few s (s.size - 0) 0 1 1 [] (Nat.le_refl _) (Fine.start s)).1
    omega
  · simp

set_option maxHeartbeats 800000 in
theorem scans_any (s : ByteArray) (w : World) (hs : s.size ≤ maxLen) : Calls Try.prog 8 #[.string s] w fun e w' => e = .returned (.bool true) ∧ Below w.heap.size w w' := by
  have hf := hid (scanR_few s)
  have HD := hid (fun w => devScan_any s w hs)
  have HR := hid (fun w => refScan_any s w hs)
  clear hs
  generalize scanR s = r at *
  obtain ⟨l, x, y, er⟩ := r
  have t1 : ((x : Int) == (x : Int)) = true := by simp
  have t2 : ((y : Int) == (y : Int)) = true := by simp
  have t3 : (er == er) = true := by simp
  go_enter Try.func8, Try.ntmps8
  go_wp2_with fail
  refine (HD.out _).mono ?_
  rintro e w1 ⟨A1, c1, rfl, ha1, hb1⟩
  have Ha1 := hid ha1; have Hb1 := hid hb1
  clear ha1 hb1
  go_wp2_with fail
  refine (HR.out _).mono ?_
  rintro e w2 ⟨A2, c2, rfl, ha2, hb2⟩
  have Ha2 := hid (Ha1.out.below hb2); have Hb2 := hid (below_step Hb1.out hb2); have Hc2 := hid ha2
  clear ha2 hb2 Ha1 Hb1
  go_wp2_with fail
  refine (same_yes A1 A2 c1 c2 l _ Ha2.out Hc2.out hf.out).mono ?_
  rintro e w3 ⟨rfl, hb3⟩
  have Hb3 := hid (below_step Hb2.out hb3)
  clear hb3
  go_wp2
  go_ret
  exact ⟨rfl, Hb3.out⟩
end Go.Proofs.Ytnbbpcfhofmmfaa
