/- How many tokens a scan gives. Plain mathematics. -/
import Derived.Test.YtmbelhdkaepohaaGreatDoorSnl
namespace Go.Proofs.YtmbelhdkaepohaaGreatDoor
set_option maxRecDepth 20000
set_option linter.unusedVariables false
open Go.ChangeShapes Go.WideShapes Go.ChangeAt Go.RowKit

theorem scanL_few (s : ByteArray) (n i line col : Nat) (l : List Tok) (hn : s.size - i ≤ n) (hf : Fine s i line col l) : (scanL s i line col l).1.length ≤ s.size + 1 ∧ (scanL s i line col l).2.1 ≤ s.size + 1 ∧ (scanL s i line col l).2.2.1 ≤ s.size + 1 := by
  induction n generalizing i line col l with
  | zero =>
    have h := hf.few; have h2 := hf.le; have he := endT_len line col l
    rw [scanL_end (by omega)]
    exact ⟨by simp; omega, by simp, by simp⟩
  | succ n ih =>
    by_cases hlt : i < s.size
    · cases e : stp s i line col l with
      | go i' line' col' l' =>
        have hg := stp_go hlt e
        rw [scanL_go hlt e]
        exact ih i' line' col' l' (by omega) (hf.go hlt e)
      | stop line' col' er =>
        have h3 := hf.line2; have h4 := hf.col2; have h5 := hf.le
        have hst : line' = line ∧ col' = col := by
          unfold stp at e
          repeat' split at e
          all_goals (first | (cases e; done) | (cases e; exact ⟨rfl, rfl⟩))
        rw [scanL_stop hlt e]
        exact ⟨by simp, by simp; omega, by simp; omega⟩
    · have h := hf.few; have h2 := hf.le; have he := endT_len line col l
      rw [scanL_end (by omega)]
      exact ⟨by simp; omega, by simp, by simp⟩
theorem scanR_few (s : ByteArray) : (scanR s).1.length ≤ 100000 := by
  unfold scanR
  split
  · have := (scanL_few s (s.size - 0) 0 1 1 [] (Nat.le_refl _) (Fine.start s)).1
    omega
  · simp

end Go.Proofs.YtmbelhdkaepohaaGreatDoor
