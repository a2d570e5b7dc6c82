/- The steps of a scan, case by case. -/
import Derived.Test.YtmbelhdkaepohaaGreatDoorEnl
namespace Go.Proofs.YtmbelhdkaepohaaGreatDoor
set_option maxRecDepth 20000
set_option linter.unusedVariables false
open Go.ChangeShapes Go.WideShapes Go.ChangeAt Go.RowKit
section
variable {s : ByteArray} {i line col : Nat} {l : List Tok}
theorem stp_digit (hw : wrdB (byt s i) = true) (hd : digB (byt s i) = true) : stp s i line col l = .stop line col 4 := by unfold stp; rw [if_pos hw, if_pos hd]
theorem stp_long (hw : wrdB (byt s i) = true) (hd : digB (byt s i) = false) (hl : 16 < wl s i) : stp s i line col l = .stop line col 7 := by unfold stp; rw [if_pos hw, if_neg (by simp [hd]), if_pos hl]
theorem stp_word (hw : wrdB (byt s i) = true) (hd : digB (byt s i) = false) (hl : ¬ 16 < wl s i) : stp s i line col l = .go (i + wl s i) line (col + wl s i) (l ++ [⟨1, s.extract i (i + wl s i), line, col⟩]) := by
  unfold stp; rw [if_pos hw, if_neg (by simp [hd]), if_neg hl]
theorem stp_equal (hw : wrdB (byt s i) = false) (h : (byt s i == 61) = true) : stp s i line col l = .go (i + 1) line (col + 1) (l ++ [⟨2, ⟨#[61]⟩, line, col⟩]) := by
  unfold stp; rw [if_neg (by simp [hw]), if_pos h]
theorem stp_comment (hw : wrdB (byt s i) = false) (h1 : (byt s i == 61) = false) (h : (byt s i == 35) = true) : stp s i line col l = .go (i + cl s i) line (col + cl s i) (endT line col l) := by
  unfold stp; rw [if_neg (by simp [hw]), if_neg (by simp [h1]), if_pos h]
theorem stp_feed (hw : wrdB (byt s i) = false) (h1 : (byt s i == 61) = false) (h2 : (byt s i == 35) = false) (h : (byt s i == 10) = true) : stp s i line col l = .go (i + 1) (line + 1) 1 (endT line col l) := by
  unfold stp; rw [if_neg (by simp [hw]), if_neg (by simp [h1]), if_neg (by simp [h2]), if_pos h]
theorem stp_semi (hw : wrdB (byt s i) = false) (h1 : (byt s i == 61) = false) (h2 : (byt s i == 35) = false) (h3 : (byt s i == 10) = false) (h : (byt s i == 59) = true) : stp s i line col l = .go (i + 1) line (col + 1) (endT line col l) := by
  unfold stp; rw [if_neg (by simp [hw]), if_neg (by simp [h1]), if_neg (by simp [h2]), if_neg (by simp [h3]), if_pos h]
theorem stp_blank (hw : wrdB (byt s i) = false) (h1 : (byt s i == 61) = false) (h2 : (byt s i == 35) = false) (h3 : (byt s i == 10) = false) (h4 : (byt s i == 59) = false) (h : (byt s i == 32 || byt s i == 9) = true) : stp s i line col l = .go (i + 1) line (col + 1) l := by
  unfold stp; rw [if_neg (by simp [hw]), if_neg (by simp [h1]), if_neg (by simp [h2]), if_neg (by simp [h3]), if_neg (by simp [h4]), if_pos h]
theorem stp_bad (hw : wrdB (byt s i) = false) (h1 : (byt s i == 61) = false) (h2 : (byt s i == 35) = false) (h3 : (byt s i == 10) = false) (h4 : (byt s i == 59) = false) (h : (byt s i == 32 || byt s i == 9) = false) : stp s i line col l = .stop line col 4 := by
  unfold stp; rw [if_neg (by simp [hw]), if_neg (by simp [h1]), if_neg (by simp [h2]), if_neg (by simp [h3]), if_neg (by simp [h4]), if_neg (by simp [h])]
end

/-- The index that a scanner's block holds. -/
def atOf (S : Nat) (w : World) : Nat := match w.cell? ⟨S, 1, none⟩ with | some (.int _ x) => x.toNat | _ => 0
section
variable {w0 w w' : World} {S : Nat} {s : ByteArray} {i line col : Nat} {v v' : Value} {l : List Tok}
end
end Go.Proofs.YtmbelhdkaepohaaGreatDoor
