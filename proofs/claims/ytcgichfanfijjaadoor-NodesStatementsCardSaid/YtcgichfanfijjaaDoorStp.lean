/- The steps of a scan, case by case. -/
import Derived.Test.YtcgichfanfijjaaDoorEnl
namespace Go.Proofs.YtcgichfanfijjaaDoor
set_option maxRecDepth 20000
set_option linter.unusedVariables false
open Go.ChangeShapes Go.WideShapes Go.ChangeAt Go.RowKit
section
variable {s : ByteArray} {i line col : Nat} {l : List Tok}
theorem stp_digit (hw : wrdB (byt s i) = true) (hd : digB (byt s i) = true) : stp s i line col l = .stop line col 4 := by unfold stp; rw [if_pos hw, if_pos hd]
theorem stp_long (hw : wrdB (byt s i) = true) (hd : digB (byt s i) = false) (hl : 16 < wl s i) : stp s i line col l = .stop line col 7 := by unfold stp; rw [if_pos hw, if_neg (by simp [hd]), if_pos hl]
theorem stp_word (hw : wrdB (byt s i) = true) (hd : digB (byt s i) = false) (hl : ¬ 16 < wl s i) : stp s i line col l = .go (i + wl s i) line (col + wl s i) (l ++ [⟨1, s.extract i (i + wl s i), line, col⟩]) := by
  unfold stp; rw [if_pos hw, if_neg (by simp [hd]), if_neg hl]
theorem stp_equal (hw : wrdB (byt s i) = false) (h : (byt s i == 61) = true) : stp s i line col l = .go (i + 1) line (col + 1) (l ++ [⟨2, ⟨#[61]⟩, line, col⟩]) := by
  unfold stp; rw [if_neg (by simp [hw]), if_pos h]
theorem stp_comment (hw : wrdB (byt s i) = false) (h1 : (byt s i == 61) = false) (h : (byt s i == 35) = true) : stp s i line col l = .go (i + cl s i) line (col + cl s i) (endT line col l) := by
  unfold stp; rw [if_neg (by simp [hw]), if_neg (by simp [h1]), if_pos h]
theorem stp_feed (hw : wrdB (byt s i) = false) (h1 : (byt s i == 61) = false) (h2 : (byt s i == 35) = false) (h : (byt s i == 10) = true) : stp s i line col l = .go (i + 1) (line + 1) 1 (endT line col l) := by
  unfold stp; rw [if_neg (by simp [hw]), if_neg (by simp [h1]), if_neg (by simp [h2]), if_pos h]
theorem stp_semi (hw : wrdB (byt s i) = false) (h1 : (byt s i == 61) = false) (h2 : (byt s i == 35) = false) (h3 : (byt s i == 10) = false) (h : (byt s i == 59) = true) : stp s i line col l = .go (i + 1) line (col + 1) (endT line col l) := by
  unfold stp; rw [if_neg (by simp [hw]), if_neg (by simp [h1]), if_neg (by simp [h2]), if_neg (by simp [h3]), if_pos h]
theorem stp_blank (hw : wrdB (byt s i) = false) (h1 : (byt s i == 61) = false) (h2 : (byt s i == 35) = false) (h3 : (byt s i == 10) = false) (h4 : (byt s i == 59) = false) (h : (byt s i == 32 || byt s i == 9) = true) : stp s i line col l = .go (i + 1) line (col + 1) l := by
  unfold stp; rw [if_neg (by simp [hw]), if_neg (by simp [h1]), if_neg (by simp [h2]), if_neg (by simp [h3]), if_neg (by simp [h4]), if_pos h]
theorem stp_bad (hw : wrdB (byt s i) = false) (h1 : (byt s i == 61) = false) (h2 : (byt s i == 35) = false) (h3 : (byt s i == 10) = false) (h4 : (byt s i == 59) = false) (h : (byt s i == 32 || byt s i == 9) = false) : stp s i line col l = .stop line col 4 := by
  unfold stp; rw [if_neg (by simp [hw]), if_neg (by simp [h1]), if_neg (by simp [h2]), if_neg (by simp [h3]), if_neg (by simp [h4]), if_neg (by simp [h])]
end

/-- The index that a scanner's block holds. -/
def atOf (S : Nat) (w : World) : Nat := match w.cell? ⟨S, 1, none⟩ with | some (.int _ x) => x.toNat | _ => 0
theorem atOf_eq {w : World} {S : Nat} {s : ByteArray} {i line first : Nat} {v : Value} (h : Sb w S s i line first v) : atOf S w = i := by
  unfold atOf; rw [h.cell 1]; simp
/-- While it runs: the state is one that the scan of the whole text comes to. -/
def Sca (w0 : World) (S : Nat) (s : ByteArray) (i line col : Nat) (v : Value) (l : List Tok) (w : World) : Prop :=
  Scn w0 S s i line (i + 1 - col) v l w ∧ Fine s i line col l ∧ scanL s 0 1 1 [] = scanL s i line col l
/-- What it leaves. -/
def RunP (w0 : World) (S : Nat) (s : ByteArray) (e : Ending) (w' : World) : Prop :=
  ∃ (err : Int) (i line col : Nat) (v : Value) (l : List Tok), e = .returned (.int .i64 err) ∧ Scn w0 S s i line (i + 1 - col) v l w' ∧ i ≤ s.size ∧ (1 ≤ col ∧ col ≤ i + 1) ∧ l.length ≤ s.size + 1 ∧
    ((err = 0 ∧ scanL s 0 1 1 [] = (l, 0, 0, 0)) ∨ (err ≠ 0 ∧ scanL s 0 1 1 [] = ([], line, col, err)))
section
variable {w0 w w' : World} {S : Nat} {s : ByteArray} {i line col : Nat} {v v' : Value} {l : List Tok}
theorem Sca.drewN (h : Sca w0 S s i line col v l w) (n : Nat) : Sca w0 S s i line col v l (w.drewN n) := ⟨h.1.drewN n, h.2⟩
theorem Scn.move (h : Scn w0 S s i line (i + 1 - col) v l w) (hc : col ≤ i + 1) (n : Nat) (x : Int) (hx : x = (i : Int) + n) : Scn w0 S s (i + n) line ((i + n) + 1 - (col + n)) v l (w.setCell ⟨S, 1, none⟩ (.int .i64 x)) := by
  subst hx
  refine h.put 1 _ ?_
  rw [show i + n + 1 - (col + n) = i + 1 - col by omega]
  simp
theorem Scn.feed (h : Scn w0 S s i line (i + 1 - col) v l w) (x y z : Int) (hx : x = (i : Int) + 1) (hy : y = (line : Int) + 1) (hz : z = (i : Int) + 1) :
    Scn w0 S s (i + 1) (line + 1) ((i + 1) + 1 - 1) v l (((w.setCell ⟨S, 1, none⟩ (.int .i64 x)).setCell ⟨S, 2, none⟩ (.int .i64 y)).setCell ⟨S, 3, none⟩ (.int .i64 z)) := by
  subst hx; subst hy; subst hz
  refine Scn.put (i := i + 1) (line := line + 1) (first := i + 1 - col) (Scn.put (i := i + 1) (line := line) (first := i + 1 - col) (h.put 1 _ ?_) 2 _ ?_) 3 _ ?_
  all_goals simp
theorem Sca.step {i' line' col' : Nat} {l' : List Tok} (h : Sca w0 S s i line col v l w) (hlt : i < s.size) (e : stp s i line col l = .go i' line' col' l') (h' : Scn w0 S s i' line' (i' + 1 - col') v' l' w') : Sca w0 S s i' line' col' v' l' w' :=
  ⟨h', h.2.1.go hlt e, h.2.2.trans (scanL_go hlt e)⟩
theorem Sca.stop {er : Int} (h : Sca w0 S s i line col v l w) (hlt : i < s.size) (e : stp s i line col l = .stop line col er) (he : er ≠ 0) (n : Nat) : RunP w0 S s (.returned (.int .i64 er)) (w.drewN n) :=
  ⟨er, i, line, col, v, l, rfl, h.1.drewN n, h.2.1.le, ⟨h.2.1.col1, h.2.1.col2⟩, by have := h.2.1.few; have := h.2.1.le; omega, .inr ⟨he, h.2.2.trans (scanL_stop hlt e)⟩⟩
theorem Sca.done (h : Sca w0 S s i line col v l w) (hlt : s.size ≤ i) (h' : Scn w0 S s i line (i + 1 - col) v' (endT line col l) w') : RunP w0 S s (.returned (.int .i64 0)) w' :=
  ⟨0, i, line, col, v', _, rfl, h', h.2.1.le, ⟨h.2.1.col1, h.2.1.col2⟩, by have := h.2.1.few; have := h.2.1.le; have := endT_len line col l; omega, .inl ⟨rfl, h.2.2.trans (scanL_end hlt)⟩⟩
theorem Sca.less {i' line' col' : Nat} {l' : List Tok} (h : Sca w0 S s i line col v l w) (h' : Sca w0 S s i' line' col' v' l' w') (hlt : i < i') (hle : i < s.size) : s.size - atOf S w' < s.size - atOf S w := by
  rw [atOf_eq h.1.1, atOf_eq h'.1.1]; omega
end
end Go.Proofs.YtcgichfanfijjaaDoor
