/- What a scan is: the steps over a text, as plain mathematics. -/
import Derived.Test.YtmbelhdkaepohaaGreatDoorCls
import Derived.WalkSpells
import Derived.Lib.Strings
import Derived.Lib.IndexBytes
namespace Go.Proofs.YtmbelhdkaepohaaGreatDoor
set_option maxRecDepth 20000
set_option linter.unusedVariables false
open Go.ChangeShapes Go.WideShapes Go.ChangeAt Go.RowKit

/-- The byte at an index. -/
def byt (s : ByteArray) (i : Nat) : Int := ((s.data.toList.getD i 0).toNat : Int)
theorem len_list (s : ByteArray) : s.data.toList.length = s.size := by rw [Array.length_toList]; rfl
theorem byt_at (s : ByteArray) (i : Nat) (h : i < s.size) : ((s[i]'h).toNat : Int) = byt s i := by
  have hi : i < s.data.toList.length := by rw [len_list]; exact h
  unfold byt
  rw [List.getD_eq_getElem?_getD, List.getElem?_eq_getElem hi]
  simp [ByteArray.getElem_eq_getElem_data]
theorem byt_lo (s : ByteArray) (i : Nat) : 0 ≤ byt s i := by unfold byt; omega
theorem byt_hi (s : ByteArray) (i : Nat) : byt s i < 256 := by
  unfold byt
  have := (s.data.toList.getD i 0).toNat_lt
  omega
theorem ext_list {a b : ByteArray} (h : a.data.toList = b.data.toList) : a = b := by
  obtain ⟨⟨l⟩⟩ := a
  obtain ⟨⟨m⟩⟩ := b
  simp at h
  rw [h]
theorem byt_ext (s : ByteArray) (i k : Nat) (h : i + k < s.size) : byt (s.extract i s.size) k = byt s (i + k) := by
  unfold byt
  rw [Lib.extract_to_end]
  simp [List.getD_eq_getElem?_getD, List.getElem?_drop]
theorem ext_ext (s : ByteArray) (i n : Nat) (h : i + n ≤ s.size) : (s.extract i s.size).extract 0 n = s.extract i (i + n) := by
  apply ext_list
  rw [Lib.extract_data, Lib.extract_to_end, Lib.extract_data]
  simp
theorem ext_none (s : ByteArray) (i : Nat) : s.extract i i = ByteArray.empty := by
  apply ext_list
  rw [Lib.extract_data]
  simp
theorem ext_one {s : ByteArray} {i : Nat} (h : i < s.size) {c : Nat} (hc : c < 256) (e : byt s i = c) : s.extract i (i + 1) = ⟨#[UInt8.ofNat c]⟩ := by
  apply ext_list
  rw [Lib.extract_data]
  have hi : i < s.data.toList.length := by rw [len_list]; exact h
  rw [List.drop_eq_getElem_cons hi]
  have e2 : s.data.toList[i] = UInt8.ofNat c := by
    unfold byt at e
    rw [List.getD_eq_getElem?_getD, List.getElem?_eq_getElem hi] at e
    apply UInt8.toNat_inj.1
    rw [UInt8.toNat_ofNat']
    simp only [Option.getD_some] at e
    omega
  rw [e2]
  simp

/-- How many bytes from an index on have a property, one after the other. -/
def runF (p : Int → Bool) (s : ByteArray) : Nat → Nat → Nat
  | 0, _ => 0
  | f + 1, i => if p (byt s i) then runF p s f (i + 1) + 1 else 0
def runL (p : Int → Bool) (s : ByteArray) (i : Nat) : Nat := runF p s (s.size - i) i
theorem runL_yes {p : Int → Bool} {s : ByteArray} {i : Nat} (h : i < s.size) (hp : p (byt s i) = true) : runL p s i = runL p s (i + 1) + 1 := by
  unfold runL
  rw [show s.size - i = (s.size - (i + 1)) + 1 by omega]
  conv => lhs; unfold runF
  rw [if_pos hp]
theorem runL_no {p : Int → Bool} {s : ByteArray} {i : Nat} (hp : p (byt s i) = false) : runL p s i = 0 := by
  unfold runL
  cases s.size - i with
  | zero => rfl
  | succ n => unfold runF; rw [if_neg (by simp [hp])]
theorem runL_end {p : Int → Bool} {s : ByteArray} {i : Nat} (h : s.size ≤ i) : runL p s i = 0 := by
  unfold runL
  rw [show s.size - i = 0 by omega]
  rfl
theorem runF_le (p : Int → Bool) (s : ByteArray) (f i : Nat) : runF p s f i ≤ f := by
  induction f generalizing i with
  | zero => simp [runF]
  | succ f ih => unfold runF; split; (have := ih (i + 1); omega); omega
theorem runL_le (p : Int → Bool) (s : ByteArray) (i : Nat) : i + runL p s i ≤ max i s.size := by
  have := runF_le p s (s.size - i) i
  unfold runL
  omega
theorem runF_ext (p : Int → Bool) (s : ByteArray) (i f k : Nat) (h : i + k + f ≤ s.size) : runF p (s.extract i s.size) f k = runF p s f (i + k) := by
  induction f generalizing k with
  | zero => rfl
  | succ f ih =>
    unfold runF
    rw [byt_ext s i k (by omega), ih (k + 1) (by omega), show i + (k + 1) = i + k + 1 by omega]
theorem runL_ext (p : Int → Bool) (s : ByteArray) (i : Nat) (h : i ≤ s.size) : runL p (s.extract i s.size) 0 = runL p s i := by
  unfold runL
  rw [show (s.extract i s.size).size - 0 = s.size - i by simp [ByteArray.size_extract]]
  rw [runF_ext p s i _ 0 (by omega)]; rfl
/-- Where the run ends the property does not hold, unless the text ends there. -/
theorem runF_stop (p : Int → Bool) (s : ByteArray) (f i : Nat) (h : runF p s f i < f) : p (byt s (i + runF p s f i)) = false := by
  induction f generalizing i with
  | zero => omega
  | succ f ih =>
    unfold runF at h ⊢
    split
    · next hp =>
      rw [if_pos hp] at h
      have := ih (i + 1) (by omega)
      rw [show i + (runF p s f (i + 1) + 1) = i + 1 + runF p s f (i + 1) by omega]
      exact this
    · next hp => simpa using hp
theorem runL_stop (p : Int → Bool) (s : ByteArray) (i : Nat) (h : i + runL p s i < s.size) : p (byt s (i + runL p s i)) = false := by
  unfold runL at h ⊢
  exact runF_stop p s _ i (by omega)
/-- A byte of the run has the property. -/
theorem runF_mem (p : Int → Bool) (s : ByteArray) (f i k : Nat) (h : k < runF p s f i) : p (byt s (i + k)) = true := by
  induction f generalizing i k with
  | zero => simp [runF] at h
  | succ f ih =>
    unfold runF at h
    split at h
    · next hp =>
      cases k with
      | zero => exact hp
      | succ k => have := ih (i + 1) k (by omega); rwa [show i + 1 + k = i + (k + 1) by omega] at this
    · omega
theorem runL_mem (p : Int → Bool) (s : ByteArray) (i k : Nat) (h : k < runL p s i) : p (byt s (i + k)) = true := runF_mem p s _ i k h

def notFeed (c : Int) : Bool := !(c == 10)
/-- The length of the word at an index; of the comment. -/
def wl (s : ByteArray) (i : Nat) : Nat := runL wrdB s i
def cl (s : ByteArray) (i : Nat) : Nat := runL notFeed s i

/-- A token. -/
structure Tok where
  kind : Int
  text : ByteArray
  line : Nat
  col : Nat
def tcell (t : Tok) : List Value := [.int .i64 t.kind, .string t.text, .int .i64 (t.line : Int), .int .i64 (t.col : Int)]
def tcells (l : List Tok) : List Value := l.flatMap tcell
theorem tcells_snoc (l : List Tok) (t : Tok) : tcells (l ++ [t]) = tcells l ++ tcell t := by simp [tcells]
theorem tcells_len (l : List Tok) : (tcells l).length = l.length * 4 := by
  induction l with
  | nil => rfl
  | cons t l ih => show (tcell t ++ tcells l).length = _; rw [List.length_append, ih]; simp [tcell]; omega
/-- Whether the line has a token that no end follows. -/
def opn (l : List Tok) : Bool := match l.getLast? with | none => false | some t => t.kind != 3
theorem opn_nil : opn [] = false := rfl
theorem opn_snoc (l : List Tok) (t : Tok) : opn (l ++ [t]) = (t.kind != 3) := by unfold opn; rw [List.getLast?_concat]
def endT (line col : Nat) (l : List Tok) : List Tok := if opn l then l ++ [⟨3, ByteArray.empty, line, col⟩] else l
theorem endT_yes {line col : Nat} {l : List Tok} (h : opn l = true) : endT line col l = l ++ [⟨3, ByteArray.empty, line, col⟩] := by unfold endT; rw [if_pos h]
theorem endT_no {line col : Nat} {l : List Tok} (h : opn l = false) : endT line col l = l := by unfold endT; rw [if_neg (by simp [h])]
theorem opn_endT (line col : Nat) (l : List Tok) : opn (endT line col l) = false := by
  cases h : opn l with
  | true => rw [endT_yes h, opn_snoc]; rfl
  | false => rw [endT_no h, h]
theorem endT_len (line col : Nat) (l : List Tok) : (endT line col l).length ≤ l.length + 1 := by
  unfold endT; split <;> simp

inductive Out where
  | go (i line col : Nat) (l : List Tok)
  | stop (line col : Nat) (err : Int)
def stp (s : ByteArray) (i line col : Nat) (l : List Tok) : Out :=
  if wrdB (byt s i) then
    if digB (byt s i) then .stop line col 4
    else if 16 < wl s i then .stop line col 7
    else .go (i + wl s i) line (col + wl s i) (l ++ [⟨1, s.extract i (i + wl s i), line, col⟩])
  else if byt s i == 61 then .go (i + 1) line (col + 1) (l ++ [⟨2, ⟨#[61]⟩, line, col⟩])
  else if byt s i == 35 then .go (i + cl s i) line (col + cl s i) (endT line col l)
  else if byt s i == 10 then .go (i + 1) (line + 1) 1 (endT line col l)
  else if byt s i == 59 then .go (i + 1) line (col + 1) (endT line col l)
  else if (byt s i == 32) || (byt s i == 9) then .go (i + 1) line (col + 1) l
  else .stop line col 4

abbrev Res := List Tok × Nat × Nat × Int
def scanF (s : ByteArray) : Nat → Nat → Nat → Nat → List Tok → Res
  | 0, _, line, col, l => (endT line col l, 0, 0, 0)
  | f + 1, i, line, col, l => if i < s.size then
      match stp s i line col l with
      | .go i' line' col' l' => scanF s f i' line' col' l'
      | .stop line' col' e => ([], line', col', e)
    else (endT line col l, 0, 0, 0)
def scanL (s : ByteArray) (i line col : Nat) (l : List Tok) : Res := scanF s (s.size - i) i line col l
/-- P4.1, P4.2. -/
def scanR (s : ByteArray) : Res := if s.size ≤ 4096 then scanL s 0 1 1 [] else ([], 0, 0, 7)

theorem wl_pos {s : ByteArray} {i : Nat} (h : i < s.size) (hw : wrdB (byt s i) = true) : 0 < wl s i := by
  unfold wl; rw [runL_yes h hw]; omega
theorem cl_pos {s : ByteArray} {i : Nat} (h : i < s.size) (hw : (byt s i == 10) = false) : 0 < cl s i := by
  unfold cl; rw [runL_yes h (by unfold notFeed; rw [hw]; rfl)]; omega
theorem wl_le (s : ByteArray) {i : Nat} (h : i < s.size) : i + wl s i ≤ s.size := by
  have := runL_le wrdB s i; unfold wl; omega
theorem cl_le (s : ByteArray) {i : Nat} (h : i < s.size) : i + cl s i ≤ s.size := by
  have := runL_le notFeed s i; unfold cl; omega
theorem stp_go {s : ByteArray} {i line col : Nat} {l : List Tok} {i' line' col' : Nat} {l' : List Tok} (h : i < s.size) (e : stp s i line col l = .go i' line' col' l') : i < i' ∧ i' ≤ s.size := by
  unfold stp at e
  have hw := wl_le s h
  have hc := cl_le s h
  split at e
  · next hb =>
    have := wl_pos h hb
    repeat' split at e
    all_goals (first | (cases e; done) | (cases e; omega))
  · next hb =>
    split at e
    · cases e; omega
    · split at e
      · next hd =>
        have := cl_pos h (by simp at hd ⊢; omega)
        cases e; omega
      · repeat' split at e
        all_goals (first | (cases e; done) | (cases e; omega))
theorem scanF_end (s : ByteArray) (f i line col : Nat) (l : List Tok) (h : s.size ≤ i) : scanF s f i line col l = (endT line col l, 0, 0, 0) := by
  cases f with
  | zero => rfl
  | succ f => unfold scanF; rw [if_neg (by omega)]
theorem scanF_two (s : ByteArray) (f g i line col : Nat) (l : List Tok) (h : s.size - i ≤ f) (h2 : s.size - i ≤ g) : scanF s f i line col l = scanF s g i line col l := by
  induction f generalizing g i line col l with
  | zero => rw [scanF_end s 0 i line col l (by omega), scanF_end s g i line col l (by omega)]
  | succ f ih =>
    by_cases hi : i < s.size
    · cases g with
      | zero => omega
      | succ g =>
        unfold scanF
        rw [if_pos hi, if_pos hi]
        cases hs : stp s i line col l with
        | stop => rfl
        | go i' line' col' l' =>
          have := stp_go hi hs
          exact ih _ _ _ _ _ (by omega) (by omega)
    · rw [scanF_end s _ i line col l (by omega), scanF_end s g i line col l (by omega)]
theorem scanL_end {s : ByteArray} {i line col : Nat} {l : List Tok} (h : s.size ≤ i) : scanL s i line col l = (endT line col l, 0, 0, 0) := scanF_end s _ i line col l h
theorem scanL_go {s : ByteArray} {i line col : Nat} {l : List Tok} {i' line' col' : Nat} {l' : List Tok} (h : i < s.size) (e : stp s i line col l = .go i' line' col' l') : scanL s i line col l = scanL s i' line' col' l' := by
  have hg := stp_go h e
  unfold scanL
  rw [show s.size - i = (s.size - i - 1) + 1 by omega]
  conv => lhs; unfold scanF
  rw [if_pos h, e]
  exact scanF_two s _ _ _ _ _ _ (by omega) (by omega)
theorem scanL_stop {s : ByteArray} {i line col : Nat} {l : List Tok} {line' col' : Nat} {er : Int} (h : i < s.size) (e : stp s i line col l = .stop line' col' er) : scanL s i line col l = ([], line', col', er) := by
  unfold scanL
  rw [show s.size - i = (s.size - i - 1) + 1 by omega]
  unfold scanF
  rw [if_pos h, e]
/-- A step adds at most one token and goes on by at least one byte; lines and columns stay small. -/
structure Fine (s : ByteArray) (i line col : Nat) (l : List Tok) : Prop where
  le : i ≤ s.size
  few : l.length ≤ i
  line1 : 1 ≤ line
  line2 : line ≤ i + 1
  col1 : 1 ≤ col
  col2 : col ≤ i + 1
theorem Fine.start (s : ByteArray) : Fine s 0 1 1 [] := ⟨by omega, by simp, by omega, by omega, by omega, by omega⟩
theorem Fine.go {s : ByteArray} {i line col : Nat} {l : List Tok} {i' line' col' : Nat} {l' : List Tok} (hf : Fine s i line col l) (h : i < s.size) (e : stp s i line col l = .go i' line' col' l') : Fine s i' line' col' l' := by
  have hg := stp_go h e
  obtain ⟨h1, h2, h3, h4, h5, h6⟩ := hf
  have he := endT_len line col l
  unfold stp at e
  repeat' split at e
  all_goals (first | (cases e; done) | (cases e; refine ⟨hg.2, ?_, ?_, ?_, ?_, ?_⟩ <;> first | omega | (simp; omega)))
end Go.Proofs.YtmbelhdkaepohaaGreatDoor
