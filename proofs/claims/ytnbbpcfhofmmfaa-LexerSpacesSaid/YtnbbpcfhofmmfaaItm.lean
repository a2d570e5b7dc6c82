/- Texts as items: what a scan of them gives. Plain mathematics. -/
import Derived.Test.YtnbbpcfhofmmfaaSpec
namespace Go.Proofs.Ytnbbpcfhofmmfaa
set_option maxRecDepth 20000
set_option linter.unusedVariables false
set_option linter.unusedSimpArgs false
open Go.ChangeShapes Go.WideShapes Go.ChangeAt Go.RowKit

/-- A piece of a text: a space, a word, an equals sign, a line feed, a semicolon, a comment. -/
inductive Itm where
  | sp (c : UInt8)
  | wd (w : ByteArray)
  | eq
  | nl
  | sm
  | cm (w : ByteArray)
def ren : Itm → List UInt8
  | .sp c => [c]
  | .wd w => w.data.toList
  | .eq => [61]
  | .nl => [10]
  | .sm => [59]
  | .cm w => 35 :: w.data.toList
def bt (c : UInt8) : Int := (c.toNat : Int)
/-- A word that is a token. -/
structure WdOk (w : ByteArray) : Prop where
  pos : 0 < w.data.toList.length
  few : w.data.toList.length ≤ 16
  all : ∀ c ∈ w.data.toList, wrdB (bt c) = true
  first : ∀ c, w.data.toList.head? = some c → digB (bt c) = false
def ItOk : Itm → Prop
  | .sp c => c = 32 ∨ c = 9
  | .wd w => WdOk w
  | .cm w => ∀ c ∈ w.data.toList, c ≠ 10
  | _ => True
/-- A word is followed by no word, a comment by a line feed. -/
def Fol : Itm → List Itm → Prop
  | .wd _, .wd _ :: _ => False
  | .cm _, [] => True
  | .cm _, .nl :: _ => True
  | .cm _, _ => False
  | _, _ => True
def Oks : List Itm → Prop
  | [] => True
  | a :: l => ItOk a ∧ Fol a l ∧ Oks l
abbrev St := Nat × Nat × List Tok
def stI : Itm → St → St
  | .sp _, (line, col, l) => (line, col + 1, l)
  | .wd w, (line, col, l) => (line, col + w.data.toList.length, l ++ [⟨1, w, line, col⟩])
  | .eq, (line, col, l) => (line, col + 1, l ++ [⟨2, ⟨#[61]⟩, line, col⟩])
  | .nl, (line, col, l) => (line + 1, 1, endT line col l)
  | .sm, (line, col, l) => (line, col + 1, endT line col l)
  | .cm w, (line, col, l) => (line, col + (w.data.toList.length + 1), endT line col l)
def folI (its : List Itm) (s : St) : St := its.foldl (fun s i => stI i s) s
def txt (its : List Itm) : List UInt8 := its.flatMap ren

theorem byt_cat (pre suf : List UInt8) (j : Nat) : byt ⟨(pre ++ suf).toArray⟩ (pre.length + j) = bt (suf.getD j 0) := by
  unfold byt bt
  show (((pre ++ suf).getD (pre.length + j) 0).toNat : Int) = _
  rw [List.getD_eq_getElem?_getD, List.getElem?_append_right (by omega), List.getD_eq_getElem?_getD]
  congr 4
  omega
theorem size_cat (l : List UInt8) : (⟨l.toArray⟩ : ByteArray).size = l.length := by simp [ByteArray.size]
theorem runL_of {p : Int → Bool} {s : ByteArray} (n : Nat) : ∀ {i : Nat}, (∀ k, k < n → p (byt s (i + k)) = true) → i + n ≤ s.size → (i + n = s.size ∨ p (byt s (i + n)) = false) → runL p s i = n := by
  induction n with
  | zero =>
    intro i _ hi h
    rcases h with h | h
    · exact runL_end (by omega)
    · exact runL_no (by simpa using h)
  | succ n ih =>
    intro i h1 h2 h3
    rw [runL_yes (by omega) (by simpa using h1 0 (by omega))]
    congr 1
    refine ih (fun k hk => ?_) (by omega) ?_
    · have := h1 (k + 1) (by omega)
      rwa [show i + 1 + k = i + (k + 1) by omega]
    · rcases h3 with h | h
      · exact .inl (by omega)
      · exact .inr (by rwa [show i + 1 + n = i + (n + 1) by omega])
theorem ext_cat (pre w suf : List UInt8) : (⟨(pre ++ (w ++ suf)).toArray⟩ : ByteArray).extract pre.length (pre.length + w.length) = ⟨w.toArray⟩ := by
  apply ext_list
  rw [Lib.extract_data]
  show ((pre ++ (w ++ suf)).drop pre.length).take (pre.length + w.length - pre.length) = w
  rw [List.drop_left, show pre.length + w.length - pre.length = w.length by omega, List.take_left]
theorem getD_in (l suf : List UInt8) {k : Nat} (h : k < l.length) : (l ++ suf).getD k 0 ∈ l := by
  rw [List.getD_eq_getElem?_getD, List.getElem?_append_left h, List.getElem?_eq_getElem h]
  exact List.getElem_mem h
theorem head_not {a : Itm} {r : List Itm} (h : Oks (a :: r)) (hn : ∀ w, a ≠ .wd w) : ∃ c t, txt (a :: r) = c :: t ∧ wrdB (bt c) = false := by
  cases a with
  | sp c =>
    refine ⟨c, txt r, rfl, ?_⟩
    rcases h.1 with rfl | rfl <;> decide
  | wd w => exact absurd rfl (hn w)
  | eq => exact ⟨61, txt r, rfl, by decide⟩
  | nl => exact ⟨10, txt r, rfl, by decide⟩
  | sm => exact ⟨59, txt r, rfl, by decide⟩
  | cm w => exact ⟨35, w.data.toList ++ txt r, rfl, by decide⟩
theorem not_wrd {c : Int} (h : c = 61 ∨ c = 35 ∨ c = 10 ∨ c = 59 ∨ c = 32 ∨ c = 9) : wrdB c = false := by
  rcases h with rfl | rfl | rfl | rfl | rfl | rfl <;> decide

/-- One step over an item. -/
theorem stp_item (pre : List UInt8) (a : Itm) (r : List Itm) (h : Oks (a :: r)) (line col : Nat) (l : List Tok) :
    stp ⟨(pre ++ (ren a ++ txt r)).toArray⟩ pre.length line col l = .go (pre.length + (ren a).length) (stI a (line, col, l)).1 (stI a (line, col, l)).2.1 (stI a (line, col, l)).2.2 := by
  have hb : ∀ j, byt ⟨(pre ++ (ren a ++ txt r)).toArray⟩ (pre.length + j) = bt ((ren a ++ txt r).getD j 0) := fun j => byt_cat _ _ j
  have hsz : (⟨(pre ++ (ren a ++ txt r)).toArray⟩ : ByteArray).size = pre.length + ((ren a).length + (txt r).length) := by
    rw [size_cat, List.length_append, List.length_append]
  have h0 := hb 0
  rw [Nat.add_zero] at h0
  cases a with
  | sp c =>
    have e0 : byt ⟨(pre ++ (ren (.sp c) ++ txt r)).toArray⟩ pre.length = bt c := h0
    unfold stp
    rw [e0]
    rcases h.1 with rfl | rfl <;> rfl
  | eq =>
    have e0 : byt ⟨(pre ++ (ren .eq ++ txt r)).toArray⟩ pre.length = 61 := h0
    unfold stp
    rw [e0]; rfl
  | nl =>
    have e0 : byt ⟨(pre ++ (ren .nl ++ txt r)).toArray⟩ pre.length = 10 := h0
    unfold stp
    rw [e0]; rfl
  | sm =>
    have e0 : byt ⟨(pre ++ (ren .sm ++ txt r)).toArray⟩ pre.length = 59 := h0
    unfold stp
    rw [e0]; rfl
  | cm w =>
    have e0 : byt ⟨(pre ++ (ren (.cm w) ++ txt r)).toArray⟩ pre.length = 35 := h0
    have hcl : cl ⟨(pre ++ (ren (.cm w) ++ txt r)).toArray⟩ pre.length = w.data.toList.length + 1 := by
      unfold cl
      refine runL_of _ (fun k hk => ?_) (by rw [hsz]; show _ ≤ pre.length + (w.data.toList.length + 1 + _); omega) ?_
      · rw [hb k]
        cases k with
        | zero => rfl
        | succ k =>
          have hm := getD_in w.data.toList (txt r) (k := k) (by omega)
          have e : (ren (.cm w) ++ txt r).getD (k + 1) 0 = (w.data.toList ++ txt r).getD k 0 := by simp [ren]
          rw [e]
          have hne := h.1 _ hm
          unfold notFeed bt
          generalize (w.data.toList ++ txt r).getD k 0 = c at hne
          have : ¬ c.toNat = 10 := fun e => hne (UInt8.toNat_inj.1 e)
          simp; omega
      · have hf := h.2.1
        cases r with
        | nil => left; rw [hsz]; rfl
        | cons b r =>
          cases b with
          | nl =>
            right
            rw [hb]
            have e : (ren (.cm w) ++ txt (.nl :: r)).getD (w.data.toList.length + 1) 0 = 10 := by
              simp [ren, txt, List.getD_eq_getElem?_getD]
            rw [e]; rfl
          | _ => exact absurd hf (by simp [Fol])
    unfold stp
    rw [e0, hcl]; rfl
  | wd w =>
    have hw := h.1
    have hpos := hw.pos
    obtain ⟨c, t, hct⟩ : ∃ c t, w.data.toList = c :: t := by
      cases e : w.data.toList with
      | nil => rw [e] at hpos; simp at hpos
      | cons c t => exact ⟨c, t, rfl⟩
    have e0 : byt ⟨(pre ++ (ren (.wd w) ++ txt r)).toArray⟩ pre.length = bt c := by rw [h0]; show bt ((w.data.toList ++ txt r).getD 0 0) = _; rw [hct]; rfl
    have h1 : wrdB (bt c) = true := hw.all c (by rw [hct]; simp)
    have h2 : digB (bt c) = false := hw.first c (by rw [hct]; rfl)
    have hwl : wl ⟨(pre ++ (ren (.wd w) ++ txt r)).toArray⟩ pre.length = w.data.toList.length := by
      unfold wl
      refine runL_of _ (fun k hk => ?_) (by rw [hsz]; show _ ≤ pre.length + (w.data.toList.length + _); omega) ?_
      · rw [hb k]; exact hw.all _ (getD_in w.data.toList (txt r) hk)
      · cases r with
        | nil => left; rw [hsz]; rfl
        | cons b r =>
          right
          rw [hb]
          obtain ⟨c', t', e1, e2⟩ := head_not h.2.2 (fun w' e => by subst e; exact h.2.1)
          have e : (ren (.wd w) ++ txt (b :: r)).getD w.data.toList.length 0 = c' := by
            rw [e1]; simp [ren, List.getD_eq_getElem?_getD]
          rw [e]; exact e2
    have hext := ext_cat pre w.data.toList (txt r)
    unfold stp
    rw [e0, h1, h2, hwl]
    have hlt : ¬ 16 < w.data.toList.length := by have := hw.few; omega
    simp only [if_true, if_neg hlt, Bool.false_eq_true, if_false]
    show Out.go _ _ _ (l ++ [⟨1, (⟨(pre ++ (w.data.toList ++ txt r)).toArray⟩ : ByteArray).extract pre.length (pre.length + w.data.toList.length), line, col⟩]) = _
    rw [hext]
    rfl
theorem ren_pos {a : Itm} (h : ItOk a) : 0 < (ren a).length := by
  cases a with
  | wd w => exact h.pos
  | cm w => show 0 < (35 :: w.data.toList).length; simp
  | _ => show 0 < 1; omega

/-- A scan over items. -/
theorem scan_items (its : List Itm) : ∀ (pre : List UInt8) (line col : Nat) (l : List Tok), Oks its →
    scanL ⟨(pre ++ txt its).toArray⟩ pre.length line col l = (endT (folI its (line, col, l)).1 (folI its (line, col, l)).2.1 (folI its (line, col, l)).2.2, 0, 0, 0) := by
  induction its with
  | nil =>
    intro pre line col l _
    rw [scanL_end (by rw [size_cat]; simp [txt])]
    rfl
  | cons a r ih =>
    intro pre line col l h
    have e : txt (a :: r) = ren a ++ txt r := rfl
    rw [e]
    have hlt : pre.length < (⟨(pre ++ (ren a ++ txt r)).toArray⟩ : ByteArray).size := by
      have := ren_pos h.1
      rw [size_cat, List.length_append, List.length_append]; omega
    rw [scanL_go hlt (stp_item pre a r h line col l)]
    have hi := ih (pre ++ ren a) (stI a (line, col, l)).1 (stI a (line, col, l)).2.1 (stI a (line, col, l)).2.2 h.2.2
    rw [List.length_append, List.append_assoc] at hi
    rw [hi]
    rfl
theorem scanR_items {its : List Itm} (h : Oks its) (hs : (txt its).length ≤ 4096) : scanR ⟨(txt its).toArray⟩ = (endT (folI its (1, 1, [])).1 (folI its (1, 1, [])).2.1 (folI its (1, 1, [])).2.2, 0, 0, 0) := by
  unfold scanR
  rw [if_pos (by rw [size_cat]; exact hs)]
  have := scan_items its [] 1 1 [] h
  simpa using this
end Go.Proofs.Ytnbbpcfhofmmfaa
