/- The two machines go side by side: the same programs, the same errors at the same places. Plain mathematics. -/
import Derived.Test.YtmbelhdkaepohaaGreatDoorPmd
namespace Go.Proofs.YtmbelhdkaepohaaGreatDoor
set_option maxRecDepth 20000
set_option linter.unusedVariables false
set_option linter.unusedSimpArgs false
open Go.ChangeShapes Go.WideShapes Go.ChangeAt Go.RowKit

theorem eqB_iff {a b : ByteArray} : eqB a b = true ↔ a = b := by
  unfold eqB
  rw [toList_data, toList_data]
  constructor
  · intro h; exact ext_list (by simpa using h)
  · rintro rfl; simp
theorem eqB_no {a b : ByteArray} (h : a ≠ b) : eqB a b = false := by
  cases e : eqB a b with
  | false => rfl
  | true => exact absurd (eqB_iff.1 e) h
theorem ne_of_data {a b : ByteArray} (h : (a.data.toList == b.data.toList) = false) : a ≠ b := by
  rintro rfl; simp at h

/-- What the scanner's tokens are. -/
def TokOk (t : Tok) : Prop := (t.kind = 1 ∧ 0 < t.text.size ∧ t.text.size ≤ 16 ∧ wrdB (byt t.text 0) = true) ∨ (t.kind = 2 ∧ t.text = kwEq) ∨ (t.kind = 3 ∧ t.text = noB)
theorem tokOk_size {t : Tok} (h : TokOk t) : t.text.size ≤ 16 := by
  rcases h with ⟨_, _, h, _⟩ | ⟨_, h⟩ | ⟨_, h⟩
  · exact h
  · rw [h]; decide
  · rw [h]; decide
theorem nameB_no : nameB noB = false := by unfold nameB; rfl
theorem nameB_eq : nameB kwEq = false := by
  unfold nameB
  have : letB (byt kwEq 0) = false := by decide
  rw [this]; simp
theorem tok_name {t : Tok} (h : TokOk t) (hn : nameB t.text = true) : t.kind = 1 := by
  rcases h with ⟨h, _⟩ | ⟨_, h⟩ | ⟨_, h⟩
  · exact h
  · rw [h, nameB_eq] at hn; cases hn
  · rw [h, nameB_no] at hn; cases hn
theorem tok_word {t : Tok} (h : TokOk t) {k : ByteArray} (h1 : k ≠ kwEq) (h2 : k ≠ noB) (hk : eqB t.text k = true) : t.kind = 1 := by
  have hk := eqB_iff.1 hk
  rcases h with ⟨h, _⟩ | ⟨_, h⟩ | ⟨_, h⟩
  · exact h
  · exact absurd (hk.symm.trans h) h1
  · exact absurd (hk.symm.trans h) h2
theorem tok_eq {t : Tok} (h : TokOk t) : eqB t.text kwEq = (t.kind == 2) := by
  rcases h with ⟨h, hp, _, hw⟩ | ⟨h, ht⟩ | ⟨h, ht⟩
  · rw [h]
    rw [eqB_no]
    · rfl
    · intro e
      rw [e] at hw
      have : wrdB (byt kwEq 0) = false := by decide
      rw [this] at hw; cases hw
  · rw [h, ht]; exact eqB_iff.2 rfl
  · rw [h, ht, eqB_no]
    · rfl
    · exact ne_of_data (by decide)
theorem ext_byt {s : ByteArray} {i n : Nat} (hn : 0 < n) (h : i + n ≤ s.size) : byt (s.extract i (i + n)) 0 = byt s i := by
  unfold byt
  rw [Lib.extract_data]
  rw [List.getD_eq_getElem?_getD, List.getD_eq_getElem?_getD, List.getElem?_take, List.getElem?_drop]
  simp [show i + n - i = n by omega, hn]
theorem stp_tok {s : ByteArray} {i line col : Nat} {l : List Tok} {i' line' col' : Nat} {l' : List Tok} (h : i < s.size) (hl : ∀ t ∈ l, TokOk t) (e : stp s i line col l = .go i' line' col' l') : ∀ t ∈ l', TokOk t := by
  have hend : ∀ t ∈ endT line col l, TokOk t := by
    unfold endT
    split
    · intro t ht
      rcases List.mem_append.1 ht with ht | ht
      · exact hl t ht
      · simp at ht; subst ht; exact .inr (.inr ⟨rfl, rfl⟩)
    · exact hl
  have hwle := wl_le s h
  unfold stp at e
  split at e
  · next hw =>
    have hwp := wl_pos h hw
    split at e
    · cases e
    · split at e
      · cases e
      · next h16 =>
        cases e
        intro t ht
        rcases List.mem_append.1 ht with ht | ht
        · exact hl t ht
        · simp only [List.mem_singleton] at ht
          subst ht
          refine .inl ⟨rfl, ?_, ?_, ?_⟩
          · show 0 < (s.extract i (i + wl s i)).size
            rw [ByteArray.size_extract]; omega
          · show (s.extract i (i + wl s i)).size ≤ 16
            rw [ByteArray.size_extract]; omega
          · show wrdB (byt (s.extract i (i + wl s i)) 0) = true
            rw [ext_byt hwp hwle]; exact hw
  · split at e
    · cases e
      intro t ht
      rcases List.mem_append.1 ht with ht | ht
      · exact hl t ht
      · simp only [List.mem_singleton] at ht
        subst ht
        exact .inr (.inl ⟨rfl, rfl⟩)
    · repeat' split at e
      all_goals (first | (cases e; done) | (cases e; exact hend) | (cases e; exact hl))
theorem scanL_tok (s : ByteArray) (n i line col : Nat) (l : List Tok) (hn : s.size - i ≤ n) (hl : ∀ t ∈ l, TokOk t) : ∀ t ∈ (scanL s i line col l).1, TokOk t := by
  induction n generalizing i line col l with
  | zero =>
    rw [scanL_end (by omega)]
    show ∀ t ∈ endT line col l, TokOk t
    unfold endT
    split
    · intro t ht
      rcases List.mem_append.1 ht with ht | ht
      · exact hl t ht
      · simp at ht; subst ht; exact .inr (.inr ⟨rfl, rfl⟩)
    · exact hl
  | succ n ih =>
    by_cases hlt : i < s.size
    · cases e : stp s i line col l with
      | go i' line' col' l' =>
        have hg := stp_go hlt e
        rw [scanL_go hlt e]
        exact ih i' line' col' l' (by omega) (stp_tok hlt hl e)
      | stop line' col' er => rw [scanL_stop hlt e]; simp
    · rw [scanL_end (by omega)]
      show ∀ t ∈ endT line col l, TokOk t
      unfold endT
      split
      · intro t ht
        rcases List.mem_append.1 ht with ht | ht
        · exact hl t ht
        · simp at ht; subst ht; exact .inr (.inr ⟨rfl, rfl⟩)
      · exact hl
theorem scan_tok (s : ByteArray) : ∀ t ∈ (scanR s).1, TokOk t := by
  unfold scanR
  split
  · exact scanL_tok s s.size 0 1 1 [] (by omega) (by simp)
  · simp

def AllOk (l : List Tok) : Prop := ∀ t ∈ l, TokOk t
theorem AllOk.tail {l : List Tok} (h : AllOk l) : AllOk l.tail := fun t ht => h t (List.mem_of_mem_tail ht)
theorem AllOk.nxt {l : List Tok} (h : AllOk l) : l = [] ∨ TokOk (nxt l) := by
  cases l with
  | nil => exact .inl rfl
  | cons t l => exact .inr (h t (List.mem_cons_self ..))
inductive Sim : Ds → Rs → Prop
  | ok (l : List Tok) (h : AllOk l) : Sim ⟨l, 0, 0, 0⟩ ⟨l, 0⟩
  | bad (l : List Tok) (e : Int) (he : e ≠ 0) (h : AllOk l) : Sim ⟨[], (nxt l).line, (nxt l).col, e⟩ ⟨l, e⟩
def R2 {α : Type} (d : Ds) (p : α × Ds) (q : α × Rs) : Prop := Sim p.2 q.2 ∧ (p.2.e = 0 → d.e = 0 ∧ p.1 = q.1)
def R1 (d : Ds) (p : Ds) (q : Rs) : Prop := Sim p q ∧ (p.e = 0 → d.e = 0)
theorem nxt_nil : nxt [] = zTok := rfl
theorem eqB_no2 {k : ByteArray} (h : k ≠ noB) : eqB noB k = false := eqB_no (fun e => h e.symm)

theorem sim_fail {d : Ds} {r : Rs} (h : Sim d r) {e : Int} (he : e ≠ 0) : Sim (failS e d) (failR e r) ∧ (failS e d).e ≠ 0 := by
  cases h with
  | ok l hl => exact ⟨.bad l e he hl, he⟩
  | bad l e' he' hl =>
    have h1 : (e' == 0) = false := by simpa using he'
    unfold failS failR
    simp only [h1]
    exact ⟨.bad l e' he' hl, he'⟩
theorem sim_bad_nil {d : Ds} {r : Rs} (h : Sim d r) (he : d.e ≠ 0) : d.l = [] := by
  cases h with
  | ok => exact absurd rfl he
  | bad => rfl
theorem sim_isN {d : Ds} {r : Rs} (h : Sim d r) : nameB (nxt d.l).text = isN r := by
  cases h with
  | ok l hl =>
    unfold isN
    rcases hl.nxt with rfl | ht
    · exact nameB_no
    · cases hn : nameB (nxt l).text with
      | false => simp [hn]
      | true => simp [hn, tok_name ht hn]
  | bad l e he hl =>
    have h1 : (e == 0) = false := by simpa using he
    unfold isN
    simp only [h1]
    exact nameB_no
theorem sim_isK {d : Ds} {r : Rs} (h : Sim d r) {k : ByteArray} (h1 : k ≠ kwEq) (h2 : k ≠ noB) : eqB (nxt d.l).text k = isK k r := by
  cases h with
  | ok l hl =>
    unfold isK
    rcases hl.nxt with rfl | ht
    · show eqB noB k = _
      rw [eqB_no2 h2]; rfl
    · show eqB (nxt l).text k = _
      cases hn : eqB (nxt l).text k with
      | false => simp [hn]
      | true => simp [hn, tok_word ht h1 h2 hn]
  | bad l e he hl =>
    have h1 : (e == 0) = false := by simpa using he
    unfold isK
    simp only [h1]
    exact eqB_no2 h2
theorem sim_isD {d : Ds} {r : Rs} (h : Sim d r) {k : Int} (hk : k ≠ 0) : ((nxt d.l).kind == k) = isD k r := by
  cases h with
  | ok l hl => unfold isD; simp
  | bad l e he hl =>
    have h1 : (e == 0) = false := by simpa using he
    unfold isD
    simp only [h1]
    show ((0 : Int) == k) = _
    simp; omega
theorem sim_isEq {d : Ds} {r : Rs} (h : Sim d r) : eqB (nxt d.l).text kwEq = isD 2 r := by
  rw [← sim_isD h (by omega)]
  cases h with
  | ok l hl =>
    rcases hl.nxt with rfl | ht
    · show eqB noB kwEq = ((0 : Int) == 2)
      rw [eqB_no2 (ne_of_data (by decide))]; rfl
    · exact tok_eq ht
  | bad l e he hl =>
    show eqB noB kwEq = ((0 : Int) == 2)
    rw [eqB_no2 (ne_of_data (by decide))]; rfl
/-- A token is taken on both sides, or none. -/
theorem sim_take {d : Ds} {r : Rs} (h : Sim d r) {b : Bool} (hb : b = true → r.e = 0 ∧ r.l ≠ []) :
    R2 d (takeS b d) (if b then ((nxt r.l).text, stepR r) else (noB, failR 4 r)) := by
  cases b with
  | true =>
    obtain ⟨h0, h1⟩ := hb rfl
    cases h with
    | ok l hl => exact ⟨.ok _ hl.tail, fun _ => ⟨rfl, rfl⟩⟩
    | bad l e he hl => exact absurd h0 he
  | false =>
    have hf := sim_fail h (e := 4) (by omega)
    exact ⟨hf.1, fun h0 => absurd h0 hf.2⟩
theorem isN_ne {r : Rs} (h : isN r = true) : r.e = 0 ∧ r.l ≠ [] := by
  obtain ⟨l, e⟩ := r
  unfold isN at h
  simp at h
  refine ⟨h.1.1, ?_⟩
  rintro rfl
  have := h.1.2
  simp [nxt, zTok] at this
theorem isK_ne {r : Rs} {k : ByteArray} (h : isK k r = true) : r.e = 0 ∧ r.l ≠ [] := by
  obtain ⟨l, e⟩ := r
  unfold isK at h
  simp at h
  refine ⟨h.1.1, ?_⟩
  rintro rfl
  have := h.1.2
  simp [nxt, zTok] at this
theorem isD_ne {r : Rs} {k : Int} (hk : k ≠ 0) (h : isD k r = true) : r.e = 0 ∧ r.l ≠ [] := by
  obtain ⟨l, e⟩ := r
  unfold isD at h
  simp at h
  refine ⟨h.1, ?_⟩
  rintro rfl
  have := h.2
  simp [nxt, zTok] at this
  omega
theorem sim_name {d : Ds} {r : Rs} (h : Sim d r) : R2 d (nameS d) (nameR r) := by
  have := sim_take h (b := isN r) isN_ne
  unfold nameS nameR
  rw [sim_isN h]
  exact this
theorem R2.snd {α : Type} {d : Ds} {p : α × Ds} {q : α × Rs} (h : R2 d p q) : R1 d p.2 q.2 := ⟨h.1, fun h0 => (h.2 h0).1⟩
theorem sim_word {d : Ds} {r : Rs} (h : Sim d r) {k : ByteArray} (h1 : k ≠ kwEq) (h2 : k ≠ noB) : R1 d (wordS k d) (wordR k r) := by
  have := (sim_take h (b := isK k r) isK_ne).snd
  unfold wordS wordR
  rw [sim_isK h h1 h2]
  cases hb : isK k r <;> rw [hb] at this <;> exact this
theorem sim_eq {d : Ds} {r : Rs} (h : Sim d r) : R1 d (wordS kwEq d) (if isD 2 r then stepR r else failR 4 r) := by
  have := (sim_take h (b := isD 2 r) (isD_ne (by omega))).snd
  unfold wordS
  rw [sim_isEq h]
  cases hb : isD 2 r <;> rw [hb] at this <;> exact this
theorem sim_end {d : Ds} {r : Rs} (h : Sim d r) : R1 d (endS d) (endR r) := by
  have := (sim_take h (b := isD 3 r) (isD_ne (by omega))).snd
  unfold endS endR
  rw [sim_isD h (by omega)]
  cases hb : isD 3 r <;> rw [hb] at this <;> exact this

theorem sim_list {α : Type} {b : ByteArray → Bool} {b' : Rs → Bool} {part : Ds → α × Ds} {part' : Rs → α × Rs}
    (hb : ∀ d r, Sim d r → b (nxt d.l).text = b' r) (hp : ∀ d r, Sim d r → b' r = true → R2 d (part d) (part' r)) (n : Nat) :
    ∀ d r, Sim d r → R2 d (listS b part n d) (listR b' part' n r) := by
  induction n with
  | zero =>
    intro d r h
    unfold listS listR
    rw [hb d r h]
    cases b' r with
    | true => have hf := sim_fail h (e := 7) (by omega); exact ⟨hf.1, fun h0 => absurd h0 hf.2⟩
    | false => exact ⟨h, fun h0 => ⟨h0, rfl⟩⟩
  | succ n ih =>
    intro d r h
    unfold listS listR
    rw [hb d r h]
    cases hbr : b' r with
    | true =>
      have h1 := hp d r h hbr
      have h2 := ih _ _ h1.1
      exact ⟨h2.1, fun h0 => by
        obtain ⟨h3, h4⟩ := h2.2 h0
        obtain ⟨h5, h6⟩ := h1.2 h3
        exact ⟨h5, by show _ :: _ = _ :: _; rw [h6, h4]⟩⟩
    | false => exact ⟨h, fun h0 => ⟨h0, rfl⟩⟩
theorem sim_some {α : Type} {b : ByteArray → Bool} {b' : Rs → Bool} {part : Ds → α × Ds} {part' : Rs → α × Rs}
    (hb : ∀ d r, Sim d r → b (nxt d.l).text = b' r) (hp : ∀ d r, Sim d r → b' r = true → R2 d (part d) (part' r)) (h0 : b noB = false) (n : Nat) (hn : 0 < n)
    {d : Ds} {r : Rs} (h : Sim d r) : R2 d (someS b part n d) (listR b' part' n (needR b' r)) := by
  unfold needR
  cases hbr : b' r with
  | true =>
    have h1 := sim_list hb hp n d r h
    have hne : (listS b part n d).1.isEmpty = false := by
      obtain ⟨m, rfl⟩ : ∃ m, n = m + 1 := ⟨n - 1, by omega⟩
      unfold listS
      rw [hb d r h, hbr]; rfl
    unfold someS
    rw [hne]
    exact h1
  | false =>
    have hf := sim_fail h (e := 4) (by omega)
    have hl : listS b part n d = ([], d) := by
      cases n <;> (unfold listS; rw [hb d r h, hbr]; rfl)
    have hfb : b' (failR 4 r) = false := by
      rw [← hb _ _ hf.1]
      have : nxt (failS 4 d).l = zTok := by rw [sim_bad_nil hf.1 hf.2]; rfl
      rw [this]; exact h0
    have hl2 : listR b' part' n (failR 4 r) = ([], failR 4 r) := by
      cases n <;> (unfold listR; rw [hfb]; rfl)
    unfold someS
    rw [hl]
    show R2 d _ (listR b' part' n (failR 4 r))
    rw [hl2]
    exact ⟨hf.1, fun h0 => absurd h0 hf.2⟩
theorem sim_names (n : Nat) : ∀ d r, Sim d r → R2 d (listS nameB nameS n d) (namesR n r) := by
  have key : ∀ d r, Sim d r → Sim (listS nameB nameS n d).2 (namesL n r).2 ∧ ((listS nameB nameS n d).2.e = 0 → d.e = 0 ∧ (namesL n r).1 = some (listS nameB nameS n d).1) := by
    induction n with
    | zero =>
      intro d r h
      unfold listS namesL
      rw [sim_isN h]
      cases isN r with
      | true => have hf := sim_fail h (e := 7) (by omega); exact ⟨hf.1, fun h0 => absurd h0 hf.2⟩
      | false => exact ⟨h, fun h0 => ⟨h0, rfl⟩⟩
    | succ n ih =>
      intro d r h
      unfold listS namesL
      rw [sim_isN h]
      cases hbr : isN r with
      | true =>
        have h1 := sim_name h
        have h2 := ih _ _ h1.1
        exact ⟨h2.1, fun h0 => by
          obtain ⟨h3, h4⟩ := h2.2 h0
          obtain ⟨h5, h6⟩ := h1.2 h3
          exact ⟨h5, by show Option.map _ _ = _; rw [h4, h6]; rfl⟩⟩
      | false => exact ⟨h, fun h0 => ⟨h0, rfl⟩⟩
  intro d r h
  obtain ⟨h1, h2⟩ := key d r h
  exact ⟨h1, fun h0 => ⟨(h2 h0).1, by unfold namesR; rw [(h2 h0).2]; rfl⟩⟩
end Go.Proofs.YtmbelhdkaepohaaGreatDoor
