/- Sets of bits as lists of 64-bit words: their bits, the set with one more bit, and that the bits determine the words. Plain lists and numbers, no program. -/
namespace Bs
def W64 : Nat := 18446744073709551616
theorem W64_eq : W64 = 2 ^ 64 := by decide
def wd (ws : List Nat) (i : Nat) : Nat := ws.getD i 0
def bit (ws : List Nat) (b : Nat) : Bool := (wd ws (b / 64)).testBit (b % 64)
def put (ws : List Nat) (b : Nat) : List Nat := ws.set (b / 64) (wd ws (b / 64) ||| 2 ^ (b % 64))
def nw (w : Nat) : Nat := (w + 63) / 64
def emp (w : Nat) : List Nat := List.replicate (nw w) 0

structure Fit (w : Nat) (ws : List Nat) : Prop where
  len : ws.length = nw w
  ok : ∀ x ∈ ws, x < W64
  hi : ∀ b, w ≤ b → bit ws b = false

theorem wd_lt {ws : List Nat} (h : ∀ x ∈ ws, x < W64) (i : Nat) : wd ws i < W64 := by
  unfold wd
  rw [List.getD_eq_getElem?_getD]
  rcases Nat.lt_or_ge i ws.length with hi | hi
  · rw [List.getElem?_eq_getElem hi]; exact h _ (List.getElem_mem hi)
  · rw [List.getElem?_eq_none hi]; decide
theorem wd_out {ws : List Nat} {i : Nat} (h : ws.length ≤ i) : wd ws i = 0 := by
  unfold wd; rw [List.getD_eq_getElem?_getD, List.getElem?_eq_none h]; rfl
theorem wd_get {ws : List Nat} {i : Nat} (h : i < ws.length) : wd ws i = ws[i] := by
  unfold wd; rw [List.getD_eq_getElem?_getD, List.getElem?_eq_getElem h]; rfl
theorem bit_out {ws : List Nat} {b : Nat} (h : 64 * ws.length ≤ b) : bit ws b = false := by
  unfold bit; rw [wd_out (by omega)]; simp
theorem bit_emp (w b : Nat) : bit (emp w) b = false := by
  unfold bit emp
  have : wd (List.replicate (nw w) 0) (b / 64) = 0 := by
    unfold wd; rw [List.getD_eq_getElem?_getD, List.getElem?_replicate]; split <;> rfl
  rw [this]; simp
theorem fit_emp (w : Nat) : Fit w (emp w) :=
  ⟨by simp [emp], by intro x hx; rw [List.eq_of_mem_replicate hx]; decide, fun b _ => bit_emp w b⟩

theorem length_put (ws : List Nat) (b : Nat) : (put ws b).length = ws.length := by simp [put]
theorem wd_put (ws : List Nat) (b i : Nat) (h : b / 64 < ws.length) : wd (put ws b) i = if i = b / 64 then wd ws (b / 64) ||| 2 ^ (b % 64) else wd ws i := by
  unfold put
  split
  · next e => subst e; unfold wd; simp [h]
  · next e => unfold wd; rw [List.getD_eq_getElem?_getD, List.getElem?_set_ne (by omega), ← List.getD_eq_getElem?_getD]
theorem bit_put (ws : List Nat) (b i : Nat) (h : b / 64 < ws.length) : bit (put ws b) i = (bit ws i || decide (i = b)) := by
  unfold bit
  rw [wd_put ws b _ h]
  by_cases e : i / 64 = b / 64
  · rw [if_pos e, Nat.testBit_or, Nat.testBit_two_pow, e]
    congr 1
    by_cases e2 : i = b
    · subst e2; simp
    · have : b % 64 ≠ i % 64 := by omega
      simp [e2, this]
  · rw [if_neg e]
    have : i ≠ b := by intro h; subst h; exact e rfl
    simp [this]
theorem lt_nw {w b : Nat} (h : b < w) : b / 64 < nw w := by unfold nw; omega
theorem fit_put {w : Nat} {ws : List Nat} (h : Fit w ws) {b : Nat} (hb : b < w) : Fit w (put ws b) := by
  have hl : b / 64 < ws.length := by rw [h.len]; exact lt_nw hb
  refine ⟨by rw [length_put, h.len], ?_, ?_⟩
  · intro x hx
    unfold put at hx
    rcases List.mem_or_eq_of_mem_set hx with hx | hx
    · exact h.ok x hx
    · subst hx
      rw [W64_eq]
      refine Nat.or_lt_two_pow ?_ (Nat.pow_lt_pow_right (by decide) (by omega))
      rw [← W64_eq]; exact wd_lt h.ok _
  · intro i hi
    rw [bit_put ws b i hl, h.hi i hi]
    have : i ≠ b := by omega
    simp [this]

theorem ext {w : Nat} {a b : List Nat} (ha : Fit w a) (hb : Fit w b) (h : ∀ i, i < w → bit a i = bit b i) : a = b := by
  have hl : a.length = b.length := by rw [ha.len, hb.len]
  refine List.ext_getElem hl fun i h1 h2 => ?_
  refine Nat.eq_of_testBit_eq fun j => ?_
  rcases Nat.lt_or_ge j 64 with hj | hj
  · have key : bit a (64 * i + j) = bit b (64 * i + j) := by
      rcases Nat.lt_or_ge (64 * i + j) w with hw | hw
      · exact h _ hw
      · rw [ha.hi _ hw, hb.hi _ hw]
    unfold bit at key
    have e1 : (64 * i + j) / 64 = i := by omega
    have e2 : (64 * i + j) % 64 = j := by omega
    rw [e1, e2, wd_get h1, wd_get h2] at key
    exact key
  · have q : ∀ x, x < W64 → x.testBit j = false := fun x hx =>
      Nat.testBit_lt_two_pow (Nat.lt_of_lt_of_le hx (by rw [W64_eq]; exact Nat.pow_le_pow_right (by decide) hj))
    rw [q _ (ha.ok _ (List.getElem_mem h1)), q _ (hb.ok _ (List.getElem_mem h2))]

/-- The set of the bits below k that p tells, within the width w. -/
def ofP (w : Nat) (p : Nat → Bool) : Nat → List Nat
  | 0 => emp w
  | k + 1 => if p k then put (ofP w p k) k else ofP w p k
theorem ofP_zero (w : Nat) (p : Nat → Bool) : ofP w p 0 = emp w := rfl
theorem ofP_yes {w : Nat} {p : Nat → Bool} {k : Nat} (h : p k = true) : ofP w p (k + 1) = put (ofP w p k) k := by simp [ofP, h]
theorem ofP_no {w : Nat} {p : Nat → Bool} {k : Nat} (h : p k = false) : ofP w p (k + 1) = ofP w p k := by simp [ofP, h]
theorem fit_ofP (w : Nat) (p : Nat → Bool) (k : Nat) (h : k ≤ w) : Fit w (ofP w p k) := by
  induction k with
  | zero => exact fit_emp w
  | succ k ih =>
    unfold ofP; split
    · exact fit_put (ih (by omega)) (by omega)
    · exact ih (by omega)
theorem bit_ofP (w : Nat) (p : Nat → Bool) (k : Nat) (h : k ≤ w) (i : Nat) : bit (ofP w p k) i = (decide (i < k) && p i) := by
  induction k with
  | zero => simp [ofP, bit_emp]
  | succ k ih =>
    have hf := fit_ofP w p k (by omega)
    unfold ofP; split
    · next hp =>
      rw [bit_put _ _ _ (by rw [hf.len]; exact lt_nw (by omega)), ih (by omega)]
      by_cases e : i = k
      · subst e; simp [hp]
      · have : (i < k + 1) = (i < k) := by apply propext; omega
        simp [e, this]
    · next hp =>
      rw [ih (by omega)]
      by_cases e : i = k
      · subst e; simp [hp]
      · have : (i < k + 1) = (i < k) := by apply propext; omega
        simp [this]

theorem ofP_congr {w : Nat} {p q : Nat → Bool} {k : Nat} (h : ∀ i, i < k → p i = q i) : ofP w p k = ofP w q k := by
  induction k with
  | zero => rfl
  | succ k ih => unfold ofP; rw [h k (by omega), ih fun i hi => h i (by omega)]
theorem put_ofP {w : Nat} (p : Nat → Bool) {b : Nat} (hb : b < w) : put (ofP w p w) b = ofP w (fun i => p i || decide (i = b)) w := by
  have hf := fit_ofP w p w (Nat.le_refl _)
  refine ext (fit_put hf hb) (fit_ofP w _ w (Nat.le_refl _)) fun i hi => ?_
  rw [bit_put _ _ _ (by rw [hf.len]; exact lt_nw hb), bit_ofP w p w (Nat.le_refl _), bit_ofP w _ w (Nat.le_refl _)]
  simp [hi]
theorem ofP_false (w k : Nat) : ofP w (fun _ => false) k = emp w := by
  induction k with
  | zero => rfl
  | succ k ih => unfold ofP; simpa using ih
/-- A valid set is the set of its members. -/
theorem ofP_bit {w : Nat} {ws : List Nat} (h : Fit w ws) : ofP w (bit ws) w = ws :=
  ext (fit_ofP w _ w (Nat.le_refl _)) h fun i hi => by rw [bit_ofP w _ w (Nat.le_refl _)]; simp [hi]

/-- P2.1: which sets are valid. -/
def validB (W : Int) (ws : List Nat) : Bool :=
  decide (0 ≤ W) && decide (W ≤ 256) && decide (ws.length = nw W.toNat) && (List.range (64 * ws.length)).all fun b => decide (b < W.toNat) || !bit ws b
theorem validB_iff {W : Int} {ws : List Nat} : validB W ws = true ↔ 0 ≤ W ∧ W ≤ 256 ∧ ws.length = nw W.toNat ∧ ∀ b, W.toNat ≤ b → bit ws b = false := by
  unfold validB
  simp only [Bool.and_eq_true, decide_eq_true_eq, List.all_eq_true, List.mem_range, Bool.or_eq_true, Bool.not_eq_true']
  constructor
  · rintro ⟨⟨⟨h1, h2⟩, h3⟩, h4⟩
    refine ⟨h1, h2, h3, fun b hb => ?_⟩
    rcases Nat.lt_or_ge b (64 * ws.length) with h | h
    · rcases h4 b h with h' | h'
      · omega
      · exact h'
    · exact bit_out h
  · rintro ⟨h1, h2, h3, h4⟩
    refine ⟨⟨⟨h1, h2⟩, h3⟩, fun b _ => ?_⟩
    rcases Nat.lt_or_ge b W.toNat with h | h
    · exact .inl h
    · exact .inr (h4 b h)
theorem fit_of_valid {W : Int} {ws : List Nat} (h : validB W ws = true) (ho : ∀ x ∈ ws, x < W64) : Fit W.toNat ws := by
  obtain ⟨_, _, h3, h4⟩ := validB_iff.1 h
  exact ⟨h3, ho, h4⟩
theorem valid_of_fit {w : Nat} {ws : List Nat} (h : Fit w ws) (hw : w ≤ 256) : validB (w : Int) ws = true :=
  validB_iff.2 ⟨by omega, by omega, by simpa using h.len, by simpa using h.hi⟩

/-- P2.2: the members of a valid set. -/
def hasB (W : Int) (ws : List Nat) (b : Int) : Bool := validB W ws && decide (0 ≤ b) && decide (b < W) && bit ws b.toNat
theorem hasB_nat {w : Nat} {ws : List Nat} (h : Fit w ws) (hw : w ≤ 256) (b : Nat) : hasB w ws b = bit ws b := by
  unfold hasB
  rw [valid_of_fit h hw]
  by_cases hb : b < w
  · have h1 : (0 : Int) ≤ b := by omega
    have h2 : (b : Int) < w := by omega
    simp [h2]
  · have h2 : ¬ (b : Int) < w := by omega
    simp [h2, h.hi b (by omega)]

/-- How a word's bit is asked: shifted down, then its lowest bit. -/
theorem testBit_shift (x j : Nat) : (decide (x / 2 ^ j % 2 = 1)) = x.testBit j := by
  rw [Nat.testBit_eq_decide_div_mod_eq]
theorem and_one (x : Nat) : x &&& 1 = x % 2 := Nat.and_one_is_mod x
end Bs
