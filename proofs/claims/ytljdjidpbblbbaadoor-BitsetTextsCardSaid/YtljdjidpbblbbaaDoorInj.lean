/- A text is the text of at most one set. -/
import Derived.Test.YtljdjidpbblbbaaDoorDigits
namespace Go.Proofs.YtljdjidpbblbbaaDoor
set_option maxRecDepth 10000

theorem mem_memsTo (ws : List Nat) (k : Nat) (x : Int) : x ∈ memsTo ws k ↔ ∃ i, i < k ∧ Bs.bit ws i = true ∧ x = (i : Int) := by
  induction k with
  | zero => simp [memsTo]
  | succ k ih =>
    unfold memsTo
    by_cases h : Bs.bit ws k = true
    · rw [if_pos h, List.mem_append, ih, List.mem_singleton]
      constructor
      · rintro (⟨i, h1, h2, h3⟩ | rfl)
        · exact ⟨i, by omega, h2, h3⟩
        · exact ⟨k, by omega, h, rfl⟩
      · rintro ⟨i, h1, h2, h3⟩
        by_cases hik : i = k
        · subst hik; exact .inr h3
        · exact .inl ⟨i, by omega, h2, h3⟩
    · rw [if_neg h, ih]
      constructor
      · rintro ⟨i, h1, h2, h3⟩; exact ⟨i, by omega, h2, h3⟩
      · rintro ⟨i, h1, h2, h3⟩
        have : i ≠ k := by rintro rfl; exact h h2
        exact ⟨i, by omega, h2, h3⟩
theorem bit_mems (ws : List Nat) (k i : Nat) (h : i < k) : decide ((i : Int) ∈ memsTo ws k) = Bs.bit ws i := by
  rw [Bool.eq_iff_iff, decide_eq_true_iff, mem_memsTo]
  constructor
  · rintro ⟨j, h1, h2, h3⟩
    have : i = j := by omega
    subst this; exact h2
  · intro hb; exact ⟨i, h, hb, rfl⟩
theorem memsTo_inj {W : Nat} {ws xs : List Nat} (h1 : Bs.Fit W ws) (h2 : Bs.Fit W xs) (h : memsTo ws W = memsTo xs W) : ws = xs :=
  Bs.ext h1 h2 (fun i hi => by rw [← bit_mems ws W i hi, ← bit_mems xs W i hi, h])
theorem ofR_mems {W : Int} {ws : List Nat} (h : Bs.validB W ws = true) (ho : ∀ x ∈ ws, x < Bs.W64) : ofR W (memsTo ws W.toNat) = (W, ws, 0) := by
  have hv := Bs.validB_iff.1 h
  have hf := Bs.fit_of_valid h ho
  unfold ofR
  rw [if_neg (by omega), if_neg]
  · rw [Bs.ofP_congr (q := Bs.bit ws) (fun i hi => bit_mems ws _ i hi), Bs.ofP_bit hf]
  · rw [List.any_eq_true]
    rintro ⟨x, hx, hb⟩
    have := memsTo_range ws W.toNat x hx
    simp at hb; omega
theorem ofR_valid {W : Int} {l : List Int} (h : (ofR W l).2.2 = 0) : Bs.validB (ofR W l).1 (ofR W l).2.1 = true ∧ ∀ x ∈ (ofR W l).2.1, x < Bs.W64 := by
  unfold ofR at h ⊢
  split at h
  · exact absurd h (by decide)
  · rename_i h1
    rw [if_neg h1]
    split at h
    · exact absurd h (by decide)
    · rename_i h2
      rw [if_neg h2]
      obtain ⟨v, rfl⟩ := Int.eq_ofNat_of_zero_le (a := W) (by omega)
      have hf := Bs.fit_ofP v (fun i => decide ((i : Int) ∈ l)) v (Nat.le_refl _)
      exact ⟨Bs.valid_of_fit hf (by omega), hf.ok⟩

/-- The digits at the end of a text, where what stands before ends with a comma. -/
theorem split_end {A B d e : List UInt8} (hA : A = [] ∨ ∃ C, A = C ++ [44]) (hB : B = [] ∨ ∃ C, B = C ++ [44]) (hd : ∀ c ∈ d, dig c = true) (he : ∀ c ∈ e, dig c = true)
    (h : A ++ d = B ++ e) : A = B ∧ d = e := by
  have key : ∀ {A B d e : List UInt8}, (B = [] ∨ ∃ C, B = C ++ [44]) → (∀ c ∈ d, dig c = true) → ∀ x, B = A ++ x → d = x ++ e → A = B ∧ d = e := by
    intro A B d e hB hd x h1 h2
    rcases List.eq_nil_or_concat x with rfl | ⟨y, z, rfl⟩
    · simp at h1 h2; exact ⟨h1.symm, h2⟩
    · exfalso
      have hz := hd z (by rw [h2]; simp)
      rcases hB with rfl | ⟨C, rfl⟩
      · simp at h1
      · have : (C ++ [44]).getLast? = (A ++ y.concat z).getLast? := by rw [h1]
        simp at this
        subst this
        exact absurd hz (by decide)
  rcases List.append_eq_append_iff.1 h with ⟨x, h1, h2⟩ | ⟨x, h1, h2⟩
  · exact key hB hd x h1 h2
  · have := key hA he x h1 h2; exact ⟨this.1.symm, this.2.symm⟩

theorem dec_inj {m n : Nat} (h : dec m = dec n) : m = n := by rw [← numTo_dec m, h, numTo_dec]
theorem dec_ne (n : Nat) : dec n ≠ [] := by intro h; have := dec_pos n; rw [h] at this; simp at this

/-- What stands before the i-th number. -/
def bef (l : List Int) (i : Nat) : List UInt8 := if 0 < i then joinTo l i ++ [44] else joinTo l i
theorem bef_end (l : List Int) (i : Nat) : bef l i = [] ∨ ∃ C, bef l i = C ++ [44] := by
  unfold bef
  by_cases h : 0 < i
  · rw [if_pos h]; exact .inr ⟨_, rfl⟩
  · rw [if_neg h]; obtain rfl : i = 0 := by omega
    exact .inl rfl
theorem joinTo_succ (l : List Int) (i : Nat) : joinTo l (i + 1) = bef l i ++ dec (l.getD i 0).toNat := rfl
theorem joinTo_inj (l m : List Int) (hl : ∀ i, 0 ≤ l.getD i 0) (hm : ∀ i, 0 ≤ m.getD i 0) : ∀ i j, joinTo l i = joinTo m j → i = j ∧ ∀ k, k < i → l.getD k 0 = m.getD k 0 := by
  intro i
  induction i with
  | zero =>
    intro j h
    cases j with
    | zero => exact ⟨rfl, by omega⟩
    | succ j =>
      rw [joinTo_succ] at h
      have : ([] : List UInt8) = bef m j ++ dec (m.getD j 0).toNat := h
      have := List.append_eq_nil_iff.1 this.symm
      exact absurd this.2 (dec_ne _)
  | succ i ih =>
    intro j h
    cases j with
    | zero =>
      rw [joinTo_succ] at h
      have : bef l i ++ dec (l.getD i 0).toNat = [] := h
      exact absurd (List.append_eq_nil_iff.1 this).2 (dec_ne _)
    | succ j =>
      rw [joinTo_succ, joinTo_succ] at h
      obtain ⟨h1, h2⟩ := split_end (bef_end l i) (bef_end m j) (dec_digs _) (dec_digs _) h
      have hv := dec_inj h2
      have hv' : l.getD i 0 = m.getD j 0 := by have := hl i; have := hm j; omega
      have hij : i = j ∧ ∀ k, k < i → l.getD k 0 = m.getD k 0 := by
        unfold bef at h1
        by_cases h0 : 0 < i
        · by_cases h0' : 0 < j
          · rw [if_pos h0, if_pos h0'] at h1
            exact ih j (List.append_cancel_right h1)
          · rw [if_pos h0, if_neg h0'] at h1
            obtain rfl : j = 0 := by omega
            simp [joinTo] at h1
        · obtain rfl : i = 0 := by omega
          by_cases h0' : 0 < j
          · rw [if_neg h0, if_pos h0'] at h1
            simp [joinTo] at h1
          · exact ⟨by omega, by omega⟩
      refine ⟨by omega, ?_⟩
      intro k hk
      by_cases hki : k = i
      · subst hki; rw [hv', hij.1]
      · exact hij.2 k (by omega)

theorem joinTo_no (l : List Int) (i : Nat) : (47 : UInt8) ∉ joinTo l i := by
  induction i with
  | zero => simp [joinTo]
  | succ i ih =>
    rw [joinTo_succ, List.mem_append]
    rintro (h | h)
    · unfold bef at h
      split at h
      · rw [List.mem_append, List.mem_singleton] at h
        rcases h with h | h
        · exact ih h
        · exact absurd h (by decide)
      · exact ih h
    · exact absurd (dec_digs _ _ h) (by decide)
theorem slash_split {A B c d : List UInt8} (hA : (47 : UInt8) ∉ A) (hB : (47 : UInt8) ∉ B) (h : A ++ [47] ++ c = B ++ [47] ++ d) : A = B ∧ c = d := by
  induction A generalizing B with
  | nil =>
    cases B with
    | nil => simpa using h
    | cons b B => simp at h; exact absurd h.1.symm (by intro hb; exact hB (by simp [hb]))
  | cons a A ih =>
    cases B with
    | nil => simp at h; exact absurd h.1 (by intro hb; exact hA (by simp [hb]))
    | cons b B =>
      simp only [List.cons_append, List.cons.injEq] at h
      have := ih (B := B) (fun hx => hA (List.mem_cons_of_mem _ hx)) (fun hx => hB (List.mem_cons_of_mem _ hx)) h.2
      exact ⟨by rw [h.1, this.1], this.2⟩
theorem mems_getD (ws : List Nat) (k i : Nat) : 0 ≤ (memsTo ws k).getD i 0 := by
  by_cases h : i < (memsTo ws k).length
  · have hm : (memsTo ws k).getD i 0 ∈ memsTo ws k := by
      rw [List.getD_eq_getElem?_getD, List.getElem?_eq_getElem h]; exact List.getElem_mem _
    exact (memsTo_range ws k _ hm).1
  · rw [List.getD_eq_getElem?_getD, List.getElem?_eq_none (by omega)]; simp
theorem textB_inj {W V : Int} {ws xs : List Nat} (h1 : Bs.validB W ws = true) (o1 : ∀ x ∈ ws, x < Bs.W64) (h2 : Bs.validB V xs = true) (o2 : ∀ x ∈ xs, x < Bs.W64) (h : textB W ws = textB V xs) : W = V ∧ ws = xs := by
  unfold textB at h
  rw [if_pos h1, if_pos h2] at h
  obtain ⟨ha, hb⟩ := slash_split (joinTo_no _ _) (joinTo_no _ _) h
  have hv1 := Bs.validB_iff.1 h1
  have hv2 := Bs.validB_iff.1 h2
  have hW : W = V := by have := dec_inj hb; omega
  subst hW
  refine ⟨rfl, ?_⟩
  obtain ⟨hl, hg⟩ := joinTo_inj _ _ (mems_getD ws _) (mems_getD xs _) _ _ ha
  apply memsTo_inj (Bs.fit_of_valid h1 o1) (Bs.fit_of_valid h2 o2)
  apply List.ext_getElem hl
  intro i hi hj
  have := hg i hi
  rw [List.getD_eq_getElem?_getD, List.getD_eq_getElem?_getD, List.getElem?_eq_getElem hi, List.getElem?_eq_getElem hj] at this
  exact this
end Go.Proofs.YtljdjidpbblbbaaDoor
