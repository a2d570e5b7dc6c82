/- Number reads the decimal digits of a number back. -/
import Derived.Test.YtljdjidpbblbbaaDoorNumber
namespace Go.Proofs.YtljdjidpbblbbaaDoor
set_option maxRecDepth 10000

theorem getD_app {α : Type} (a b : List α) (d : α) (i : Nat) (h : i < a.length) : (a ++ b).getD i d = a.getD i d := by
  rw [List.getD_eq_getElem?_getD, List.getD_eq_getElem?_getD, List.getElem?_append_left h]
theorem getD_app_right {α : Type} (a b : List α) (d : α) (i : Nat) (h : a.length ≤ i) : (a ++ b).getD i d = b.getD (i - a.length) d := by
  rw [List.getD_eq_getElem?_getD, List.getD_eq_getElem?_getD, List.getElem?_append_right h]
theorem ofNat_toNat (d : Nat) (h : d < 10) : (UInt8.ofNat (48 + d)).toNat = 48 + d := by
  simp [UInt8.toNat_ofNat']; omega
theorem dig_ofNat (d : Nat) (h : d < 10) : dig (UInt8.ofNat (48 + d)) = true := by
  unfold dig; rw [ofNat_toNat d h]; simp; omega
theorem dec_digs (n : Nat) : ∀ c ∈ dec n, dig c = true := by
  induction n using Nat.strongRecOn with
  | ind n ih =>
    intro c hc
    unfold dec at hc
    split at hc
    · rename_i h; rw [List.mem_singleton] at hc; subst hc; exact dig_ofNat n h
    · rcases List.mem_append.1 hc with h | h
      · exact ih _ (by omega) c h
      · rw [List.mem_singleton] at h; subst h; exact dig_ofNat _ (by omega)
theorem dec_pos (n : Nat) : 0 < (dec n).length := by
  unfold dec; split <;> simp
theorem dec_head (n : Nat) (h : 0 < n) : (dec n).getD 0 0 ≠ 48 := by
  induction n using Nat.strongRecOn with
  | ind n ih =>
    unfold dec
    split
    · rename_i h1
      show ¬ (UInt8.ofNat (48 + n) = 48)
      rw [u8_eq48, ofNat_toNat n h1]; omega
    · have h0 := dec_pos (n / 10)
      rw [getD_app _ _ _ _ h0]
      exact ih _ (by omega) (by omega)
theorem dec_zero : dec 0 = [48] := by unfold dec; rfl
theorem dec_len3 (n : Nat) (h : n < 1000) : (dec n).length ≤ 3 := by
  unfold dec; split
  · simp
  · unfold dec; split
    · simp
    · unfold dec; split
      · simp
      · omega
theorem numTo_append (a b : List UInt8) (k : Nat) (h : k ≤ a.length) : numTo (a ++ b) 0 k = numTo a 0 k := by
  induction k with
  | zero => rfl
  | succ k ih => unfold numTo; rw [ih (by omega), getD_app _ _ _ _ (by omega)]
theorem numTo_pre (a b : List UInt8) (k : Nat) : numTo (a ++ b) a.length k = numTo b 0 k := by
  induction k with
  | zero => rfl
  | succ k ih => unfold numTo; rw [ih, getD_app_right _ _ _ _ (by omega)]; simp
theorem numTo_dec (n : Nat) : numTo (dec n) 0 (dec n).length = n := by
  induction n using Nat.strongRecOn with
  | ind n ih =>
    unfold dec
    split
    · rename_i h
      show 10 * 0 + ((UInt8.ofNat (48 + n)).toNat - 48) = n
      rw [ofNat_toNat n h]; omega
    · rw [List.length_append, List.length_singleton]
      unfold numTo
      rw [numTo_append _ _ _ (by omega), ih _ (by omega), getD_app_right _ _ _ _ (by omega)]
      rw [Nat.zero_add, Nat.sub_self]
      show 10 * (n / 10) + ((UInt8.ofNat (48 + n % 10)).toNat - 48) = n
      rw [ofNat_toNat (n % 10) (by omega)]; omega

/-- The digits of a number, then no digit: Number reads it. -/
theorem numRes_dec {a b : List UInt8} {m n i : Nat} {ok : Bool} (hm : m < 1000) (hb : ∀ c, b.head? = some c → dig c = false) (h : NumRes (a ++ (dec m ++ b)) a.length n i ok) :
    n = m ∧ i = a.length + (dec m).length ∧ ok = true := by
  obtain ⟨k, hk, hl, hD, hs, h⟩ := h
  have hget : ∀ j, (a ++ (dec m ++ b)).getD (a.length + j) 0 = (dec m ++ b).getD j 0 := by
    intro j; rw [getD_app_right _ _ _ _ (by omega)]; congr 1; omega
  have hin : ∀ j, j < (dec m).length → dig ((dec m ++ b).getD j 0) = true := by
    intro j hj
    rw [getD_app _ _ _ _ hj, List.getD_eq_getElem?_getD, List.getElem?_eq_getElem hj]
    exact dec_digs m _ (List.getElem_mem _)
  have h3 := dec_len3 m hm
  have hout : (a ++ (dec m ++ b)).length = a.length + (dec m).length ∨ dig ((dec m ++ b).getD (dec m).length 0) = false := by
    rw [getD_app_right _ _ _ _ (by omega), Nat.sub_self]
    cases b with
    | nil => left; simp
    | cons c b => right; exact hb c rfl
  have hlen : a.length + (dec m).length ≤ (a ++ (dec m ++ b)).length := by simp
  have hkd : k = (dec m).length := by
    rcases Nat.lt_trichotomy k (dec m).length with hlt | heq | hgt
    · rcases hs with h9 | hend | hno
      · omega
      · omega
      · rw [hget] at hno; rw [hin k hlt] at hno; exact absurd hno (by simp)
    · exact heq
    · rcases hout with ho | ho
      · omega
      · have := hD _ hgt
        rw [hget, ho] at this; exact absurd this (by simp)
  have hp := dec_pos m
  rcases h with ⟨h1, h2, h3, -⟩ | ⟨-, -, -, hbad⟩
  · refine ⟨?_, by omega, h3⟩
    rw [h1, numTo_pre, hkd, numTo_append _ _ _ (Nat.le_refl _), numTo_dec]
  · exfalso
    rcases hbad with h0 | ⟨h48, h1⟩ | ⟨hlt, hd⟩
    · omega
    · have h0 := hget 0
      rw [Nat.add_zero] at h0
      rw [h0, getD_app _ _ _ _ hp] at h48
      by_cases hm0 : m = 0
      · subst hm0; rw [hkd, dec_zero] at h1; simp at h1
      · exact dec_head m (by omega) h48
    · rw [hkd, hget] at hd
      rcases hout with ho | ho
      · omega
      · rw [ho] at hd; exact absurd hd (by simp)
end Go.Proofs.YtljdjidpbblbbaaDoor
