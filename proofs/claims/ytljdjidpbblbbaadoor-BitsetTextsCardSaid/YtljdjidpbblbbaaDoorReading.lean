/- What reading a text from left to right knows at each step. -/
import Derived.Test.YtljdjidpbblbbaaDoorInj
namespace Go.Proofs.YtljdjidpbblbbaaDoor
set_option maxRecDepth 10000

/-- P2.6: what Parse returns. -/
def ParseR (text : List UInt8) (r : Int × List Nat × Int) : Prop :=
  (r.2.2 = 0 ∧ Bs.validB r.1 r.2.1 = true ∧ textB r.1 r.2.1 = text) ∨
  (r = (0, [], 4) ∧ ∀ W ws, Bs.validB W ws = true → (∀ x ∈ ws, x < Bs.W64) → textB W ws ≠ text)

/-- What stands before the k-th number. -/
def pre (l : List Int) (k : Nat) : List UInt8 := if k < l.length then bef l k else joinTo l k

theorem joinTo_more (l : List Int) (k : Nat) (h0 : 0 < k) (j : Nat) (h : k < j) : ∃ t, joinTo l j = joinTo l k ++ [44] ++ t := by
  induction j with
  | zero => omega
  | succ j ih =>
    rw [joinTo_succ]; unfold bef
    rw [if_pos (by omega)]
    by_cases hk : k = j
    · subst hk; exact ⟨_, rfl⟩
    · obtain ⟨t, ht⟩ := ih (by omega)
      exact ⟨t ++ [44] ++ dec (l.getD j 0).toNat, by rw [ht]; simp⟩
/-- The text after the k-th number. -/
theorem text_step (l : List Int) (W k : Nat) (h : k < l.length) :
    ∃ b, joinTo l l.length ++ [47] ++ dec W = pre l k ++ (dec (l.getD k 0).toNat ++ b) ∧
      ((k + 1 < l.length ∧ ∃ c, b = 44 :: c ∧ (pre l (k + 1)).length = (pre l k).length + (dec (l.getD k 0).toNat).length + 1) ∨
       (k + 1 = l.length ∧ b = 47 :: dec W ∧ (pre l (k + 1)).length = (pre l k).length + (dec (l.getD k 0).toNat).length)) := by
  have hp : pre l k = bef l k := by unfold pre; rw [if_pos h]
  by_cases h1 : k + 1 < l.length
  · obtain ⟨t, ht⟩ := joinTo_more l (k + 1) (by omega) l.length h1
    refine ⟨44 :: (t ++ [47] ++ dec W), ?_, .inl ⟨h1, _, rfl, ?_⟩⟩
    · rw [ht, joinTo_succ, hp]; simp
    · have : pre l (k + 1) = joinTo l (k + 1) ++ [44] := by unfold pre bef; rw [if_pos h1, if_pos (by omega)]
      rw [this, joinTo_succ, hp]; simp; omega
  · have hk : k + 1 = l.length := by omega
    refine ⟨47 :: dec W, ?_, .inr ⟨hk, rfl, ?_⟩⟩
    · rw [← hk, joinTo_succ, hp]; simp
    · have : pre l (k + 1) = joinTo l (k + 1) := by unfold pre; rw [if_neg h1]
      rw [this, joinTo_succ, hp]; simp
theorem text_end (l : List Int) (W : Nat) : joinTo l l.length ++ [47] ++ dec W = pre l l.length ++ (47 :: dec W) := by
  unfold pre; rw [if_neg (by omega)]; simp

/-- So much of every set that has this text was read. -/
def Reading (text : List UInt8) (L : List Int) (p : Nat) : Prop :=
  ∀ W ws, Bs.validB W ws = true → textB W ws = text → ∃ k, k ≤ (memsTo ws W.toNat).length ∧ L = (memsTo ws W.toNat).take k ∧ p = (pre (memsTo ws W.toNat) k).length

theorem reading_start (text : List UInt8) : Reading text [] 0 := by
  intro W ws h ht
  refine ⟨0, by omega, by simp, ?_⟩
  unfold pre bef; simp [joinTo]

theorem text_of {W : Int} {ws : List Nat} {text : List UInt8} (h : Bs.validB W ws = true) (ht : textB W ws = text) : text = joinTo (memsTo ws W.toNat) (memsTo ws W.toNat).length ++ [47] ++ dec W.toNat := by
  rw [← ht]; unfold textB; rw [if_pos h]
theorem memsTo_lt {W : Int} {ws : List Nat} (h : Bs.validB W ws = true) (k : Nat) (hk : k < (memsTo ws W.toNat).length) : ((memsTo ws W.toNat).getD k 0).toNat < 1000 := by
  have hm : (memsTo ws W.toNat).getD k 0 ∈ memsTo ws W.toNat := by
    rw [List.getD_eq_getElem?_getD, List.getElem?_eq_getElem hk]; exact List.getElem_mem _
  have := memsTo_range ws _ _ hm
  have := (Bs.validB_iff.1 h).2.1
  omega
theorem getD_mid (a : List UInt8) (c : UInt8) (b : List UInt8) : (a ++ c :: b).getD a.length 0 = c := by
  rw [getD_app_right _ _ _ _ (Nat.le_refl _), Nat.sub_self]; rfl

/-- A further number. -/
theorem reading_num {text : List UInt8} {L : List Int} {p n i : Nat} {ok : Bool} (h : Reading text L p) (hs : text.getD p 0 ≠ 47) (hn : NumRes text p n i ok) :
    ∀ W ws, Bs.validB W ws = true → textB W ws = text → ok = true ∧ ∃ k, k + 1 ≤ (memsTo ws W.toNat).length ∧ L ++ [(n : Int)] = (memsTo ws W.toNat).take (k + 1) ∧
      ((text.getD i 0 = 44 ∧ i < text.length ∧ i + 1 = (pre (memsTo ws W.toNat) (k + 1)).length) ∨ (text.getD i 0 ≠ 44 ∧ i = (pre (memsTo ws W.toNat) (k + 1)).length)) := by
  intro W ws hv ht
  obtain ⟨k, hk, hL, hp⟩ := h W ws hv ht
  have hx := text_of hv ht
  have hr := memsTo_lt hv k
  have hg := mems_getD ws W.toNat k
  generalize memsTo ws W.toNat = l at *
  by_cases hkl : k = l.length
  · exfalso
    subst hkl
    rw [text_end] at hx
    rw [hx, hp, getD_mid] at hs
    exact hs rfl
  · obtain ⟨b, hb, hc⟩ := text_step l W.toNat k (by omega)
    rw [hb] at hx
    have hnd : ∀ c, b.head? = some c → dig c = false := by
      rcases hc with ⟨-, c, rfl, -⟩ | ⟨-, rfl, -⟩
      · intro c hc; simp at hc; subst hc; decide
      · intro c hc; simp at hc; subst hc; decide
    rw [hx, hp] at hn
    obtain ⟨h1, h2, h3⟩ := numRes_dec (hr (by omega)) hnd hn
    have hi : text.getD i 0 = b.getD 0 0 := by
      rw [hx, h2, getD_app_right _ _ _ _ (by omega), getD_app_right _ _ _ _ (by omega)]; congr 1; omega
    refine ⟨h3, k, by omega, ?_, ?_⟩
    · have hlt : k < l.length := by omega
      rw [List.take_succ_eq_append_getElem hlt, ← hL]
      congr 2
      rw [List.getD_eq_getElem?_getD, List.getElem?_eq_getElem hlt] at hg h1
      simp at hg h1
      omega
    · rcases hc with ⟨-, c, rfl, hl⟩ | ⟨-, rfl, hl⟩
      · refine .inl ⟨hi, ?_, by omega⟩
        rw [hx, h2]; simp
      · refine .inr ⟨?_, by omega⟩
        rw [hi]; simp
theorem reading_bad {text : List UInt8} {L : List Int} {p n i : Nat} (h : Reading text L p) (hs : text.getD p 0 ≠ 47) (hn : NumRes text p n i false) : ParseR text (0, [], 4) := by
  refine .inr ⟨rfl, ?_⟩
  intro W ws hv _ ht
  exact absurd (reading_num h hs hn W ws hv ht).1 (by simp)
theorem reading_comma {text : List UInt8} {L : List Int} {p n i : Nat} {ok : Bool} (h : Reading text L p) (hs : text.getD p 0 ≠ 47) (hn : NumRes text p n i ok) (hc : text.getD i 0 = 44) : Reading text (L ++ [(n : Int)]) (i + 1) := by
  intro W ws hv ht
  obtain ⟨-, k, h1, h2, h3 | h3⟩ := reading_num h hs hn W ws hv ht
  · exact ⟨k + 1, h1, h2, h3.2.2⟩
  · exact absurd hc h3.1
theorem reading_next {text : List UInt8} {L : List Int} {p n i : Nat} {ok : Bool} (h : Reading text L p) (hs : text.getD p 0 ≠ 47) (hn : NumRes text p n i ok) (hc : text.getD i 0 ≠ 44 ∨ text.length ≤ i) : Reading text (L ++ [(n : Int)]) i := by
  intro W ws hv ht
  obtain ⟨-, k, h1, h2, h3 | h3⟩ := reading_num h hs hn W ws hv ht
  · rcases hc with hc | hc
    · exact absurd h3.1 hc
    · omega
  · exact ⟨k + 1, h1, h2, h3.2⟩
/-- At the slash, or at the end. -/
theorem reading_end {text : List UInt8} {L : List Int} {p n i : Nat} {ok : Bool} (h : Reading text L p) (hs : text.length ≤ p ∨ text.getD p 0 = 47) (hn : NumRes text (min (p + 1) text.length) n i ok) :
    ∀ W ws, Bs.validB W ws = true → textB W ws = text → L = memsTo ws W.toNat ∧ (n : Int) = W := by
  intro W ws hv ht
  obtain ⟨k, hk, hL, hp⟩ := h W ws hv ht
  have hx := text_of hv ht
  have hw := (Bs.validB_iff.1 hv)
  generalize memsTo ws W.toNat = l at *
  by_cases hkl : k = l.length
  · subst hkl
    rw [text_end] at hx
    have hx' : text = (pre l l.length ++ [47]) ++ (dec W.toNat ++ []) := by rw [hx]; simp
    have hm : min (p + 1) text.length = (pre l l.length ++ [47]).length := by rw [hx]; simp; omega
    rw [hm] at hn
    rw [hx'] at hn
    obtain ⟨h1, -, -⟩ := numRes_dec (by omega) (by simp) hn
    refine ⟨by rw [hL]; simp, by omega⟩
  · exfalso
    obtain ⟨b, hb, hc⟩ := text_step l W.toNat k (by omega)
    rw [hb] at hx
    have hd := dec_pos (l.getD k 0).toNat
    have hdd : dig ((dec (l.getD k 0).toNat).getD 0 0) = true := by
      rw [List.getD_eq_getElem?_getD, List.getElem?_eq_getElem hd]; exact dec_digs _ _ (List.getElem_mem _)
    rcases hs with hs | hs
    · rw [hx, hp] at hs; simp only [List.length_append] at hs; omega
    · rw [hx, hp, getD_app_right _ _ _ _ (Nat.le_refl _), Nat.sub_self, getD_app _ _ _ _ hd] at hs
      rw [hs] at hdd; exact absurd hdd (by decide)

theorem parse_unique {text : List UInt8} {r q : Int × List Nat × Int} (h : ParseR text r) (k : ParseR text q) (o1 : ∀ x ∈ r.2.1, x < Bs.W64) (o2 : ∀ x ∈ q.2.1, x < Bs.W64) : r = q := by
  rcases h with ⟨h1, h2, h3⟩ | ⟨rfl, h2⟩
  · rcases k with ⟨k1, k2, k3⟩ | ⟨rfl, k2⟩
    · obtain ⟨e1, e2⟩ := textB_inj h2 o1 k2 o2 (h3.trans k3.symm)
      exact Prod.ext e1 (Prod.ext e2 (h1.trans k1.symm))
    · exact absurd h3 (k2 _ _ h2 o1)
  · rcases k with ⟨k1, k2, k3⟩ | ⟨rfl, k2⟩
    · exact absurd k3 (h2 _ _ k2 o2)
    · rfl
/-- What the end of Parse decides. -/
theorem parse_last {text : List UInt8} {L : List Int} {p n i : Nat} {ok : Bool} (h : Reading text L p) (hs : text.length ≤ p ∨ text.getD p 0 = 47) (hn : NumRes text (min (p + 1) text.length) n i ok) :
    ((ofR n L).2.2 = 0 → textB (ofR n L).1 (ofR n L).2.1 = text → ParseR text (ofR n L)) ∧
    ((ofR n L).2.2 ≠ 0 ∨ textB (ofR n L).1 (ofR n L).2.1 ≠ text → ParseR text (0, [], 4)) := by
  refine ⟨fun h0 ht => .inl ⟨h0, (ofR_valid h0).1, ht⟩, fun hb => .inr ⟨rfl, ?_⟩⟩
  intro W ws hv ho ht
  obtain ⟨h1, h2⟩ := reading_end h hs hn W ws hv ht
  have := ofR_mems hv ho
  rw [h2, h1, this] at hb
  rcases hb with hb | hb
  · exact hb rfl
  · exact hb ht
end Go.Proofs.YtljdjidpbblbbaaDoor
