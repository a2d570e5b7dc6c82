/- The canonical form of a function: what it kills and copies, as the package makes it and as the reference does. -/
import Derived.Test.YtmbelhdkaepohaaCpt
import Derived.Test.YtmbelhdkaepohaaDaT
namespace Go.Proofs.Ytmbelhdkaepohaa
set_option maxRecDepth 20000
open Go.ChangeShapes Go.WideShapes Go.ChangeAt Go.RowKit

/-- Strictly ascending. -/
def Asc (l : List (Int × Int)) : Prop := l.Pairwise fun x y => beforeB x y = true
theorem asc_unique : ∀ {l m : List (Int × Int)}, Asc l → Asc m → (∀ x, x ∈ l ↔ x ∈ m) → l = m
  | [], [], _, _, _ => rfl
  | [], b :: m, _, _, h => by have := (h b).2 (by simp); simp at this
  | a :: l, [], _, _, h => by have := (h a).1 (by simp); simp at this
  | a :: l, b :: m, h1, h2, h => by
    obtain ⟨p1, q1⟩ := List.pairwise_cons.1 h1
    obtain ⟨p2, q2⟩ := List.pairwise_cons.1 h2
    have hab : a = b := by
      rcases List.mem_cons.1 ((h a).1 (by simp)) with e | e
      · exact e
      · rcases List.mem_cons.1 ((h b).2 (by simp)) with e' | e'
        · exact e'.symm
        · have := before_trans (p1 b e') (p2 a e)
          rw [before_irrefl] at this; cases this
    subst hab
    rw [asc_unique q1 q2 fun x => ?_]
    constructor
    · intro hx
      rcases List.mem_cons.1 ((h x).1 (List.mem_cons_of_mem _ hx)) with e | e
      · subst e; have := p1 x hx; rw [before_irrefl] at this; cases this
      · exact e
    · intro hx
      rcases List.mem_cons.1 ((h x).2 (List.mem_cons_of_mem _ hx)) with e | e
      · subst e; have := p2 x hx; rw [before_irrefl] at this; cases this
      · exact e

theorem cpt_inv (d : Array (Int × Int)) (hs : ∀ i j, i < j → j < d.size → beforeB d[j]! d[i]! = false) : ∀ m, m ≤ d.size →
    (∀ x, x ∈ Lib.compactUpTo d m ↔ ∃ j, j < m ∧ d[j]! = x) ∧ Asc (Lib.compactUpTo d m) ∧ (0 < m → ∀ x ∈ Lib.compactUpTo d m, x = d[m - 1]! ∨ beforeB x d[m - 1]! = true)
  | 0, _ => ⟨fun x => by simp [Lib.compactUpTo], by simp [Lib.compactUpTo, Asc], fun h => by omega⟩
  | m + 1, hm => by
    obtain ⟨i1, i2, i3⟩ := cpt_inv d hs m (by omega)
    rw [Lib.compactUpTo_succ]
    by_cases hk : Lib.keeps d m = true
    · rw [if_pos hk]
      have hlast : ∀ x ∈ Lib.compactUpTo d m, beforeB x d[m]! = true := by
        intro x hx
        by_cases h0 : m = 0
        · subst h0; simp [Lib.compactUpTo] at hx
        · have hne : d[m]! ≠ d[m - 1]! := by
            unfold Lib.keeps at hk
            simp only [decide_eq_true_eq] at hk
            exact hk.resolve_left h0
          have hlt : beforeB d[m - 1]! d[m]! = true := by
            cases hb : beforeB d[m - 1]! d[m]! with
            | true => rfl
            | false => exact absurd (before_not (hs (m - 1) m (by omega) (by omega)) hb) hne
          rcases i3 (by omega) x hx with e | e
          · rw [e]; exact hlt
          · exact before_trans e hlt
      refine ⟨fun x => ?_, ?_, fun _ x hx => ?_⟩
      · rw [List.mem_append, i1]
        constructor
        · rintro (⟨j, hj, e⟩ | h)
          · exact ⟨j, by omega, e⟩
          · simp at h; exact ⟨m, by omega, h.symm⟩
        · rintro ⟨j, hj, e⟩
          by_cases ej : j = m
          · subst ej; right; simp [e]
          · exact .inl ⟨j, by omega, e⟩
      · exact List.pairwise_append.2 ⟨i2, by simp, fun x hx y hy => by simp at hy; subst hy; exact hlast x hx⟩
      · rw [Nat.add_sub_cancel]
        rcases List.mem_append.1 hx with h | h
        · exact .inr (hlast x h)
        · simp at h; exact .inl h
    · rw [if_neg hk, List.append_nil]
      have h0 : m ≠ 0 := by
        intro e; subst e; exact hk (Lib.keeps_lt_one d 0 (by omega))
      have heq : d[m]! = d[m - 1]! := by
        unfold Lib.keeps at hk
        simp only [decide_eq_true_eq, not_or, Decidable.not_not] at hk
        exact hk.2
      refine ⟨fun x => ?_, i2, fun _ x hx => ?_⟩
      · rw [i1]
        constructor
        · rintro ⟨j, hj, e⟩; exact ⟨j, by omega, e⟩
        · rintro ⟨j, hj, e⟩
          by_cases ej : j = m
          · subst ej; exact ⟨j - 1, by omega, by rw [← heq]; exact e⟩
          · exact ⟨j, by omega, e⟩
      · rw [Nat.add_sub_cancel, heq]; exact i3 (by omega) x hx

/-- The copies in order, each once. -/
def ord (cs : List (Int × Int)) : List (Int × Int) := cpt (srt cs)
theorem ord_spec (cs : List (Int × Int)) : (∀ x, x ∈ ord cs ↔ x ∈ cs) ∧ Asc (ord cs) := by
  have h := cpt_inv (srt cs).toArray (fun i j hij hj => by
    have hj' : j < (srt cs).length := by simpa using hj
    have := List.pairwise_iff_getElem.1 (srt_sorted cs) i j (by omega) hj' hij
    rw [getElem!_pos (srt cs).toArray j (by simpa using hj'), getElem!_pos (srt cs).toArray i (by simp; omega)]
    simpa using this) (srt cs).length (by simp)
  refine ⟨fun x => ?_, h.2.1⟩
  unfold ord cpt
  rw [h.1]
  constructor
  · rintro ⟨j, hj, e⟩
    rw [getElem!_pos (srt cs).toArray j (by simpa using hj)] at e
    rw [← (srt_perm cs).mem_iff, ← e]
    simp
  · intro hx
    obtain ⟨j, hj, e⟩ := List.getElem_of_mem ((srt_perm cs).mem_iff.2 hx)
    refine ⟨j, hj, ?_⟩
    rw [getElem!_pos (srt cs).toArray j (by simpa using hj)]
    simpa using e

theorem mem_copsRow (zero : List Nat) (one : Nat → List Nat) (a : Nat) : ∀ b x, x ∈ copsRow zero one a b ↔ ∃ j, j < b ∧ copyB zero one a j = true ∧ x = ((a : Int), (j : Int))
  | 0, x => by simp [copsRow]
  | b + 1, x => by
    cases h : copyB zero one a b with
    | true =>
      rw [copsRow_yes h, List.mem_append, mem_copsRow zero one a b x]
      constructor
      · rintro (⟨j, h1, h2, h3⟩ | h1)
        · exact ⟨j, by omega, h2, h3⟩
        · simp at h1; exact ⟨b, by omega, h, h1⟩
      · rintro ⟨j, h1, h2, h3⟩
        by_cases e : j = b
        · subst e; right; simp [h3]
        · exact .inl ⟨j, by omega, h2, h3⟩
    | false =>
      rw [copsRow_no h, mem_copsRow zero one a b x]
      constructor
      · rintro ⟨j, h1, h2, h3⟩; exact ⟨j, by omega, h2, h3⟩
      · rintro ⟨j, h1, h2, h3⟩
        by_cases e : j = b
        · subst e; rw [h] at h2; cases h2
        · exact ⟨j, by omega, h2, h3⟩
theorem asc_copsRow (zero : List Nat) (one : Nat → List Nat) (a : Nat) : ∀ b, Asc (copsRow zero one a b)
  | 0 => by simp [copsRow, Asc]
  | b + 1 => by
    cases h : copyB zero one a b with
    | true =>
      rw [copsRow_yes h]
      refine List.pairwise_append.2 ⟨asc_copsRow zero one a b, by simp, fun x hx y hy => ?_⟩
      obtain ⟨j, h1, _, h3⟩ := (mem_copsRow zero one a b x).1 hx
      simp at hy; subst hy; subst h3
      unfold beforeB; simp; omega
    | false => rw [copsRow_no h]; exact asc_copsRow zero one a b
theorem mem_copsTo (zero : List Nat) (one : Nat → List Nat) (W : Nat) : ∀ a x, x ∈ copsTo zero one W a ↔ ∃ i j, i < a ∧ j < W ∧ copyB zero one i j = true ∧ x = ((i : Int), (j : Int))
  | 0, x => by simp [copsTo]
  | a + 1, x => by
    show x ∈ copsTo zero one W a ++ copsRow zero one a W ↔ _
    rw [List.mem_append, mem_copsTo zero one W a x, mem_copsRow]
    constructor
    · rintro (⟨i, j, h1, h2, h3, h4⟩ | ⟨j, h1, h2, h3⟩)
      · exact ⟨i, j, by omega, h2, h3, h4⟩
      · exact ⟨a, j, by omega, h1, h2, h3⟩
    · rintro ⟨i, j, h1, h2, h3, h4⟩
      by_cases e : i = a
      · subst e; exact .inr ⟨j, h2, h3, h4⟩
      · exact .inl ⟨i, j, by omega, h2, h3, h4⟩
theorem asc_copsTo (zero : List Nat) (one : Nat → List Nat) (W : Nat) : ∀ a, Asc (copsTo zero one W a)
  | 0 => by simp [copsTo, Asc]
  | a + 1 => by
    show Asc (copsTo zero one W a ++ copsRow zero one a W)
    refine List.pairwise_append.2 ⟨asc_copsTo zero one W a, asc_copsRow zero one a W, fun x hx y hy => ?_⟩
    obtain ⟨i, j, h1, _, _, h4⟩ := (mem_copsTo zero one W a x).1 hx
    obtain ⟨k, _, _, h5⟩ := (mem_copsRow zero one a W y).1 hy
    subst h4; subst h5
    unfold beforeB; simp; omega

/-- The copies that are kept: to another bit, which is not generated. -/
def restB (W : Int) (gs : List Nat) (p : Int × Int) : Bool := decide (p.1 ≠ p.2) && !Bs.hasB W gs p.2
/-- What is killed: not a bit that is copied to itself; and what is generated. -/
def killC (W : Nat) (gs ks : List Nat) (cs : List (Int × Int)) : List Nat := Bs.ofP W (fun i => (Bs.bit ks i && !decide (((i : Int), (i : Int)) ∈ cs)) || Bs.bit gs i) W
theorem canon_cops {W : Nat} (hW : W ≤ 256) {gs ks : List Nat} {cs : List (Int × Int)} (hg : Bs.Fit W gs) (hc : ∀ p ∈ cs, inW W p = true) :
    ord (cs.filter (restB W gs)) = copsTo gs (oneR gs (folB W ks cs) W) W W := by
  obtain ⟨m1, a1⟩ := ord_spec (cs.filter (restB W gs))
  refine asc_unique a1 (asc_copsTo _ _ _ _) fun x => ?_
  rw [m1, mem_copsTo, List.mem_filter]
  constructor
  · rintro ⟨h1, h2⟩
    have h3 := hc x h1
    obtain ⟨x1, x2⟩ := x
    unfold inW at h3
    simp at h3
    obtain ⟨i, rfl⟩ := Int.eq_ofNat_of_zero_le h3.1.1.1
    obtain ⟨j, rfl⟩ := Int.eq_ofNat_of_zero_le h3.1.2
    unfold restB at h2
    rw [Bs.hasB_nat hg hW] at h2
    simp at h2
    refine ⟨i, j, by omega, by omega, ?_, rfl⟩
    unfold copyB oneR
    rw [Bs.bit_ofP _ _ _ (Nat.le_refl _)]
    have hj : j < W := by omega
    have hne : i ≠ j := fun e => h2.1 (by rw [e])
    simp [hj, folB, h1, h2, hne]
  · rintro ⟨i, j, h1, h2, h3, rfl⟩
    unfold copyB oneR at h3
    rw [Bs.bit_ofP _ _ _ (Nat.le_refl _)] at h3
    have hne : (i : Int) ≠ (j : Int) := by
      simp at h3; omega
    simp [h2, folB, hne] at h3
    obtain ⟨⟨h4, h5⟩, h6⟩ := h3
    refine ⟨?_, ?_⟩
    · rcases h5 with h5 | h5
      · rw [h5] at h6; cases h6
      · exact h5
    · unfold restB
      rw [Bs.hasB_nat hg hW]
      simp [h6]; omega
theorem canon_kill {W : Nat} (hW : W ≤ 256) {gs ks : List Nat} {cs : List (Int × Int)} (hk : Bs.Fit W ks) : killC W gs ks cs = killTo gs (oneR gs (folB W ks cs) W) W W := by
  unfold killC killTo
  refine Bs.ofP_congr fun i hi => ?_
  unfold oneR folB
  rw [Bs.bit_ofP _ _ _ (Nat.le_refl _), Bs.hasB_nat hk hW]
  simp only [hi, decide_true, Bool.true_and]
  cases Bs.bit gs i <;> cases Bs.bit ks i <;> cases decide (((i : Int), (i : Int)) ∈ cs) <;> rfl
end Go.Proofs.Ytmbelhdkaepohaa
