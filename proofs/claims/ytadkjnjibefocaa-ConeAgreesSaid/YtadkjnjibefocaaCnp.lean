/- Cones as lists: the search, what it gives, closed sets. Pure facts. -/
import Derived.Test.YtadkjnjibefocaaGpu
namespace Go.Proofs.Ytadkjnjibefocaa
set_option maxRecDepth 20000
set_option linter.unusedVariables false

/-- The numbers of a list that are not there yet are put at the end. -/
def addNew (l : List Int) : List Int → List Int
  | [] => l
  | m :: d => addNew (if m ∈ l then l else l ++ [m]) d
theorem mem_addNew {l d : List Int} {x : Int} : x ∈ addNew l d ↔ x ∈ l ∨ x ∈ d := by
  induction d generalizing l with
  | nil => simp [addNew]
  | cons m d ih =>
    unfold addNew
    rw [ih]
    split <;> grind
theorem addNew_pre (l d : List Int) : ∃ t, addNew l d = l ++ t := by
  induction d generalizing l with
  | nil => exact ⟨[], by simp [addNew]⟩
  | cons m d ih =>
    unfold addNew
    obtain ⟨t, h⟩ := ih (if m ∈ l then l else l ++ [m])
    rw [h]
    split
    · exact ⟨t, rfl⟩
    · exact ⟨m :: t, by simp⟩
/-- Different numbers, all of them unknowns. -/
structure Cnk (N : Nat) (l : List Int) : Prop where
  nd : l.Nodup
  rg : ∀ x ∈ l, 0 ≤ x ∧ x < (N : Int)
theorem nodup_app {l : List Int} {m : Int} (h : l.Nodup) (hm : m ∉ l) : (l ++ [m]).Nodup := by
  rw [List.nodup_append]
  refine ⟨h, by simp, fun a ha b hb => ?_⟩
  rw [List.mem_singleton.1 hb]
  rintro rfl
  exact hm ha
theorem Cnk.one {N : Nat} {l : List Int} {m : Int} (h : Cnk N l) (h0 : 0 ≤ m) (h1 : m < N) (hm : m ∉ l) : Cnk N (l ++ [m]) :=
  ⟨nodup_app h.nd hm, fun x hx => by rcases List.mem_append.1 hx with hx | hx; exact h.rg x hx; rw [List.mem_singleton.1 hx]; exact ⟨h0, h1⟩⟩
theorem Cnk.add {N : Nat} {l d : List Int} (h : Cnk N l) (hd : ∀ x ∈ d, 0 ≤ x ∧ x < (N : Int)) : Cnk N (addNew l d) := by
  induction d generalizing l with
  | nil => exact h
  | cons m d ih =>
    unfold addNew
    refine ih ?_ fun x hx => hd x (List.mem_cons_of_mem _ hx)
    split
    · exact h
    · next hm => exact h.one (hd m List.mem_cons_self).1 (hd m List.mem_cons_self).2 hm
theorem nodup_le {N : Nat} : ∀ {l : List Int}, l.Nodup → (∀ x ∈ l, 0 ≤ x ∧ x < (N : Int)) → l.length ≤ N := by
  induction N with
  | zero =>
    intro l _ h
    cases l with
    | nil => simp
    | cons a l => have := h a List.mem_cons_self; omega
  | succ N ih =>
    intro l hn h
    by_cases hm : (N : Int) ∈ l
    · have h1 : (l.erase (N : Int)).Nodup := hn.erase _
      have h2 := ih h1 fun x hx => by
        have h3 := h x (List.mem_of_mem_erase hx)
        have h4 : x ≠ (N : Int) := fun e => by
          subst e
          exact ((List.Nodup.mem_erase_iff hn).1 hx).1 rfl
        omega
      rw [List.length_erase_of_mem hm] at h2
      omega
    · have h2 := ih hn fun x hx => by
        have h3 := h x hx
        have h4 : x ≠ (N : Int) := fun e => by subst e; exact hm hx
        omega
      omega
theorem Cnk.len {N : Nat} {l : List Int} (h : Cnk N l) : l.length ≤ N := nodup_le h.nd h.rg
/-- The search: l is what was found, the elements before k are done, c is the cost. -/
def coneR (D : List (List Int)) (lf : List Int) : Nat → List Int → Nat → Nat → List Int × Nat
  | 0, l, _, c => (l, c)
  | f + 1, l, k, c => match l[k]? with
    | none => (l, c)
    | some n => if n ∈ lf then coneR D lf f l (k + 1) (c + 1) else coneR D lf f (addNew l (rw0 D n.toNat)) (k + 1) (c + 1 + (rw0 D n.toNat).length)
def coneP (D : List (List Int)) (lf : List Int) (root : Int) : List Int × Nat := coneR D lf D.length [root] 0 0
theorem coneR_end {D : List (List Int)} {lf l : List Int} {f k c : Nat} (h : l.length ≤ k) : coneR D lf f l k c = (l, c) := by
  cases f with
  | zero => rfl
  | succ f => unfold coneR; rw [List.getElem?_eq_none h]
theorem coneR_leaf {D : List (List Int)} {lf l : List Int} {f k c : Nat} {n : Int} (h : l[k]? = some n) (hn : n ∈ lf) : coneR D lf (f + 1) l k c = coneR D lf f l (k + 1) (c + 1) := by
  conv => lhs; unfold coneR
  rw [h]; simp [hn]
theorem coneR_node {D : List (List Int)} {lf l : List Int} {f k c : Nat} {n : Int} (h : l[k]? = some n) (hn : n ∉ lf) : coneR D lf (f + 1) l k c = coneR D lf f (addNew l (rw0 D n.toNat)) (k + 1) (c + 1 + (rw0 D n.toNat).length) := by
  conv => lhs; unfold coneR
  rw [h]; simp [hn]
/-- A set that is closed: what its elements depend on is in it, but for leaves. -/
def closedP (D : List (List Int)) (lf S : List Int) : Prop := ∀ n ∈ S, n ∉ lf → ∀ m ∈ rw0 D n.toNat, m ∈ S
instance (D : List (List Int)) (lf S : List Int) : Decidable (closedP D lf S) := by unfold closedP; infer_instance
theorem coneR_keeps {D : List (List Int)} {lf : List Int} {N : Nat} (hD : ∀ l ∈ D, RisP N l) : ∀ (f : Nat) (l : List Int) (k c : Nat), Cnk N l → Cnk N (coneR D lf f l k c).1 ∧ ∃ t, (coneR D lf f l k c).1 = l ++ t := by
  intro f
  induction f with
  | zero => intro l k c h; exact ⟨h, [], by simp [coneR]⟩
  | succ f ih =>
    intro l k c h
    cases hk : l[k]? with
    | none => rw [coneR_end (List.getElem?_eq_none_iff.1 hk)]; exact ⟨h, [], by simp⟩
    | some n =>
      by_cases hn : n ∈ lf
      · rw [coneR_leaf hk hn]; exact ih _ _ _ h
      · rw [coneR_node hk hn]
        obtain ⟨h1, t, h2⟩ := ih (addNew l (rw0 D n.toNat)) (k + 1) (c + 1 + (rw0 D n.toNat).length) (h.add (rw0_ris hD _).2)
        obtain ⟨t', h3⟩ := addNew_pre l (rw0 D n.toNat)
        exact ⟨h1, t' ++ t, by rw [h2, h3, List.append_assoc]⟩
theorem coneR_closed {D : List (List Int)} {lf : List Int} {N : Nat} (hD : ∀ l ∈ D, RisP N l) : ∀ (f : Nat) (l : List Int) (k c : Nat), Cnk N l → N ≤ f + k → (∀ (i : Nat) (n : Int), i < k → l[i]? = some n → n ∉ lf → ∀ m ∈ rw0 D n.toNat, m ∈ l) → closedP D lf (coneR D lf f l k c).1 := by
  have fin : ∀ (l : List Int) (k : Nat), l.length ≤ k → (∀ (i : Nat) (n : Int), i < k → l[i]? = some n → n ∉ lf → ∀ m ∈ rw0 D n.toNat, m ∈ l) → closedP D lf l := fun l k hk h n hn hl m hm => by
    obtain ⟨i, hi⟩ := List.mem_iff_getElem?.1 hn
    have := (List.getElem?_eq_some_iff.1 hi).1
    exact h i n (by omega) hi hl m hm
  intro f
  induction f with
  | zero => intro l k c h hf hc; exact fin l k (by have := h.len; omega) hc
  | succ f ih =>
    intro l k c h hf hc
    cases hk : l[k]? with
    | none =>
      have := List.getElem?_eq_none_iff.1 hk
      rw [coneR_end this]; exact fin l k this hc
    | some n =>
      by_cases hn : n ∈ lf
      · rw [coneR_leaf hk hn]
        refine ih _ _ _ h (by omega) fun i x hi hx hl => ?_
        by_cases e : i = k
        · subst e; rw [hk] at hx; obtain rfl := Option.some.inj hx; exact absurd hn hl
        · exact hc i x (by omega) hx hl
      · rw [coneR_node hk hn]
        refine ih _ _ _ (h.add (rw0_ris hD _).2) (by omega) fun i x hi hx hl m hm => ?_
        have hkl := (List.getElem?_eq_some_iff.1 hk).1
        obtain ⟨t, ht⟩ := addNew_pre l (rw0 D n.toNat)
        rw [ht, List.getElem?_append_left (by omega)] at hx
        rw [mem_addNew]
        by_cases e : i = k
        · subst e; rw [hk] at hx; obtain rfl := Option.some.inj hx; exact .inr hm
        · exact .inl (hc i x (by omega) hx hl m hm)
theorem coneR_least {D : List (List Int)} {lf S : List Int} (hS : closedP D lf S) : ∀ (f : Nat) (l : List Int) (k c : Nat), (∀ x ∈ l, x ∈ S) → ∀ x ∈ (coneR D lf f l k c).1, x ∈ S := by
  intro f
  induction f with
  | zero => intro l k c h; exact h
  | succ f ih =>
    intro l k c h
    cases hk : l[k]? with
    | none => rw [coneR_end (List.getElem?_eq_none_iff.1 hk)]; exact h
    | some n =>
      by_cases hn : n ∈ lf
      · rw [coneR_leaf hk hn]; exact ih _ _ _ h
      · rw [coneR_node hk hn]
        refine ih _ _ _ fun x hx => ?_
        rcases mem_addNew.1 hx with hx | hx
        · exact h x hx
        · exact hS n (h n (List.mem_of_getElem? hk)) hn x hx
theorem coneR_cost {D : List (List Int)} {lf : List Int} {N : Nat} (hD : ∀ l ∈ D, RisP N l) : ∀ (f : Nat) (l : List Int) (k c : Nat), (coneR D lf f l k c).2 ≤ c + f * (N + 1) := by
  intro f
  induction f with
  | zero => intro l k c; simp [coneR]
  | succ f ih =>
    intro l k c
    have e : (f + 1) * (N + 1) = f * (N + 1) + (N + 1) := Nat.succ_mul _ _
    cases hk : l[k]? with
    | none => rw [coneR_end (List.getElem?_eq_none_iff.1 hk)]; simp
    | some n =>
      by_cases hn : n ∈ lf
      · rw [coneR_leaf hk hn]; have := ih l (k + 1) (c + 1); omega
      · rw [coneR_node hk hn]
        have h1 := ih (addNew l (rw0 D n.toNat)) (k + 1) (c + 1 + (rw0 D n.toNat).length)
        have h2 := ris_len (rw0_ris hD n.toNat)
        omega
/-- What the cone is. -/
structure IsCone (D : List (List Int)) (lf : List Int) (N : Nat) (root : Int) (l : List Int) : Prop where
  k : Cnk N l
  head : l[0]? = some root
  closed : closedP D lf l
  least : ∀ S, closedP D lf S → root ∈ S → ∀ x ∈ l, x ∈ S
theorem coneP_is {D : List (List Int)} {lf : List Int} {N : Nat} {root : Int} (hl : D.length = N) (hD : ∀ l ∈ D, RisP N l) (h0 : 0 ≤ root) (h1 : root < N) : IsCone D lf N root (coneP D lf root).1 := by
  have hc : Cnk N [root] := ⟨by simp, fun x hx => by rw [List.mem_singleton.1 hx]; exact ⟨h0, h1⟩⟩
  unfold coneP
  rw [hl]
  obtain ⟨a, t, b⟩ := coneR_keeps (lf := lf) hD N [root] 0 0 hc
  exact ⟨a, by rw [b]; rfl, coneR_closed hD N [root] 0 0 hc (by omega) fun i n hi => by omega, fun S hS hr => coneR_least hS N [root] 0 0 fun x hx => by rw [List.mem_singleton.1 hx]; exact hr⟩
theorem IsCone.root {D : List (List Int)} {lf : List Int} {N : Nat} {root : Int} {l : List Int} (h : IsCone D lf N root l) : root ∈ l := List.mem_of_getElem? h.head
/-- All are unknowns. -/
def inR (N : Nat) (l : List Int) : Bool := l.all fun x => decide (0 ≤ x ∧ x < (N : Int))
theorem inR_iff {N : Nat} {l : List Int} : inR N l = true ↔ ∀ x ∈ l, 0 ≤ x ∧ x < (N : Int) := by
  unfold inR; simp
/-- Which unknowns are in a list. -/
def mks (N : Nat) (l : List Int) : List Bool := (List.range N).map fun i : Nat => decide ((i : Int) ∈ l)
theorem mks_len (N : Nat) (l : List Int) : (mks N l).length = N := by unfold mks; simp
theorem mks_at {N : Nat} {l : List Int} {i : Nat} (h : i < N) : (mks N l)[i]? = some (decide ((i : Int) ∈ l)) := by
  unfold mks; rw [List.getElem?_map, List.getElem?_range h]; rfl
theorem mks_put {N : Nat} {l : List Int} {m : Nat} (h : m < N) : (mks N l).set m true = mks N (l ++ [(m : Int)]) := by
  apply List.ext_getElem?
  intro i
  by_cases hi : i < N
  · rw [mks_at hi]
    by_cases e : i = m
    · subst e; rw [List.getElem?_set_self (by rw [mks_len]; exact h)]; simp
    · rw [List.getElem?_set_ne (fun e' => e e'.symm), mks_at hi]
      congr 1
      apply decide_eq_decide.2
      simp only [List.mem_append, List.mem_singleton]
      constructor
      · exact .inl
      · rintro (h | h)
        · exact h
        · omega
  · rw [List.getElem?_eq_none (by rw [List.length_set, mks_len]; omega), List.getElem?_eq_none (by rw [mks_len]; omega)]
theorem mks_nil (N : Nat) : mks N [] = List.replicate N false := by
  unfold mks
  apply List.ext_getElem?
  intro i
  rw [List.getElem?_map, List.getElem?_replicate]
  by_cases hi : i < N
  · rw [List.getElem?_range hi, if_pos hi]; simp
  · rw [List.getElem?_eq_none (by simp; omega), if_neg hi]; rfl
end Go.Proofs.Ytadkjnjibefocaa
