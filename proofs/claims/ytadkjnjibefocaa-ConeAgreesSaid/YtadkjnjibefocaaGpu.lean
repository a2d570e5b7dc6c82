/- Graphs as lists of ascending lists of numbers: pure facts. -/
namespace Go.Proofs.Ytadkjnjibefocaa
set_option linter.unusedVariables false

/-- The numbers below N at which f holds, ascending. -/
def rowP (N : Nat) (f : Nat → Bool) : List Int := ((List.range N).filter f).map Int.ofNat
/-- Strictly ascending, with elements from 0 to N - 1. -/
def RisP (N : Nat) (l : List Int) : Prop := l.Pairwise (· < ·) ∧ ∀ x ∈ l, 0 ≤ x ∧ x < (N : Int)
theorem mem_rowP {N : Nat} {f : Nat → Bool} {x : Int} : x ∈ rowP N f ↔ ∃ k : Nat, k < N ∧ f k = true ∧ x = (k : Int) := by
  unfold rowP
  simp only [List.mem_map, List.mem_filter, List.mem_range]
  constructor
  · rintro ⟨k, ⟨h1, h2⟩, h3⟩; exact ⟨k, h1, h2, h3.symm⟩
  · rintro ⟨k, h1, h2, h3⟩; exact ⟨k, ⟨h1, h2⟩, h3.symm⟩
theorem mem_rowP_nat {N : Nat} {f : Nat → Bool} {k : Nat} : ((k : Int) ∈ rowP N f) ↔ k < N ∧ f k = true := by
  rw [mem_rowP]
  constructor
  · rintro ⟨j, h1, h2, h3⟩
    obtain rfl : k = j := by omega
    exact ⟨h1, h2⟩
  · rintro ⟨h1, h2⟩; exact ⟨k, h1, h2, rfl⟩
theorem rowP_ris (N : Nat) (f : Nat → Bool) : RisP N (rowP N f) := by
  refine ⟨?_, fun x hx => ?_⟩
  · unfold rowP
    rw [List.pairwise_map]
    have h : (List.range N).Pairwise (· < ·) := List.pairwise_lt_range
    exact (h.filter f).imp (fun h => Int.ofNat_lt.2 h)
  · obtain ⟨k, h1, _, rfl⟩ := mem_rowP.1 hx
    omega
theorem asc_extI : ∀ {l m : List Int}, l.Pairwise (· < ·) → m.Pairwise (· < ·) → (∀ x, x ∈ l ↔ x ∈ m) → l = m := by
  intro l
  induction l with
  | nil =>
    intro m _ _ h
    cases m with
    | nil => rfl
    | cons y m => exact absurd ((h y).2 (List.mem_cons_self ..)) (by simp)
  | cons x l ih =>
    intro m hl hm h
    cases m with
    | nil => exact absurd ((h x).1 (List.mem_cons_self ..)) (by simp)
    | cons y m =>
      rw [List.pairwise_cons] at hl hm
      have hxy : x = y := by
        rcases List.mem_cons.1 ((h x).1 (List.mem_cons_self ..)) with e | e
        · exact e
        · rcases List.mem_cons.1 ((h y).2 (List.mem_cons_self ..)) with e2 | e2
          · exact e2.symm
          · have := hm.1 x e; have := hl.1 y e2; omega
      subst hxy
      rw [ih hl.2 hm.2 (fun z => ?_)]
      constructor
      · intro hz
        rcases List.mem_cons.1 ((h z).1 (List.mem_cons_of_mem _ hz)) with e | e
        · subst e; have := hl.1 z hz; omega
        · exact e
      · intro hz
        rcases List.mem_cons.1 ((h z).2 (List.mem_cons_of_mem _ hz)) with e | e
        · subst e; have := hm.1 z hz; omega
        · exact e
theorem rowP_of {N : Nat} {l : List Int} (h : RisP N l) : l = rowP N (fun k => decide ((k : Int) ∈ l)) := by
  refine asc_extI h.1 (rowP_ris N _).1 fun x => ?_
  rw [mem_rowP]
  constructor
  · intro hx
    have := h.2 x hx
    exact ⟨x.toNat, by omega, by rw [show ((x.toNat : Nat) : Int) = x by omega]; simpa using hx, by omega⟩
  · rintro ⟨k, _, h2, rfl⟩
    simpa using h2
theorem ris_row {N : Nat} {l : List Int} {f : Nat → Bool} (h : RisP N l) (hm : ∀ k, k < N → ((k : Int) ∈ l ↔ f k = true)) : l = rowP N f := by
  refine asc_extI h.1 (rowP_ris N _).1 fun x => ?_
  rw [mem_rowP]
  constructor
  · intro hx
    have := h.2 x hx
    have hk : x.toNat < N := by omega
    have he : ((x.toNat : Nat) : Int) = x := by omega
    exact ⟨x.toNat, hk, (hm _ hk).1 (by rw [he]; exact hx), he.symm⟩
  · rintro ⟨k, h1, h2, rfl⟩
    exact (hm k h1).2 h2
theorem rowP_congr {N : Nat} {f g : Nat → Bool} (h : ∀ k, k < N → f k = g k) : rowP N f = rowP N g := by
  unfold rowP
  rw [List.filter_congr (fun k hk => h k (List.mem_range.1 hk))]
theorem rowP_len (N : Nat) (f : Nat → Bool) : (rowP N f).length ≤ N := by
  unfold rowP
  rw [List.length_map]
  exact Nat.le_trans (List.length_filter_le _ _) (by simp)
theorem ris_len {N : Nat} {l : List Int} (h : RisP N l) : l.length ≤ N := by rw [rowP_of h]; exact rowP_len _ _
theorem RisP.nil (N : Nat) : RisP N [] := ⟨List.Pairwise.nil, by simp⟩

/-- Insert a number into an ascending list. -/
def insI : List Int → Int → List Int
  | [], n => [n]
  | y :: l, n => if y < n then y :: insI l n else if y = n then y :: l else n :: y :: l
theorem mem_insI {l : List Int} {n x : Int} : x ∈ insI l n ↔ x = n ∨ x ∈ l := by
  induction l with
  | nil => simp [insI]
  | cons y l ih =>
    unfold insI
    split
    · rw [List.mem_cons, ih, List.mem_cons]; grind
    · split
      · next h => subst h; simp
      · simp
theorem insI_asc {l : List Int} {n : Int} (h : l.Pairwise (· < ·)) : (insI l n).Pairwise (· < ·) := by
  induction l with
  | nil => simp [insI]
  | cons y l ih =>
    rw [List.pairwise_cons] at h
    unfold insI
    split
    · next hlt =>
      rw [List.pairwise_cons]
      refine ⟨fun x hx => ?_, ih h.2⟩
      rcases mem_insI.1 hx with rfl | hx
      · exact hlt
      · exact h.1 x hx
    · split
      · exact List.pairwise_cons.2 h
      · next h1 h2 =>
        refine List.pairwise_cons.2 ⟨fun x hx => ?_, List.pairwise_cons.2 h⟩
        rcases List.mem_cons.1 hx with rfl | hx
        · omega
        · have := h.1 x hx; omega
theorem insI_ris {N : Nat} {l : List Int} {n : Int} (h : RisP N l) (h0 : 0 ≤ n) (h1 : n < N) : RisP N (insI l n) :=
  ⟨insI_asc h.1, fun x hx => by rcases mem_insI.1 hx with rfl | hx; exact ⟨h0, h1⟩; exact h.2 x hx⟩
theorem insI_mem {l : List Int} {n : Int} (h : l.Pairwise (· < ·)) (hn : n ∈ l) : insI l n = l :=
  asc_extI (insI_asc h) h fun x => by rw [mem_insI]; exact ⟨fun h => by rcases h with rfl | h; exact hn; exact h, .inr⟩
/-- The loop that looks for the place. -/
theorem insI_at {l : List Int} {n : Int} {i : Nat} (hi : i ≤ l.length) (h : ∀ x ∈ l.take i, x < n) : insI l n = l.take i ++ insI (l.drop i) n := by
  induction i generalizing l with
  | zero => simp
  | succ i ih =>
    cases l with
    | nil => simp at hi
    | cons y l =>
      have hy : y < n := h y (by simp)
      rw [List.take_succ_cons, List.drop_succ_cons, List.cons_append, ← ih (by simpa using hi) (fun x hx => h x (by simp [hx]))]
      conv => lhs; unfold insI
      rw [if_pos hy]
theorem insI_end {l : List Int} {n : Int} (h : ∀ x ∈ l, x < n) : insI l n = l ++ [n] := by
  rw [insI_at (Nat.le_refl l.length) (by simpa using h)]; simp [insI]
theorem insI_hit {l : List Int} {n : Int} {i : Nat} (h : ∀ x ∈ l.take i, x < n) (he : l[i]? = some n) : insI l n = l := by
  have hi : i < l.length := (List.getElem?_eq_some_iff.1 he).1
  have hd : l.drop i = n :: l.drop (i + 1) := by rw [List.drop_eq_getElem_cons hi]; congr 1; exact (List.getElem?_eq_some_iff.1 he).2
  rw [insI_at (by omega) h, hd]
  conv => lhs; rhs; unfold insI
  rw [if_neg (by omega), if_pos rfl, ← hd, List.take_append_drop]
theorem insI_put {l : List Int} {n y : Int} {i : Nat} (h : ∀ x ∈ l.take i, x < n) (he : l[i]? = some y) (hy : n < y) : insI l n = l.take i ++ n :: l.drop i := by
  have hi : i < l.length := (List.getElem?_eq_some_iff.1 he).1
  have hd : l.drop i = y :: l.drop (i + 1) := by rw [List.drop_eq_getElem_cons hi]; congr 1; exact (List.getElem?_eq_some_iff.1 he).2
  rw [insI_at (by omega) h, hd]
  conv => lhs; rhs; unfold insI
  rw [if_neg (by omega), if_neg (by omega)]

/-- Go's loop over a list that must ascend. -/
def ascG (N : Nat) : Int → List Int → Bool
  | _, [] => true
  | p, a :: l => if a ≤ p then false else if (N : Int) ≤ a then false else ascG N a l
theorem ascG_iff {N : Nat} {p : Int} {l : List Int} : ascG N p l = true ↔ l.Pairwise (· < ·) ∧ ∀ x ∈ l, p < x ∧ x < (N : Int) := by
  induction l generalizing p with
  | nil => simp [ascG]
  | cons a l ih =>
    unfold ascG
    split
    · next h =>
      constructor
      · intro h; cases h
      · rintro ⟨_, h2⟩; have := h2 a (by simp); omega
    · split
      · next h =>
        constructor
        · intro h; cases h
        · rintro ⟨_, h2⟩; have := h2 a (by simp); omega
      · next h1 h2 =>
        rw [ih, List.pairwise_cons]
        constructor
        · rintro ⟨h3, h4⟩
          refine ⟨⟨fun x hx => (h4 x hx).1, h3⟩, fun x hx => ?_⟩
          rcases List.mem_cons.1 hx with rfl | hx
          · omega
          · have := h4 x hx; omega
        · rintro ⟨⟨h3, h4⟩, h5⟩
          exact ⟨h4, fun x hx => ⟨h3 x hx, (h5 x (List.mem_cons_of_mem _ hx)).2⟩⟩
def risB (N : Nat) (l : List Int) : Bool := ascG N (-1) l
theorem risB_iff {N : Nat} {l : List Int} : risB N l = true ↔ RisP N l := by
  unfold risB RisP
  rw [ascG_iff]
  constructor <;> (rintro ⟨h1, h2⟩; exact ⟨h1, fun x hx => by have := h2 x hx; omega⟩)

/-- The row of a list of lists. -/
def rw0 (S : List (List Int)) (a : Nat) : List Int := S.getD a []
theorem rw0_at {S : List (List Int)} {a : Nat} {l : List Int} (h : S[a]? = some l) : rw0 S a = l := by unfold rw0; rw [List.getD_eq_getElem?_getD, h]; rfl
def tot (S : List (List Int)) : Nat := (S.map List.length).sum
/-- For each number those in whose rows it is. -/
def revL (N : Nat) (S : List (List Int)) : List (List Int) := (List.range N).map fun b : Nat => rowP N fun a => decide ((b : Int) ∈ rw0 S a)
theorem revL_len (N : Nat) (S : List (List Int)) : (revL N S).length = N := by unfold revL; simp
theorem revL_at {N : Nat} {S : List (List Int)} {b : Nat} (h : b < N) : (revL N S)[b]? = some (rowP N fun a => decide ((b : Int) ∈ rw0 S a)) := by
  unfold revL; rw [List.getElem?_map, List.getElem?_range h]; rfl
theorem revL_rw0 {N : Nat} {S : List (List Int)} {b : Nat} (h : b < N) : rw0 (revL N S) b = rowP N fun a => decide ((b : Int) ∈ rw0 S a) := rw0_at (revL_at h)
theorem revL_ris (N : Nat) (S : List (List Int)) : ∀ l ∈ revL N S, RisP N l := by
  intro l hl
  unfold revL at hl
  obtain ⟨b, _, rfl⟩ := List.mem_map.1 hl
  exact rowP_ris _ _
theorem lists_ext {N : Nat} {S T : List (List Int)} (h1 : S.length = N) (h2 : T.length = N) (h : ∀ a, a < N → rw0 S a = rw0 T a) : S = T := by
  apply List.ext_getElem?
  intro a
  by_cases ha : a < N
  · have := h a ha
    unfold rw0 at this
    rw [List.getD_eq_getElem?_getD, List.getD_eq_getElem?_getD, List.getElem?_eq_getElem (by omega), List.getElem?_eq_getElem (by omega)] at this
    rw [List.getElem?_eq_getElem (by omega), List.getElem?_eq_getElem (by omega)]
    simpa using this
  · rw [List.getElem?_eq_none (by omega), List.getElem?_eq_none (by omega)]
theorem rw0_ris {N : Nat} {S : List (List Int)} (h : ∀ l ∈ S, RisP N l) (a : Nat) : RisP N (rw0 S a) := by
  unfold rw0
  rw [List.getD_eq_getElem?_getD]
  cases h2 : S[a]? with
  | none => exact RisP.nil N
  | some l => exact h l (List.mem_of_getElem? h2)
theorem rev_rev {N : Nat} {S : List (List Int)} (hl : S.length = N) (h : ∀ l ∈ S, RisP N l) : revL N (revL N S) = S := by
  refine lists_ext (revL_len _ _) hl fun a ha => ?_
  rw [revL_rw0 ha]
  refine (ris_row (rw0_ris h a) fun b hb => ?_).symm
  rw [revL_rw0 hb, decide_eq_true_eq, mem_rowP_nat, decide_eq_true_eq]
  exact ⟨fun h => ⟨ha, h⟩, fun h => h.2⟩
/-- Sums of rows, by columns. -/
theorem filter_sum (N : Nat) (f : Nat → Bool) : ((List.range N).filter f).length = ((List.range N).map fun k => if f k then 1 else 0).sum := by
  induction N with
  | zero => rfl
  | succ N ih =>
    rw [List.range_succ, List.filter_append, List.length_append, ih, List.map_append, List.sum_append]
    congr 1
    cases h : f N <;> simp [h]
theorem sum_add (N : Nat) (f g : Nat → Nat) : ((List.range N).map fun k => f k + g k).sum = ((List.range N).map f).sum + ((List.range N).map g).sum := by
  induction N with
  | zero => rfl
  | succ N ih => simp only [List.range_succ, List.map_append, List.sum_append, ih, List.map_cons, List.map_nil, List.sum_cons, List.sum_nil]; omega
theorem sum_swap (M N : Nat) (f : Nat → Nat → Nat) : ((List.range M).map fun a => ((List.range N).map fun b => f a b).sum).sum = ((List.range N).map fun b => ((List.range M).map fun a => f a b).sum).sum := by
  induction M with
  | zero => simp only [List.range_zero, List.map_nil, List.sum_nil]; induction N with
    | zero => rfl
    | succ N ih => simp only [List.range_succ, List.map_append, List.sum_append, ← ih]; rfl
  | succ M ih =>
    simp only [List.range_succ, List.map_append, List.sum_append, List.map_cons, List.map_nil, List.sum_cons, List.sum_nil, Nat.add_zero]
    rw [ih, sum_add]
theorem list_range {S : List (List Int)} {N : Nat} (hl : S.length = N) : S = (List.range N).map (rw0 S) := by
  refine lists_ext hl (by simp) fun a ha => ?_
  unfold rw0
  rw [List.getD_eq_getElem?_getD (l := List.map _ _), List.getElem?_map, List.getElem?_range ha]
  rfl
theorem tot_rev {N : Nat} {S : List (List Int)} (hl : S.length = N) (h : ∀ l ∈ S, RisP N l) : tot (revL N S) = tot S := by
  have e1 : tot (revL N S) = ((List.range N).map fun b : Nat => ((List.range N).map fun a : Nat => if decide ((b : Int) ∈ rw0 S a) then 1 else 0).sum).sum := by
    unfold tot revL
    rw [List.map_map]
    congr 1
    refine List.map_congr_left fun b hb => ?_
    simp only [Function.comp]
    unfold rowP
    rw [List.length_map, filter_sum]
  have e2 : tot S = ((List.range N).map fun a : Nat => ((List.range N).map fun b : Nat => if decide ((b : Int) ∈ rw0 S a) then 1 else 0).sum).sum := by
    unfold tot
    conv => lhs; rw [list_range hl]
    rw [List.map_map]
    congr 1
    refine List.map_congr_left fun a ha => ?_
    simp only [Function.comp]
    conv => lhs; rw [rowP_of (rw0_ris h a)]
    unfold rowP
    rw [List.length_map, filter_sum]
  rw [e1, e2, sum_swap]

/-- A valid graph. -/
structure ValG (N : Nat) (S P : List (List Int)) : Prop where
  some : 1 ≤ N
  few : N ≤ 256
  slen : S.length = N
  plen : P.length = N
  ris : ∀ l ∈ S, RisP N l
  most : tot S ≤ 1024
  back : revL N S = P
def validB (N : Nat) (S P : List (List Int)) : Bool :=
  decide (1 ≤ N) && (decide (N ≤ 256) && (decide (S.length = N) && (decide (P.length = N) && (S.all (risB N) && (decide (tot S ≤ 1024) && decide (revL N S = P))))))
theorem validB_iff {N : Nat} {S P : List (List Int)} : validB N S P = true ↔ ValG N S P := by
  unfold validB
  simp only [Bool.and_eq_true, decide_eq_true_eq, List.all_eq_true, risB_iff]
  constructor
  · rintro ⟨a, b, c, d, e, f, g⟩; exact ⟨a, b, c, d, e, f, g⟩
  · rintro ⟨a, b, c, d, e, f, g⟩; exact ⟨a, b, c, d, e, f, g⟩
theorem ValG.rev {N : Nat} {S P : List (List Int)} (h : ValG N S P) : ValG N P S := by
  have hb := h.back
  subst hb
  exact ⟨h.some, h.few, h.plen, h.slen, revL_ris _ _, by rw [tot_rev h.slen h.ris]; exact h.most, rev_rev h.slen h.ris⟩
theorem ValG.tot {N : Nat} {S P : List (List Int)} (h : ValG N S P) : tot P = tot S := by
  have hb := h.back
  subst hb
  exact tot_rev h.slen h.ris
theorem ValG.iff {N : Nat} {S P : List (List Int)} (h : ValG N S P) {a b : Nat} (ha : a < N) (hb : b < N) : (b : Int) ∈ rw0 S a ↔ (a : Int) ∈ rw0 P b := by
  have e := h.back
  subst e
  rw [revL_rw0 hb, mem_rowP_nat, decide_eq_true_eq]
  exact ⟨fun h => ⟨ha, h⟩, fun h => h.2⟩
theorem ValG.pris {N : Nat} {S P : List (List Int)} (h : ValG N S P) : ∀ l ∈ P, RisP N l := by
  have e := h.back; subst e; exact revL_ris _ _
/-- Both ways of saying it. -/
theorem ValG.mk2 {N : Nat} {S P : List (List Int)} (h1 : 1 ≤ N) (h2 : N ≤ 256) (h3 : S.length = N) (h4 : P.length = N) (h5 : ∀ l ∈ S, RisP N l) (h6 : ∀ l ∈ P, RisP N l) (h7 : Go.Proofs.Ytadkjnjibefocaa.tot S ≤ 1024)
    (h8 : ∀ a b : Nat, a < N → b < N → ((b : Int) ∈ rw0 S a ↔ (a : Int) ∈ rw0 P b)) : ValG N S P := by
  refine ⟨h1, h2, h3, h4, h5, h7, lists_ext (revL_len _ _) h4 fun b hb => ?_⟩
  rw [revL_rw0 hb]
  refine (ris_row (rw0_ris h6 b) fun a ha => ?_).symm
  rw [decide_eq_true_eq]
  exact (h8 a b ha hb).symm

/-- Paths. -/
inductive Rch (S : List (List Int)) (F : List Int) : Nat → Prop
  | start {a : Nat} : (a : Int) ∈ F → Rch S F a
  | step {a b : Nat} : Rch S F a → (b : Int) ∈ rw0 S a → Rch S F b
open Classical in
noncomputable def rchL (N : Nat) (S : List (List Int)) (F : List Int) : List Int := rowP N fun k => decide (Rch S F k)
theorem rchL_ris (N : Nat) (S : List (List Int)) (F : List Int) : RisP N (rchL N S F) := rowP_ris _ _
theorem mem_rchL {N : Nat} {S : List (List Int)} {F : List Int} {k : Nat} : ((k : Int) ∈ rchL N S F) ↔ k < N ∧ Rch S F k := by
  unfold rchL; rw [mem_rowP_nat]; simp
/-- What is reached, is contained in every closed set. -/
theorem Rch.least {S : List (List Int)} {F : List Int} {C : Nat → Prop} (h1 : ∀ a : Nat, (a : Int) ∈ F → C a) (h2 : ∀ a b : Nat, C a → (b : Int) ∈ rw0 S a → C b) {k : Nat} (h : Rch S F k) : C k := by
  induction h with
  | start h => exact h1 _ h
  | step _ h ih => exact h2 _ _ ih h
/-- A closed list of reached numbers, sorted, is the list of all that are reached. -/
theorem rchL_of {N : Nat} {S : List (List Int)} {F l : List Int} (hr : RisP N l) (h1 : ∀ x ∈ F, x ∈ l) (h2 : ∀ a b : Nat, (a : Int) ∈ l → (b : Int) ∈ rw0 S a → (b : Int) ∈ l) (h3 : ∀ k : Nat, (k : Int) ∈ l → Rch S F k) : l = rchL N S F := by
  classical
  refine ris_row hr fun k hk => ?_
  constructor
  · intro h; simpa using h3 k h
  · intro h
    have h : Rch S F k := by simpa using h
    exact h.least (C := fun k => (k : Int) ∈ l) (fun a ha => h1 _ ha) h2
/-- Reaching is transitive. -/
theorem rch_twice {N : Nat} {S : List (List Int)} {F : List Int} (hS : ∀ l ∈ S, RisP N l) (hF : ∀ x ∈ F, 0 ≤ x ∧ x < (N : Int)) : rchL N S (rchL N S F) = rchL N S F := by
  refine (rchL_of (rchL_ris N S F) (fun x hx => hx) (fun a b ha hb => ?_) (fun k hk => .start hk)).symm
  rw [mem_rchL] at ha ⊢
  have := (rw0_ris hS a).2 _ hb
  exact ⟨by omega, .step ha.2 hb⟩
theorem Rch.one {S : List (List Int)} {a b : Nat} (h : Rch S [(a : Int)] b) : ∀ {c : Nat}, Rch S [(b : Int)] c → Rch S [(a : Int)] c := by
  intro c hc
  refine hc.least (C := fun k => Rch S [(a : Int)] k) (fun x hx => ?_) (fun x y hx hy => .step hx hy)
  simp at hx
  obtain rfl : x = b := by omega
  exact h
theorem Rch.back {N : Nat} {S P : List (List Int)} (h : ValG N S P) {a b : Nat} (ha : a < N) (hr : Rch S [(a : Int)] b) : b < N ∧ Rch P [(b : Int)] a := by
  have : ∀ k : Nat, Rch S [(a : Int)] k → k < N ∧ Rch P [(k : Int)] a := by
    intro k hk
    refine hk.least (C := fun k => k < N ∧ Rch P [(k : Int)] a) (fun x hx => ?_) (fun x y hx hy => ?_)
    · simp at hx
      obtain rfl : x = a := by omega
      exact ⟨ha, .start (by simp)⟩
    · have hyN : y < N := by have := (rw0_ris h.ris x).2 _ hy; omega
      refine ⟨hyN, Rch.one (b := x) (.step (.start (by simp)) ((h.iff hx.1 hyN).1 hy)) hx.2⟩
  exact this b hr
theorem rch_back {N : Nat} {S P : List (List Int)} (h : ValG N S P) {a b : Nat} (ha : a < N) (hb : b < N) : ((b : Int) ∈ rchL N S [(a : Int)]) ↔ ((a : Int) ∈ rchL N P [(b : Int)]) := by
  rw [mem_rchL, mem_rchL]
  exact ⟨fun x => ⟨ha, (Rch.back h ha x.2).2⟩, fun x => ⟨hb, (Rch.back h.rev hb x.2).2⟩⟩
end Go.Proofs.Ytadkjnjibefocaa
