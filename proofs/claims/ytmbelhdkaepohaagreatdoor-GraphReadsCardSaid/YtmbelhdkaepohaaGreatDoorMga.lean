/- Texts that the proof leans on, merged. -/
import Derived.Test.YtmbelhdkaepohaaGreatDoorNdd
import Derived.Deep.QuietTactic
import Derived.BigQuiet
import Derived.Deep.DeepMust
import Derived.Deep.RegionHeld3
import Derived.Deep.DeepCutAuto
import Derived.Deep.RegionLaw
import Derived.Lib.LazyBuf
import Derived.Shelf.Small.Bits
import Derived.Shelf.Strconv.Itoa0
import Derived.Shelf.Sort.Plain
import Derived.Ground.Names2Prog
import Derived.Shelf.Slices.CompactI
import Derived.Shelf.Slices.In.SortNone
import Derived.Test.YtmbelhdkaepohaaGreatDoorProg
namespace Go.Proofs.YtmbelhdkaepohaaGreatDoor
set_option linter.unusedVariables false

/-- The numbers below N at which f holds, ascending. -/
def rowP (N : Nat) (f : Nat → Bool) : List Int := ((List.range N).filter f).map Int.ofNat
/-- Strictly ascending, with elements from 0 to N - 1. -/
def RisP (N : Nat) (l : List Int) : Prop := l.Pairwise (· < ·) ∧ ∀ x ∈ l, 0 ≤ x ∧ x < (N : Int)
theorem mem_rowP {N : Nat} {f : Nat → Bool} {x : Int} : x ∈ rowP N f ↔ ∃ k : Nat, k < N ∧ f k = true ∧ x = (k : Int) := by
  unfold rowP
  simp only [List.mem_map, List.mem_filter, List.mem_range]
  constructor
  · rintro ⟨k, ⟨h1, h2⟩, h3⟩; exact ⟨k, h1, h2, h3.symm⟩
  · rintro ⟨k, h1, h2, h3⟩; exact ⟨k, ⟨h1, h2⟩, h3.symm⟩
theorem mem_rowP_nat {N : Nat} {f : Nat → Bool} {k : Nat} : ((k : Int) ∈ rowP N f) ↔ k < N ∧ f k = true := by
  rw [mem_rowP]
  constructor
  · rintro ⟨j, h1, h2, h3⟩
    obtain rfl : k = j := by omega
    exact ⟨h1, h2⟩
  · rintro ⟨h1, h2⟩; exact ⟨k, h1, h2, rfl⟩
theorem rowP_ris (N : Nat) (f : Nat → Bool) : RisP N (rowP N f) := by
  refine ⟨?_, fun x hx => ?_⟩
  · unfold rowP
    rw [List.pairwise_map]
    have h : (List.range N).Pairwise (· < ·) := List.pairwise_lt_range
    exact (h.filter f).imp (fun h => Int.ofNat_lt.2 h)
  · obtain ⟨k, h1, _, rfl⟩ := mem_rowP.1 hx
    omega
theorem asc_ext : ∀ {l m : List Int}, l.Pairwise (· < ·) → m.Pairwise (· < ·) → (∀ x, x ∈ l ↔ x ∈ m) → l = m := by
  intro l
  induction l with
  | nil =>
    intro m _ _ h
    cases m with
    | nil => rfl
    | cons y m => exact absurd ((h y).2 (List.mem_cons_self ..)) (by simp)
  | cons x l ih =>
    intro m hl hm h
    cases m with
    | nil => exact absurd ((h x).1 (List.mem_cons_self ..)) (by simp)
    | cons y m =>
      rw [List.pairwise_cons] at hl hm
      have hxy : x = y := by
        rcases List.mem_cons.1 ((h x).1 (List.mem_cons_self ..)) with e | e
        · exact e
        · rcases List.mem_cons.1 ((h y).2 (List.mem_cons_self ..)) with e2 | e2
          · exact e2.symm
          · have := hm.1 x e; have := hl.1 y e2; omega
      subst hxy
      rw [ih hl.2 hm.2 (fun z => ?_)]
      constructor
      · intro hz
        rcases List.mem_cons.1 ((h z).1 (List.mem_cons_of_mem _ hz)) with e | e
        · subst e; have := hl.1 z hz; omega
        · exact e
      · intro hz
        rcases List.mem_cons.1 ((h z).2 (List.mem_cons_of_mem _ hz)) with e | e
        · subst e; have := hm.1 z hz; omega
        · exact e
theorem rowP_of {N : Nat} {l : List Int} (h : RisP N l) : l = rowP N (fun k => decide ((k : Int) ∈ l)) := by
  refine asc_ext h.1 (rowP_ris N _).1 fun x => ?_
  rw [mem_rowP]
  constructor
  · intro hx
    have := h.2 x hx
    exact ⟨x.toNat, by omega, by rw [show ((x.toNat : Nat) : Int) = x by omega]; simpa using hx, by omega⟩
  · rintro ⟨k, _, h2, rfl⟩
    simpa using h2
theorem ris_row {N : Nat} {l : List Int} {f : Nat → Bool} (h : RisP N l) (hm : ∀ k, k < N → ((k : Int) ∈ l ↔ f k = true)) : l = rowP N f := by
  refine asc_ext h.1 (rowP_ris N _).1 fun x => ?_
  rw [mem_rowP]
  constructor
  · intro hx
    have := h.2 x hx
    have hk : x.toNat < N := by omega
    have he : ((x.toNat : Nat) : Int) = x := by omega
    exact ⟨x.toNat, hk, (hm _ hk).1 (by rw [he]; exact hx), he.symm⟩
  · rintro ⟨k, h1, h2, rfl⟩
    exact (hm k h1).2 h2
theorem rowP_congr {N : Nat} {f g : Nat → Bool} (h : ∀ k, k < N → f k = g k) : rowP N f = rowP N g := by
  unfold rowP
  rw [List.filter_congr (fun k hk => h k (List.mem_range.1 hk))]
theorem rowP_len (N : Nat) (f : Nat → Bool) : (rowP N f).length ≤ N := by
  unfold rowP
  rw [List.length_map]
  exact Nat.le_trans (List.length_filter_le _ _) (by simp)
theorem ris_len {N : Nat} {l : List Int} (h : RisP N l) : l.length ≤ N := by rw [rowP_of h]; exact rowP_len _ _
theorem RisP.nil (N : Nat) : RisP N [] := ⟨List.Pairwise.nil, by simp⟩

/-- Insert a number into an ascending list. -/
def insI : List Int → Int → List Int
  | [], n => [n]
  | y :: l, n => if y < n then y :: insI l n else if y = n then y :: l else n :: y :: l
theorem mem_insI {l : List Int} {n x : Int} : x ∈ insI l n ↔ x = n ∨ x ∈ l := by
  induction l with
  | nil => simp [insI]
  | cons y l ih =>
    unfold insI
    split
    · rw [List.mem_cons, ih, List.mem_cons]; grind
    · split
      · next h => subst h; simp
      · simp
theorem insI_asc {l : List Int} {n : Int} (h : l.Pairwise (· < ·)) : (insI l n).Pairwise (· < ·) := by
  induction l with
  | nil => simp [insI]
  | cons y l ih =>
    rw [List.pairwise_cons] at h
    unfold insI
    split
    · next hlt =>
      rw [List.pairwise_cons]
      refine ⟨fun x hx => ?_, ih h.2⟩
      rcases mem_insI.1 hx with rfl | hx
      · exact hlt
      · exact h.1 x hx
    · split
      · exact List.pairwise_cons.2 h
      · next h1 h2 =>
        refine List.pairwise_cons.2 ⟨fun x hx => ?_, List.pairwise_cons.2 h⟩
        rcases List.mem_cons.1 hx with rfl | hx
        · omega
        · have := h.1 x hx; omega
theorem insI_ris {N : Nat} {l : List Int} {n : Int} (h : RisP N l) (h0 : 0 ≤ n) (h1 : n < N) : RisP N (insI l n) :=
  ⟨insI_asc h.1, fun x hx => by rcases mem_insI.1 hx with rfl | hx; exact ⟨h0, h1⟩; exact h.2 x hx⟩
theorem insI_mem {l : List Int} {n : Int} (h : l.Pairwise (· < ·)) (hn : n ∈ l) : insI l n = l :=
  asc_ext (insI_asc h) h fun x => by rw [mem_insI]; exact ⟨fun h => by rcases h with rfl | h; exact hn; exact h, .inr⟩
/-- The loop that looks for the place. -/
theorem insI_at {l : List Int} {n : Int} {i : Nat} (hi : i ≤ l.length) (h : ∀ x ∈ l.take i, x < n) : insI l n = l.take i ++ insI (l.drop i) n := by
  induction i generalizing l with
  | zero => simp
  | succ i ih =>
    cases l with
    | nil => simp at hi
    | cons y l =>
      have hy : y < n := h y (by simp)
      rw [List.take_succ_cons, List.drop_succ_cons, List.cons_append, ← ih (by simpa using hi) (fun x hx => h x (by simp [hx]))]
      conv => lhs; unfold insI
      rw [if_pos hy]
theorem insI_end {l : List Int} {n : Int} (h : ∀ x ∈ l, x < n) : insI l n = l ++ [n] := by
  rw [insI_at (Nat.le_refl l.length) (by simpa using h)]; simp [insI]
theorem insI_hit {l : List Int} {n : Int} {i : Nat} (h : ∀ x ∈ l.take i, x < n) (he : l[i]? = some n) : insI l n = l := by
  have hi : i < l.length := (List.getElem?_eq_some_iff.1 he).1
  have hd : l.drop i = n :: l.drop (i + 1) := by rw [List.drop_eq_getElem_cons hi]; congr 1; exact (List.getElem?_eq_some_iff.1 he).2
  rw [insI_at (by omega) h, hd]
  conv => lhs; rhs; unfold insI
  rw [if_neg (by omega), if_pos rfl, ← hd, List.take_append_drop]
theorem insI_put {l : List Int} {n y : Int} {i : Nat} (h : ∀ x ∈ l.take i, x < n) (he : l[i]? = some y) (hy : n < y) : insI l n = l.take i ++ n :: l.drop i := by
  have hi : i < l.length := (List.getElem?_eq_some_iff.1 he).1
  have hd : l.drop i = y :: l.drop (i + 1) := by rw [List.drop_eq_getElem_cons hi]; congr 1; exact (List.getElem?_eq_some_iff.1 he).2
  rw [insI_at (by omega) h, hd]
  conv => lhs; rhs; unfold insI
  rw [if_neg (by omega), if_neg (by omega)]

/-- Go's loop over a list that must ascend. -/
def ascG (N : Nat) : Int → List Int → Bool
  | _, [] => true
  | p, a :: l => if a ≤ p then false else if (N : Int) ≤ a then false else ascG N a l
theorem ascG_iff {N : Nat} {p : Int} {l : List Int} : ascG N p l = true ↔ l.Pairwise (· < ·) ∧ ∀ x ∈ l, p < x ∧ x < (N : Int) := by
  induction l generalizing p with
  | nil => simp [ascG]
  | cons a l ih =>
    unfold ascG
    split
    · next h =>
      constructor
      · intro h; cases h
      · rintro ⟨_, h2⟩; have := h2 a (by simp); omega
    · split
      · next h =>
        constructor
        · intro h; cases h
        · rintro ⟨_, h2⟩; have := h2 a (by simp); omega
      · next h1 h2 =>
        rw [ih, List.pairwise_cons]
        constructor
        · rintro ⟨h3, h4⟩
          refine ⟨⟨fun x hx => (h4 x hx).1, h3⟩, fun x hx => ?_⟩
          rcases List.mem_cons.1 hx with rfl | hx
          · omega
          · have := h4 x hx; omega
        · rintro ⟨⟨h3, h4⟩, h5⟩
          exact ⟨h4, fun x hx => ⟨h3 x hx, (h5 x (List.mem_cons_of_mem _ hx)).2⟩⟩
def risB (N : Nat) (l : List Int) : Bool := ascG N (-1) l
theorem risB_iff {N : Nat} {l : List Int} : risB N l = true ↔ RisP N l := by
  unfold risB RisP
  rw [ascG_iff]
  constructor <;> (rintro ⟨h1, h2⟩; exact ⟨h1, fun x hx => by have := h2 x hx; omega⟩)

/-- The row of a list of lists. -/
def rw0 (S : List (List Int)) (a : Nat) : List Int := S.getD a []
theorem rw0_at {S : List (List Int)} {a : Nat} {l : List Int} (h : S[a]? = some l) : rw0 S a = l := by unfold rw0; rw [List.getD_eq_getElem?_getD, h]; rfl
def tot (S : List (List Int)) : Nat := (S.map List.length).sum
/-- For each number those in whose rows it is. -/
def revL (N : Nat) (S : List (List Int)) : List (List Int) := (List.range N).map fun b : Nat => rowP N fun a => decide ((b : Int) ∈ rw0 S a)
theorem revL_len (N : Nat) (S : List (List Int)) : (revL N S).length = N := by unfold revL; simp
theorem revL_at {N : Nat} {S : List (List Int)} {b : Nat} (h : b < N) : (revL N S)[b]? = some (rowP N fun a => decide ((b : Int) ∈ rw0 S a)) := by
  unfold revL; rw [List.getElem?_map, List.getElem?_range h]; rfl
theorem revL_rw0 {N : Nat} {S : List (List Int)} {b : Nat} (h : b < N) : rw0 (revL N S) b = rowP N fun a => decide ((b : Int) ∈ rw0 S a) := rw0_at (revL_at h)
theorem revL_ris (N : Nat) (S : List (List Int)) : ∀ l ∈ revL N S, RisP N l := by
  intro l hl
  unfold revL at hl
  obtain ⟨b, _, rfl⟩ := List.mem_map.1 hl
  exact rowP_ris _ _
theorem lists_ext {N : Nat} {S T : List (List Int)} (h1 : S.length = N) (h2 : T.length = N) (h : ∀ a, a < N → rw0 S a = rw0 T a) : S = T := by
  apply List.ext_getElem?
  intro a
  by_cases ha : a < N
  · have := h a ha
    unfold rw0 at this
    rw [List.getD_eq_getElem?_getD, List.getD_eq_getElem?_getD, List.getElem?_eq_getElem (by omega), List.getElem?_eq_getElem (by omega)] at this
    rw [List.getElem?_eq_getElem (by omega), List.getElem?_eq_getElem (by omega)]
    simpa using this
  · rw [List.getElem?_eq_none (by omega), List.getElem?_eq_none (by omega)]
theorem rw0_ris {N : Nat} {S : List (List Int)} (h : ∀ l ∈ S, RisP N l) (a : Nat) : RisP N (rw0 S a) := by
  unfold rw0
  rw [List.getD_eq_getElem?_getD]
  cases h2 : S[a]? with
  | none => exact RisP.nil N
  | some l => exact h l (List.mem_of_getElem? h2)
theorem rev_rev {N : Nat} {S : List (List Int)} (hl : S.length = N) (h : ∀ l ∈ S, RisP N l) : revL N (revL N S) = S := by
  refine lists_ext (revL_len _ _) hl fun a ha => ?_
  rw [revL_rw0 ha]
  refine (ris_row (rw0_ris h a) fun b hb => ?_).symm
  rw [revL_rw0 hb, decide_eq_true_eq, mem_rowP_nat, decide_eq_true_eq]
  exact ⟨fun h => ⟨ha, h⟩, fun h => h.2⟩
/-- Sums of rows, by columns. -/
theorem filter_sum (N : Nat) (f : Nat → Bool) : ((List.range N).filter f).length = ((List.range N).map fun k => if f k then 1 else 0).sum := by
  induction N with
  | zero => rfl
  | succ N ih =>
    rw [List.range_succ, List.filter_append, List.length_append, ih, List.map_append, List.sum_append]
    congr 1
    cases h : f N <;> simp [h]
theorem sum_add (N : Nat) (f g : Nat → Nat) : ((List.range N).map fun k => f k + g k).sum = ((List.range N).map f).sum + ((List.range N).map g).sum := by
  induction N with
  | zero => rfl
  | succ N ih => simp only [List.range_succ, List.map_append, List.sum_append, ih, List.map_cons, List.map_nil, List.sum_cons, List.sum_nil]; omega
theorem sum_swap (M N : Nat) (f : Nat → Nat → Nat) : ((List.range M).map fun a => ((List.range N).map fun b => f a b).sum).sum = ((List.range N).map fun b => ((List.range M).map fun a => f a b).sum).sum := by
  induction M with
  | zero => simp only [List.range_zero, List.map_nil, List.sum_nil]; induction N with
    | zero => rfl
    | succ N ih => simp only [List.range_succ, List.map_append, List.sum_append, ← ih]; rfl
  | succ M ih =>
    simp only [List.range_succ, List.map_append, List.sum_append, List.map_cons, List.map_nil, List.sum_cons, List.sum_nil, Nat.add_zero]
    rw [ih, sum_add]
theorem list_range {S : List (List Int)} {N : Nat} (hl : S.length = N) : S = (List.range N).map (rw0 S) := by
  refine lists_ext hl (by simp) fun a ha => ?_
  unfold rw0
  rw [List.getD_eq_getElem?_getD (l := List.map _ _), List.getElem?_map, List.getElem?_range ha]
  rfl
theorem tot_rev {N : Nat} {S : List (List Int)} (hl : S.length = N) (h : ∀ l ∈ S, RisP N l) : tot (revL N S) = tot S := by
  have e1 : tot (revL N S) = ((List.range N).map fun b : Nat => ((List.range N).map fun a : Nat => if decide ((b : Int) ∈ rw0 S a) then 1 else 0).sum).sum := by
    unfold tot revL
    rw [List.map_map]
    congr 1
    refine List.map_congr_left fun b hb => ?_
    simp only [Function.comp]
    unfold rowP
    rw [List.length_map, filter_sum]
  have e2 : tot S = ((List.range N).map fun a : Nat => ((List.range N).map fun b : Nat => if decide ((b : Int) ∈ rw0 S a) then 1 else 0).sum).sum := by
    unfold tot
    conv => lhs; rw [list_range hl]
    rw [List.map_map]
    congr 1
    refine List.map_congr_left fun a ha => ?_
    simp only [Function.comp]
    conv => lhs; rw [rowP_of (rw0_ris h a)]
    unfold rowP
    rw [List.length_map, filter_sum]
  rw [e1, e2, sum_swap]

/-- A valid graph. -/
structure ValG (N : Nat) (S P : List (List Int)) : Prop where
  some : 1 ≤ N
  few : N ≤ 256
  slen : S.length = N
  plen : P.length = N
  ris : ∀ l ∈ S, RisP N l
  most : tot S ≤ 1024
  back : revL N S = P
def validB (N : Nat) (S P : List (List Int)) : Bool :=
  decide (1 ≤ N) && (decide (N ≤ 256) && (decide (S.length = N) && (decide (P.length = N) && (S.all (risB N) && (decide (tot S ≤ 1024) && decide (revL N S = P))))))
theorem validB_iff {N : Nat} {S P : List (List Int)} : validB N S P = true ↔ ValG N S P := by
  unfold validB
  simp only [Bool.and_eq_true, decide_eq_true_eq, List.all_eq_true, risB_iff]
  constructor
  · rintro ⟨a, b, c, d, e, f, g⟩; exact ⟨a, b, c, d, e, f, g⟩
  · rintro ⟨a, b, c, d, e, f, g⟩; exact ⟨a, b, c, d, e, f, g⟩
theorem ValG.rev {N : Nat} {S P : List (List Int)} (h : ValG N S P) : ValG N P S := by
  have hb := h.back
  subst hb
  exact ⟨h.some, h.few, h.plen, h.slen, revL_ris _ _, by rw [tot_rev h.slen h.ris]; exact h.most, rev_rev h.slen h.ris⟩
theorem ValG.tot {N : Nat} {S P : List (List Int)} (h : ValG N S P) : tot P = tot S := by
  have hb := h.back
  subst hb
  exact tot_rev h.slen h.ris
theorem ValG.iff {N : Nat} {S P : List (List Int)} (h : ValG N S P) {a b : Nat} (ha : a < N) (hb : b < N) : (b : Int) ∈ rw0 S a ↔ (a : Int) ∈ rw0 P b := by
  have e := h.back
  subst e
  rw [revL_rw0 hb, mem_rowP_nat, decide_eq_true_eq]
  exact ⟨fun h => ⟨ha, h⟩, fun h => h.2⟩
theorem ValG.pris {N : Nat} {S P : List (List Int)} (h : ValG N S P) : ∀ l ∈ P, RisP N l := by
  have e := h.back; subst e; exact revL_ris _ _
/-- Both ways of saying it. -/
theorem ValG.mk2 {N : Nat} {S P : List (List Int)} (h1 : 1 ≤ N) (h2 : N ≤ 256) (h3 : S.length = N) (h4 : P.length = N) (h5 : ∀ l ∈ S, RisP N l) (h6 : ∀ l ∈ P, RisP N l) (h7 : Go.Proofs.YtmbelhdkaepohaaGreatDoor.tot S ≤ 1024)
    (h8 : ∀ a b : Nat, a < N → b < N → ((b : Int) ∈ rw0 S a ↔ (a : Int) ∈ rw0 P b)) : ValG N S P := by
  refine ⟨h1, h2, h3, h4, h5, h7, lists_ext (revL_len _ _) h4 fun b hb => ?_⟩
  rw [revL_rw0 hb]
  refine (ris_row (rw0_ris h6 b) fun a ha => ?_).symm
  rw [decide_eq_true_eq]
  exact (h8 a b ha hb).symm

/-- Paths. -/
inductive Rch (S : List (List Int)) (F : List Int) : Nat → Prop
  | start {a : Nat} : (a : Int) ∈ F → Rch S F a
  | step {a b : Nat} : Rch S F a → (b : Int) ∈ rw0 S a → Rch S F b
open Classical in
noncomputable def rchL (N : Nat) (S : List (List Int)) (F : List Int) : List Int := rowP N fun k => decide (Rch S F k)
theorem rchL_ris (N : Nat) (S : List (List Int)) (F : List Int) : RisP N (rchL N S F) := rowP_ris _ _
theorem mem_rchL {N : Nat} {S : List (List Int)} {F : List Int} {k : Nat} : ((k : Int) ∈ rchL N S F) ↔ k < N ∧ Rch S F k := by
  unfold rchL; rw [mem_rowP_nat]; simp
/-- What is reached, is contained in every closed set. -/
theorem Rch.least {S : List (List Int)} {F : List Int} {C : Nat → Prop} (h1 : ∀ a : Nat, (a : Int) ∈ F → C a) (h2 : ∀ a b : Nat, C a → (b : Int) ∈ rw0 S a → C b) {k : Nat} (h : Rch S F k) : C k := by
  induction h with
  | start h => exact h1 _ h
  | step _ h ih => exact h2 _ _ ih h
/-- A closed list of reached numbers, sorted, is the list of all that are reached. -/
theorem rchL_of {N : Nat} {S : List (List Int)} {F l : List Int} (hr : RisP N l) (h1 : ∀ x ∈ F, x ∈ l) (h2 : ∀ a b : Nat, (a : Int) ∈ l → (b : Int) ∈ rw0 S a → (b : Int) ∈ l) (h3 : ∀ k : Nat, (k : Int) ∈ l → Rch S F k) : l = rchL N S F := by
  classical
  refine ris_row hr fun k hk => ?_
  constructor
  · intro h; simpa using h3 k h
  · intro h
    have h : Rch S F k := by simpa using h
    exact h.least (C := fun k => (k : Int) ∈ l) (fun a ha => h1 _ ha) h2
/-- Reaching is transitive. -/
theorem rch_twice {N : Nat} {S : List (List Int)} {F : List Int} (hS : ∀ l ∈ S, RisP N l) (hF : ∀ x ∈ F, 0 ≤ x ∧ x < (N : Int)) : rchL N S (rchL N S F) = rchL N S F := by
  refine (rchL_of (rchL_ris N S F) (fun x hx => hx) (fun a b ha hb => ?_) (fun k hk => .start hk)).symm
  rw [mem_rchL] at ha ⊢
  have := (rw0_ris hS a).2 _ hb
  exact ⟨by omega, .step ha.2 hb⟩
theorem Rch.one {S : List (List Int)} {a b : Nat} (h : Rch S [(a : Int)] b) : ∀ {c : Nat}, Rch S [(b : Int)] c → Rch S [(a : Int)] c := by
  intro c hc
  refine hc.least (C := fun k => Rch S [(a : Int)] k) (fun x hx => ?_) (fun x y hx hy => .step hx hy)
  simp at hx
  obtain rfl : x = b := by omega
  exact h
theorem Rch.back {N : Nat} {S P : List (List Int)} (h : ValG N S P) {a b : Nat} (ha : a < N) (hr : Rch S [(a : Int)] b) : b < N ∧ Rch P [(b : Int)] a := by
  have : ∀ k : Nat, Rch S [(a : Int)] k → k < N ∧ Rch P [(k : Int)] a := by
    intro k hk
    refine hk.least (C := fun k => k < N ∧ Rch P [(k : Int)] a) (fun x hx => ?_) (fun x y hx hy => ?_)
    · simp at hx
      obtain rfl : x = a := by omega
      exact ⟨ha, .start (by simp)⟩
    · have hyN : y < N := by have := (rw0_ris h.ris x).2 _ hy; omega
      refine ⟨hyN, Rch.one (b := x) (.step (.start (by simp)) ((h.iff hx.1 hyN).1 hy)) hx.2⟩
  exact this b hr
theorem rch_back {N : Nat} {S P : List (List Int)} (h : ValG N S P) {a b : Nat} (ha : a < N) (hb : b < N) : ((b : Int) ∈ rchL N S [(a : Int)]) ↔ ((a : Int) ∈ rchL N P [(b : Int)]) := by
  rw [mem_rchL, mem_rchL]
  exact ⟨fun x => ⟨ha, (Rch.back h ha x.2).2⟩, fun x => ⟨hb, (Rch.back h.rev hb x.2).2⟩⟩
end Go.Proofs.YtmbelhdkaepohaaGreatDoor

namespace Go.Proofs.YtmbelhdkaepohaaGreatDoor
set_option maxRecDepth 20000
set_option linter.unusedVariables false
set_option linter.unusedSimpArgs false
open Go.ChangeShapes Go.WideShapes Go.ChangeAt Go.RowKit

/-- A list of numbers and where it lies. -/
structure RH where
  A : Option Addr
  n : Nat
  c : Nat
  l : List Int
def RH.v (x : RH) : Value := .slice x.A x.n x.c
structure RHok (w : World) (ex : List (Option Nat)) (x : RH) : Prop where
  lies : EAt w ex x.A (ints x.l)
  len : x.l.length = x.n
  few : x.n ≤ 9223372036854775807
theorem RHok.go {w w' : World} {ex ex' : List (Option Nat)} {x : RH} (h : RHok w ex x) (hg : Go2 w ex w' ex') : RHok w' ex' x := ⟨h.lies.go hg, h.len, h.few⟩
theorem RHok.below {w w' : World} {ex : List (Option Nat)} {x : RH} (h : RHok w ex x) (hb : Below w.heap.size w w') : RHok w' ex x := h.go (Go2.below hb)
theorem EAt.one {w : World} {ex : List (Option Nat)} {A : Option Addr} {xs : List Value} (h : EAt w ex A xs) {i : Nat} {u : Value} (hi : xs[i]? = some u) : ∃ ad : Addr, A = some ad ∧ Safe w ex ad.block ∧ w.cell? (ad.add i) = some u := by
  rcases h with rfl | ⟨ad, e, hs, hc⟩
  · simp at hi
  · exact ⟨ad, e, hs, hc i u hi⟩
theorem RHok.cell {w : World} {ex : List (Option Nat)} {x : RH} (h : RHok w ex x) {i : Nat} {a : Int} (hi : x.l[i]? = some a) : ∃ ad : Addr, x.A = some ad ∧ ad.block < w.heap.size ∧ w.cell? (ad.add i) = some (.int .i64 a) := by
  obtain ⟨ad, h1, h2, h3⟩ := h.lies.one (i := i) (u := .int .i64 a) (by unfold ints; rw [List.getElem?_map, hi]; rfl)
  exact ⟨ad, h1, h2.1, h3⟩
/-- A list of lists. -/
structure LH where
  A : Option Addr
  n : Nat
  c : Nat
  l : List RH
def LH.v (x : LH) : List (List Int) := x.l.map RH.l
structure LHok (w : World) (ex : List (Option Nat)) (x : LH) : Prop where
  lies : EAt w ex x.A (x.l.map RH.v)
  len : x.l.length = x.n
  few : x.n ≤ 9223372036854775807
  all : ∀ y ∈ x.l, RHok w ex y
theorem LHok.go {w w' : World} {ex ex' : List (Option Nat)} {x : LH} (h : LHok w ex x) (hg : Go2 w ex w' ex') : LHok w' ex' x := ⟨h.lies.go hg, h.len, h.few, fun y hy => (h.all y hy).go hg⟩
theorem LHok.below {w w' : World} {ex : List (Option Nat)} {x : LH} (h : LHok w ex x) (hb : Below w.heap.size w w') : LHok w' ex x := h.go (Go2.below hb)
theorem LHok.cell {w : World} {ex : List (Option Nat)} {x : LH} (h : LHok w ex x) {i : Nat} {y : RH} (hi : x.l[i]? = some y) : ∃ ad : Addr, x.A = some ad ∧ ad.block < w.heap.size ∧ w.cell? (ad.add i) = some (.slice y.A y.n y.c) := by
  obtain ⟨ad, h1, h2, h3⟩ := h.lies.one (i := i) (u := RH.v y) (by rw [List.getElem?_map, hi]; rfl)
  exact ⟨ad, h1, h2.1, h3⟩
theorem LH.vlen (x : LH) : x.v.length = x.l.length := by simp [LH.v]
theorem LH.at {x : LH} {i : Nat} {y : RH} (h : x.l[i]? = some y) : x.v[i]? = some y.l := by unfold LH.v; rw [List.getElem?_map, h]; rfl
theorem LH.rw {x : LH} {i : Nat} {y : RH} (h : x.l[i]? = some y) : rw0 x.v i = y.l := rw0_at (LH.at h)
/-- A graph. -/
structure GH where
  A : Option Addr
  n : Nat
  c : Nat
  ns : List Nd
  S : LH
  P : LH
def GH.a (x : GH) : Value := .agg #[.slice x.A x.n x.c, .slice x.S.A x.S.n x.S.c, .slice x.P.A x.P.n x.P.c]
structure GHok (w : World) (ex : List (Option Nat)) (x : GH) : Prop where
  lies : EAt w ex x.A (x.ns.flatMap ndc)
  len : x.ns.length = x.n
  few : x.n ≤ 9223372036854775807
  s : LHok w ex x.S
  p : LHok w ex x.P
theorem GHok.go {w w' : World} {ex ex' : List (Option Nat)} {x : GH} (h : GHok w ex x) (hg : Go2 w ex w' ex') : GHok w' ex' x := ⟨h.lies.go hg, h.len, h.few, h.s.go hg, h.p.go hg⟩
theorem GHok.below {w w' : World} {ex : List (Option Nat)} {x : GH} (h : GHok w ex x) (hb : Below w.heap.size w w') : GHok w' ex x := h.go (Go2.below hb)

theorem ascG_cons (N : Nat) (p a : Int) (l : List Int) : ascG N p (a :: l) = if a ≤ p then false else if (N : Int) ≤ a then false else ascG N a l := rfl
theorem drop_at {α : Type} {l : List α} {k : Nat} {a : α} (h : l[k]? = some a) : l.drop k = a :: l.drop (k + 1) := by
  obtain ⟨h1, h2⟩ := List.getElem?_eq_some_iff.1 h
  rw [List.drop_eq_getElem_cons h1, h2]
set_option maxHeartbeats 1600000 in
theorem asc_any (x : RH) (N : Nat) (ex : List (Option Nat)) (w : World) (h : RHok w ex x) (hN : N ≤ 9223372036854775807) :
    Calls Tryz.prog 29 #[.slice x.A x.n x.c, .int .i64 N] w fun e w' => e = .returned (.bool (risB N x.l)) ∧ w = w' := by
  have hn := h.few
  have HX := hid h
  have HL := hid h.len
  clear h
  obtain ⟨A, n, c, l⟩ := x
  simp only at *
  go_enter Tryz.func29, Tryz.ntmps29
  go_wp2_with fail
  go_loop [5, 7, 10] (fun pv _ iv => ∃ (k : Nat) (p : Int), k ≤ n ∧ iv = .int .i64 k ∧ pv = .int .i64 p ∧ Hid (risB N l = ascG N p (l.drop k))) (fun _ _ iv => n - (intOf iv).toNat)
  case atStart => exact ⟨0, -1, by omega, rfl, rfl, hid rfl⟩
  case round =>
    obtain ⟨k, p, hk, rfl, rfl, hE⟩ := hrel
    by_cases hlt : k < n
    · obtain ⟨a, ha, -⟩ := get_at HL.out hlt
      obtain ⟨ad, hA, had, hc⟩ := HX.out.cell ha
      simp only at hA
      subst hA
      have Hd := hid (drop_at ha)
      clear ha
      by_cases h1 : a ≤ p
      · have Hr := hid (show risB N l = false by rw [hE.out, Hd.out, ascG_cons, if_pos h1])
        go_wp2_with fail
        go_ret
        exact ⟨ret_b Hr.out, rfl⟩
      · by_cases h2 : (N : Int) ≤ a
        · have Hr := hid (show risB N l = false by rw [hE.out, Hd.out, ascG_cons, if_neg h1, if_pos h2])
          go_wp2_with fail
          go_ret
          exact ⟨ret_b Hr.out, rfl⟩
        · have Hr := hid (show risB N l = ascG N a (l.drop (k + 1)) by rw [hE.out, Hd.out, ascG_cons, if_neg h1, if_neg h2])
          go_wp2_with fail
          go_round
          case rel => exact ⟨k + 1, a, by omega, by go_num, rfl, Hr⟩
          case measure => simp [intOf]; omega
    · have Hr := hid (show risB N l = true by rw [hE.out, List.drop_of_length_le (by rw [HL.out]; omega)]; rfl)
      go_wp2_with fail
      go_ret
      exact ⟨ret_b Hr.out, rfl⟩
theorem tot_take {S : List (List Int)} {k : Nat} {l : List Int} (h : S[k]? = some l) : tot (S.take (k + 1)) = tot (S.take k) + l.length := by
  unfold tot; rw [List.take_add_one, h, List.map_append, List.sum_append]; simp
set_option maxHeartbeats 1600000 in
theorem count_any (x : LH) (N : Nat) (ex : List (Option Nat)) (w : World) (h : LHok w ex x) (hN : x.n ≤ 100000) (hr : ∀ y ∈ x.l, y.n ≤ 100000) :
    Calls Tryz.prog 30 #[.slice x.A x.n x.c] w fun e w' => e = .returned (.int .i64 (tot x.v : Nat)) ∧ w = w' := by
  have HX := hid h
  have HR := hid hr
  have HL := hid h.len
  have Hat := hid (fun (k : Nat) (y : RH) (hy : x.l[k]? = some y) => LH.at hy)
  have Hvl := hid (LH.vlen x)
  clear h hr
  generalize hv : LH.v x = v at *
  clear hv
  obtain ⟨A, n, c, l⟩ := x
  simp only at *
  go_enter Tryz.func30, Tryz.ntmps30
  go_wp2_with fail
  go_loop [3, 5, 8] (fun sv _ iv => ∃ (k t : Nat), k ≤ n ∧ iv = .int .i64 k ∧ sv = .int .i64 t ∧ t ≤ k * 100000 ∧ Hid (t = tot (v.take k))) (fun _ _ iv => n - (intOf iv).toNat)
  case atStart => exact ⟨0, 0, by omega, rfl, rfl, by omega, hid rfl⟩
  case round =>
    obtain ⟨k, t, hk, rfl, rfl, ht, hE⟩ := hrel
    by_cases hlt : k < n
    · obtain ⟨y, hy, hym⟩ := get_at HL.out hlt
      obtain ⟨ad, hA, had, hc⟩ := HX.out.cell hy
      simp only at hA
      subst hA
      have hyn := HR.out y hym
      have Ht := hid (show t + y.n = tot (v.take (k + 1)) by rw [tot_take (Hat.out k y hy), ← hE.out, (HX.out.all y hym).len])
      clear hy hym
      obtain ⟨yA, yn, yc, yl⟩ := y
      simp only at *
      go_wp2_with fail
      go_round
      case rel => exact ⟨k + 1, t + yn, by omega, by go_num, by go_num, by omega, Ht⟩
      case measure => simp [intOf]; omega
    · obtain rfl : k = n := by omega
      have Ht := hid (show t = tot v by rw [hE.out, List.take_of_length_le (by rw [Hvl.out, HL.out]; omega)])
      go_wp2_with fail
      go_ret
      exact ⟨ret_i (by rw [Ht.out]), rfl⟩
end Go.Proofs.YtmbelhdkaepohaaGreatDoor

namespace Go.Proofs.YtmbelhdkaepohaaGreatDoor
set_option maxRecDepth 20000
set_option linter.unusedVariables false
set_option linter.unusedSimpArgs false
open Go.ChangeShapes Go.WideShapes Go.ChangeAt Go.RowKit

section
variable {α : Type} [DecidableEq α]
def eqD (l m : List α) : Bool := decide (l = m)
theorem eqD_len {l m : List α} (h : l.length ≠ m.length) : eqD l m = false := by unfold eqD; rw [decide_eq_false_iff_not]; rintro rfl; exact h rfl
theorem eqD_no {l m : List α} {k : Nat} {a b : α} (ha : l[k]? = some a) (hb : m[k]? = some b) (h : a ≠ b) : eqD l m = false := by
  unfold eqD; rw [decide_eq_false_iff_not]; rintro rfl; rw [ha] at hb; exact h (Option.some.inj hb)
theorem eqD_yes {l m : List α} {n : Nat} (hl : l.length = n) (hm : m.length = n) (h : ∀ j, j < n → l[j]? = m[j]?) : eqD l m = true := by
  unfold eqD; rw [decide_eq_true_eq]
  apply List.ext_getElem?
  intro j
  by_cases hj : j < n
  · exact h j hj
  · rw [List.getElem?_eq_none (by omega), List.getElem?_eq_none (by omega)]
omit [DecidableEq α] in
theorem eqD_step {l m : List α} {k : Nat} {a b : α} (h : ∀ j, j < k → l[j]? = m[j]?) (ha : l[k]? = some a) (hb : m[k]? = some b) (e : a = b) : ∀ j, j < k + 1 → l[j]? = m[j]? := by
  intro j hj
  by_cases e2 : j = k
  · subst e2; rw [ha, hb, e]
  · exact h j (by omega)
end
/-- It returned this, and only draws were made. -/
def RetQ (w : World) (v : Value) (e : Ending) (w' : World) : Prop := e = .returned v ∧ ∃ q : Nat, w' = w.drewN q
theorem RetQ.mk {w : World} {b c : Bool} {q : Nat} (h : c = b) : RetQ w (.bool c) (.returned (.bool b)) (w.drewN q) := ⟨by rw [h], q, rfl⟩
theorem RetQ.mk2 {w : World} {b c : Bool} {q r : Nat} (h : c = b) : RetQ w (.bool c) (.returned (.bool b)) ((w.drewN q).drewN r) := ⟨by rw [h], q + r, World.drewN_drewN _ _ _⟩
theorem RetQ.mk0 {w : World} {b c : Bool} (h : c = b) : RetQ w (.bool c) (.returned (.bool b)) w := ⟨by rw [h], 0, rfl⟩
set_option maxHeartbeats 1600000 in
theorem equal_int (x y : RH) (ex ey : List (Option Nat)) (w : World) (hx : RHok w ex x) (hy : RHok w ey y) :
    Calls Tryz.prog 33 #[.slice x.A x.n x.c, .slice y.A y.n y.c] w (RetQ w (.bool (eqD x.l y.l))) := by
  have hn := hx.few
  have hm := hy.few
  have HX := hid hx
  have HY := hid hy
  have HL := hid hx.len
  have HM := hid hy.len
  clear hx hy
  obtain ⟨A, n, c, l⟩ := x
  obtain ⟨B, m, c2, l2⟩ := y
  simp only at *
  by_cases hlen : n = m
  · subst hlen
    go_enter Tryz.func33, Tryz.ntmps33
    go_wp2_with fail
    go_loopw [5, 13] (fun _ iv wr => ∃ (k q : Nat), k ≤ n ∧ iv = .int .i64 k ∧ wr = w.drewN q ∧ Hid (∀ j, j < k → l[j]? = l2[j]?)) (fun _ iv _ => n - (intOf iv).toNat)
    case atStart => exact ⟨0, 0, by omega, rfl, rfl, hid (fun j h => by omega)⟩
    case round =>
      obtain ⟨k, q, hk, rfl, rfl, hE⟩ := hrel
      by_cases hlt : k < n
      · obtain ⟨a, ha, -⟩ := get_at HL.out hlt
        obtain ⟨b, hb, -⟩ := get_at HM.out hlt
        obtain ⟨ad, hA, had, hc⟩ := HX.out.cell ha
        obtain ⟨ad2, hB, had2, hc2⟩ := HY.out.cell hb
        simp only at hA hB
        subst hA
        subst hB
        have Ha := hid ha
        have Hb := hid hb
        clear ha hb
        by_cases h1 : a = b
        · subst h1
          have Hr := hid (eqD_step hE.out Ha.out Hb.out rfl)
          clear hE
          go_wp2_with fail
          go_quiet (fail)
          go_wp2_with fail
          go_roundw
          case rel => exact ⟨k + 1, _, by omega, by go_num, rfl, Hr⟩
          case measure => simp [intOf]; omega
        · have Hr := hid (eqD_no Ha.out Hb.out h1)
          have t1 : (a == b) = false := by simpa using h1
          have t2 : (a != b) = true := by simpa using h1
          clear hE h1
          go_wp2_with fail
          go_quiet (fail)
          go_wp2_with fail
          go_ret
          exact RetQ.mk2 Hr.out
      · obtain rfl : k = n := by omega
        have Hr := hid (eqD_yes HL.out HM.out hE.out)
        clear hE
        go_wp2_with fail
        go_ret
        exact RetQ.mk Hr.out
  · have Hr := hid (eqD_len (l := l) (m := l2) (by rw [HL.out, HM.out]; exact hlen))
    have t1 : ((n : Int) == (m : Int)) = false := by simp; omega
    have t2 : ((n : Int) != (m : Int)) = true := by simp; omega
    clear hlen
    go_enter Tryz.func33, Tryz.ntmps33
    go_wp2_with fail
    go_ret
    exact RetQ.mk0 Hr.out
set_option maxHeartbeats 1600000 in
theorem refInts_any (x y : RH) (ex ey : List (Option Nat)) (w : World) (hx : RHok w ex x) (hy : RHok w ey y) :
    Calls Tryz.prog 17 #[.slice x.A x.n x.c, .slice y.A y.n y.c] w (RetQ w (.bool (eqD x.l y.l))) := by
  have hn := hx.few
  have hm := hy.few
  have HX := hid hx
  have HY := hid hy
  have HL := hid hx.len
  have HM := hid hy.len
  clear hx hy
  obtain ⟨A, n, c, l⟩ := x
  obtain ⟨B, m, c2, l2⟩ := y
  simp only at *
  by_cases hlen : n = m
  · subst hlen
    go_enter Tryz.func17, Tryz.ntmps17
    go_wp2_with fail
    go_loopw [5] (fun iv wr => ∃ (k q : Nat), k ≤ n ∧ iv = .int .i64 k ∧ wr = w.drewN q ∧ Hid (∀ j, j < k → l[j]? = l2[j]?)) (fun iv _ => n - (intOf iv).toNat)
    case atStart => exact ⟨0, 0, by omega, rfl, rfl, hid (fun j h => by omega)⟩
    case round =>
      obtain ⟨k, q, hk, rfl, rfl, hE⟩ := hrel
      by_cases hlt : k < n
      · obtain ⟨a, ha, -⟩ := get_at HL.out hlt
        obtain ⟨b, hb, -⟩ := get_at HM.out hlt
        obtain ⟨ad, hA, had, hc⟩ := HX.out.cell ha
        obtain ⟨ad2, hB, had2, hc2⟩ := HY.out.cell hb
        simp only at hA hB
        subst hA
        subst hB
        have Ha := hid ha
        have Hb := hid hb
        clear ha hb
        by_cases h1 : a = b
        · subst h1
          have Hr := hid (eqD_step hE.out Ha.out Hb.out rfl)
          clear hE
          go_wp2_with fail
          go_quiet (fail)
          go_wp2_with fail
          go_roundw
          case rel => exact ⟨k + 1, _, by omega, by go_num, rfl, Hr⟩
          case measure => simp [intOf]; omega
        · have Hr := hid (eqD_no Ha.out Hb.out h1)
          have t1 : (a == b) = false := by simpa using h1
          have t2 : (a != b) = true := by simpa using h1
          clear hE h1
          go_wp2_with fail
          go_quiet (fail)
          go_wp2_with fail
          go_ret
          exact RetQ.mk2 Hr.out
      · obtain rfl : k = n := by omega
        have Hr := hid (eqD_yes HL.out HM.out hE.out)
        clear hE
        go_wp2_with fail
        go_ret
        exact RetQ.mk Hr.out
  · have Hr := hid (eqD_len (l := l) (m := l2) (by rw [HL.out, HM.out]; exact hlen))
    have t1 : ((n : Int) == (m : Int)) = false := by simp; omega
    have t2 : ((n : Int) != (m : Int)) = true := by simp; omega
    clear hlen
    go_enter Tryz.func17, Tryz.ntmps17
    go_wp2_with fail
    go_ret
    exact RetQ.mk0 Hr.out
set_option maxHeartbeats 3200000 in
/-- EqualFunc over lists of lists, by Equal. -/
theorem equal_rows (x y : LH) (ex ey : List (Option Nat)) (w : World) (hx : LHok w ex x) (hy : LHok w ey y) :
    Calls Tryz.prog 31 #[.slice x.A x.n x.c, .slice y.A y.n y.c, .func (Fn.func 33) #[] #[]] w (RetQ w (.bool (eqD x.v y.v))) := by
  have hn := hx.few
  have hm := hy.few
  have HX := hid hx
  have HY := hid hy
  have HL := hid hx.len
  have HM := hid hy.len
  have HvL := hid (LH.vlen x)
  have HvM := hid (LH.vlen y)
  have HaX := hid (fun (k : Nat) (z : RH) (hz : x.l[k]? = some z) => LH.at hz)
  have HaY := hid (fun (k : Nat) (z : RH) (hz : y.l[k]? = some z) => LH.at hz)
  clear hx hy
  generalize hv : x.v = v at *
  generalize hv2 : y.v = v2 at *
  clear hv hv2
  obtain ⟨A, n, c, l⟩ := x
  obtain ⟨B, m, c2, l2⟩ := y
  simp only at *
  by_cases hlen : n = m
  · subst hlen
    go_enter Tryz.func31, Tryz.ntmps31
    go_wp2_with fail
    go_loopw [7, 8, 9, 17] (fun _ _ _ iv wr => ∃ (k q : Nat), k ≤ n ∧ iv = .int .i64 k ∧ wr = w.drewN q ∧ Hid (∀ j, j < k → v[j]? = v2[j]?)) (fun _ _ _ iv _ => n - (intOf iv).toNat)
    case atStart => exact ⟨0, 0, by omega, rfl, rfl, hid (fun j h => by omega)⟩
    case round =>
      obtain ⟨k, q, hk, rfl, rfl, hE⟩ := hrel
      by_cases hlt : k < n
      · obtain ⟨a, ha, ham⟩ := get_at HL.out hlt
        obtain ⟨b, hb, hbm⟩ := get_at HM.out hlt
        obtain ⟨ad, hA, had, hc⟩ := HX.out.cell ha
        obtain ⟨ad2, hB, had2, hc2⟩ := HY.out.cell hb
        simp only at hA hB
        subst hA
        subst hB
        have Ha := hid (HaX.out k a ha)
        have Hb := hid (HaY.out k b hb)
        have HC := hid (equal_int a b ex ey (w.drewN q) ((HX.out.all a ham).below (below_drewN (Below.refl _ _) q)) ((HY.out.all b hbm).below (below_drewN (Below.refl _ _) q)))
        clear ha hb ham hbm
        obtain ⟨aA, an, ac, al⟩ := a
        obtain ⟨bA, bn, bc, bl⟩ := b
        simp only at *
        by_cases h1 : al = bl
        · subst h1
          have Hr := hid (eqD_step hE.out Ha.out Hb.out rfl)
          have e1 : eqD al al = true := by unfold eqD; simp
          rw [e1] at HC
          clear hE e1
          go_wp2_with fail
          refine HC.out.mono ?_
          rintro e w' ⟨rfl, q2, rfl⟩
          go_wp2_with fail
          go_roundw
          case rel => exact ⟨k + 1, _, by omega, by go_num, rfl, Hr⟩
          case measure => simp [intOf]; omega
        · have Hr := hid (eqD_no Ha.out Hb.out h1)
          have e1 : eqD al bl = false := by unfold eqD; simpa using h1
          rw [e1] at HC
          clear hE h1 e1
          go_wp2_with fail
          refine HC.out.mono ?_
          rintro e w' ⟨rfl, q2, rfl⟩
          go_wp2_with fail
          go_ret
          exact RetQ.mk Hr.out
      · obtain rfl : k = n := by omega
        have Hr := hid (eqD_yes (HvL.out.trans HL.out) (HvM.out.trans HM.out) hE.out)
        clear hE
        go_wp2_with fail
        go_ret
        exact RetQ.mk Hr.out
  · have Hr := hid (eqD_len (l := v) (m := v2) (by rw [HvL.out, HvM.out, HL.out, HM.out]; exact hlen))
    have t1 : ((n : Int) == (m : Int)) = false := by simp; omega
    have t2 : ((n : Int) != (m : Int)) = true := by simp; omega
    clear hlen
    go_enter Tryz.func31, Tryz.ntmps31
    go_wp2_with fail
    go_ret
    exact RetQ.mk0 Hr.out
end Go.Proofs.YtmbelhdkaepohaaGreatDoor

namespace Go.Proofs.YtmbelhdkaepohaaGreatDoor
set_option maxRecDepth 20000
set_option linter.unusedVariables false
set_option linter.unusedSimpArgs false
open Go.ChangeShapes Go.WideShapes Go.ChangeAt Go.RowKit

def hasI (l : List Int) (n : Int) : Bool := l.contains n
theorem hasI_hit {l : List Int} {k : Nat} {a : Int} (h : l[k]? = some a) : hasI l a = true := by
  unfold hasI; simp; exact List.mem_of_getElem? h
theorem hasI_none {l : List Int} {n : Int} {m : Nat} (hl : l.length = m) (h : ∀ j x, j < m → l[j]? = some x → x ≠ n) : hasI l n = false := by
  unfold hasI
  simp only [List.contains_eq_mem, decide_eq_false_iff_not]
  intro hm
  obtain ⟨j, hj⟩ := List.getElem?_of_mem hm
  exact h j n (by have := (List.getElem?_eq_some_iff.1 hj).1; omega) hj rfl
theorem hasI_step {l : List Int} {k : Nat} {a n : Int} (h : ∀ j x, j < k → l[j]? = some x → x ≠ n) (ha : l[k]? = some a) (e : a ≠ n) : ∀ j x, j < k + 1 → l[j]? = some x → x ≠ n := by
  intro j x hj hx
  by_cases e2 : j = k
  · subst e2; rw [ha] at hx; exact Option.some.inj hx ▸ e
  · exact h j x (by omega) hx
set_option maxHeartbeats 1600000 in
theorem has_any (x : RH) (v : Int) (ex : List (Option Nat)) (w : World) (h : RHok w ex x) :
    Calls Tryz.prog 27 #[.slice x.A x.n x.c, .int .i64 v] w fun e w' => e = .returned (.bool (hasI x.l v)) ∧ w = w' := by
  have hn := h.few
  have HX := hid h
  have HL := hid h.len
  clear h
  obtain ⟨A, n, c, l⟩ := x
  simp only at *
  go_enter Tryz.func27, Tryz.ntmps27
  go_wp2_with fail
  go_loop [5] (fun iv => ∃ (k : Nat), k ≤ n ∧ iv = .int .i64 k ∧ Hid (∀ j x, j < k → l[j]? = some x → x ≠ v)) (fun iv => n - (intOf iv).toNat)
  case atStart => exact ⟨0, by omega, rfl, hid (fun j x h => by omega)⟩
  case round =>
    obtain ⟨k, hk, rfl, hE⟩ := hrel
    by_cases hlt : k < n
    · obtain ⟨a, ha, -⟩ := get_at HL.out hlt
      obtain ⟨ad, hA, had, hc⟩ := HX.out.cell ha
      simp only at hA
      subst hA
      have Ha := hid ha
      clear ha
      by_cases h1 : a = v
      · subst h1
        have Hr := hid (hasI_hit Ha.out)
        clear hE
        go_wp2_with fail
        go_ret
        exact ⟨ret_b Hr.out, rfl⟩
      · have Hr := hid (hasI_step hE.out Ha.out h1)
        have t1 : (a == v) = false := by simpa using h1
        clear hE h1
        go_wp2_with fail
        go_round
        case rel => exact ⟨k + 1, by omega, by go_num, Hr⟩
        case measure => simp [intOf]; omega
    · obtain rfl : k = n := by omega
      have Hr := hid (hasI_none HL.out hE.out)
      clear hE
      go_wp2_with fail
      go_ret
      exact ⟨ret_b Hr.out, rfl⟩
set_option maxHeartbeats 3200000 in
/-- The reference's SameLists. -/
theorem sameLists_any (x y : LH) (ex ey : List (Option Nat)) (w : World) (hx : LHok w ex x) (hy : LHok w ey y) :
    Calls Tryz.prog 28 #[.slice x.A x.n x.c, .slice y.A y.n y.c] w (RetQ w (.bool (eqD x.v y.v))) := by
  have hn := hx.few
  have hm := hy.few
  have HX := hid hx
  have HY := hid hy
  have HL := hid hx.len
  have HM := hid hy.len
  have HvL := hid (LH.vlen x)
  have HvM := hid (LH.vlen y)
  have HaX := hid (fun (k : Nat) (z : RH) (hz : x.l[k]? = some z) => LH.at hz)
  have HaY := hid (fun (k : Nat) (z : RH) (hz : y.l[k]? = some z) => LH.at hz)
  clear hx hy
  generalize hv : x.v = v at *
  generalize hv2 : y.v = v2 at *
  clear hv hv2
  obtain ⟨A, n, c, l⟩ := x
  obtain ⟨B, m, c2, l2⟩ := y
  simp only at *
  by_cases hlen : n = m
  · subst hlen
    go_enter Tryz.func28, Tryz.ntmps28
    go_wp2_with fail
    go_loopw [5] (fun iv wr => ∃ (k q : Nat), k ≤ n ∧ iv = .int .i64 k ∧ wr = w.drewN q ∧ Hid (∀ j, j < k → v[j]? = v2[j]?)) (fun iv _ => n - (intOf iv).toNat)
    case atStart => exact ⟨0, 0, by omega, rfl, rfl, hid (fun j h => by omega)⟩
    case round =>
      obtain ⟨k, q, hk, rfl, rfl, hE⟩ := hrel
      by_cases hlt : k < n
      · obtain ⟨a, ha, ham⟩ := get_at HL.out hlt
        obtain ⟨b, hb, hbm⟩ := get_at HM.out hlt
        obtain ⟨ad, hA, had, hc⟩ := HX.out.cell ha
        obtain ⟨ad2, hB, had2, hc2⟩ := HY.out.cell hb
        simp only at hA hB
        subst hA
        subst hB
        have Ha := hid (HaX.out k a ha)
        have Hb := hid (HaY.out k b hb)
        have HC := hid (fun (u : World) (hu : ∃ r, u = w.drewN r) => refInts_any a b ex ey u (by obtain ⟨r, rfl⟩ := hu; exact (HX.out.all a ham).below (below_drewN (Below.refl _ _) r)) (by obtain ⟨r, rfl⟩ := hu; exact (HY.out.all b hbm).below (below_drewN (Below.refl _ _) r)))
        clear ha hb ham hbm
        obtain ⟨aA, an, ac, al⟩ := a
        obtain ⟨bA, bn, bc, bl⟩ := b
        simp only at *
        by_cases h1 : al = bl
        · subst h1
          have Hr := hid (eqD_step hE.out Ha.out Hb.out rfl)
          have e1 : eqD al al = true := by unfold eqD; simp
          rw [e1] at HC
          clear hE e1
          go_wp2_with fail
          go_region_law (
            (go_simp
             go_at_call 17
             refine (HC.out _ ⟨_, rfl⟩).mono ?_
             rintro e w' ⟨rfl, q2, rfl⟩))
          all_goals
            go_wp2_with fail
            go_roundw
            case rel => exact ⟨k + 1, _, by omega, by go_num, rfl, Hr⟩
            case measure => simp [intOf]; omega
        · have Hr := hid (eqD_no Ha.out Hb.out h1)
          have e1 : eqD al bl = false := by unfold eqD; simpa using h1
          rw [e1] at HC
          clear hE h1 e1
          go_wp2_with fail
          go_region_law (
            (go_simp
             go_at_call 17
             refine (HC.out _ ⟨_, rfl⟩).mono ?_
             rintro e w' ⟨rfl, q2, rfl⟩))
          all_goals
            go_wp2_with fail
            go_ret
            exact RetQ.mk Hr.out
      · obtain rfl : k = n := by omega
        have Hr := hid (eqD_yes (HvL.out.trans HL.out) (HvM.out.trans HM.out) hE.out)
        clear hE
        go_wp2_with fail
        go_ret
        exact RetQ.mk Hr.out
  · have Hr := hid (eqD_len (l := v) (m := v2) (by rw [HvL.out, HvM.out, HL.out, HM.out]; exact hlen))
    have t1 : ((n : Int) == (m : Int)) = false := by simp; omega
    have t2 : ((n : Int) != (m : Int)) = true := by simp; omega
    clear hlen
    go_enter Tryz.func28, Tryz.ntmps28
    go_wp2_with fail
    go_ret
    exact RetQ.mk0 Hr.out
end Go.Proofs.YtmbelhdkaepohaaGreatDoor

namespace Go.Proofs.YtmbelhdkaepohaaGreatDoor
set_option linter.unusedVariables false
set_option linter.unusedSimpArgs false

/-- The number before the place k. -/
def prevI (l : List Int) (k : Nat) : Int := if k = 0 then -1 else l.getD (k - 1) 0
theorem prevI_zero (l : List Int) : prevI l 0 = -1 := rfl
theorem prevI_succ {l : List Int} {k : Nat} {a : Int} (h : l[k]? = some a) : prevI l (k + 1) = a := by
  unfold prevI
  rw [if_neg (by omega), Nat.add_sub_cancel, List.getD_eq_getElem?_getD, h]; rfl
theorem gdrop_at {α : Type} {l : List α} {k : Nat} {a : α} (h : l[k]? = some a) : l.drop k = a :: l.drop (k + 1) := by
  obtain ⟨h1, rfl⟩ := List.getElem?_eq_some_iff.1 h
  exact List.drop_eq_getElem_cons h1
theorem risB_low {N : Nat} {l : List Int} {k : Nat} {a p : Int} (hE : risB N l = ascG N p (l.drop k)) (ha : l[k]? = some a) (h : a ≤ p) : risB N l = false := by
  rw [hE, gdrop_at ha]; unfold ascG; rw [if_pos h]
theorem risB_high {N : Nat} {l : List Int} {k : Nat} {a p : Int} (hE : risB N l = ascG N p (l.drop k)) (ha : l[k]? = some a) (h : (N : Int) ≤ a) : risB N l = false := by
  rw [hE, gdrop_at ha, ascG]
  by_cases h1 : a ≤ p
  · rw [if_pos h1]
  · rw [if_neg h1, if_pos h]
theorem risB_next {N : Nat} {l : List Int} {k : Nat} {a p : Int} (hE : risB N l = ascG N p (l.drop k)) (ha : l[k]? = some a) (h : ¬a ≤ p) (h2 : ¬(N : Int) ≤ a) : risB N l = ascG N a (l.drop (k + 1)) := by
  rw [hE, gdrop_at ha, ascG, if_neg h, if_neg h2]
theorem risB_done {N : Nat} {l : List Int} {k : Nat} {p : Int} (hE : risB N l = ascG N p (l.drop k)) (h : l.length ≤ k) : risB N l = true := by
  rw [hE, List.drop_of_length_le h]; rfl
theorem tot_pre {S : List (List Int)} {k : Nat} : tot (S.take k) ≤ tot S := by
  unfold tot
  have h : ((S.take k ++ S.drop k).map List.length).sum = (S.map List.length).sum := by rw [List.take_append_drop]
  rw [List.map_append, List.sum_append] at h
  omega
theorem tot_takeS {S : List (List Int)} {k : Nat} {l : List Int} (h : S[k]? = some l) : tot (S.take (k + 1)) = tot (S.take k) + l.length := by
  unfold tot; rw [List.take_add_one, h, List.map_append, List.sum_append]; simp
theorem tot_row {S : List (List Int)} {k : Nat} {l : List Int} (h : S[k]? = some l) : l.length ≤ tot S := by
  have h1 := tot_takeS h
  have h2 := tot_pre (S := S) (k := k + 1)
  omega
/-- What ValidGraph asks. -/
theorem valid_no {N : Nat} {S P : List (List Int)} {Q : Prop} (h : ValG N S P → Q) (hq : ¬Q) : validB N S P = false := by
  cases hv : validB N S P with
  | false => rfl
  | true => exact absurd (h (validB_iff.1 hv)) hq
theorem valid_yes {N : Nat} {S P : List (List Int)} (h : ValG N S P) : validB N S P = true := validB_iff.2 h
theorem valG_hasP {N : Nat} {S P : List (List Int)} (h : ValG N S P) {i k : Nat} {l m : List Int} {b : Nat} (hi : S[i]? = some l) (hk : l[k]? = some (b : Int)) (hm : P[b]? = some m) : (i : Int) ∈ m := by
  have hiN : i < N := by rw [← h.slen]; exact (List.getElem?_eq_some_iff.1 hi).1
  have hbN : b < N := by rw [← h.plen]; exact (List.getElem?_eq_some_iff.1 hm).1
  have := (h.iff hiN hbN).1 (by rw [rw0_at hi]; exact List.mem_of_getElem? hk)
  rw [rw0_at hm] at this; exact this
theorem valG_hasS {N : Nat} {S P : List (List Int)} (h : ValG N S P) {i k : Nat} {l m : List Int} {b : Nat} (hi : P[i]? = some l) (hk : l[k]? = some (b : Int)) (hm : S[b]? = some m) : (i : Int) ∈ m :=
  valG_hasP h.rev hi hk hm
/-- All of a list's rows point back, for the rows below i. -/
def Bck (S P : List (List Int)) (i : Nat) : Prop := ∀ (j k : Nat) (l : List Int) (b : Nat), j < i → S[j]? = some l → l[k]? = some (b : Int) → (j : Int) ∈ rw0 P b
theorem Bck.zero (S P : List (List Int)) : Bck S P 0 := fun j k l b h => by omega
theorem Bck.step {S P : List (List Int)} {i : Nat} {l : List Int} (h : Bck S P i) (hi : S[i]? = some l) (hk : ∀ (k b : Nat), l[k]? = some (b : Int) → (i : Int) ∈ rw0 P b) : Bck S P (i + 1) := by
  intro j k m b hj hm hb
  by_cases e : j = i
  · subst e; rw [hi] at hm; obtain rfl := Option.some.inj hm; exact hk k b hb
  · exact h j k m b (by omega) hm hb
theorem valid_of {N : Nat} {S P : List (List Int)} (h1 : 1 ≤ N) (h2 : N ≤ 256) (h3 : S.length = N) (h4 : P.length = N) (h5 : S.all (risB N) = true) (h6 : P.all (risB N) = true) (h7 : tot S ≤ 1024) (h8 : Bck S P N) (h9 : Bck P S N) : ValG N S P := by
  have hS : ∀ l ∈ S, RisP N l := fun l hl => risB_iff.1 (List.all_eq_true.1 h5 l hl)
  have hP : ∀ l ∈ P, RisP N l := fun l hl => risB_iff.1 (List.all_eq_true.1 h6 l hl)
  refine ValG.mk2 h1 h2 h3 h4 hS hP h7 fun a b ha hb => ⟨fun h => ?_, fun h => ?_⟩
  · obtain ⟨k, hk⟩ := List.getElem?_of_mem h
    have hSa : S[a]? = some (rw0 S a) := by unfold rw0; rw [List.getD_eq_getElem?_getD, List.getElem?_eq_getElem (by omega)]; rfl
    exact h8 a k _ b ha hSa hk
  · obtain ⟨k, hk⟩ := List.getElem?_of_mem h
    have hPb : P[b]? = some (rw0 P b) := by unfold rw0; rw [List.getD_eq_getElem?_getD, List.getElem?_eq_getElem (by omega)]; rfl
    exact h9 b k _ a hb hPb hk

/-! The reference's Reach. -/
/-- All numbers of a list inserted. -/
def insA (R l : List Int) : List Int := l.foldl insI R
theorem insA_take {R l : List Int} {k : Nat} {a : Int} (h : l[k]? = some a) : insA R (l.take (k + 1)) = insI (insA R (l.take k)) a := by
  unfold insA; rw [List.take_add_one, h, List.foldl_append]; rfl
theorem insA_mem {l : List Int} : ∀ {R : List Int} {x : Int}, x ∈ insA R l ↔ x ∈ R ∨ x ∈ l := by
  induction l with
  | nil => intro R x; simp [insA]
  | cons a l ih =>
    intro R x
    unfold insA at ih ⊢
    rw [List.foldl_cons, ih, mem_insI, List.mem_cons]
    constructor
    · rintro ((h | h) | h)
      · exact .inr (.inl h)
      · exact .inl h
      · exact .inr (.inr h)
    · rintro (h | h | h)
      · exact .inl (.inr h)
      · exact .inl (.inl h)
      · exact .inr h
theorem insA_ris {N : Nat} {l : List Int} : ∀ {R : List Int}, RisP N R → (∀ x ∈ l, 0 ≤ x ∧ x < (N : Int)) → RisP N (insA R l) := by
  induction l with
  | nil => intro R h _; exact h
  | cons a l ih =>
    intro R h hl
    unfold insA at ih ⊢
    rw [List.foldl_cons]
    exact ih (insI_ris h (hl a (by simp)).1 (hl a (by simp)).2) (fun x hx => hl x (by simp [hx]))
/-- One round: the successors of the first i of now are inserted. -/
def rnd (S : List (List Int)) (now : List Int) : Nat → List Int
  | 0 => now
  | i + 1 => insA (rnd S now i) (rw0 S (now.getD i 0).toNat)
theorem rnd_succ {S : List (List Int)} {now : List Int} {i : Nat} {a : Nat} {s : List Int} (h : now[i]? = some (a : Int)) (hs : S[a]? = some s) : rnd S now (i + 1) = insA (rnd S now i) s := by
  rw [rnd, List.getD_eq_getElem?_getD, h, Option.getD_some, Int.toNat_natCast, rw0_at hs]
/-- What stands between the rounds. -/
structure RcR (N : Nat) (S : List (List Int)) (F R : List Int) : Prop where
  ris : RisP N R
  st : ∀ x ∈ F, x ∈ R
  rch : ∀ k : Nat, (k : Int) ∈ R → Rch S F k
theorem RcR.start {N : Nat} {S : List (List Int)} {F : List Int} (hF : ∀ x ∈ F, 0 ≤ x ∧ x < (N : Int)) : RcR N S F (insA [] F) :=
  ⟨insA_ris (RisP.nil N) hF, fun x hx => insA_mem.2 (.inr hx), fun k hk => by
    rcases insA_mem.1 hk with h | h
    · simp at h
    · exact Rch.start h⟩
theorem RcR.rnd {N : Nat} {S : List (List Int)} {F R : List Int} (h : RcR N S F R) (hS : ∀ l ∈ S, RisP N l) : ∀ i, i ≤ R.length → RcR N S F (rnd S R i) ∧ (∀ x ∈ R, x ∈ Go.Proofs.YtmbelhdkaepohaaGreatDoor.rnd S R i) ∧ ∀ j, j < i → ∀ x ∈ rw0 S (R.getD j 0).toNat, x ∈ Go.Proofs.YtmbelhdkaepohaaGreatDoor.rnd S R i := by
  intro i
  induction i with
  | zero => intro _; exact ⟨h, fun x hx => hx, fun j hj => by omega⟩
  | succ i ih =>
    intro hi
    obtain ⟨h1, h2, h3⟩ := ih (by omega)
    have hg : R[i]? = some (R[i]'(by omega)) := List.getElem?_eq_getElem _
    have hmem : R[i]'(by omega) ∈ R := List.getElem_mem _
    have hr := h.ris.2 _ hmem
    have hgd : R.getD i 0 = R[i]'(by omega) := by rw [List.getD_eq_getElem?_getD, hg]; rfl
    have hrow := rw0_ris hS (R.getD i 0).toNat
    refine ⟨⟨insA_ris h1.ris hrow.2, fun x hx => insA_mem.2 (.inl (h1.st x hx)), fun k hk => ?_⟩, fun x hx => insA_mem.2 (.inl (h2 x hx)), fun j hj x hx => ?_⟩
    · rcases insA_mem.1 hk with hk | hk
      · exact h1.rch k hk
      · refine Rch.step (a := (R.getD i 0).toNat) (h.rch _ ?_) hk
        rw [hgd, Int.toNat_of_nonneg hr.1]; exact hmem
    · by_cases e : j = i
      · subst e; exact insA_mem.2 (.inr hx)
      · exact insA_mem.2 (.inl (h3 j (by omega) x hx))
/-- A round that adds nothing closes the list. -/
theorem ris_same {N : Nat} {l m : List Int} (hl : RisP N l) (hm : RisP N m) (h : ∀ x ∈ l, x ∈ m) (hlen : m.length ≤ l.length) : l = m := by
  have nl : l.Nodup := hl.1.imp (fun h => by omega)
  have nm : m.Nodup := hm.1.imp (fun h => by omega)
  refine asc_ext hl.1 hm.1 fun x => ⟨h x, fun hx => ?_⟩
  by_cases hin : x ∈ l
  · exact hin
  · exfalso
    have hsub : ∀ y ∈ x :: l, y ∈ m := fun y hy => by
      rcases List.mem_cons.1 hy with rfl | hy
      · exact hx
      · exact h y hy
    have hn : (x :: l).Nodup := List.nodup_cons.2 ⟨hin, nl⟩
    have : ∀ (V S : List Int), V.Nodup → (∀ x ∈ V, x ∈ S) → V.length ≤ S.length := by
      intro V
      induction V with
      | nil => intro S _ _; simp
      | cons v V ih =>
        intro S hv hs
        have h1 := List.nodup_cons.1 hv
        have h2 := ih (S.erase v) h1.2 (fun y hy => (List.mem_erase_of_ne (by rintro rfl; exact h1.1 hy)).2 (hs y (by simp [hy])))
        have h3 := List.length_erase_of_mem (hs v (by simp))
        have h4 : 0 < S.length := List.length_pos_of_mem (hs v (by simp))
        simp only [List.length_cons]
        omega
    have := this _ _ hn hsub
    simp only [List.length_cons] at this
    omega
theorem RcR.done {N : Nat} {S : List (List Int)} {F R : List Int} (h : RcR N S F R) (hS : ∀ l ∈ S, RisP N l) (hlen : (Go.Proofs.YtmbelhdkaepohaaGreatDoor.rnd S R R.length).length = R.length) : Go.Proofs.YtmbelhdkaepohaaGreatDoor.rnd S R R.length = rchL N S F := by
  obtain ⟨h1, h2, h3⟩ := h.rnd hS R.length (Nat.le_refl _)
  have he := ris_same h.ris h1.ris h2 (by omega)
  refine rchL_of h1.ris h1.st (fun a b ha hb => ?_) h1.rch
  rw [← he] at ha
  obtain ⟨j, hj⟩ := List.getElem?_of_mem ha
  have hjl := (List.getElem?_eq_some_iff.1 hj).1
  refine h3 j hjl b ?_
  rw [List.getD_eq_getElem?_getD, hj]
  exact hb
theorem RcR.grows {N : Nat} {S : List (List Int)} {F R : List Int} (h : RcR N S F R) (hS : ∀ l ∈ S, RisP N l) : RcR N S F (Go.Proofs.YtmbelhdkaepohaaGreatDoor.rnd S R R.length) ∧ R.length ≤ (Go.Proofs.YtmbelhdkaepohaaGreatDoor.rnd S R R.length).length := by
  obtain ⟨h1, h2, h3⟩ := h.rnd hS R.length (Nat.le_refl _)
  refine ⟨h1, ?_⟩
  rcases Nat.lt_or_ge (Go.Proofs.YtmbelhdkaepohaaGreatDoor.rnd S R R.length).length R.length with hlt | hge
  · have := ris_same h.ris h1.ris h2 (by omega)
    have := congrArg List.length this
    omega
  · exact hge
end Go.Proofs.YtmbelhdkaepohaaGreatDoor

namespace Go.Proofs.YtmbelhdkaepohaaGreatDoor
set_option maxRecDepth 20000
set_option linter.unusedVariables false
set_option linter.unusedSimpArgs false
open Go.ChangeShapes Go.WideShapes Go.ChangeAt Go.RowKit

theorem info3 : (Tryz.prog.info? 3).map (fun i => (i.zero, i.size, i.bytes)) = some (some (.int .i64 0), 1, 8) := by kernel_rfl
theorem info22 : (Tryz.prog.info? 22).map (fun i => (i.zero, i.size, i.bytes)) = some (some (.slice none 0 0), 1, 24) := by kernel_rfl
def upd (f : Nat → List Int) (i : Nat) (l : List Int) : Nat → List Int := fun j => if j = i then l else f j
theorem upd_at (f : Nat → List Int) (i : Nat) (l : List Int) : upd f i l i = l := by unfold upd; rw [if_pos rfl]
theorem upd_ne (f : Nat → List Int) {i j : Nat} (l : List Int) (h : j ≠ i) : upd f i l j = f j := by unfold upd; rw [if_neg h]
/-- Block M holds N slices, each of which owns its row, apart from the others. -/
def Mx (w : World) (M N : Nat) (f : Nat → List Int) : Prop :=
  ∃ vs : List Value, vs.length = N ∧ Fb w M vs.toArray 22 ∧ (∀ i v, vs[i]? = some v → w.ownsRow (M + 1) 3 1 v (f i).length (ints (f i))) ∧
    (∀ (i j : Nat) (u v : Value) (g : Nat), i ≠ j → vs[i]? = some u → vs[j]? = some v → u.ownBlock = some g → v.ownBlock ≠ some g)
section
variable {w w' : World} {M N : Nat} {f : Nat → List Int}
theorem Mx.lt (h : Mx w M N f) : M < w.heap.size := by obtain ⟨vs, h1, h2, h3, h4⟩ := h; exact h2.lt
theorem Mx.below (h : Mx w M N f) (hb : Below w.heap.size w w') : Mx w' M N f := by
  obtain ⟨vs, h1, h2, h3, h4⟩ := h
  exact ⟨vs, h1, h2.below hb h2.lt, fun i v hv => own_below (h3 i v hv) hb, h4⟩
theorem Mx.alloc (h : Mx w M N f) (o : Obj) : Mx (w.alloc o) M N f := h.below ((Below.refl _ _).alloc (Nat.le_refl _) o)
theorem Mx.congr {g : Nat → List Int} (h : Mx w M N f) (hg : ∀ i, i < N → f i = g i) : Mx w M N g := by
  obtain ⟨vs, h1, h2, h3, h4⟩ := h
  refine ⟨vs, h1, h2, fun i v hv => ?_, h4⟩
  have hi : i < N := by rw [← h1]; exact (List.getElem?_eq_some_iff.1 hv).1
  rw [← hg i hi]; exact h3 i v hv
/-- A world in which another block has been written. -/
theorem Mx.grown {row : Option Nat} (h : Mx w M N f) (hg : w.grownBy w' row) (hr : ∀ k, row = some k → k < M) : Mx w' M N f := by
  obtain ⟨vs, h1, h2, h3, h4⟩ := h
  refine ⟨vs, h1, h2.grown hg (fun e => by have := hr M e.symm; omega), fun i v hv => (h3 i v hv).kept hg ?_, h4⟩
  cases hb : v.ownBlock with
  | none => exact .inl rfl
  | some k => exact .inr (fun e => by have := hr k e.symm; have := ((h3 i v hv).lt k hb).1; omega)
theorem Mx.start (w : World) (N : Nat) : Mx (w.alloc (.cells (Array.replicate N (Value.slice none 0 0)) 22)) w.heap.size N (fun _ => []) := by
  refine ⟨List.replicate N (.slice none 0 0), by simp, by rw [List.toArray_replicate]; exact Fb.new _ _ _, fun i v hv => ?_, fun i j u v g _ hu hv hg => ?_⟩
  · obtain rfl := List.eq_of_mem_replicate (List.mem_of_getElem? hv)
    exact World.ownsRow_nil _ _ _ _
  · obtain rfl := List.eq_of_mem_replicate (List.mem_of_getElem? hu)
    simp [Value.ownBlock] at hg
/-- One slice. -/
theorem Mx.at (h : Mx w M N f) {i : Nat} (hi : i < N) : ∃ v, w.ownsRow (M + 1) 3 1 v (f i).length (ints (f i)) ∧ w.cell? ⟨M, i, none⟩ = some v ∧ w.frozen? ⟨M, i, none⟩ = false ∧ (∃ A c, v = .slice A (f i).length c) ∧
    (∀ w' : World, w.grownBy w' v.ownBlock → w'.cell? ⟨M, i, none⟩ = some v ∧ w'.frozen? ⟨M, i, none⟩ = false) ∧
    (∀ (w' : World) (u : Value) (l : List Int), w.grownBy w' v.ownBlock → w'.ownsRow (M + 1) 3 1 u l.length (ints l) → (∀ g, u.ownBlock = some g → v.ownBlock = some g ∨ w.heap.size ≤ g) →
      Mx (w'.setCell ⟨M, i, none⟩ u) M N (upd f i l)) := by
  obtain ⟨vs, h1, h2, h3, h4⟩ := h
  have hi' : i < vs.length := by omega
  have hv : vs[i]? = some vs[i] := List.getElem?_eq_getElem hi'
  have hown := h3 i _ hv
  have hc : ∀ {w' : World}, Fb w' M vs.toArray 22 → w'.cell? ⟨M, i, none⟩ = some vs[i] ∧ w'.frozen? ⟨M, i, none⟩ = false := fun h => ⟨by rw [h.cell]; simp, h.frozen i⟩
  have hM : ∀ {w' : World}, w.grownBy w' vs[i].ownBlock → Fb w' M vs.toArray 22 := fun hg => h2.grown hg (by
    intro e
    have := (hown.lt M e.symm).1
    omega)
  refine ⟨vs[i], hown, (hc h2).1, (hc h2).2, own_any_slice hown, fun w' hg => hc (hM hg), fun w' nv l hg ho hat => ?_⟩
  have hset := setCell_grown w' ⟨M, i, none⟩ nv
  have hfar : ∀ {v : Value} {n : Nat} {xs : List Value}, w'.ownsRow (M + 1) 3 1 v n xs → (w'.setCell ⟨M, i, none⟩ nv).ownsRow (M + 1) 3 1 v n xs := fun {v} {n} {xs} h => h.kept hset (by
    cases hb : v.ownBlock with
    | none => exact .inl rfl
    | some k => exact .inr (fun e => by injection e with e; have := (h.lt k hb).1; simp at e; omega))
  refine ⟨vs.set i nv, by simpa using h1, ?_, fun j v hj => ?_, fun a b u v g2 hab ha hb hg2 => ?_⟩
  · have := (hM hg).set i nv
    simpa using this
  · rw [List.getElem?_set] at hj
    by_cases e : i = j
    · subst e
      rw [if_pos rfl, if_pos hi'] at hj
      obtain rfl := Option.some.inj hj
      rw [upd_at]
      exact hfar ho
    · rw [if_neg e] at hj
      rw [upd_ne _ _ (Ne.symm e)]
      refine hfar ((h3 j v hj).kept hg ?_)
      cases hb : v.ownBlock with
      | none => exact .inl rfl
      | some k => exact .inr (fun e2 => h4 j i v vs[i] k (Ne.symm e) hj hv hb e2.symm)
  · have hnew : ∀ (j : Nat) (v : Value) (g : Nat), j ≠ i → vs[j]? = some v → nv.ownBlock = some g → v.ownBlock ≠ some g := by
      intro j v g hji hj hng he
      rcases hat g hng with h | h
      · exact h4 j i v vs[i] g hji hj hv he h
      · have := ((h3 j v hj).lt g he).2
        omega
    rw [List.getElem?_set] at ha hb
    by_cases e1 : i = a
    · subst e1
      rw [if_pos rfl, if_pos hi'] at ha
      rw [if_neg hab] at hb
      obtain rfl := Option.some.inj ha
      exact hnew b v g2 (Ne.symm hab) hb hg2
    · rw [if_neg e1] at ha
      by_cases e2 : i = b
      · subst e2
        rw [if_pos rfl, if_pos hi'] at hb
        obtain rfl := Option.some.inj hb
        intro e
        exact hnew a u g2 hab ha e hg2
      · rw [if_neg e2] at hb
        exact h4 a b u v g2 hab ha hb hg2
end
/-- The rows that a matrix holds, as a list of lists. -/
def rowsF (N : Nat) (f : Nat → List Int) : List (List Int) := (List.range N).map f
def rhOf (v : Value) (l : List Int) : RH := match v with
  | .slice A n c => ⟨A, n, c, l⟩
  | _ => ⟨none, 0, 0, l⟩
theorem Mx.lists {w : World} {M N : Nat} {f : Nat → List Int} (h : Mx w M N f) (hN : N ≤ 9223372036854775807) :
    ∃ y : LH, y.A = some ⟨M, 0, none⟩ ∧ y.n = N ∧ y.c = N ∧ y.v = rowsF N f ∧ ∀ ex : List (Option Nat), (∀ k, some k ∈ ex → k < M) → LHok w ex y := by
  obtain ⟨vs, h1, h2, h3, h4⟩ := h
  have hsl : ∀ i v, vs[i]? = some v → RH.v (rhOf v (f i)) = v ∧ (rhOf v (f i)).l = f i ∧ (rhOf v (f i)).n = (f i).length ∧ (f i).length ≤ 9223372036854775807 ∧ ∀ ex : List (Option Nat), (∀ k, some k ∈ ex → k < M) → EAt w ex (rhOf v (f i)).A (ints (f i)) := by
    intro i v hv
    have hown := h3 i v hv
    obtain ⟨A, c, rfl⟩ := own_any_slice hown
    refine ⟨rfl, rfl, rfl, ?_, fun ex hex => EAt.own hown fun g hg hm => ?_⟩
    · rcases hown.2 with ⟨e, h0⟩ | ⟨g, cap, cur, _, _, _, h5, h6, _⟩
      · rw [h0]; omega
      · unfold maxLen at h6; omega
    · have := hex g hm; have := (hown.lt g hg).1; omega
  let l := (List.range N).map fun i => rhOf (vs.getD i default) (f i)
  have hl : ∀ i, i < N → l[i]? = some (rhOf (vs.getD i default) (f i)) := fun i hi => by show ((List.range N).map _)[i]? = _; rw [List.getElem?_map, List.getElem?_range hi]; rfl
  have hget : ∀ i, i < N → vs[i]? = some (vs.getD i default) := fun i hi => by rw [List.getD_eq_getElem?_getD, List.getElem?_eq_getElem (by omega)]; rfl
  have hll : l.length = N := by simp [l]
  have hvs : l.map RH.v = vs := by
    apply List.ext_getElem?
    intro i
    by_cases hi : i < N
    · rw [List.getElem?_map, hl i hi, hget i hi]
      exact congrArg some (hsl i _ (hget i hi)).1
    · rw [List.getElem?_eq_none (by simp [l]; omega), List.getElem?_eq_none (by omega)]
  refine ⟨⟨some ⟨M, 0, none⟩, N, N, l⟩, rfl, rfl, rfl, ?_, fun ex hex => ⟨?_, hll, hN, fun y hy => ?_⟩⟩
  · show l.map RH.l = (List.range N).map f
    show ((List.range N).map _).map _ = _
    rw [List.map_map]
    refine List.map_congr_left fun i hi => ?_
    exact (hsl i _ (hget i (List.mem_range.1 hi))).2.1
  · show EAt w ex (some ⟨M, 0, none⟩) (l.map RH.v)
    rw [hvs]
    exact EAt.fb h2 (fun hm => by have := hex M hm; omega) (fun j u hu => by simpa using hu)
  · obtain ⟨i, hi, rfl⟩ := List.mem_map.1 hy
    have hi := List.mem_range.1 hi
    obtain ⟨e1, e2, e3, e4, e5⟩ := hsl i _ (hget i hi)
    exact ⟨by rw [e2]; exact e5 ex hex, by rw [e2, e3], by rw [e3]; exact e4⟩
/-- A list of lists came back, in new memory. -/
def RetLL (w : World) (v : List (List Int)) (e : Ending) (w' : World) : Prop :=
  ∃ y : LH, e = .returned (.slice y.A y.n y.c) ∧ y.v = v ∧ (∀ ex : List (Option Nat), (∀ k, some k ∈ ex → k < w.heap.size) → LHok w' ex y) ∧ Below w.heap.size w w'

theorem run_mkrows (n : Nat) (hn : n ≤ 100000) (w : World) :
    (Instr.makeSlice 24 (.int .i64 (n : Int)) (.int .i64 (n : Int))).run Tryz.prog w = .ok (.slice (some ⟨w.heap.size, 0, none⟩) n n) (w.alloc (.cells (Array.replicate n (Value.slice none 0 0)) 22)) := by
  obtain ⟨i, hi, hz0, hz1, hz2⟩ := info_parts info22
  have h := run_make (P := Tryz.prog) w 24 22 i (.slice none 0 0) Tryz.underlying24 hi hz0 .i64 .i64 n n (by omega) (by omega) (by rw [hz2]; omega) (by omega)
  rw [h, hz1]
  simp only [Int.toNat_natCast, Nat.mul_one]
  have e2 : madeCells (Value.slice none 0 0).cells n = Array.replicate n (Value.slice none 0 0) := by
    apply Array.toList_inj.1
    rw [show (Value.slice none 0 0).cells = #[Value.slice none 0 0] from rfl, toList_madeCells_one]
    simp
  rw [e2]
/-- What the loops of reversed have built. -/
def revF (S : List (List Int)) (k : Nat) (b : Nat) : List Int := rowP k fun a => decide ((b : Int) ∈ rw0 S a)
def revG (S : List (List Int)) (k : Nat) (l : List Int) (b : Nat) : List Int := revF S k b ++ (if (b : Int) ∈ l then [(k : Int)] else [])
theorem rowP_succ (k : Nat) (f : Nat → Bool) : rowP (k + 1) f = rowP k f ++ (if f k = true then [(k : Int)] else []) := by
  unfold rowP
  rw [List.range_succ, List.filter_append, List.map_append]
  congr 1
  by_cases h : f k = true <;> simp [h]
theorem revF_succ {S : List (List Int)} {k : Nat} {l : List Int} (h : S[k]? = some l) (b : Nat) : revF S (k + 1) b = revG S k l b := by
  unfold revF revG
  rw [rowP_succ, rw0_at h]
  unfold revF
  simp
theorem revG_nil (S : List (List Int)) (k : Nat) (b : Nat) : revG S k [] b = revF S k b := by unfold revG; simp
theorem revG_succ {S : List (List Int)} {k : Nat} {l : List Int} {j c : Nat} (hl : l.Pairwise (· < ·)) (hj : l[j]? = some (c : Int)) (b : Nat) : upd (revG S k (l.take j)) c (revG S k (l.take j) c ++ [(k : Int)]) b = revG S k (l.take (j + 1)) b := by
  have ht : l.take (j + 1) = l.take j ++ [(c : Int)] := by rw [List.take_add_one, hj]; rfl
  have hno : (c : Int) ∉ l.take j := by
    intro hm
    obtain ⟨i, hi, he⟩ := List.mem_iff_getElem.1 hm
    rw [List.getElem_take] at he
    obtain ⟨hj1, hj2⟩ := List.getElem?_eq_some_iff.1 hj
    have hij : i < j := by simp at hi; omega
    have := List.pairwise_iff_getElem.1 hl i j (by omega) hj1 hij
    omega
  by_cases e : b = c
  · subst e
    rw [upd_at, ht]
    unfold revG
    rw [if_neg hno, if_pos (by simp)]
    simp
  · rw [upd_ne _ _ e, ht]
    unfold revG
    have : ((b : Int) ∈ l.take j ++ [(c : Int)]) ↔ (b : Int) ∈ l.take j := by simp; omega
    simp only [this]
theorem revG_len (S : List (List Int)) (k : Nat) (l : List Int) (b : Nat) : (revG S k l b).length ≤ k + 1 := by
  unfold revG revF
  have := rowP_len k fun a => decide ((b : Int) ∈ rw0 S a)
  rw [List.length_append]
  split <;> simp <;> omega
theorem after_own {M : Nat} {w wr w5 : World} {o : Obj} {v : Value} (hB : Below M w wr) (hM : M ≤ wr.heap.size) (hg : (wr.alloc o).grownBy w5 v.ownBlock) (h : ∀ k, v.ownBlock = some k → M + 1 ≤ k) : Below M w w5 :=
  (hB.alloc hM o).grown hg (by rw [World.size_alloc]; omega) (fun k hk => by have := h k hk; omega)
theorem own_hat {w : World} {v : Value} {g n c : Nat} (h : v.ownBlock = some g ∨ g = w.heap.size) : ∀ k, (Value.slice (some ⟨g, 0, none⟩) n c).ownBlock = some k → v.ownBlock = some k ∨ w.heap.size ≤ k := by
  intro k hk
  simp only [Value.ownBlock, Option.some.injEq] at hk
  subst hk
  rcases h with h | h
  · exact .inl h
  · exact .inr (by omega)
theorem ints_snoc (l : List Int) (x : Int) : ints (l ++ [x]) = ints l ++ [Value.int .i64 x] := by simp [ints]
theorem one_int1 (x : Int) : ∀ u ∈ [Value.int .i64 x], u.oneCell' = true := by intro u hu; simp at hu; subst hu; rfl
theorem int_new (w : World) (x : Int) (t : Nat) : ∀ (j : Nat) (u : Value), [Value.int .i64 x][j]? = some u → (w.alloc (.cells #[.int .i64 x] t)).cell? ((⟨w.heap.size, 0, none⟩ : Addr).add j) = some u := by
  intro j u h
  have hb := Fb.new w #[.int .i64 x] t
  rw [add_of, hb.cell]
  simpa using h
set_option maxHeartbeats 3200000 in
theorem reversed_any (x : LH) (ex : List (Option Nat)) (w : World) (h : LHok w ex x) (hn : x.n ≤ 100000) (hris : ∀ l ∈ x.v, RisP x.n l) :
    Calls Tryz.prog 32 #[.slice x.A x.n x.c] w (RetLL w (revL x.n x.v)) := by
  obtain ⟨i1, hi, hz0, hz1, hz2⟩ := info_parts info3
  have Hi := hid hi; have Hz0 := hid hz0; have Hz1 := hid hz1; have Hz2 := hid hz2
  clear hi hz0 hz1 hz2
  have HX := hid h
  have HR := hid hris
  have HL := hid h.len
  have Hat := hid (fun (k : Nat) (z : RH) (hz : x.l[k]? = some z) => LH.at hz)
  clear h hris
  generalize hv : x.v = v at *
  clear hv
  obtain ⟨A, n, c, l⟩ := x
  simp only at *
  have hrow := run_mkrows n hn
  go_enter Tryz.func32, Tryz.ntmps32
  go_wp2_with fail
  have HM := hid (show Mx (w.alloc (.cells (Array.replicate n (Value.slice none 0 0)) 22)) w.heap.size n (revF v 0) from (Mx.start w n).congr (fun i _ => by unfold revF rowP; simp))
  have HB := hid ((Below.refl w.heap.size w).alloc (Nat.le_refl _) (.cells (Array.replicate n (Value.slice none 0 0)) 22))
  generalize w.alloc (.cells (Array.replicate n (Value.slice none 0 0)) 22) = w0 at HM HB ⊢
  clear hrow
  generalize hMd : w.heap.size = M at *
  go_loopw [4, 5, 7, 13, 20] (fun _ _ _ iv _ wr => ∃ k : Nat, k ≤ n ∧ iv = .int .i64 k ∧ Hid (Mx wr M n (revF v k)) ∧ Hid (Below M w wr)) (fun _ _ _ iv _ _ => n - (intOf iv).toNat)
  case atStart => exact ⟨0, by omega, rfl, HM, HB⟩
  case round =>
    clear HM HB
    obtain ⟨k, hk, rfl, hM, hB⟩ := hrel
    by_cases hlt : k < n
    · obtain ⟨y, hy, hym⟩ := get_at HL.out hlt
      have HPr := hid (HX.out.go (Go2.below (hMd ▸ hB.out)))
      obtain ⟨ad, hA, had, hc⟩ := HPr.out.cell hy
      simp only at hA
      subst hA
      have HY := hid (fun (u : World) (h : Below M w u) => (HX.out.go (Go2.below (hMd ▸ h))).all y hym)
      have Hyv := hid (Hat.out k y hy)
      have Hyr := hid (HR.out y.l (List.mem_of_getElem? (Hat.out k y hy)))
      have Hyl := hid ((HPr.out.all y hym).len)
      have hyn := (HPr.out.all y hym).few
      have hyn2 : y.n ≤ n := by have := ris_len Hyr.out; have := Hyl.out; omega
      clear hy hym HPr
      obtain ⟨yA, yn, yc, yl⟩ := y
      simp only at *
      go_wp2_with fail
      clear hc
      have HM2 := hid (show Mx wr M n (revG v k (yl.take 0)) from hM.out.congr (fun b _ => by rw [List.take_zero, revG_nil]))
      go_loopw [7, 20] (fun _ iv wr => ∃ j : Nat, j ≤ yn ∧ iv = .int .i64 j ∧ Hid (Mx wr M n (revG v k (yl.take j))) ∧ Hid (Below M w wr)) (fun _ iv _ => yn - (intOf iv).toNat)
      case atStart => exact ⟨0, by omega, rfl, HM2, hB⟩
      case round =>
        clear HM2 hM hB
        obtain ⟨j, hj, rfl, hM, hB⟩ := hrel
        by_cases hlt2 : j < yn
        · obtain ⟨a, ha, ham⟩ := get_at Hyl.out hlt2
          obtain ⟨ad2, hA2, had2, hc2⟩ := (HY.out _ hB.out).cell ha
          simp only at hA2
          subst hA2
          have har := Hyr.out.2 a ham
          obtain ⟨b, rfl⟩ := Int.eq_ofNat_of_zero_le har.1
          have hbn : b < n := by omega
          have Hst := hid (fun b2 : Nat => revG_succ (S := v) (k := k) Hyr.out.1 ha b2)
          have hlen := revG_len v k (yl.take j) b
          obtain ⟨rv, hown, hcell, hfr, ⟨rA, rc, hrv⟩, hkeep, hput⟩ := hM.out.at hbn
          have HMa := hid (hM.out.alloc (.cells #[.int .i64 (k : Int)] 3))
          obtain ⟨rv2, hown2, hcell2, hfr2, -, hkeep2, hput2⟩ := HMa.out.at hbn
          obtain rfl : rv = rv2 := by
            have := Below.cell (show Below wr.heap.size wr (wr.alloc (.cells #[.int .i64 (k : Int)] 3)) from (Below.refl _ _).alloc (Nat.le_refl _) _) (p := ⟨M, b, none⟩) hM.out.lt
            rw [hcell, hcell2] at this
            exact (Option.some.inj this).symm
          have HO := hid hown2
          have HP := hid hput2
          have HK := hid hkeep2
          have HN1 := hid (int_new wr (k : Int) 3)
          have hMl := hM.out.lt
          have HB1 := hid (below_step (W := wr) ((Below.refl wr.heap.size wr).alloc (Nat.le_refl _) (.cells #[.int .i64 (k : Int)] 3)) (Below.refl _ _))
          have Hbw := hid hB.out
          have Hrlt := hid (fun k2 (hk2 : rv.ownBlock = some k2) => (hown2.lt k2 hk2).1)
          have hszM : M + 1 ≤ wr.heap.size := hMl
          clear hown hfr hkeep hput hown2 hcell2 hfr2 hkeep2 hput2 ha ham hM hB HMa
          generalize revG v k (yl.take j) = F at *
          subst hrv
          go_wp2_with ((
            at_builtin
            go_must (refine wpList_append_lies _ rfl _ _ 22 rfl (M + 1) 3 i1 _ 1 8 Tryz.underlying22 Hi.out Hz0.out Hz1.out Hz2.out rfl (by decide) _ (F b).length (ints (F b)) rfl HO.out ⟨wr.heap.size, 0, none⟩ 1 1 [Value.int .i64 (k : Int)] rfl rfl HN1.out (one_int1 _) (by omega) (by unfold maxLen; omega) (by omega) (by simp; omega) _ rfl ?_)
            intro g5 cap5 w5 hown5 hgr5 hat5 hlt5
            obtain ⟨y0, y1⟩ := HK.out _ hgr5
            have H5 := hid (HP.out _ (.slice (some ⟨g5, 0, none⟩) ((F b).length + 1) cap5) (F b ++ [(k : Int)]) hgr5 (by rw [ints_snoc, List.length_append]; exact hown5) (own_hat hat5))
            have HB5 := hid (after_own Hbw.out (by omega) hgr5 Hrlt.out)
            clear hown5 hgr5 hat5 hlt5))
          go_roundw
          case rel => exact ⟨j + 1, by omega, by go_num, hid (H5.out.congr (fun b2 _ => Hst.out b2)), hid (HB5.out.setCell (by simp) _)⟩
          case measure => simp [intOf]; omega
        · obtain rfl : j = yn := by omega
          have HM3 := hid (show Mx wr M n (revF v (k + 1)) from hM.out.congr (fun b _ => by rw [List.take_of_length_le (by rw [Hyl.out]; omega), revF_succ Hyv.out]))
          clear hM
          go_wp2_with fail
          go_roundw
          case rel => exact ⟨k + 1, by omega, by go_num, HM3, hB⟩
          case measure => simp [intOf]; omega
    · obtain rfl : k = n := by omega
      obtain ⟨y, hy1, hy2, hy3, hy4, hy5⟩ := hM.out.lists (by omega)
      have HF := hid (show RetLL w (revL k v) (.returned (.slice (some ⟨M, 0, none⟩) k k)) wr from ⟨y, by rw [hy1, hy2, hy3], hy4, fun ex hex => hy5 ex (fun q hq => by have := hex q hq; omega), by rw [hMd]; exact hB.out⟩)
      clear hy1 hy2 hy3 hy4 hy5 hM hB
      go_wp2_with fail
      go_ret
      exact HF.out
end Go.Proofs.YtmbelhdkaepohaaGreatDoor

namespace Go.Proofs.YtmbelhdkaepohaaGreatDoor
set_option maxRecDepth 20000
set_option linter.unusedVariables false
set_option linter.unusedSimpArgs false
open Go.ChangeShapes Go.WideShapes Go.ChangeAt Go.RowKit

theorem Fb.thr {w : World} {g t : Nat} {a b c : Value} (h : Fb w g #[a, b, c] t) : w.cell? ⟨g, 0, none⟩ = some a ∧ w.cell? ⟨g, 1, none⟩ = some b ∧ w.cell? ⟨g, 2, none⟩ = some c := ⟨h.cell 0, h.cell 1, h.cell 2⟩
theorem RetQ.below {w w' : World} {v : Value} {e : Ending} (h : RetQ w v e w') : e = .returned v ∧ Below w.heap.size w w' := by
  obtain ⟨h1, q, rfl⟩ := h
  exact ⟨h1, below_drewN (Below.refl _ _) q⟩
/-- It returned this, and nothing old has changed. -/
def RetVb (w : World) (v : Value) (e : Ending) (w' : World) : Prop := e = .returned v ∧ Below w.heap.size w w'
theorem retVb_b {w w' : World} {b c : Bool} (h : c = b) (hb : Below w.heap.size w w') : RetVb w (.bool c) (.returned (.bool b)) w' := ⟨by rw [h], hb⟩
theorem retVb_i {w w' : World} {b c : Int} (h : c = b) (hb : Below w.heap.size w w') : RetVb w (.int .i64 c) (.returned (.int .i64 b)) w' := ⟨by rw [h], hb⟩
/-- A graph as argument: what stands while it is read. -/
structure GW (w : World) (G : Nat) (ex : List (Option Nat)) (x : GH) (v : World) : Prop where
  bel : Below w.heap.size w v
  box : Fb v G #[.slice x.A x.n x.c, .slice x.S.A x.S.n x.S.c, .slice x.P.A x.P.n x.P.c] 26
  g : GHok v ex x
theorem GW.below {w v v' : World} {G : Nat} {ex : List (Option Nat)} {x : GH} (h : GW w G ex x v) (hb : Below v.heap.size v v') : GW w G ex x v' :=
  ⟨below_step h.bel hb, h.box.below hb h.box.lt, h.g.below hb⟩
theorem GW.start {w : World} {ex : List (Option Nat)} {x : GH} (h : GHok w ex x) : GW w w.heap.size ex x (w.alloc (.cells #[.slice x.A x.n x.c, .slice x.S.A x.S.n x.S.c, .slice x.P.A x.P.n x.P.c] 26)) :=
  ⟨(Below.refl _ _).alloc (Nat.le_refl _) _, Fb.new _ _ _, h.below ((Below.refl _ _).alloc (Nat.le_refl _) _)⟩
theorem all_false {N : Nat} {S : List (List Int)} {k : Nat} {l : List Int} (h : S[k]? = some l) (hr : risB N l = false) : S.all (risB N) = false := by
  rw [List.all_eq_false]
  exact ⟨l, List.mem_of_getElem? h, by rw [hr]; simp⟩
theorem all_true {N n : Nat} {S : List (List Int)} (hn : S.length = n) (h : ∀ (j : Nat) (l : List Int), j < n → S[j]? = some l → risB N l = true) : S.all (risB N) = true := by
  rw [List.all_eq_true]
  intro l hl
  obtain ⟨j, hj, rfl⟩ := List.mem_iff_getElem.1 hl
  exact h j _ (by omega) (List.getElem?_eq_getElem hj)
theorem tot_le {S : List (List Int)} {N : Nat} (h : ∀ l ∈ S, l.length ≤ N) : tot S ≤ S.length * N := by
  induction S with
  | nil => simp [tot]
  | cons x S ih =>
    have h1 := h x (by simp)
    have h2 := ih (fun l hl => h l (by simp [hl]))
    unfold tot at *
    rw [List.map_cons, List.sum_cons, List.length_cons, Nat.add_mul]
    omega
set_option maxHeartbeats 6400000 in
theorem valid_graph (x : GH) (ex : List (Option Nat)) (w : World) (h : GHok w ex x) :
    Calls Tryz.prog 14 #[x.a] w (RetVb w (.bool (validB x.n x.S.v x.P.v))) := by
  have HG := hid (GW.start h)
  have hn0 := h.few
  have hs0 := h.s.few
  have hp0 := h.p.few
  have HL := hid h.s.len
  have HvS := hid ((LH.vlen x.S).trans h.s.len)
  have HvP := hid ((LH.vlen x.P).trans h.p.len)
  have Hat := hid (fun (k : Nat) (z : RH) (hz : x.S.l[k]? = some z) => LH.at hz)
  have HrS := hid (fun (v : World) (hv : GW w w.heap.size ex x v) (hr : ∀ l ∈ x.S.v, RisP x.S.n l) (hn : x.S.n ≤ 100000) => reversed_any x.S ex v hv.g.s hn hr)
  have HcS := hid (fun (v : World) (hv : GW w w.heap.size ex x v) (hr : ∀ l ∈ x.S.v, RisP x.S.n l) (hn : x.S.n ≤ 100000) => count_any x.S x.S.n ex v hv.g.s hn (fun y hy => by
    rw [← (hv.g.s.all y hy).len]
    have := ris_len (hr y.l (by obtain ⟨j, hj, rfl⟩ := List.mem_iff_getElem.1 hy; exact List.mem_of_getElem? (LH.at (List.getElem?_eq_getElem hj))))
    omega))
  have HeP := hid (fun (v : World) (hv : GW w w.heap.size ex x v) (y : LH) (hy : LHok v [] y) => equal_rows y x.P [] ex v hy hv.g.p)
  have hR : ∃ R, validB x.n x.S.v x.P.v = R := ⟨_, rfl⟩
  obtain ⟨R, hR⟩ := hR
  have Hv := hid (show R = (decide (1 ≤ x.n) && (decide (x.n ≤ 256) && (decide (x.S.v.length = x.n) && (decide (x.P.v.length = x.n) && (x.S.v.all (risB x.n) && (decide (tot x.S.v ≤ 1024) && decide (revL x.n x.S.v = x.P.v))))))) from hR.symm)
  rw [hR]
  unfold GH.a
  clear h hR
  have HK := hid (fun (v u : World) (h : GW w w.heap.size ex x v) (hb : Below v.heap.size v u) => h.below hb)
  generalize hsv : x.S.v = Sv at *
  generalize hpv : x.P.v = Pv at *
  clear hsv hpv
  obtain ⟨A, n, c, ns, ⟨SA, sn, sc, sl⟩, ⟨PA, pn, pc, pl⟩⟩ := x
  simp only at *
  go_enter Tryz.func14, Tryz.ntmps14
  have hG : ∃ G, w.heap.size = G := ⟨_, rfl⟩
  obtain ⟨G, hG⟩ := hG
  have HGe := hid hG
  rw [hG] at HG HrS HcS HeP HK
  clear hG
  by_cases h1 : 1 ≤ n
  · by_cases h2 : n ≤ 256
    · by_cases h3 : sn = n
      · by_cases h4 : pn = n
        · subst h3
          subst h4
          have Hv2 := hid (show R = (Sv.all (risB pn) && (decide (tot Sv ≤ 1024) && decide (revL pn Sv = Pv))) by rw [Hv.out, decide_eq_true h1, decide_eq_true h2, decide_eq_true HvS.out, decide_eq_true HvP.out]; rfl)
          clear Hv
          go_wp2_with fail
          rw [HGe.out]
          generalize w.alloc (.cells #[.slice A pn c, .slice SA pn sc, .slice PA pn pc] 26) = w0 at HG ⊢
          obtain ⟨c0, c1, c2⟩ := HG.out.box.thr
          have hGl := HG.out.box.lt
          go_loop [5, 32] (fun _ iv => ∃ k : Nat, k ≤ pn ∧ iv = .int .i64 k ∧ Hid (∀ (j : Nat) (l : List Int), j < k → Sv[j]? = some l → risB pn l = true)) (fun _ iv => pn - (intOf iv).toNat)
          case atStart => exact ⟨0, by omega, rfl, hid (fun j l h => by omega)⟩
          case round =>
            obtain ⟨k, hk, rfl, hE⟩ := hrel
            by_cases hlt : k < pn
            · obtain ⟨y, hy, hym⟩ := get_at HL.out hlt
              obtain ⟨ad, hA, had, hc⟩ := HG.out.g.s.cell hy
              simp only at hA
              subst hA
              have Hy := hid (Hat.out k y hy)
              have HC := hid (asc_any y pn ex w0 (HG.out.g.s.all y hym) (by omega))
              clear hy hym
              obtain ⟨yA, yn, yc, yl⟩ := y
              simp only at *
              cases hr : risB pn yl with
              | false =>
                as_aux_lemma =>
                  rw [hr] at HC
                  have Hr := hid (show R = false by rw [Hv2.out, all_false Hy.out hr]; rfl)
                  clear hr
                  go_wp2_with fail
                  refine HC.out.mono ?_
                  rintro e w1 ⟨rfl, rfl⟩
                  go_wp2_with fail
                  go_ret
                  exact retVb_b Hr.out HG.out.bel
              | true =>
                as_aux_lemma =>
                  rw [hr] at HC
                  have Hr := hid (show ∀ (j : Nat) (l : List Int), j < k + 1 → Sv[j]? = some l → risB pn l = true by
                    intro j l hj hl
                    by_cases e : j = k
                    · subst e
                      rw [Hy.out] at hl
                      rw [← Option.some.inj hl]
                      exact hr
                    · exact hE.out j l (by omega) hl)
                  clear hr hE
                  go_wp2_with fail
                  refine HC.out.mono ?_
                  rintro e w1 ⟨rfl, rfl⟩
                  go_wp2_with fail
                  go_round
                  case rel => exact ⟨k + 1, by omega, by go_num, Hr⟩
                  case measure => simp [intOf]; omega
            · obtain rfl : k = pn := by omega
              have Hall := hid (all_true HvS.out hE.out)
              have Hris := hid (show ∀ l ∈ Sv, RisP k l from fun l hl => risB_iff.1 (List.all_eq_true.1 Hall.out l hl))
              have Hv3 := hid (show R = (decide (tot Sv ≤ 1024) && decide (revL k Sv = Pv)) by rw [Hv2.out, Hall.out]; rfl)
              have htl : tot Sv ≤ k * 256 := by
                have := tot_le (S := Sv) (N := 256) (fun l hl => by have := ris_len (Hris.out l hl); omega)
                rw [HvS.out] at this; exact this
              have htl2 : tot Sv ≤ 65536 := by omega
              clear htl hE Hv2
              generalize tot Sv = t at *
              cases ht : decide (t ≤ 1024) with
              | false =>
                as_aux_lemma =>
                  have Hr := hid (show R = false by rw [Hv3.out, ht]; rfl)
                  have t1 : decide ((t : Int) ≤ 1024) = false := by simp at ht ⊢; omega
                  clear ht
                  go_wp2_with fail
                  go_quiet ((go_at_call 30; exact quiet_same (HcS.out _ (HK.out _ _ HG.out (below_drewN (Below.refl _ _) _)) Hris.out (by omega))))
                  go_wp2_with fail
                  go_ret
                  exact retVb_b Hr.out (below_drewN HG.out.bel _)
              | true =>
                as_aux_lemma =>
                  have Hr := hid (show R = eqD (revL k Sv) Pv by rw [Hv3.out, ht]; rfl)
                  have t1 : decide ((t : Int) ≤ 1024) = true := by simp at ht ⊢; omega
                  clear ht
                  have HKc := hid (fun (v : World) (h : GW w G ex ⟨A, k, c, ns, ⟨SA, k, sc, sl⟩, ⟨PA, k, pc, pl⟩⟩ v) => h.box.thr)
                  have HD := hid (fun (v : World) (h : GW w G ex ⟨A, k, c, ns, ⟨SA, k, sc, sl⟩, ⟨PA, k, pc, pl⟩⟩ v) => h.box.lt)
                  go_wp2_with fail
                  have hcur : GW w G ex ⟨A, k, c, ns, ⟨SA, k, sc, sl⟩, ⟨PA, k, pc, pl⟩⟩ w0.drew := HK.out _ _ HG.out (Below.refl _ _).drew
                  clear HG
                  go_region_law (
                    (go_simp
                     first
                     | (go_at_call 30
                        refine (HcS.out _ hcur Hris.out (by omega)).mono ?_
                        rintro e wn ⟨rfl, rfl⟩)
                     | (go_at_call 32
                        refine (HrS.out _ hcur Hris.out (by omega)).mono ?_
                        rintro e wn ⟨y, rfl, hyv, hyok, hbk⟩
                        have hcur := HK.out _ _ hcur hbk
                        obtain ⟨c0, c1, c2⟩ := HKc.out _ hcur
                        have hGl := HD.out _ hcur
                        have hyok := hyok [] (by simp)
                        have Hyv := hid hyv
                        have Hyok := hid hyok
                        clear hbk hyv hyok)
                     | (go_at_call 31
                        refine (HeP.out _ hcur _ Hyok.out).mono ?_
                        rw [Hyv.out]
                        rintro e wn ⟨rfl, q, rfl⟩)))
                  all_goals
                    go_wp2_with fail
                    go_ret
                    exact retVb_b Hr.out (below_drewN hcur.bel _)
        · as_aux_lemma =>
            have Hr := hid (show R = false by rw [Hv.out, decide_eq_false (p := Pv.length = n) (by rw [HvP.out]; exact h4)]; simp)
            have t1 : ((pn : Int) == (n : Int)) = false := by simp; omega
            have t2 : ((pn : Int) != (n : Int)) = true := by simp; omega
            subst h3
            clear h4
            go_wp2_with fail
            go_ret
            exact retVb_b Hr.out HG.out.bel
      · as_aux_lemma =>
          have Hr := hid (show R = false by rw [Hv.out, decide_eq_false (p := Sv.length = n) (by rw [HvS.out]; exact h3)]; simp)
          have t1 : ((sn : Int) == (n : Int)) = false := by simp; omega
          have t2 : ((sn : Int) != (n : Int)) = true := by simp; omega
          clear h3
          go_wp2_with fail
          go_ret
          exact retVb_b Hr.out HG.out.bel
    · as_aux_lemma =>
        have Hr := hid (show R = false by rw [Hv.out, decide_eq_false h2]; simp)
        go_wp2_with fail
        go_ret
        exact retVb_b Hr.out HG.out.bel
  · as_aux_lemma =>
      have Hr := hid (show R = false by rw [Hv.out, decide_eq_false h1]; simp)
      go_wp2_with fail
      go_ret
      exact retVb_b Hr.out HG.out.bel
end Go.Proofs.YtmbelhdkaepohaaGreatDoor

namespace Go.Proofs.YtmbelhdkaepohaaGreatDoor
set_option maxRecDepth 20000
set_option linter.unusedVariables false
set_option linter.unusedSimpArgs false
open Go.ChangeShapes Go.WideShapes Go.ChangeAt Go.RowKit

theorem info50 : (Tryz.prog.info? 55).map (fun i => (i.zero, i.size, i.bytes)) = some (some (.agg #[.int .i64 0, .int .i64 0, .int .i64 0, .int .i64 0]), 4, 32) := by kernel_rfl
/-- A copy came back, a row of its own. -/
def RetOw (w : World) (ty : TypeId) (k n : Nat) (xs : List Value) (e : Ending) (w' : World) : Prop :=
  ∃ (A : Option Addr) (c : Nat), e = .returned (.slice A n c) ∧ w'.ownsRow w.heap.size ty k (.slice A n c) n xs ∧ Below w.heap.size w w'
theorem one_ints (l : List Int) : ∀ u ∈ ints l, u.oneCell' = true := by
  intro u hu
  unfold ints at hu
  obtain ⟨x, _, rfl⟩ := List.mem_map.1 hu
  rfl
set_option maxHeartbeats 1600000 in
theorem clone_int (A : Option Addr) (n c : Nat) (l : List Int) (ex : List (Option Nat)) (w : World) (hA : EAt w ex A (ints l)) (hl : l.length = n) (hf : n ≤ 1000000) : Calls Tryz.prog 45 #[.slice A n c] w (RetOw w 3 1 n (ints l)) := by
  obtain ⟨i0, hi, hz0, hz1, hz2⟩ := info_parts info3
  have Hi := hid hi; have Hz0 := hid hz0; have Hz1 := hid hz1; have Hz2 := hid hz2
  clear hi hz0 hz1 hz2
  have HL := hid hl
  have HA := hid hA
  clear hA
  by_cases h0 : n = 0
  · subst h0
    have Hl := hid (show l = [] from List.length_eq_zero_iff.1 HL.out)
    clear hl
    rcases A with _ | a0
    · have hnil : ∀ w : World, (binOp .eql 22 (.slice none 0 c) (.slice none 0 0)).run Tryz.prog w = .ok (.bool true) w := fun w => Lib.run_eql_slice_nil w 22 3 none 0 c 0 0 Tryz.underlying22
      go_enter Tryz.func45, Tryz.ntmps45
      go_wp2_with fail
      go_ret
      rw [Hl.out]
      exact ⟨none, 0, rfl, World.ownsRow_nil _ _ _ _, Below.refl _ _⟩
    · have HB := hid ((Below.refl w.heap.size w).alloc (Nat.le_refl _) (.cells #[] 3))
      have HO := hid (World.ownsRow_lit (base := w.heap.size) (e := 3) (size := 1) w #[] 0 (Nat.le_refl _) (by unfold maxLen; omega) rfl)
      have hnil : ∀ w : World, (binOp .eql 22 (.slice (some a0) 0 c) (.slice none 0 0)).run Tryz.prog w = .ok (.bool false) w := fun w => Lib.run_eql_slice_nil w 22 3 (some a0) 0 c 0 0 Tryz.underlying22
      go_enter Tryz.func45, Tryz.ntmps45
      go_wp2_with fail
      go_ret
      rw [Hl.out]
      exact ⟨_, _, rfl, HO.out, HB.out⟩
  · obtain ⟨ad, rfl, had, hc⟩ : ∃ ad, A = some ad ∧ Safe w ex ad.block ∧ ∀ j u, (ints l)[j]? = some u → w.cell? (ad.add j) = some u := by
      rcases HA.out with h | h
      · have := congrArg List.length h; simp [ints] at this; subst this; simp at hl; omega
      · exact h
    have hb2 := (Below.refl w.heap.size w).alloc (Nat.le_refl _) (.cells #[] 3)
    have HB2 := hid hb2
    have Hc := hid (fun j u (h : (ints l)[j]? = some u) => (show (w.alloc (.cells #[] 3)).cell? (ad.add j) = some u from (World.cell?_of_block (by rw [add_block]; exact hb2.block _ had.1)).trans (hc j u h)))
    have HO := hid (World.ownsRow_lit (base := w.heap.size) (e := 3) (size := 1) w #[] 0 (Nat.le_refl _) (by unfold maxLen; omega) rfl)
    have Hul := hid (show (ints l).length = n * 1 by unfold ints; rw [List.length_map, HL.out]; omega)
    have hpos : 0 < n := by omega
    clear hc hl hb2 h0
    have hnil : ∀ w : World, (binOp .eql 22 (.slice (some ad) n c) (.slice none 0 0)).run Tryz.prog w = .ok (.bool false) w := fun w => Lib.run_eql_slice_nil w 22 3 (some ad) n c 0 0 Tryz.underlying22
    go_enter Tryz.func45, Tryz.ntmps45
    go_wp2_with ((
      at_builtin
      go_must (refine wpList_append_lies _ rfl _ _ 22 rfl w.heap.size 3 i0 _ 1 8 Tryz.underlying22 Hi.out Hz0.out Hz1.out Hz2.out rfl (by decide) _ 0 [] rfl HO.out ad n c (ints l) rfl Hul.out Hc.out (one_ints l) hpos (by unfold maxLen; omega) (by omega) (by rw [World.size_alloc]; omega) _ rfl ?_)
      intro g5 cap5 w5 hown5 hgr5 hat5 hlt5))
    have HB5 := hid (HB2.out.grown hgr5 HB2.out.size (fun k hk => (HO.out.lt k hk).1))
    have Hown := hid hown5
    clear hown5 hgr5 hat5 hlt5
    go_wp2_with fail
    go_ret
    exact ⟨some ⟨g5, 0, none⟩, cap5, by simp, by have := Hown.out; rw [List.nil_append, Nat.zero_add] at this; exact this, HB5.out⟩
set_option maxHeartbeats 1600000 in
theorem clone_nodes (A : Option Addr) (n c : Nat) (l : List Nd) (ex : List (Option Nat)) (w : World) (hA : EAt w ex A (l.flatMap ndc)) (hl : l.length = n) (hf : n ≤ 1000000) : Calls Tryz.prog 23 #[.slice A n c] w (RetOw w 55 4 n (l.flatMap ndc)) := by
  obtain ⟨i0, hi, hz0, hz1, hz2⟩ := info_parts info50
  have Hi := hid hi; have Hz0 := hid hz0; have Hz1 := hid hz1; have Hz2 := hid hz2
  clear hi hz0 hz1 hz2
  have HL := hid hl
  have HA := hid hA
  clear hA
  by_cases h0 : n = 0
  · subst h0
    have Hl := hid (show l = [] from List.length_eq_zero_iff.1 HL.out)
    clear hl
    rcases A with _ | a0
    · have hnil : ∀ w : World, (binOp .eql 23 (.slice none 0 c) (.slice none 0 0)).run Tryz.prog w = .ok (.bool true) w := fun w => Lib.run_eql_slice_nil w 23 55 none 0 c 0 0 Tryz.underlying23
      go_enter Tryz.func23, Tryz.ntmps23
      go_wp2_with fail
      go_ret
      rw [Hl.out]
      exact ⟨none, 0, rfl, World.ownsRow_nil _ _ _ _, Below.refl _ _⟩
    · have HB := hid ((Below.refl w.heap.size w).alloc (Nat.le_refl _) (.cells #[] 55))
      have HO := hid (World.ownsRow_lit (base := w.heap.size) (e := 55) (size := 4) w #[] 0 (Nat.le_refl _) (by unfold maxLen; omega) rfl)
      have hnil : ∀ w : World, (binOp .eql 23 (.slice (some a0) 0 c) (.slice none 0 0)).run Tryz.prog w = .ok (.bool false) w := fun w => Lib.run_eql_slice_nil w 23 55 (some a0) 0 c 0 0 Tryz.underlying23
      go_enter Tryz.func23, Tryz.ntmps23
      go_wp2_with fail
      go_ret
      rw [Hl.out]
      exact ⟨_, _, rfl, HO.out, HB.out⟩
  · obtain ⟨ad, rfl, had, hc⟩ : ∃ ad, A = some ad ∧ Safe w ex ad.block ∧ ∀ j u, (l.flatMap ndc)[j]? = some u → w.cell? (ad.add j) = some u := by
      rcases HA.out with h | h
      · have := congrArg List.length h; rw [flat_len ndc_len] at this; simp only [List.length_nil] at this; omega
      · exact h
    have hb2 := (Below.refl w.heap.size w).alloc (Nat.le_refl _) (.cells #[] 55)
    have HB2 := hid hb2
    have Hc := hid (fun j u (h : (l.flatMap ndc)[j]? = some u) => (show (w.alloc (.cells #[] 55)).cell? (ad.add j) = some u from (World.cell?_of_block (by rw [add_block]; exact hb2.block _ had.1)).trans (hc j u h)))
    have HO := hid (World.ownsRow_lit (base := w.heap.size) (e := 55) (size := 4) w #[] 0 (Nat.le_refl _) (by unfold maxLen; omega) rfl)
    have Hul := hid (show (l.flatMap ndc).length = n * 4 by rw [flat_len ndc_len, HL.out])
    have Hone := hid (show ∀ u ∈ l.flatMap ndc, u.oneCell' = true from fun u hu => by obtain ⟨x, _, hx⟩ := List.mem_flatMap.1 hu; exact one_ndc x u hx)
    have hpos : 0 < n := by omega
    clear hc hl hb2 h0
    have hnil : ∀ w : World, (binOp .eql 23 (.slice (some ad) n c) (.slice none 0 0)).run Tryz.prog w = .ok (.bool false) w := fun w => Lib.run_eql_slice_nil w 23 55 (some ad) n c 0 0 Tryz.underlying23
    go_enter Tryz.func23, Tryz.ntmps23
    go_wp2_with ((
      at_builtin
      go_must (refine wpList_append_lies _ rfl _ _ 23 rfl w.heap.size 55 i0 _ 4 32 Tryz.underlying23 Hi.out Hz0.out Hz1.out Hz2.out rfl (by decide) _ 0 [] rfl HO.out ad n c (l.flatMap ndc) rfl Hul.out Hc.out Hone.out hpos (by unfold maxLen; omega) (by omega) (by rw [World.size_alloc]; omega) _ rfl ?_)
      intro g5 cap5 w5 hown5 hgr5 hat5 hlt5))
    have HB5 := hid (HB2.out.grown hgr5 HB2.out.size (fun k hk => (HO.out.lt k hk).1))
    have Hown := hid hown5
    clear hown5 hgr5 hat5 hlt5
    go_wp2_with fail
    go_ret
    exact ⟨some ⟨g5, 0, none⟩, cap5, by simp, by have := Hown.out; rw [List.nil_append, Nat.zero_add] at this; exact this, HB5.out⟩
theorem own_mono1 {w : World} {b b2 : Nat} {ty : TypeId} {k : Nat} {v : Value} {n : Nat} {xs : List Value} (h : w.ownsRow b ty k v n xs) (hb : b2 ≤ b) : w.ownsRow b2 ty k v n xs := by
  obtain ⟨h1, h2⟩ := h
  refine ⟨h1, ?_⟩
  rcases h2 with h | ⟨g, cap, cur, e, hg, r⟩
  · exact .inl h
  · exact .inr ⟨g, cap, cur, e, by omega, r⟩
/-- What copied has copied. -/
def cpF (v : List (List Int)) (k : Nat) (b : Nat) : List Int := if b < k then rw0 v b else []
theorem cpF_zero (v : List (List Int)) (b : Nat) : cpF v 0 b = [] := by unfold cpF; rw [if_neg (by omega)]
theorem cpF_step {v : List (List Int)} {k : Nat} {l : List Int} (h : v[k]? = some l) (b : Nat) : upd (cpF v k) k l b = cpF v (k + 1) b := by
  by_cases e : b = k
  · subst e
    rw [upd_at]
    unfold cpF
    rw [if_pos (by omega), rw0_at h]
  · rw [upd_ne _ _ e]
    unfold cpF
    by_cases e2 : b < k
    · rw [if_pos e2, if_pos (by omega)]
    · rw [if_neg e2, if_neg (by omega)]
theorem cpF_all {v : List (List Int)} {n : Nat} (h : v.length = n) : rowsF n (cpF v n) = v := by
  conv => rhs; rw [list_range h]
  unfold rowsF
  refine List.map_congr_left fun b hb => ?_
  unfold cpF
  rw [if_pos (List.mem_range.1 hb)]
set_option maxHeartbeats 3200000 in
theorem copied_any (x : LH) (ex : List (Option Nat)) (w : World) (h : LHok w ex x) (hn : x.n ≤ 100000) (hr : ∀ y ∈ x.l, y.n ≤ 1000000) :
    Calls Tryz.prog 24 #[.slice x.A x.n x.c] w (RetLL w x.v) := by
  have HX := hid h
  have HR := hid hr
  have HL := hid h.len
  have HV := hid ((LH.vlen x).trans h.len)
  have Hat := hid (fun (k : Nat) (z : RH) (hz : x.l[k]? = some z) => LH.at hz)
  clear h hr
  generalize hv : x.v = v at *
  clear hv
  obtain ⟨A, n, c, l⟩ := x
  simp only at *
  have hrow := run_mkrows n hn
  go_enter Tryz.func24, Tryz.ntmps24
  go_wp2_with fail
  have HM := hid (show Mx (w.alloc (.cells (Array.replicate n (Value.slice none 0 0)) 22)) w.heap.size n (cpF v 0) from (Mx.start w n).congr (fun i _ => (cpF_zero v i).symm))
  have HB := hid ((Below.refl w.heap.size w).alloc (Nat.le_refl _) (.cells (Array.replicate n (Value.slice none 0 0)) 22))
  generalize w.alloc (.cells (Array.replicate n (Value.slice none 0 0)) 22) = w0 at HM HB ⊢
  clear hrow
  generalize hMd : w.heap.size = M at *
  go_loopw [4, 5, 11] (fun _ _ iv wr => ∃ k : Nat, k ≤ n ∧ iv = .int .i64 k ∧ Hid (Mx wr M n (cpF v k)) ∧ Hid (Below M w wr)) (fun _ _ iv _ => n - (intOf iv).toNat)
  case atStart => exact ⟨0, by omega, rfl, HM, HB⟩
  case round =>
    clear HM HB
    obtain ⟨k, hk, rfl, hM, hB⟩ := hrel
    by_cases hlt : k < n
    · obtain ⟨y, hy, hym⟩ := get_at HL.out hlt
      have HPr := hid (HX.out.go (Go2.below (hMd ▸ hB.out)))
      obtain ⟨ad, hA, had, hc⟩ := HPr.out.cell hy
      simp only at hA
      subst hA
      have HY := hid (HPr.out.all y hym)
      have hyn := HR.out y hym
      have Hst := hid (fun b : Nat => cpF_step (Hat.out k y hy) b)
      have HC := hid (clone_int y.A y.n y.c y.l ex wr HY.out.lies HY.out.len hyn)
      have Hyl := hid HY.out.len
      obtain ⟨rv, hown, hcell, hfr, -, hkeep, hput⟩ := hM.out.at hlt
      have HK := hid hkeep
      have HP := hid hput
      have hszM : M + 1 ≤ wr.heap.size := hM.out.lt
      clear hy hym HPr hown hcell hfr hkeep hput hM HY
      obtain ⟨yA, yn, yc, yl⟩ := y
      simp only at *
      go_wp2_with fail
      refine HC.out.mono ?_
      rintro e wc ⟨B, bc, rfl, ho, hb⟩
      obtain ⟨y0, y1⟩ := HK.out _ (grown_of_below hb _)
      have HF := hid (HP.out wc (.slice B yn bc) yl (grown_of_below hb _) (by rw [Hyl.out]; exact own_mono1 ho hszM) (fun g hg => .inr (ho.lt g hg).1))
      have HB2 := hid ((hB.out.trans (hb.mono (by omega))).setCell (p := ⟨M, k, none⟩) (Nat.le_refl _) (.slice B yn bc))
      clear ho hb HC HK HP hB
      go_wp2_with fail
      go_roundw
      case rel => exact ⟨k + 1, by omega, by go_num, hid (HF.out.congr (fun b _ => Hst.out b)), HB2⟩
      case measure => simp [intOf]; omega
    · obtain rfl : k = n := by omega
      obtain ⟨y, hy1, hy2, hy3, hy4, hy5⟩ := hM.out.lists (by omega)
      have HF := hid (show RetLL w v (.returned (.slice (some ⟨M, 0, none⟩) k k)) wr from ⟨y, by rw [hy1, hy2, hy3], by rw [hy4, cpF_all HV.out], fun ex hex => hy5 ex (fun q hq => by have := hex q hq; omega), by rw [hMd]; exact hB.out⟩)
      clear hy1 hy2 hy3 hy4 hy5 hM hB
      go_wp2_with fail
      go_ret
      exact HF.out
/-- The number of edges. -/
def edgN (N : Nat) (S P : List (List Int)) : Nat := if validB N S P then tot S else 0
theorem rows_small {x : LH} {w : World} {ex : List (Option Nat)} (h : LHok w ex x) {N : Nat} (hr : ∀ l ∈ x.v, RisP N l) : ∀ y ∈ x.l, y.n ≤ N := by
  intro y hy
  rw [← (h.all y hy).len]
  exact ris_len (hr y.l (by obtain ⟨j, hj, rfl⟩ := List.mem_iff_getElem.1 hy; exact List.mem_of_getElem? (LH.at (List.getElem?_eq_getElem hj))))
set_option maxHeartbeats 1600000 in
theorem edges_any (x : GH) (ex : List (Option Nat)) (w : World) (h : GHok w ex x) :
    Calls Tryz.prog 15 #[x.a] w (RetVb w (.int .i64 (edgN x.n x.S.v x.P.v : Nat))) := by
  have HG := hid (GW.start h)
  have HK := hid (fun (v u : World) (h : GW w w.heap.size ex x v) (hb : Below v.heap.size v u) => h.below hb)
  have HV := hid (fun (v : World) (h : GW w w.heap.size ex x v) => valid_graph x ex v h.g)
  have HC := hid (fun (v : World) (hv : GW w w.heap.size ex x v) (h2 : ValG x.n x.S.v x.P.v) => count_any x.S x.S.n ex v hv.g.s (by have := h2.slen; have := h2.few; have := LH.vlen x.S; have := h.s.len; omega) (fun y hy => by have := rows_small h.s h2.ris y hy; have := h2.few; omega))
  have Hb := hid (fun (v : World) (h : GW w w.heap.size ex x v) => h.box.thr)
  have Hbl := hid (fun (v : World) (h : GW w w.heap.size ex x v) => h.box.lt)
  have Hbb := hid (fun (v : World) (h : GW w w.heap.size ex x v) => h.bel)
  unfold GH.a at *
  clear h
  generalize hsv : x.S.v = Sv at *
  generalize hpv : x.P.v = Pv at *
  clear hsv hpv
  obtain ⟨A, n, c, ns, ⟨SA, sn, sc, sl⟩, ⟨PA, pn, pc, pl⟩⟩ := x
  simp only at *
  cases hv : validB n Sv Pv with
  | false =>
    have Hr := hid (show ((edgN n Sv Pv : Nat) : Int) = 0 by unfold edgN; rw [hv]; rfl)
    rw [hv] at HV
    go_enter Tryz.func15, Tryz.ntmps15
    obtain ⟨c0, c1, c2⟩ := Hb.out _ HG.out
    have hGl := Hbl.out _ HG.out
    go_wp2_with fail
    refine (HV.out _ HG.out).mono ?_
    rintro e w1 ⟨rfl, hb1⟩
    have HF := hid (Hbb.out _ (HK.out _ _ HG.out hb1))
    clear HG c0 c1 c2 hGl
    go_wp2_with fail
    go_ret
    exact retVb_i Hr.out HF.out
  | true =>
    have Hr := hid (show ((edgN n Sv Pv : Nat) : Int) = (tot Sv : Nat) by unfold edgN; rw [hv]; rfl)
    have Hval := hid (validB_iff.1 hv)
    rw [hv] at HV
    go_enter Tryz.func15, Tryz.ntmps15
    obtain ⟨c0, c1, c2⟩ := Hb.out _ HG.out
    have hGl := Hbl.out _ HG.out
    go_wp2_with fail
    refine (HV.out _ HG.out).mono ?_
    rintro e w1 ⟨rfl, hb1⟩
    have HG1 := hid (HK.out _ _ HG.out hb1)
    clear HG c0 c1 c2 hGl
    obtain ⟨c0, c1, c2⟩ := Hb.out _ HG1.out
    have hGl := Hbl.out _ HG1.out
    go_wp2_with fail
    refine (HC.out _ HG1.out Hval.out).mono ?_
    rintro e w2 ⟨rfl, rfl⟩
    go_wp2_with fail
    go_ret
    exact retVb_i Hr.out (Hbb.out _ HG1.out)
end Go.Proofs.YtmbelhdkaepohaaGreatDoor

namespace Go.Proofs.YtmbelhdkaepohaaGreatDoor
set_option maxRecDepth 20000
set_option linter.unusedVariables false
set_option linter.unusedSimpArgs false
open Go.ChangeShapes Go.WideShapes Go.ChangeAt Go.RowKit

/-- A row came back. -/
def RetRow (w : World) (ex : List (Option Nat)) (l : List Int) (e : Ending) (w' : World) : Prop :=
  ∃ y : RH, e = .returned (.slice y.A y.n y.c) ∧ y.l = l ∧ RHok w' ex y ∧ y.n ≤ y.c ∧ Below w.heap.size w w'
theorem RetRow.own {w w' : World} {ex : List (Option Nat)} {l : List Int} {A : Option Addr} {n c : Nat} (hex : ∀ k, some k ∈ ex → k < w.heap.size) (ho : w'.ownsRow w.heap.size 3 1 (.slice A n c) n (ints l)) (hl : l.length = n) (hn : n ≤ 200000) (hb : Below w.heap.size w w') :
    RetRow w ex l (.returned (.slice A n c)) w' := by
  refine ⟨⟨A, n, c, l⟩, rfl, rfl, ⟨EAt.own ho (fun g hg hm => by have := hex g hm; have := (ho.lt g hg).1; omega), hl, by show n ≤ _; omega⟩, ?_, hb⟩
  rcases ho.2 with ⟨e, h0⟩ | ⟨g, cap, cur, e, _, _, h1, _⟩
  · show n ≤ c; omega
  · injection e with _ _ e3
    show n ≤ c; omega
theorem ins_take {l : List Int} {v a : Int} {k : Nat} (h : ∀ x ∈ l.take k, x < v) (ha : l[k]? = some a) (hlt : a < v) : ∀ x ∈ l.take (k + 1), x < v := by
  intro x hx
  rw [List.take_add_one, ha] at hx
  rcases List.mem_append.1 hx with hx | hx
  · exact h x hx
  · simp at hx; subst hx; exact hlt
theorem add_nil (a : Addr) : a.add 0 = a := by
  obtain ⟨b, o, p⟩ := a
  cases p <;> simp [Addr.add]
theorem int_new1 (w : World) (o : Obj) (x : Int) (t : Nat) : ∀ (j : Nat) (u : Value), [Value.int .i64 x][j]? = some u → ((w.alloc o).alloc (.cells #[.int .i64 x] t)).cell? ((⟨w.heap.size + 1, 0, none⟩ : Addr).add j) = some u := by
  intro j u h
  have := int_new (w.alloc o) x t j u h
  rw [World.size_alloc] at this
  exact this
theorem own_capn {w : World} {base ty k g n cap : Nat} {xs : List Value} (h : w.ownsRow base ty k (.slice (some ⟨g, 0, none⟩) n cap) n xs) : n ≤ cap := by
  rcases h.2 with ⟨e, h0⟩ | ⟨g2, cap2, cur, e, _, _, h1, _⟩
  · omega
  · injection e with _ _ e3; omega
theorem own_step {w W w5 : World} {v : Value} {ty k n : Nat} {xs : List Value} (hB : Below w.heap.size w W) (ho : W.ownsRow w.heap.size ty k v n xs) (hg : W.grownBy w5 v.ownBlock) : Below w.heap.size w w5 := hB.grown hg hB.size (fun k hk => (ho.lt k hk).1)
theorem ints_take (l : List Int) (k : Nat) : ints (l.take k) = (ints l).take k := by simp [ints, List.map_take]
set_option maxHeartbeats 6400000 in
theorem insert_any (x : RH) (v : Int) (ex : List (Option Nat)) (w : World) (h : RHok w ex x) (hcap : x.n ≤ x.c) (hn : x.n ≤ 100000) (hex : ∀ k, some k ∈ ex → k < w.heap.size) :
    Calls Tryz.prog 10 #[.slice x.A x.n x.c, .int .i64 v] w (RetRow w ex (insI x.l v)) := by
  obtain ⟨i1, hi, hz0, hz1, hz2⟩ := info_parts info3
  have Hi := hid hi; have Hz0 := hid hz0; have Hz1 := hid hz1; have Hz2 := hid hz2
  clear hi hz0 hz1 hz2
  have HX := hid h
  have HL := hid h.len
  have Hex := hid hex
  clear h hex
  obtain ⟨A, n, c, l⟩ := x
  simp only at *
  have hb1 := (Below.refl w.heap.size w).alloc (Nat.le_refl _) (.cells #[] 3)
  have HB1 := hid hb1
  have HO := hid (World.ownsRow_lit (base := w.heap.size) (e := 3) (size := 1) w #[] 0 (Nat.le_refl _) (by unfold maxLen; omega) rfl)
  clear hb1
  go_enter Tryz.func10, Tryz.ntmps10
  go_wp2_with fail
  go_loop [5] (fun iv => ∃ k : Nat, k ≤ n ∧ iv = .int .i64 k ∧ Hid (∀ z ∈ l.take k, z < v)) (fun iv => n - (intOf iv).toNat)
  case atStart => exact ⟨0, by omega, rfl, hid (by simp)⟩
  case round =>
    obtain ⟨k, hk, rfl, hP⟩ := hrel
    by_cases hlt : k < n
    · obtain ⟨a, ha, -⟩ := get_at HL.out hlt
      obtain ⟨ad, hA, had, hc⟩ := HX.out.cell ha
      simp only at hA
      subst hA
      have Ha := hid ha
      clear ha
      by_cases h1 : a < v
      · as_aux_lemma =>
          have Hr := hid (ins_take hP.out Ha.out h1)
          go_wp2_with fail
          go_round
          case rel => exact ⟨k + 1, by omega, by go_num, Hr⟩
          case measure => simp [intOf]; omega
      · by_cases h2 : a = v
        · as_aux_lemma =>
            subst h2
            have Hr := hid (insI_hit hP.out Ha.out)
            go_wp2_with fail
            go_ret
            exact ⟨⟨some ad, n, c, l⟩, rfl, Hr.out.symm, HX.out, hcap, Below.refl _ _⟩
        · have Hr := hid (insI_put hP.out Ha.out (by omega))
          have t1 : (a == v) = false := by simpa using h2
          have hkc : k < c := by omega
          have Hal := hid (fun (v : World) (hb : Below w.heap.size w v) (j : Nat) (u : Value) (hj : (ints l)[j]? = some u) => show v.cell? (ad.add j) = some u by
            rcases HX.out.lies with h | ⟨ad2, e, hs, hcc⟩
            · rw [h] at hj; simp at hj
            · obtain rfl := Option.some.inj e
              exact (hb.cell (p := ad.add j) (by rw [add_block]; exact hs.1)).trans (hcc j u hj))
          have Hlen := hid (show (l.take k ++ v :: l.drop k).length = n + 1 by rw [List.length_append, List.length_take, List.length_cons, List.length_drop, HL.out]; omega)
          have Hdl := hid (show (ints (l.drop k)).length = (n - k) * 1 by unfold ints; rw [List.length_map, List.length_drop, HL.out]; omega)
          have Hdc := hid (fun (u : World) (hb : Below w.heap.size w u) (j : Nat) (z : Value) (hj : (ints (l.drop k))[j]? = some z) => show u.cell? ((ad.add k).add j) = some z by
            rw [Go.Deep.add_add]
            refine Hal.out u hb (k + j) z ?_
            unfold ints at hj ⊢
            rw [List.getElem?_map, List.getElem?_drop] at hj
            rw [List.getElem?_map]; exact hj)
          by_cases hk0 : k = 0
          · subst hk0
            have hc0 : w.cell? ad = some (.int .i64 a) := by rw [add_nil] at hc; exact hc
            have Hr2 := hid Hr.out
            as_aux_lemma =>
              go_wp2_with (
                first
                | (
                 at_builtin
                 refine wpList_append_lies _ rfl _ _ 22 rfl w.heap.size 3 i1 _ 1 8 Tryz.underlying22 Hi.out Hz0.out Hz1.out Hz2.out rfl (by decide) _ 0 [] rfl (HO.out.alloc _) ⟨w.heap.size + 1, 0, none⟩ 1 1 [Value.int .i64 v] rfl rfl (int_new1 w (.cells #[] 3) v 3) (one_int1 _) (by omega) (by unfold maxLen; omega) (by omega) (by rw [World.size_alloc]; have := (HB1.out).size; omega) _ rfl ?_
                 intro g5 cap5 w5 hown5 hgr5 hat5 hlt5
                 try rw [Nat.zero_add] at hown5
                 try rw [List.nil_append] at hown5
                 have HB5 := hid (own_step ((HB1.out).alloc (HB1.out).size (.cells #[Value.int .i64 v] 3)) (HO.out.alloc _) hgr5)
                 have H5 := hid hown5
                 have hcp5 := own_capn hown5
                 clear hown5 hgr5 hat5 hlt5)
                | (
                 at_builtin
                 refine wpList_append_lies _ rfl _ _ 22 rfl w.heap.size 3 i1 _ 1 8 Tryz.underlying22 Hi.out Hz0.out Hz1.out Hz2.out rfl (by decide) _ 1 [Value.int .i64 v] rfl H5.out ad n c (ints l) rfl (by unfold ints; rw [List.length_map, HL.out]; omega) (Hal.out _ HB5.out) (one_ints _) (by omega) (by unfold maxLen; omega) (by omega) (HB5.out).size _ rfl ?_
                 intro g7 cap7 w7 hown7 hgr7 hat7 hlt7
                 try rw [Nat.zero_add] at hown7
                 try rw [List.nil_append] at hown7
                 have HB7 := hid (own_step (HB5.out) H5.out hgr7)
                 have H7 := hid hown7
                 clear hown7 hgr7 hat7 hlt7))
              go_ret
              exact RetRow.own Hex.out (by rw [Hr.out]; have := H7.out; simpa [ints] using this) (by rw [Hr.out]; have := Hlen.out; omega) (by omega) HB7.out
          ·
            have Htk := hid (show (ints (l.take k)).length = k * 1 by unfold ints; rw [List.length_map, List.length_take, HL.out]; omega)
            have Htc := hid (fun (u : World) (hb : Below w.heap.size w u) (j : Nat) (z : Value) (hj : (ints (l.take k))[j]? = some z) => show u.cell? (ad.add j) = some z by
              refine Hal.out u hb j z ?_
              rw [ints_take, List.getElem?_take] at hj
              split at hj
              · exact hj
              · cases hj)
            as_aux_lemma =>
              go_wp2_with (
                first
                | (
                 at_builtin
                 refine wpList_append_lies _ rfl _ _ 22 rfl w.heap.size 3 i1 _ 1 8 Tryz.underlying22 Hi.out Hz0.out Hz1.out Hz2.out rfl (by decide) _ 0 [] rfl HO.out ad k c (ints (l.take k)) rfl Htk.out (Htc.out _ HB1.out) (one_ints _) (by omega) (by unfold maxLen; omega) (by omega) (HB1.out).size _ rfl ?_
                 intro g3 cap3 w3 hown3 hgr3 hat3 hlt3
                 try rw [Nat.zero_add] at hown3
                 try rw [List.nil_append] at hown3
                 have HB3 := hid (own_step (HB1.out) HO.out hgr3)
                 have H3 := hid hown3
                 clear hown3 hgr3 hat3 hlt3
                 clear HO)
                | (
                 at_builtin
                 refine wpList_append_lies _ rfl _ _ 22 rfl w.heap.size 3 i1 _ 1 8 Tryz.underlying22 Hi.out Hz0.out Hz1.out Hz2.out rfl (by decide) _ k (ints (l.take k)) rfl (H3.out.alloc _) ⟨(w3).heap.size, 0, none⟩ 1 1 [Value.int .i64 v] rfl rfl (int_new (w3) v 3) (one_int1 _) (by omega) (by unfold maxLen; omega) (by omega) (by rw [World.size_alloc]; have := (HB3.out).size; omega) _ rfl ?_
                 intro g5 cap5 w5 hown5 hgr5 hat5 hlt5
                 try rw [Nat.zero_add] at hown5
                 try rw [List.nil_append] at hown5
                 have HB5 := hid (own_step ((HB3.out).alloc (HB3.out).size (.cells #[Value.int .i64 v] 3)) (H3.out.alloc _) hgr5)
                 have H5 := hid hown5
                 have hcp5 := own_capn hown5
                 clear hown5 hgr5 hat5 hlt5
                 clear H3)
                | (
                 at_builtin
                 refine wpList_append_lies _ rfl _ _ 22 rfl w.heap.size 3 i1 _ 1 8 Tryz.underlying22 Hi.out Hz0.out Hz1.out Hz2.out rfl (by decide) _ (k + 1) (ints (l.take k) ++ [Value.int .i64 v]) rfl H5.out (ad.add k) (n - k) (c - k) (ints (l.drop k)) rfl Hdl.out (Hdc.out _ HB5.out) (one_ints _) (by omega) (by unfold maxLen; omega) (by omega) (HB5.out).size _ rfl ?_
                 intro g7 cap7 w7 hown7 hgr7 hat7 hlt7
                 try rw [Nat.zero_add] at hown7
                 try rw [List.nil_append] at hown7
                 have HB7 := hid (own_step (HB5.out) H5.out hgr7)
                 have H7 := hid hown7
                 clear hown7 hgr7 hat7 hlt7))
              go_ret
              exact RetRow.own Hex.out (by rw [Hr.out]; have := H7.out; simpa [ints] using this) (by rw [Hr.out]; have := Hlen.out; omega) (by omega) HB7.out
    · obtain rfl : k = n := by omega
      have Hr := hid (insI_end (l := l) (n := v) (by have := hP.out; rw [List.take_of_length_le (by rw [HL.out]; omega)] at this; exact this))
      have Hlen := hid (show (l ++ [v]).length = k + 1 by rw [List.length_append, HL.out]; rfl)
      have Hex2 := Hex
      by_cases h0 : k = 0
      · subst h0
        have Hl0 := hid (show l = [] from List.length_eq_zero_iff.1 HL.out)
        rcases A with _ | ad
        all_goals
          by_cases hc0 : c = 0
          · as_aux_lemma =>
              subst hc0
              go_wp2_with (
                first
                | (
                 at_builtin
                 refine wpList_append_lies _ rfl _ _ 22 rfl w.heap.size 3 i1 _ 1 8 Tryz.underlying22 Hi.out Hz0.out Hz1.out Hz2.out rfl (by decide) _ 0 [] rfl (HO.out.alloc _) ⟨w.heap.size + 1, 0, none⟩ 1 1 [Value.int .i64 v] rfl rfl (int_new1 w (.cells #[] 3) v 3) (one_int1 _) (by omega) (by unfold maxLen; omega) (by omega) (by rw [World.size_alloc]; have := (HB1.out).size; omega) _ rfl ?_
                 intro g5 cap5 w5 hown5 hgr5 hat5 hlt5
                 try rw [Nat.zero_add] at hown5
                 try rw [List.nil_append] at hown5
                 have HB5 := hid (own_step ((HB1.out).alloc (HB1.out).size (.cells #[Value.int .i64 v] 3)) (HO.out.alloc _) hgr5)
                 have H5 := hid hown5
                 have hcp5 := own_capn hown5
                 clear hown5 hgr5 hat5 hlt5))
              go_ret
              exact RetRow.own Hex.out (by rw [Hr.out, Hl0.out]; have := H5.out; simpa [ints] using this) (by rw [Hr.out, Hl0.out]; rfl) (by omega) HB5.out
          · as_aux_lemma =>
              have hcp : 0 < c := by omega
              go_wp2_with (
                first
                | (
                 at_builtin
                 refine wpList_append_lies _ rfl _ _ 22 rfl w.heap.size 3 i1 _ 1 8 Tryz.underlying22 Hi.out Hz0.out Hz1.out Hz2.out rfl (by decide) _ 0 [] rfl (HO.out.alloc _) ⟨w.heap.size + 1, 0, none⟩ 1 1 [Value.int .i64 v] rfl rfl (int_new1 w (.cells #[] 3) v 3) (one_int1 _) (by omega) (by unfold maxLen; omega) (by omega) (by rw [World.size_alloc]; have := (HB1.out).size; omega) _ rfl ?_
                 intro g5 cap5 w5 hown5 hgr5 hat5 hlt5
                 try rw [Nat.zero_add] at hown5
                 try rw [List.nil_append] at hown5
                 have HB5 := hid (own_step ((HB1.out).alloc (HB1.out).size (.cells #[Value.int .i64 v] 3)) (HO.out.alloc _) hgr5)
                 have H5 := hid hown5
                 have hcp5 := own_capn hown5
                 clear hown5 hgr5 hat5 hlt5))
              go_ret
              exact RetRow.own Hex.out (by rw [Hr.out, Hl0.out]; have := H5.out; simpa [ints] using this) (by rw [Hr.out, Hl0.out]; rfl) (by omega) HB5.out
      · obtain ⟨ad, rfl, had, hc⟩ : ∃ ad, A = some ad ∧ Safe w ex ad.block ∧ ∀ j u, (ints l)[j]? = some u → w.cell? (ad.add j) = some u := by
          rcases HX.out.lies with h | h
          · have h := congrArg List.length h; simp [ints] at h; have := HL.out; rw [h] at this; simp at this; omega
          · exact h
        have Htk := hid (show (ints l).length = k * 1 by unfold ints; rw [List.length_map, HL.out]; omega)
        have Htc := hid (fun (u : World) (hb : Below w.heap.size w u) (j : Nat) (z : Value) (hj : (ints l)[j]? = some z) => show u.cell? (ad.add j) = some z from (hb.cell (p := ad.add j) (by rw [add_block]; exact had.1)).trans (hc j z hj))
        clear hc had
        by_cases hkc : k = c
        · as_aux_lemma =>
            subst hkc
            go_wp2_with (
              first
              | (
               at_builtin
               refine wpList_append_lies _ rfl _ _ 22 rfl w.heap.size 3 i1 _ 1 8 Tryz.underlying22 Hi.out Hz0.out Hz1.out Hz2.out rfl (by decide) _ 0 [] rfl HO.out ad k k (ints l) rfl Htk.out (Htc.out _ HB1.out) (one_ints _) (by omega) (by unfold maxLen; omega) (by omega) (HB1.out).size _ rfl ?_
               intro g3 cap3 w3 hown3 hgr3 hat3 hlt3
               try rw [Nat.zero_add] at hown3
               try rw [List.nil_append] at hown3
               have HB3 := hid (own_step (HB1.out) HO.out hgr3)
               have H3 := hid hown3
               clear hown3 hgr3 hat3 hlt3
               clear HO)
              | (
               at_builtin
               refine wpList_append_lies _ rfl _ _ 22 rfl w.heap.size 3 i1 _ 1 8 Tryz.underlying22 Hi.out Hz0.out Hz1.out Hz2.out rfl (by decide) _ k (ints l) rfl (H3.out.alloc _) ⟨(w3).heap.size, 0, none⟩ 1 1 [Value.int .i64 v] rfl rfl (int_new (w3) v 3) (one_int1 _) (by omega) (by unfold maxLen; omega) (by omega) (by rw [World.size_alloc]; have := (HB3.out).size; omega) _ rfl ?_
               intro g5 cap5 w5 hown5 hgr5 hat5 hlt5
               try rw [Nat.zero_add] at hown5
               try rw [List.nil_append] at hown5
               have HB5 := hid (own_step ((HB3.out).alloc (HB3.out).size (.cells #[Value.int .i64 v] 3)) (H3.out.alloc _) hgr5)
               have H5 := hid hown5
               have hcp5 := own_capn hown5
               clear hown5 hgr5 hat5 hlt5
               clear H3))
            go_ret
            exact RetRow.own Hex.out (by rw [Hr.out]; have := H5.out; simpa [ints] using this) (by rw [Hr.out]; have := Hlen.out; omega) (by omega) HB5.out
        · as_aux_lemma =>
            have hkc2 : k < c := by omega
            go_wp2_with (
              first
              | (
               at_builtin
               refine wpList_append_lies _ rfl _ _ 22 rfl w.heap.size 3 i1 _ 1 8 Tryz.underlying22 Hi.out Hz0.out Hz1.out Hz2.out rfl (by decide) _ 0 [] rfl HO.out ad k c (ints l) rfl Htk.out (Htc.out _ HB1.out) (one_ints _) (by omega) (by unfold maxLen; omega) (by omega) (HB1.out).size _ rfl ?_
               intro g3 cap3 w3 hown3 hgr3 hat3 hlt3
               try rw [Nat.zero_add] at hown3
               try rw [List.nil_append] at hown3
               have HB3 := hid (own_step (HB1.out) HO.out hgr3)
               have H3 := hid hown3
               clear hown3 hgr3 hat3 hlt3
               clear HO)
              | (
               at_builtin
               refine wpList_append_lies _ rfl _ _ 22 rfl w.heap.size 3 i1 _ 1 8 Tryz.underlying22 Hi.out Hz0.out Hz1.out Hz2.out rfl (by decide) _ k (ints l) rfl (H3.out.alloc _) ⟨(w3).heap.size, 0, none⟩ 1 1 [Value.int .i64 v] rfl rfl (int_new (w3) v 3) (one_int1 _) (by omega) (by unfold maxLen; omega) (by omega) (by rw [World.size_alloc]; have := (HB3.out).size; omega) _ rfl ?_
               intro g5 cap5 w5 hown5 hgr5 hat5 hlt5
               try rw [Nat.zero_add] at hown5
               try rw [List.nil_append] at hown5
               have HB5 := hid (own_step ((HB3.out).alloc (HB3.out).size (.cells #[Value.int .i64 v] 3)) (H3.out.alloc _) hgr5)
               have H5 := hid hown5
               have hcp5 := own_capn hown5
               clear hown5 hgr5 hat5 hlt5
               clear H3))
            go_ret
            exact RetRow.own Hex.out (by rw [Hr.out]; have := H5.out; simpa [ints] using this) (by rw [Hr.out]; have := Hlen.out; omega) (by omega) HB5.out
end Go.Proofs.YtmbelhdkaepohaaGreatDoor

namespace Go.Proofs
open Go.Shelf
def Tryz.lays189_ren : Go.Shelf.Ren := ⟨fun | 189 => 35 | 125 => 47 | 257 => 46 | 128 => 69 | 129 => 70 | 294 => 60 | 295 => 61 | 296 => 62 | 297 => 63 | 298 => 64 | 299 => 65 | 216 => 66 | 300 => 67 | 301 => 68 | 328 => 87 | 329 => 88 | 330 => 89 | 331 => 90 | 332 => 91 | 215 => 92 | 343 => 110 | n => n, fun | 28 => 22 | 3 => 3 | 46 => 64 | 0 => 0 | 51 => 115 | 53 => 117 | 4 => 4 | 183 => 107 | 182 => 106 | 131 => 112 | 5 => 5 | 9 => 9 | 218 => 135 | 222 => 139 | 228 => 152 | 229 => 129 | n => n, fun | n => n⟩
theorem Tryz.lays189 : Go.Proofs.Lays.n189 Tryz.prog Tryz.lays189_ren := {
  mixed := by kernel_rfl
  f125 := Tryz.func47.trans (congrArg some (by kernel_rfl))
  f128 := Tryz.func69.trans (congrArg some (by kernel_rfl))
  f129 := Tryz.func70.trans (congrArg some (by kernel_rfl))
  f189 := Tryz.func35.trans (congrArg some (by kernel_rfl))
  f215 := Tryz.func92.trans (congrArg some (by kernel_rfl))
  f216 := Tryz.func66.trans (congrArg some (by kernel_rfl))
  f257 := Tryz.func46.trans (congrArg some (by kernel_rfl))
  f294 := Tryz.func60.trans (congrArg some (by kernel_rfl))
  f295 := Tryz.func61.trans (congrArg some (by kernel_rfl))
  f296 := Tryz.func62.trans (congrArg some (by kernel_rfl))
  f297 := Tryz.func63.trans (congrArg some (by kernel_rfl))
  f298 := Tryz.func64.trans (congrArg some (by kernel_rfl))
  f299 := Tryz.func65.trans (congrArg some (by kernel_rfl))
  f300 := Tryz.func67.trans (congrArg some (by kernel_rfl))
  f301 := Tryz.func68.trans (congrArg some (by kernel_rfl))
  f328 := Tryz.func87.trans (congrArg some (by kernel_rfl))
  f329 := Tryz.func88.trans (congrArg some (by kernel_rfl))
  f330 := Tryz.func89.trans (congrArg some (by kernel_rfl))
  f331 := Tryz.func90.trans (congrArg some (by kernel_rfl))
  f332 := Tryz.func91.trans (congrArg some (by kernel_rfl))
  f343 := Tryz.func110.trans (congrArg some (by kernel_rfl))
  t0 := Tryz.underlying0
  a0 := Tryz.isAgg0
  z0 := Tryz.sizeOf0
  v0 := Tryz.zeroValue0
  t3 := Tryz.underlying3
  a3 := Tryz.isAgg3
  z3 := Tryz.sizeOf3
  v3 := Tryz.zeroValue3
  t4 := Tryz.underlying4
  a4 := Tryz.isAgg4
  z4 := Tryz.sizeOf4
  v4 := Tryz.zeroValue4
  t5 := Tryz.underlying5
  a5 := Tryz.isAgg5
  z5 := Tryz.sizeOf5
  v5 := Tryz.zeroValue5
  t9 := Tryz.underlying9
  a9 := Tryz.isAgg9
  z9 := Tryz.sizeOf9
  v9 := Tryz.zeroValue9
  t28 := Tryz.underlying22
  a28 := Tryz.isAgg22
  z28 := Tryz.sizeOf22
  v28 := Tryz.zeroValue22
  t46 := Tryz.underlying64
  a46 := Tryz.isAgg64
  z46 := Tryz.sizeOf64
  v46 := Tryz.zeroValue64
  t51 := Tryz.underlying115
  a51 := Tryz.isAgg115
  z51 := Tryz.sizeOf115
  v51 := Tryz.zeroValue115
  t53 := Tryz.underlying117
  a53 := Tryz.isAgg117
  z53 := Tryz.sizeOf117
  v53 := Tryz.zeroValue117
  t131 := Tryz.underlying112
  a131 := Tryz.isAgg112
  z131 := Tryz.sizeOf112
  v131 := Tryz.zeroValue112
  t182 := Tryz.underlying106
  a182 := Tryz.isAgg106
  z182 := Tryz.sizeOf106
  v182 := Tryz.zeroValue106
  t183 := Tryz.underlying107
  a183 := Tryz.isAgg107
  z183 := Tryz.sizeOf107
  v183 := Tryz.zeroValue107
  t218 := Tryz.underlying135
  a218 := Tryz.isAgg135
  z218 := Tryz.sizeOf135
  v218 := Tryz.zeroValue135
  t222 := Tryz.underlying139
  a222 := Tryz.isAgg139
  z222 := Tryz.sizeOf139
  v222 := Tryz.zeroValue139
  t228 := Tryz.underlying152
  a228 := Tryz.isAgg152
  z228 := Tryz.sizeOf152
  v228 := Tryz.zeroValue152
  t229 := Tryz.underlying129
  a229 := Tryz.isAgg129
  z229 := Tryz.sizeOf129
  v229 := Tryz.zeroValue129 }
open Go.Sort Go.RowKit in
theorem Tryz.slices_Sort_int (blk off cap : Nat) (zs : List Int) (w : World) (hH : Holds (Value.int .i64) w blk off zs.toArray) (hblk : blk < w.heap.size) (hsz : zs.length < 4611686018427387904) :
    Calls Tryz.prog 35 #[.slice (some ⟨blk, off, none⟩) zs.length cap] w fun e w' =>
      e = .returned (.tuple #[]) ∧ ∃ n os, w' = grow (putRow (Value.int .i64) (Sort.ahead w n) blk off (zs.mergeSort fun x y => decide (x ≤ y)).toArray) os := Any.slices_Sort_int Tryz.lays189 blk off cap zs w hH hblk hsz
def Tryz.laysNm220_ren : Go.Shelf.Ren := ⟨fun | 20 => 44 | n => n, fun | 22 => 22 | 3 => 3 | 4 => 4 | 0 => 0 | n => n, fun | n => n⟩
theorem Tryz.laysNm220 : Go.Proofs.Lays2.n20 Tryz.prog Tryz.laysNm220_ren := {
  mixed := by kernel_rfl
  f20 := Tryz.func44.trans (congrArg some (by kernel_rfl))
  t0 := Tryz.underlying0
  a0 := Tryz.isAgg0
  z0 := Tryz.sizeOf0
  v0 := Tryz.zeroValue0
  t3 := Tryz.underlying3
  a3 := Tryz.isAgg3
  z3 := Tryz.sizeOf3
  v3 := Tryz.zeroValue3
  t4 := Tryz.underlying4
  a4 := Tryz.isAgg4
  z4 := Tryz.sizeOf4
  v4 := Tryz.zeroValue4
  t22 := Tryz.underlying22
  a22 := Tryz.isAgg22
  z22 := Tryz.sizeOf22
  v22 := Tryz.zeroValue22
  i3 := by kernel_rfl }
open Go.RowKit Go.Lib Go.Sort in
theorem Tryz.slices_Compact_int_arr (blk off cap : Nat) (d : Array Int) (w : World) (hH : Holds encI w blk off d) (hsz : d.size ≤ 9223372036854775807) (hcap : d.size ≤ cap) :
    Calls Tryz.prog 44 #[.slice (some ⟨blk, off, none⟩) d.size cap] w fun e w' => e = .returned (.slice (some ⟨blk, off, none⟩) (compactUpTo d d.size).length cap) ∧ ∃ q, w' = putRow encI (Sort.ahead w q) blk off (compactUpTo d d.size ++ List.replicate (d.size - (compactUpTo d d.size).length) 0).toArray := Any.slices_Compact_int_arr Tryz.laysNm220 blk off cap d w hH hsz hcap
open Go.RowKit Go.Lib Go.Sort in
theorem Tryz.slices_Compact_int (blk off cap : Nat) (zs : List Int) (w : World) (hH : Holds (Value.int .i64) w blk off zs.toArray) (hsz : zs.length ≤ 9223372036854775807) (hcap : zs.length ≤ cap) :
    Calls Tryz.prog 44 #[.slice (some ⟨blk, off, none⟩) zs.length cap] w fun e w' => e = .returned (.slice (some ⟨blk, off, none⟩) (Lib.compact zs).length cap) ∧ ∃ q, w' = putRow (Value.int .i64) (Sort.ahead w q) blk off (Lib.compact zs ++ List.replicate (zs.length - (Lib.compact zs).length) 0).toArray := Any.slices_Compact_int Tryz.laysNm220 blk off cap zs w hH hsz hcap
open Go.RowKit Go.Lib Go.Sort in
theorem Tryz.slices_Compact_int_empty (a : Option Addr) (cap : Nat) (w : World) :
    Calls Tryz.prog 44 #[.slice a 0 cap] w fun e w' => e = .returned (.slice a 0 cap) ∧ w' = w := Any.slices_Compact_int_empty Tryz.laysNm220 a cap w
open Go.RowKit Go.Sort in
theorem Tryz.slices_Sort_int_none (p : Option Addr) (cap : Nat) (w : World) :
    Calls Tryz.prog 35 #[.slice p 0 cap] w fun e w' => e = .returned (.tuple #[]) ∧ w' = w := Any.slices_Sort_int_none Tryz.lays189 p cap w
end Go.Proofs

namespace Go.Proofs.YtmbelhdkaepohaaGreatDoor
set_option maxRecDepth 20000
set_option linter.unusedVariables false
set_option linter.unusedSimpArgs false
open Go.ChangeShapes Go.WideShapes Go.ChangeAt Go.RowKit

/-- A graph and an error came back. -/
def RetGr (w : World) (ns : List Nd) (S P : List (List Int)) (er : Int) (e : Ending) (w' : World) : Prop :=
  ∃ y : GH, e = .returned (.tuple #[y.a, .int .i64 er]) ∧ y.ns = ns ∧ y.S.v = S ∧ y.P.v = P ∧ (∀ ex : List (Option Nat), (∀ k, some k ∈ ex → k < w.heap.size) → GHok w' ex y) ∧ Below w.heap.size w w'
def lh0 : LH := ⟨none, 0, 0, []⟩
def gh0 : GH := ⟨none, 0, 0, [], lh0, lh0⟩
theorem lh0_ok (w : World) (ex : List (Option Nat)) : LHok w ex lh0 := ⟨EAt.nil _ _ _, rfl, by show 0 ≤ _; omega, fun y hy => by simp [lh0] at hy⟩
theorem gh0_ok (w : World) (ex : List (Option Nat)) : GHok w ex gh0 := ⟨EAt.nil _ _ _, rfl, by show 0 ≤ _; omega, lh0_ok w ex, lh0_ok w ex⟩
theorem RetGr.none {w w' : World} (er : Int) (hb : Below w.heap.size w w') : RetGr w [] [] [] er (.returned (.tuple #[.agg #[.slice none 0 0, .slice none 0 0, .slice none 0 0], .int .i64 er])) w' :=
  ⟨gh0, rfl, rfl, rfl, rfl, fun ex _ => gh0_ok w' ex, hb⟩
theorem Fb.thrz {w : World} {g t : Nat} {a b c : Value} (h : Fb w g #[a, b, c] t) : w.frozen? ⟨g, 0, none⟩ = false ∧ w.frozen? ⟨g, 1, none⟩ = false ∧ w.frozen? ⟨g, 2, none⟩ = false := ⟨h.frozen 0, h.frozen 1, h.frozen 2⟩
/-- The result's cell beside the argument's. -/
structure GR (w : World) (G : Nat) (ex : List (Option Nat)) (x : GH) (v : World) : Prop where
  gw : GW w G ex x v
  res : Fb v (G + 1) #[.slice none 0 0, .slice none 0 0, .slice none 0 0] 26
  gle : G = w.heap.size
theorem GR.below {w v v' : World} {G : Nat} {ex : List (Option Nat)} {x : GH} (h : GR w G ex x v) (hb : Below v.heap.size v v') : GR w G ex x v' :=
  ⟨h.gw.below hb, h.res.below hb h.res.lt, h.gle⟩
theorem GR.start {w : World} {ex : List (Option Nat)} {x : GH} (h : GHok w ex x) : GR w w.heap.size ex x ((w.alloc (.cells #[.slice x.A x.n x.c, .slice x.S.A x.S.n x.S.c, .slice x.P.A x.P.n x.P.c] 26)).alloc (.cells #[.slice none 0 0, .slice none 0 0, .slice none 0 0] 26)) :=
  ⟨(GW.start h).below ((Below.refl _ _).alloc (Nat.le_refl _) _), by have := Fb.new (w.alloc (.cells #[.slice x.A x.n x.c, .slice x.S.A x.S.n x.S.c, .slice x.P.A x.P.n x.P.c] 26)) #[.slice none 0 0, .slice none 0 0, .slice none 0 0] 26; rwa [World.size_alloc] at this, rfl⟩
/-- What the result's cell holds last. -/
theorem GR.done {w v : World} {G : Nat} {ex : List (Option Nat)} {x : GH} (h : GR w G ex x v) (a b c : Value) {y : GH} (hy : ∀ ex : List (Option Nat), (∀ k, some k ∈ ex → k < w.heap.size + 2) → GHok v ex y) :
    (∀ ex : List (Option Nat), (∀ k, some k ∈ ex → k < w.heap.size) → GHok (((v.setCell ⟨G + 1, 0, none⟩ a).setCell ⟨G + 1, 1, none⟩ b).setCell ⟨G + 1, 2, none⟩ c) ex y) ∧ Below w.heap.size w (((v.setCell ⟨G + 1, 0, none⟩ a).setCell ⟨G + 1, 1, none⟩ b).setCell ⟨G + 1, 2, none⟩ c) := by
  have hg := h.gle
  refine ⟨fun ex hex => ?_, ((h.gw.bel.setCell (by simp; omega) _).setCell (by simp; omega) _).setCell (by simp; omega) _⟩
  have h1 := hy (some (G + 1) :: ex) (fun k hk => by
    rcases List.mem_cons.1 hk with e | e
    · injection e with e; omega
    · have := hex k e; omega)
  have hs : ∀ (u : World) (o : Nat) (z : Value), Go2 u (some (G + 1) :: ex) (u.setCell ⟨G + 1, o, none⟩ z) (some (G + 1) :: ex) := fun u o z => Go2.same (row := some (G + 1)) (setCell_grown u ⟨G + 1, o, none⟩ z) (.inr (by simp))
  exact (((h1.go (hs _ 0 a)).go (hs _ 1 b)).go (hs _ 2 c)).go (Go2.less _ (fun k hk => by simp [hk]))
theorem LHok.far {w : World} {ex : List (Option Nat)} {y : LH} {N : Nat} (h : ∀ ex : List (Option Nat), (∀ k, some k ∈ ex → k < N) → LHok w ex y) {M : Nat} (hM : M ≤ N) : ∀ ex : List (Option Nat), (∀ k, some k ∈ ex → k < M) → LHok w ex y :=
  fun ex hex => h ex (fun k hk => Nat.lt_of_lt_of_le (hex k hk) hM)
set_option maxHeartbeats 6400000 in
theorem reverse_yes (x : GH) (ex : List (Option Nat)) (w : World) (h : GHok w ex x) (hval : ValG x.n x.S.v x.P.v) :
    Calls Tryz.prog 11 #[x.a] w (RetGr w x.ns x.P.v x.S.v 0) := by
  have HG := hid (GR.start h)
  have HK := hid (fun (v u : World) (h : GR w w.heap.size ex x v) (hb : Below v.heap.size v u) => h.below hb)
  have HV := hid (fun (v : World) (h : GR w w.heap.size ex x v) => valid_graph x ex v h.gw.g)
  rw [validB_iff.2 hval] at HV
  have hsz : x.n ≤ 256 := hval.few
  have HCS := hid (fun (v : World) (hv : GR w w.heap.size ex x v) => copied_any x.S ex v hv.gw.g.s (by have := hval.slen; have := LH.vlen x.S; have := hv.gw.g.s.len; omega) (fun y hy => by have := rows_small hv.gw.g.s hval.ris y hy; omega))
  have HCP := hid (fun (v : World) (hv : GR w w.heap.size ex x v) => copied_any x.P ex v hv.gw.g.p (by have := hval.plen; have := LH.vlen x.P; have := hv.gw.g.p.len; omega) (fun y hy => by have := rows_small hv.gw.g.p hval.pris y hy; omega))
  have HCN := hid (fun (v : World) (hv : GR w w.heap.size ex x v) => clone_nodes x.A x.n x.c x.ns ex v hv.gw.g.lies hv.gw.g.len (by omega))
  have Hnl := hid h.len
  have Hb := hid (fun (v : World) (h : GR w w.heap.size ex x v) => h.gw.box.thr)
  have Hbl := hid (fun (v : World) (h : GR w w.heap.size ex x v) => h.gw.box.lt)
  have Hr := hid (fun (v : World) (h : GR w w.heap.size ex x v) => h.res.thr)
  have Hrz := hid (fun (v : World) (h : GR w w.heap.size ex x v) => h.res.thrz)
  have Hrl := hid (fun (v : World) (h : GR w w.heap.size ex x v) => h.res.lt)
  have Hsz := hid (fun (v : World) (h : GR w w.heap.size ex x v) => show w.heap.size + 2 ≤ v.heap.size from h.res.lt)
  unfold GH.a at *
  clear h hval
  have hS : ∃ Sv, x.S.v = Sv := ⟨_, rfl⟩
  obtain ⟨Sv, hS⟩ := hS
  have hP : ∃ Pv, x.P.v = Pv := ⟨_, rfl⟩
  obtain ⟨Pv, hP⟩ := hP
  rw [hS] at HCS ⊢
  rw [hP] at HCP ⊢
  clear hS hP
  have hG : ∃ G, w.heap.size = G := ⟨_, rfl⟩
  obtain ⟨G, hG⟩ := hG
  have HGe := hid hG
  rw [hG] at HG HK HV HCS HCP HCN Hb Hbl Hr Hrz Hrl Hsz
  clear hG
  have HD := hid (fun (v : World) (a b c : Value) (h : GR w G ex x v) (y : GH) hy => h.done a b c (y := y) hy)
  obtain ⟨A, n, c, ns, ⟨SA, sn, sc, sl⟩, ⟨PA, pn, pc, pl⟩⟩ := x
  simp only at *
  go_enter Tryz.func11, Tryz.ntmps11
  obtain ⟨c0, c1, c2⟩ := Hb.out _ HG.out
  have hGl := Hbl.out _ HG.out
  rw [← HGe.out] at c0 c1 c2 hGl
  go_wp2_with fail
  refine (HV.out _ HG.out).mono ?_
  rintro e w1 ⟨rfl, hb1⟩
  have HG1 := hid (HK.out _ _ HG.out hb1)
  clear HG c0 c1 c2 hGl hb1
  rw [HGe.out]
  go_wp2_with fail
  have hcur := HK.out _ _ HG1.out (Below.refl _ _).drew
  obtain ⟨c0, c1, c2⟩ := Hb.out _ hcur
  have hGl := Hbl.out _ hcur
  obtain ⟨r0, r1, r2⟩ := Hr.out _ hcur
  obtain ⟨z0, z1, z2⟩ := Hrz.out _ hcur
  have hRl := Hrl.out _ hcur
  clear HG1
  go_region_law (
    (go_simp
     first
     | (go_at_call 23
        refine (HCN.out _ hcur).mono ?_
        rintro e wn ⟨B1, k1, rfl, ho1, hbk⟩
        have H1 := hid (own_mono1 ho1 (Hsz.out _ hcur))
        have hcur := HK.out _ _ hcur hbk
        obtain ⟨c0, c1, c2⟩ := Hb.out _ hcur
        have hGl := Hbl.out _ hcur
        obtain ⟨r0, r1, r2⟩ := Hr.out _ hcur
        obtain ⟨z0, z1, z2⟩ := Hrz.out _ hcur
        have hRl := Hrl.out _ hcur
        clear ho1 hbk)
     | (go_at_call_of 24 PA
        refine (HCP.out _ hcur).mono ?_
        rintro e wn ⟨y2, rfl, hv2, hok2, hbk⟩
        have H2v := hid hv2
        have hs2 := Hsz.out _ hcur
        have H2 : Hid (∀ ex : List (Option Nat), (∀ k, some k ∈ ex → k < G + 2) → LHok wn ex y2) := hid (fun ex hex => hok2 ex (fun k hk => Nat.lt_of_lt_of_le (hex k hk) hs2))
        clear hs2
        have H1 := hid (own_below H1.out hbk)
        have hcur := HK.out _ _ hcur hbk
        obtain ⟨c0, c1, c2⟩ := Hb.out _ hcur
        have hGl := Hbl.out _ hcur
        obtain ⟨r0, r1, r2⟩ := Hr.out _ hcur
        obtain ⟨z0, z1, z2⟩ := Hrz.out _ hcur
        have hRl := Hrl.out _ hcur
        clear hv2 hok2 hbk)
     | (go_at_call_of 24 SA
        refine (HCS.out _ hcur).mono ?_
        rintro e wn ⟨y3, rfl, hv3, hok3, hbk⟩
        have H3v := hid hv3
        have hs2 := Hsz.out _ hcur
        have H3 : Hid (∀ ex : List (Option Nat), (∀ k, some k ∈ ex → k < G + 2) → LHok wn ex y3) := hid (fun ex hex => hok3 ex (fun k hk => Nat.lt_of_lt_of_le (hex k hk) hs2))
        clear hs2
        have H1 := hid (own_below H1.out hbk)
        have H2 : Hid (∀ ex : List (Option Nat), (∀ k, some k ∈ ex → k < G + 2) → LHok wn ex y2) := hid (fun ex hex => (H2.out ex hex).below hbk)
        have hcur := HK.out _ _ hcur hbk
        obtain ⟨c0, c1, c2⟩ := Hb.out _ hcur
        have hGl := Hbl.out _ hcur
        obtain ⟨r0, r1, r2⟩ := Hr.out _ hcur
        obtain ⟨z0, z1, z2⟩ := Hrz.out _ hcur
        have hRl := Hrl.out _ hcur
        clear hv3 hok3 hbk)))
  all_goals
    have HF := hid (HD.out _ (.slice B1 n k1) (.slice y2.A y2.n y2.c) (.slice y3.A y3.n y3.c) hcur ⟨B1, n, k1, ns, y2, y3⟩ (fun ex hex => ⟨EAt.own H1.out (fun g hg hm => by have := hex g hm; have := (H1.out.lt g hg).1; have := HGe.out; omega), Hnl.out, by show n ≤ _; omega, H2.out ex (by rw [← HGe.out]; exact hex), H3.out ex (by rw [← HGe.out]; exact hex)⟩))
    go_wp2_with fail
    refine bodyPost_ret (v := .tuple #[.agg #[.slice B1 n k1, .slice y2.A y2.n y2.c, .slice y3.A y3.n y3.c], .int .i64 0]) (by simp [results, Tryz.results11, go_sem, r0, r1, r2, z0, z1, z2, hRl]) rfl ?_
    exact ⟨⟨B1, n, k1, ns, y2, y3⟩, rfl, rfl, H2v.out, H3v.out, HF.out.1, HF.out.2⟩
set_option maxHeartbeats 1600000 in
theorem reverse_no (x : GH) (ex : List (Option Nat)) (w : World) (h : GHok w ex x) (hval : validB x.n x.S.v x.P.v = false) :
    Calls Tryz.prog 11 #[x.a] w (RetGr w [] [] [] 1) := by
  have HG := hid (GR.start h)
  have HK := hid (fun (v u : World) (h : GR w w.heap.size ex x v) (hb : Below v.heap.size v u) => h.below hb)
  have HV := hid (fun (v : World) (h : GR w w.heap.size ex x v) => valid_graph x ex v h.gw.g)
  rw [hval] at HV
  have Hb := hid (fun (v : World) (h : GR w w.heap.size ex x v) => h.gw.box.thr)
  have Hbl := hid (fun (v : World) (h : GR w w.heap.size ex x v) => h.gw.box.lt)
  have Hr := hid (fun (v : World) (h : GR w w.heap.size ex x v) => h.res.thr)
  have Hrz := hid (fun (v : World) (h : GR w w.heap.size ex x v) => h.res.thrz)
  have Hrl := hid (fun (v : World) (h : GR w w.heap.size ex x v) => h.res.lt)
  have HD := hid (fun (v : World) (a b c : Value) (h : GR w w.heap.size ex x v) => (h.done a b c (y := gh0) (fun ex _ => gh0_ok _ ex)).2)
  unfold GH.a at *
  clear h hval
  obtain ⟨A, n, c, ns, ⟨SA, sn, sc, sl⟩, ⟨PA, pn, pc, pl⟩⟩ := x
  simp only at *
  go_enter Tryz.func11, Tryz.ntmps11
  obtain ⟨c0, c1, c2⟩ := Hb.out _ HG.out
  have hGl := Hbl.out _ HG.out
  go_wp2_with fail
  refine (HV.out _ HG.out).mono ?_
  rintro e w1 ⟨rfl, hb1⟩
  have HG1 := hid (HK.out _ _ HG.out hb1)
  clear HG c0 c1 c2 hGl hb1
  obtain ⟨r0, r1, r2⟩ := Hr.out _ HG1.out
  obtain ⟨z0, z1, z2⟩ := Hrz.out _ HG1.out
  have hRl := Hrl.out _ HG1.out
  have HF := hid (HD.out _ (.slice none 0 0) (.slice none 0 0) (.slice none 0 0) HG1.out)
  clear HG1
  go_wp2_with fail
  refine bodyPost_ret (v := .tuple #[.agg #[.slice none 0 0, .slice none 0 0, .slice none 0 0], .int .i64 1]) (by simp [results, Tryz.results11, go_sem, r0, r1, r2, z0, z1, z2, hRl]) rfl ?_
  exact RetGr.none 1 HF.out
end Go.Proofs.YtmbelhdkaepohaaGreatDoor

namespace Go.Proofs.YtmbelhdkaepohaaGreatDoor
set_option maxRecDepth 20000
set_option linter.unusedVariables false
set_option linter.unusedSimpArgs false
open Go.ChangeShapes Go.WideShapes Go.ChangeAt Go.RowKit

/-- The numbers in order. -/
def srtI (l : List Int) : List Int := l.mergeSort fun x y => decide (x ≤ y)
theorem srtI_perm (l : List Int) : (srtI l).Perm l := List.mergeSort_perm _ _
theorem srtI_nil : srtI [] = [] := by unfold srtI; simp
theorem srtI_len (l : List Int) : (srtI l).length = l.length := (srtI_perm l).length_eq
theorem srtI_mem {l : List Int} {x : Int} : x ∈ srtI l ↔ x ∈ l := (srtI_perm l).mem_iff
theorem srtI_sorted (l : List Int) : (srtI l).Pairwise (· ≤ ·) := by
  have h := List.pairwise_mergeSort (le := fun x y : Int => decide (x ≤ y)) (fun a b c h1 h2 => by simp at *; omega) (fun a b => by simp; omega) l
  exact h.imp (fun h => by simpa using h)
theorem arr_get {l : List Int} {j : Nat} (h : j < l.length) : l.toArray[j]! = l[j] := by rw [getElem!_pos l.toArray j (by simpa using h)]; simp
theorem compact_mem {l : List Int} {x : Int} : x ∈ Lib.compact l ↔ x ∈ l := by
  unfold Lib.compact Lib.compactUpTo
  constructor
  · intro h
    obtain ⟨j, hj, rfl⟩ := List.mem_map.1 h
    have hj2 := List.mem_range.1 (List.mem_filter.1 hj).1
    rw [arr_get hj2]
    exact List.getElem_mem hj2
  · intro h
    obtain ⟨j, hj, he⟩ := List.mem_iff_getElem.1 h
    have key : ∀ k, ∀ hk : k < l.length, l[k] = x → ∃ i, i ≤ k ∧ ∃ hi : i < l.length, l[i] = x ∧ Lib.keeps l.toArray i = true := by
      intro k
      induction k with
      | zero => intro hk e; exact ⟨0, Nat.le_refl _, hk, e, by simp [Lib.keeps]⟩
      | succ k ih =>
        intro hk e
        by_cases e2 : l[k] = x
        · obtain ⟨i, h1, h2⟩ := ih (by omega) e2
          exact ⟨i, by omega, h2⟩
        · refine ⟨k + 1, Nat.le_refl _, hk, e, ?_⟩
          unfold Lib.keeps
          rw [decide_eq_true_eq]
          right
          rw [arr_get hk, show k + 1 - 1 = k from rfl, arr_get (by omega), e]
          exact fun h => e2 h.symm
    obtain ⟨i, _, hi, e, hk⟩ := key j hj he
    exact List.mem_map.2 ⟨i, List.mem_filter.2 ⟨List.mem_range.2 hi, hk⟩, by rw [arr_get hi, e]⟩
theorem compact_asc {l : List Int} (h : l.Pairwise (· ≤ ·)) : (Lib.compact l).Pairwise (· < ·) := by
  unfold Lib.compact Lib.compactUpTo
  rw [List.pairwise_map]
  have h1 : ((List.range l.length).filter (Lib.keeps l.toArray)).Pairwise (· < ·) := (List.pairwise_lt_range (n := l.length)).filter _
  refine (List.Pairwise.and_mem.1 h1).imp ?_
  rintro i j ⟨hi, hj, hij⟩
  have hi2 := List.mem_range.1 (List.mem_filter.1 hi).1
  have hj2 := List.mem_range.1 (List.mem_filter.1 hj).1
  have hk := (List.mem_filter.1 hj).2
  unfold Lib.keeps at hk
  rw [decide_eq_true_eq] at hk
  rcases hk with hk | hk
  · omega
  · rw [arr_get hj2, arr_get (show j - 1 < l.length by omega)] at hk
    rw [arr_get hi2, arr_get hj2]
    have ha : l[j - 1] ≤ l[j] := List.pairwise_iff_getElem.1 h (j - 1) j (by omega) hj2 (by omega)
    have hb : l[i] ≤ l[j - 1] := by
      by_cases e : i = j - 1
      · subst e; omega
      · exact List.pairwise_iff_getElem.1 h i (j - 1) hi2 (by omega) (by omega)
    omega
theorem compact_len (l : List Int) : (Lib.compact l).length ≤ l.length := by
  unfold Lib.compact Lib.compactUpTo
  rw [List.length_map]
  exact Nat.le_trans (List.length_filter_le _ _) (by simp)
/-- Sorted and compacted: the row of the numbers that occur. -/
theorem compact_row {N : Nat} {l : List Int} (h : ∀ x ∈ l, 0 ≤ x ∧ x < (N : Int)) : Lib.compact (srtI l) = rowP N fun b => decide ((b : Int) ∈ l) := by
  refine ris_row ⟨compact_asc (srtI_sorted l), fun x hx => h x (srtI_mem.1 (compact_mem.1 hx))⟩ fun k _ => ?_
  rw [compact_mem, srtI_mem, decide_eq_true_eq]
/-- The cells of a row that was written anew. -/
theorem put_own {w : World} {base g cap : Nat} {l ds : List Int} {n n2 : Nat} (h : w.ownsRow base 3 1 (.slice (some ⟨g, 0, none⟩) n cap) n (ints l)) (hn : n2 ≤ n) (hd : ds.length = n) (q : Nat) (os : Array Obj) :
    (Go.Sort.grow (Go.Sort.putRow (Value.int .i64) (Go.Sort.ahead w q) g 0 ds.toArray) os).ownsRow base 3 1 (.slice (some ⟨g, 0, none⟩) n2 cap) n2 (ints (ds.take n2)) ∧
    w.grownBy (Go.Sort.grow (Go.Sort.putRow (Value.int .i64) (Go.Sort.ahead w q) g 0 ds.toArray) os) (some g) := by
  rcases h.2 with ⟨e, _⟩ | ⟨g1, cap1, cur, e, hb, hg, hc1, hc2, hc3, _⟩
  · cases e
  · injection e with e1 _ e3
    injection e1 with e1
    injection e1 with e1
    subst e1
    subst e3
    have hlt : g < w.heap.size := (Array.getElem?_eq_some_iff.1 hg).1
    have hheap : (Go.Sort.grow (Go.Sort.putRow (Value.int .i64) (Go.Sort.ahead w q) g 0 ds.toArray) os).heap[g]? = some (.cells (Go.Sort.putCells (Value.int .i64) 0 ds.toArray cur) 3 (0, 0)) := by
      unfold Go.Sort.putRow
      rw [Go.Sort.heap_grow_old _ _ (by simp [Go.Sort.mapBlock, Go.Sort.ahead]; exact hlt)]
      simp only [Go.Sort.mapBlock, Go.Sort.ahead, Array.getElem?_modify, if_true, hg, Option.map_some, Go.Sort.onCells]
    refine ⟨⟨by unfold ints; rw [List.length_map, List.length_take]; omega, .inr ⟨g, cap, _, rfl, hb, hheap, by omega, hc2, by simp [Go.Sort.putCells]; omega, ?_⟩⟩, ?_⟩
    · apply List.ext_getElem?
      intro j
      by_cases hj : j < n2
      · rw [List.getElem?_take, if_pos (by omega), Array.getElem?_toList]
        unfold Go.Sort.putCells ints
        rw [Array.getElem?_mapIdx, Array.getElem?_eq_getElem (by omega), List.getElem?_map, List.getElem?_take, if_pos hj, List.getElem?_eq_getElem (by omega)]
        simp only [Option.map_some, Option.some.injEq]
        rw [if_pos ⟨Nat.zero_le _, by simp; omega⟩, Nat.sub_zero, arr_get (by omega)]
      · rw [List.getElem?_take, if_neg (by omega), List.getElem?_eq_none (by unfold ints; simp; omega)]
    · refine ⟨rfl, rfl, rfl, ?_, fun k hk hne => ?_⟩
      · simp [Go.Sort.grow, Go.Sort.putRow, Go.Sort.mapBlock, Go.Sort.ahead]
      · unfold Go.Sort.putRow
        rw [Go.Sort.heap_grow_old _ _ (by simp [Go.Sort.mapBlock, Go.Sort.ahead]; exact hk)]
        simp only [Go.Sort.mapBlock, Go.Sort.ahead, Array.getElem?_modify]
        rw [if_neg (by intro e; exact hne (by rw [e]))]
theorem holds_own {w : World} {base g cap n : Nat} {l : List Int} (h : w.ownsRow base 3 1 (.slice (some ⟨g, 0, none⟩) n cap) n (ints l)) (hl : l.length = n) : Go.Sort.Holds (Value.int .i64) w g 0 l.toArray ∧ g < w.heap.size ∧ n ≤ cap := by
  rcases h.2 with ⟨e, _⟩ | ⟨g1, cap1, cur, e, hb, hg, hc1, hc2, hc3, hx⟩
  · cases e
  · injection e with e1 _ e3
    injection e1 with e1
    injection e1 with e1
    subst e1
    subst e3
    refine ⟨fun j hj => ?_, (Array.getElem?_eq_some_iff.1 hg).1, hc1⟩
    have hj : j < l.length := by simpa using hj
    rw [Nat.zero_add, arr_get hj]
    refine ⟨?_, by simp [World.frozen?, hg]⟩
    have h1 : (cur.toList.take (n * 1))[j]? = some (.int .i64 l[j]) := by rw [hx]; unfold ints; rw [List.getElem?_map, List.getElem?_eq_getElem hj]; rfl
    rw [List.getElem?_take, if_pos (by omega)] at h1
    simp only [World.cell?, hg]
    simpa using h1
theorem grow_zero (w : World) : Go.Sort.grow w #[] = w := Go.Sort.grow_empty w
theorem sort_own {w : World} {base n c : Nat} {A : Option Addr} {l : List Int} (h : w.ownsRow base 3 1 (.slice A n c) n (ints l)) (hl : l.length = n) (hn : n ≤ 10000000) :
    Calls Tryz.prog 35 #[.slice A n c] w fun e w' => e = .returned (.tuple #[]) ∧ w'.ownsRow base 3 1 (.slice A n c) n (ints (srtI l)) ∧ w.grownBy w' (Value.slice A n c).ownBlock := by
  subst hl
  rcases h.2 with ⟨e, h0⟩ | ⟨g, cap, cur, e, hb, hg, hc1, hc2, hc3, _⟩
  · injection e with e1 e2 e3
    subst e1
    subst e3
    have hl0 : l = [] := List.length_eq_zero_iff.1 h0
    subst hl0
    refine (Tryz.slices_Sort_int_none none 0 w).mono ?_
    rintro e w' ⟨rfl, rfl⟩
    rw [srtI_nil]
    exact ⟨rfl, World.ownsRow_nil _ _ _ _, World.grownBy.refl _ _⟩
  · injection e with e1 _ e3
    subst e1
    subst e3
    obtain ⟨h1, h2, h3⟩ := holds_own h rfl
    refine (Tryz.slices_Sort_int g 0 c l w h1 h2 (by omega)).mono ?_
    rintro e w' ⟨rfl, q, os, rfl⟩
    obtain ⟨ho, hgr⟩ := put_own h (Nat.le_refl _) (srtI_len l) q os
    rw [List.take_of_length_le (by rw [srtI_len]; omega)] at ho
    exact ⟨rfl, ho, hgr⟩
theorem compact_own {w : World} {base n c : Nat} {A : Option Addr} {l : List Int} (h : w.ownsRow base 3 1 (.slice A n c) n (ints l)) (hl : l.length = n) (hn : n ≤ 10000000) :
    Calls Tryz.prog 44 #[.slice A n c] w fun e w' => e = .returned (.slice A (Lib.compact l).length c) ∧ w'.ownsRow base 3 1 (.slice A (Lib.compact l).length c) (Lib.compact l).length (ints (Lib.compact l)) ∧ w.grownBy w' (Value.slice A n c).ownBlock := by
  subst hl
  rcases h.2 with ⟨e, h0⟩ | ⟨g, cap, cur, e, hb, hg, hc1, hc2, hc3, _⟩
  · injection e with e1 e2 e3
    subst e1
    subst e3
    have hl0 : l = [] := List.length_eq_zero_iff.1 h0
    subst hl0
    refine (Tryz.slices_Compact_int_empty none 0 w).mono ?_
    rintro e w' ⟨rfl, rfl⟩
    exact ⟨rfl, World.ownsRow_nil _ _ _ _, World.grownBy.refl _ _⟩
  · injection e with e1 _ e3
    subst e1
    subst e3
    obtain ⟨h1, h2, h3⟩ := holds_own h rfl
    refine (Tryz.slices_Compact_int g 0 c l w h1 (by omega) h3).mono ?_
    rintro e w' ⟨rfl, q, rfl⟩
    have hcl := compact_len l
    obtain ⟨ho, hgr⟩ := put_own h hcl (ds := Lib.compact l ++ List.replicate (l.length - (Lib.compact l).length) 0) (by rw [List.length_append, List.length_replicate]; omega) q #[]
    rw [grow_zero] at ho hgr
    rw [List.take_left'  rfl] at ho
    exact ⟨rfl, ho, hgr⟩
end Go.Proofs.YtmbelhdkaepohaaGreatDoor

namespace Go.Proofs.YtmbelhdkaepohaaGreatDoor
set_option linter.unusedVariables false

theorem rw0_set_self {S : List (List Int)} {a : Nat} {l : List Int} (h : a < S.length) : rw0 (S.set a l) a = l :=
  rw0_at (by rw [List.getElem?_set_self h])
theorem rw0_set_ne {S : List (List Int)} {a b : Nat} {l : List Int} (h : a ≠ b) : rw0 (S.set a l) b = rw0 S b := by
  unfold rw0; rw [List.getD_eq_getElem?_getD, List.getD_eq_getElem?_getD, List.getElem?_set_ne h]
theorem ris_set {N : Nat} {S : List (List Int)} {a : Nat} {l : List Int} (h : ∀ l ∈ S, RisP N l) (hl : RisP N l) : ∀ m ∈ S.set a l, RisP N m := by
  intro m hm
  rcases List.mem_or_eq_of_mem_set hm with h1 | rfl
  · exact h m h1
  · exact hl
theorem tot_few {N : Nat} {S : List (List Int)} (hl : S.length = N) (h : ∀ l ∈ S, RisP N l) (hN : N ≤ 30) : tot S ≤ 1024 := by
  have h1 := tot_le (S := S) (N := N) (fun l hm => ris_len (h l hm))
  rw [hl] at h1
  have h2 : N * N ≤ 30 * 30 := Nat.mul_le_mul hN hN
  omega
theorem ValG.none {N : Nat} (h1 : 1 ≤ N) (h2 : N ≤ 30) : ValG N (List.replicate N []) (List.replicate N []) := by
  have hr : ∀ l ∈ List.replicate N ([] : List Int), RisP N l := by
    intro l hl
    obtain ⟨-, rfl⟩ := List.mem_replicate.1 hl
    exact ⟨.nil, fun x hx => by cases hx⟩
  have hz : ∀ a, rw0 (List.replicate N ([] : List Int)) a = [] := by
    intro a
    unfold rw0
    rw [List.getD_eq_getElem?_getD, List.getElem?_replicate]
    split <;> rfl
  refine ValG.mk2 h1 (by omega) (by simp) (by simp) hr hr (tot_few (by simp) hr h2) fun a b _ _ => ?_
  rw [hz, hz]
  simp
theorem ValG.put {N : Nat} {S P : List (List Int)} (h : ValG N S P) (hN : N ≤ 30) {a b : Nat} (ha : a < N) (hb : b < N) :
    ValG N (S.set a (insI (rw0 S a) b)) (P.set b (insI (rw0 P b) a)) := by
  have hS : ∀ l ∈ S.set a (insI (rw0 S a) b), RisP N l := ris_set h.ris (insI_ris (rw0_ris h.ris a) (by omega) (by omega))
  have hP : ∀ l ∈ P.set b (insI (rw0 P b) a), RisP N l := ris_set h.pris (insI_ris (rw0_ris h.pris b) (by omega) (by omega))
  refine ValG.mk2 h.some h.few (by rw [List.length_set]; exact h.slen) (by rw [List.length_set]; exact h.plen) hS hP (tot_few (by rw [List.length_set]; exact h.slen) hS hN) fun x y hx hy => ?_
  have hi := h.iff hx hy
  have la : a < S.length := by rw [h.slen]; exact ha
  have lb : b < P.length := by rw [h.plen]; exact hb
  by_cases e1 : a = x
  · subst e1
    rw [rw0_set_self la, mem_insI]
    by_cases e2 : b = y
    · subst e2
      rw [rw0_set_self lb, mem_insI]
      simp
    · rw [rw0_set_ne e2, ← hi]
      constructor
      · rintro (h1 | h1)
        · omega
        · exact h1
      · exact .inr
  · rw [rw0_set_ne e1]
    by_cases e2 : b = y
    · subst e2
      rw [rw0_set_self lb, mem_insI, hi]
      constructor
      · exact .inr
      · rintro (h1 | h1)
        · omega
        · exact h1
    · rw [rw0_set_ne e2]
      exact hi
end Go.Proofs.YtmbelhdkaepohaaGreatDoor

namespace Go.Proofs.YtmbelhdkaepohaaGreatDoor
set_option maxRecDepth 20000
set_option linter.unusedVariables false
set_option linter.unusedSimpArgs false
open Go.ChangeShapes Go.WideShapes Go.ChangeAt Go.RowKit
def nd0 : Nd := ⟨0, 0, 0, 0⟩
theorem zero_cells (n : Nat) : (List.replicate n nd0).flatMap ndc = List.replicate (n * 4) (Value.int .i64 0) := by
  induction n with
  | zero => rfl
  | succ n ih =>
    rw [List.replicate_succ, List.flatMap_cons, ih, show (n + 1) * 4 = 4 + n * 4 by omega, ← List.replicate_append_replicate]
    rfl
theorem made_nodes (n : Nat) : madeCells (Value.agg #[.int .i64 0, .int .i64 0, .int .i64 0, .int .i64 0]).cells (n * 4) = Array.replicate (n * 4) (Value.int .i64 0) := by
  rw [show (Value.agg #[.int .i64 0, .int .i64 0, .int .i64 0, .int .i64 0]).cells = #[Value.int .i64 0, .int .i64 0, .int .i64 0, .int .i64 0] from rfl]
  unfold madeCells
  apply Array.ext
  · rw [Array.size_map, Array.size_range, Array.size_replicate]
  · intro j h1 h2
    rw [Array.getElem_replicate]
    rw [Array.getElem_map, Array.getElem_range]
    show (#[Value.int .i64 0, .int .i64 0, .int .i64 0, .int .i64 0] : Array Value)[j % 4]! = _
    have h4 : j % 4 < 4 := Nat.mod_lt _ (by decide)
    generalize j % 4 = i at h4
    match i, h4 with
    | 0, _ => rfl
    | 1, _ => rfl
    | 2, _ => rfl
    | 3, _ => rfl
theorem run_mknodes (n : Nat) (hn : n ≤ 100000) (w : World) :
    (Instr.makeSlice 23 (.int .i64 (n : Int)) (.int .i64 (n : Int))).run Tryz.prog w = .ok (.slice (some ⟨w.heap.size, 0, none⟩) n n) (w.alloc (.cells (Array.replicate (n * 4) (Value.int .i64 0)) 55)) := by
  obtain ⟨i, hi, hz0, hz1, hz2⟩ := info_parts info50
  have h := run_make (P := Tryz.prog) w 23 55 i (.agg #[.int .i64 0, .int .i64 0, .int .i64 0, .int .i64 0]) Tryz.underlying23 hi hz0 .i64 .i64 n n (by omega) (by omega) (by rw [hz2]; omega) (by omega)
  rw [h, hz1]
  simp only [Int.toNat_natCast]
  rw [made_nodes]
end Go.Proofs.YtmbelhdkaepohaaGreatDoor
