/- Programs in memory: rows of functions, of blocks, of statements, of strings, and which blocks they lie in. -/
import Derived.Test.YtmbelhdkaepohaaGreatDoorSoy
import Derived.Deep.DeepMust
import Derived.Deep.Slices
namespace Go.Proofs.YtmbelhdkaepohaaGreatDoor
set_option maxRecDepth 20000
set_option linter.unusedVariables false
open Go.ChangeShapes Go.WideShapes Go.ChangeAt Go.RowKit

/-- A block that is there and that is not one of those that are still written. -/
def Safe (w : World) (ex : List (Option Nat)) (k : Nat) : Prop := k < w.heap.size ∧ some k ∉ ex
/-- From one world to a later one: what was safe is as it was, and is safe still. -/
def Go2 (w : World) (ex : List (Option Nat)) (w' : World) (ex' : List (Option Nat)) : Prop := ∀ k, Safe w ex k → w'.heap[k]? = w.heap[k]? ∧ Safe w' ex' k
theorem Go2.trans {w w' w'' : World} {ex ex' ex'' : List (Option Nat)} (h : Go2 w ex w' ex') (h2 : Go2 w' ex' w'' ex'') : Go2 w ex w'' ex'' :=
  fun k hk => ⟨(h2 k (h k hk).2).1.trans (h k hk).1, (h2 k (h k hk).2).2⟩
theorem Go2.grown {w w' : World} {ex ex' : List (Option Nat)} {row : Option Nat} (hg : w.grownBy w' row) (hr : row = none ∨ row ∈ ex) (he : ∀ k, k < w.heap.size → some k ∈ ex' → some k ∈ ex) : Go2 w ex w' ex' := by
  intro k hk
  refine ⟨hg.block k hk.1 ?_, Nat.lt_of_lt_of_le hk.1 hg.size, fun h => hk.2 (he k hk.1 h)⟩
  rintro h
  rcases hr with h' | h'
  · rw [h'] at h; cases h
  · exact hk.2 (h ▸ h')
theorem Go2.same {w w' : World} {ex : List (Option Nat)} {row : Option Nat} (hg : w.grownBy w' row) (hr : row = none ∨ row ∈ ex) : Go2 w ex w' ex := Go2.grown hg hr fun _ _ h => h
theorem Go2.below {w w' : World} {ex : List (Option Nat)} (hb : Below w.heap.size w w') : Go2 w ex w' ex := Go2.same (grown_of_below hb none) (.inl rfl)
theorem Go2.less (w : World) {ex ex' : List (Option Nat)} (h : ∀ k, some k ∈ ex' → some k ∈ ex) : Go2 w ex w ex' := fun k hk => ⟨rfl, hk.1, fun h' => hk.2 (h k h')⟩

/-- These cells lie from A on, in a safe block. -/
def EAt (w : World) (ex : List (Option Nat)) (A : Option Addr) (xs : List Value) : Prop :=
  xs = [] ∨ ∃ ad, A = some ad ∧ Safe w ex ad.block ∧ ∀ j u, xs[j]? = some u → w.cell? (ad.add j) = some u
theorem EAt.go {w w' : World} {ex ex' : List (Option Nat)} {A : Option Addr} {xs : List Value} (h : EAt w ex A xs) (hg : Go2 w ex w' ex') : EAt w' ex' A xs := by
  rcases h with rfl | ⟨ad, e, hs, hc⟩
  · exact .inl rfl
  · exact .inr ⟨ad, e, (hg _ hs).2, fun j u hu => (World.cell?_of_block (by rw [add_block]; exact (hg _ hs).1)).trans (hc j u hu)⟩
theorem EAt.at {w : World} {ex : List (Option Nat)} {A : Option Addr} {xs : List Value} (h : EAt w ex A xs) : At w w.heap.size A xs := by
  rcases h with rfl | ⟨ad, e, hs, hc⟩
  · exact .inl rfl
  · exact .inr ⟨ad, e, hs.1, hc⟩
theorem EAt.nil (w : World) (ex : List (Option Nat)) (A : Option Addr) : EAt w ex A [] := .inl rfl
theorem EAt.own {w : World} {base : Nat} {ty : TypeId} {k : Nat} {A : Option Addr} {n c : Nat} {xs : List Value} {ex : List (Option Nat)} (h : w.ownsRow base ty k (.slice A n c) n xs) (he : ∀ g, (Value.slice A n c).ownBlock = some g → some g ∉ ex) : EAt w ex A xs := by
  have hl := h.1
  rcases h.2 with ⟨e, rfl⟩ | ⟨g, cap, cur, e, _, hg, _, _, _, hx⟩
  · exact .inl (List.eq_nil_of_length_eq_zero (by omega))
  · injection e with e1 _ e3
    subst e1
    refine .inr ⟨_, rfl, ⟨(Array.getElem?_eq_some_iff.1 hg).1, he g rfl⟩, fun j u hu => ?_⟩
    rw [add_of]
    have hj : (cur.toList.take (n * k))[j]? = some u := by rw [hx]; exact hu
    rw [List.getElem?_take] at hj
    split at hj
    · simp only [World.cell?, hg]
      simpa using hj
    · cases hj
/-- A block of one's own, or the beginning of it. -/
theorem EAt.fb {w : World} {g t : Nat} {cs : Array Value} {ex : List (Option Nat)} {xs : List Value} (h : Fb w g cs t) (he : some g ∉ ex) (hx : ∀ (j : Nat) (u : Value), xs[j]? = some u → cs[j]? = some u) : EAt w ex (some ⟨g, 0, none⟩) xs :=
  .inr ⟨_, rfl, ⟨h.lt, he⟩, fun j u hu => by rw [add_of, h.cell]; exact hx j u hu⟩

/-- A list of strings that lies safe. -/
structure SSafe (w : World) (ex : List (Option Nat)) (A : Option Addr) (n : Nat) (l : List ByteArray) : Prop where
  lies : EAt w ex A (l.map Value.string)
  len : l.length = n
  few : n ≤ 40
  small : ∀ x ∈ l, x.size ≤ 1000
theorem SSafe.arg {w : World} {ex : List (Option Nat)} {A : Option Addr} {n : Nat} {l : List ByteArray} (h : SSafe w ex A n l) : SArg w A n l := ⟨h.lies.at, h.len, by have := h.few; omega, fun x hx => by have := h.small x hx; omega⟩
theorem SSafe.go {w w' : World} {ex ex' : List (Option Nat)} {A : Option Addr} {n : Nat} {l : List ByteArray} (h : SSafe w ex A n l) (hg : Go2 w ex w' ex') : SSafe w' ex' A n l := ⟨h.lies.go hg, h.len, h.few, h.small⟩
theorem SSafe.nil (w : World) (ex : List (Option Nat)) (A : Option Addr) : SSafe w ex A 0 [] := ⟨EAt.nil _ _ _, rfl, by omega, by simp⟩

/-- A statement and where its lists lie. -/
structure SH where
  A : Option Addr
  n : Nat
  c : Nat
  B : Option Addr
  m : Nat
  c2 : Nat
  t : Stm
def shc (x : SH) : List Value := [.int .i64 x.t.op, .string x.t.d, .slice x.A x.n x.c, .slice x.B x.m x.c2]
structure SHok (w : World) (ex : List (Option Nat)) (x : SH) : Prop where
  uses : SSafe w ex x.A x.n x.t.us
  targets : SSafe w ex x.B x.m x.t.ts
  small : x.t.d.size ≤ 1000
theorem SHok.go {w w' : World} {ex ex' : List (Option Nat)} {x : SH} (h : SHok w ex x) (hg : Go2 w ex w' ex') : SHok w' ex' x := ⟨h.uses.go hg, h.targets.go hg, h.small⟩
theorem SHok.arg {w : World} {ex : List (Option Nat)} {x : SH} (h : SHok w ex x) : StArg w x.t.op x.t.d x.A x.n x.B x.m x.t := ⟨h.uses.arg, h.targets.arg, rfl, rfl, by have := h.small; omega⟩

/-- A block of statements. -/
structure Blk where
  name : ByteArray
  ss : List Stm
structure BH where
  name : ByteArray
  A : Option Addr
  n : Nat
  c : Nat
  l : List SH
def BH.b (x : BH) : Blk := ⟨x.name, x.l.map SH.t⟩
def bhc (x : BH) : List Value := [.string x.name, .slice x.A x.n x.c]
structure BHok (w : World) (ex : List (Option Nat)) (x : BH) : Prop where
  lies : EAt w ex x.A (x.l.flatMap shc)
  len : x.l.length = x.n
  few : x.n ≤ 40
  small : x.name.size ≤ 1000
  all : ∀ y ∈ x.l, SHok w ex y
theorem BHok.go {w w' : World} {ex ex' : List (Option Nat)} {x : BH} (h : BHok w ex x) (hg : Go2 w ex w' ex') : BHok w' ex' x := ⟨h.lies.go hg, h.len, h.few, h.small, fun y hy => (h.all y hy).go hg⟩

/-- A function of blocks. -/
structure Fnc where
  name : ByteArray
  bs : List Blk
structure FH where
  name : ByteArray
  A : Option Addr
  n : Nat
  c : Nat
  l : List BH
def FH.f (x : FH) : Fnc := ⟨x.name, x.l.map BH.b⟩
def fhc (x : FH) : List Value := [.string x.name, .slice x.A x.n x.c]
structure FHok (w : World) (ex : List (Option Nat)) (x : FH) : Prop where
  lies : EAt w ex x.A (x.l.flatMap bhc)
  len : x.l.length = x.n
  few : x.n ≤ 40
  small : x.name.size ≤ 1000
  all : ∀ y ∈ x.l, BHok w ex y
theorem FHok.go {w w' : World} {ex ex' : List (Option Nat)} {x : FH} (h : FHok w ex x) (hg : Go2 w ex w' ex') : FHok w' ex' x := ⟨h.lies.go hg, h.len, h.few, h.small, fun y hy => (h.all y hy).go hg⟩

/-- A program. -/
structure PH where
  A : Option Addr
  n : Nat
  c : Nat
  l : List FH
def PH.p (x : PH) : List Fnc := x.l.map FH.f
structure PHok (w : World) (ex : List (Option Nat)) (x : PH) : Prop where
  lies : EAt w ex x.A (x.l.flatMap fhc)
  len : x.l.length = x.n
  few : x.n ≤ 40
  all : ∀ y ∈ x.l, FHok w ex y
theorem PHok.go {w w' : World} {ex ex' : List (Option Nat)} {x : PH} (h : PHok w ex x) (hg : Go2 w ex w' ex') : PHok w' ex' x := ⟨h.lies.go hg, h.len, h.few, fun y hy => (h.all y hy).go hg⟩
theorem PHok.below {w w' : World} {ex : List (Option Nat)} {x : PH} (h : PHok w ex x) (hb : Below w.heap.size w w') : PHok w' ex x := h.go (Go2.below hb)

/-- The cell number j of the part number i of a row. -/
theorem flat_get {α : Type} {f : α → List Value} {k : Nat} (hf : ∀ x, (f x).length = k) (l : List α) {i : Nat} {x : α} (hx : l[i]? = some x) {j : Nat} {u : Value} (hj : (f x)[j]? = some u) : (l.flatMap f)[i * k + j]? = some u := by
  induction l generalizing i with
  | nil => simp at hx
  | cons y l ih =>
    rw [List.flatMap_cons]
    cases i with
    | zero =>
      simp at hx
      subst hx
      rw [Nat.zero_mul, Nat.zero_add, List.getElem?_append_left (by rcases Nat.lt_or_ge j (f y).length with h | h; exact h; rw [List.getElem?_eq_none h] at hj; cases hj)]
      exact hj
    | succ i =>
      simp at hx
      rw [List.getElem?_append_right (by rw [hf, Nat.succ_mul]; omega), hf, Nat.succ_mul, show i * k + k + j - k = i * k + j by omega]
      exact ih hx
theorem flat_len {α : Type} {f : α → List Value} {k : Nat} (hf : ∀ x, (f x).length = k) (l : List α) : (l.flatMap f).length = l.length * k := by
  induction l with
  | nil => simp
  | cons y l ih => rw [List.flatMap_cons, List.length_append, hf, ih, List.length_cons, Nat.succ_mul]; omega
theorem EAt.part {α : Type} {f : α → List Value} {k : Nat} (hf : ∀ x, (f x).length = k) {w : World} {ex : List (Option Nat)} {A : Option Addr} {l : List α} (h : EAt w ex A (l.flatMap f)) (hk : 0 < k) {i : Nat} {x : α} (hx : l[i]? = some x) :
    ∃ ad : Addr, A = some ad ∧ Safe w ex ad.block ∧ ∀ j u, (f x)[j]? = some u → w.cell? (ad.add (i * k + j)) = some u := by
  rcases h with h | ⟨ad, e, hs, hc⟩
  · have hl := flat_len hf l
    rw [h] at hl
    have hi : i < l.length := by
      rcases Nat.lt_or_ge i l.length with h | h
      · exact h
      · rw [List.getElem?_eq_none h] at hx; cases hx
    simp only [List.length_nil] at hl
    have : 0 < l.length * k := Nat.mul_pos (by omega) hk
    omega
  · exact ⟨ad, e, hs, fun j u hu => hc _ u (flat_get hf l hx hu)⟩
theorem shc_len (x : SH) : (shc x).length = 4 := rfl
theorem bhc_len (x : BH) : (bhc x).length = 2 := rfl
theorem fhc_len (x : FH) : (fhc x).length = 2 := rfl
theorem cell_next (ad : Addr) (i j : Nat) : (⟨(ad.add i).block, (ad.add i).off + (j + 1), none⟩ : Addr) = ad.add (i + (j + 1)) := by
  rw [← Go.Deep.add_add, show (⟨(ad.add i).block, (ad.add i).off + (j + 1), none⟩ : Addr) = (ad.add i).add (j + 1) from rfl]
theorem FH.cells {w : World} {ex : List (Option Nat)} {A : Option Addr} {l : List FH} (h : EAt w ex A (l.flatMap fhc)) {i : Nat} {x : FH} (hx : l[i]? = some x) :
    ∃ ad : Addr, A = some ad ∧ ad.block < w.heap.size ∧ w.cell? (ad.add (i * 2)) = some (.string x.name) ∧ w.cell? ⟨(ad.add (i * 2)).block, (ad.add (i * 2)).off + 1, none⟩ = some (.slice x.A x.n x.c) := by
  obtain ⟨ad, e, hs, hc⟩ := h.part fhc_len (by omega) hx
  exact ⟨ad, e, hs.1, hc 0 _ rfl, by rw [cell_next ad (i * 2) 0]; exact hc 1 _ rfl⟩
theorem BH.cells {w : World} {ex : List (Option Nat)} {A : Option Addr} {l : List BH} (h : EAt w ex A (l.flatMap bhc)) {i : Nat} {x : BH} (hx : l[i]? = some x) :
    ∃ ad : Addr, A = some ad ∧ ad.block < w.heap.size ∧ w.cell? (ad.add (i * 2)) = some (.string x.name) ∧ w.cell? ⟨(ad.add (i * 2)).block, (ad.add (i * 2)).off + 1, none⟩ = some (.slice x.A x.n x.c) := by
  obtain ⟨ad, e, hs, hc⟩ := h.part bhc_len (by omega) hx
  exact ⟨ad, e, hs.1, hc 0 _ rfl, by rw [cell_next ad (i * 2) 0]; exact hc 1 _ rfl⟩
theorem SH.cells {w : World} {ex : List (Option Nat)} {A : Option Addr} {l : List SH} (h : EAt w ex A (l.flatMap shc)) {i : Nat} {x : SH} (hx : l[i]? = some x) :
    ∃ ad : Addr, A = some ad ∧ ad.block < w.heap.size ∧ w.cell? (ad.add (i * 4)) = some (.int .i64 x.t.op) ∧ w.cell? ⟨(ad.add (i * 4)).block, (ad.add (i * 4)).off + 1, none⟩ = some (.string x.t.d) ∧
      w.cell? ⟨(ad.add (i * 4)).block, (ad.add (i * 4)).off + 2, none⟩ = some (.slice x.A x.n x.c) ∧ w.cell? ⟨(ad.add (i * 4)).block, (ad.add (i * 4)).off + 3, none⟩ = some (.slice x.B x.m x.c2) := by
  obtain ⟨ad, e, hs, hc⟩ := h.part shc_len (by omega) hx
  exact ⟨ad, e, hs.1, hc 0 _ rfl, by rw [cell_next ad (i * 4) 0]; exact hc 1 _ rfl, by rw [cell_next ad (i * 4) 1]; exact hc 2 _ rfl, by rw [cell_next ad (i * 4) 2]; exact hc 3 _ rfl⟩
end Go.Proofs.YtmbelhdkaepohaaGreatDoor
