/- Rows in memory that lie safe: which blocks are still written; lists of numbers, lists of lists. -/
import Derived.Test.YtadkjnjibefocaaTap
import Derived.Test.YtadkjnjibefocaaInts
import Derived.Test.YtadkjnjibefocaaGpu
namespace Go.Proofs.Ytadkjnjibefocaa
set_option maxRecDepth 20000
set_option linter.unusedVariables false
set_option linter.unusedSimpArgs false
open Go.ChangeShapes Go.WideShapes Go.ChangeAt Go.RowKit

/-- A block that is there and that is not one of those that are still written. -/
def Safe (w : World) (ex : List (Option Nat)) (k : Nat) : Prop := k < w.heap.size ∧ some k ∉ ex
/-- From one world to a later one: what was safe is as it was, and is safe still. -/
def Go2 (w : World) (ex : List (Option Nat)) (w' : World) (ex' : List (Option Nat)) : Prop := ∀ k, Safe w ex k → w'.heap[k]? = w.heap[k]? ∧ Safe w' ex' k
theorem Go2.trans {w w' w'' : World} {ex ex' ex'' : List (Option Nat)} (h : Go2 w ex w' ex') (h2 : Go2 w' ex' w'' ex'') : Go2 w ex w'' ex'' :=
  fun k hk => ⟨(h2 k (h k hk).2).1.trans (h k hk).1, (h2 k (h k hk).2).2⟩
theorem Go2.grown {w w' : World} {ex ex' : List (Option Nat)} {row : Option Nat} (hg : w.grownBy w' row) (hr : row = none ∨ row ∈ ex) (he : ∀ k, k < w.heap.size → some k ∈ ex' → some k ∈ ex) : Go2 w ex w' ex' := by
  intro k hk
  refine ⟨hg.block k hk.1 ?_, Nat.lt_of_lt_of_le hk.1 hg.size, fun h => hk.2 (he k hk.1 h)⟩
  rintro h
  rcases hr with h' | h'
  · rw [h'] at h; cases h
  · exact hk.2 (h ▸ h')
theorem Go2.same {w w' : World} {ex : List (Option Nat)} {row : Option Nat} (hg : w.grownBy w' row) (hr : row = none ∨ row ∈ ex) : Go2 w ex w' ex := Go2.grown hg hr fun _ _ h => h
theorem Go2.below {w w' : World} {ex : List (Option Nat)} (hb : Below w.heap.size w w') : Go2 w ex w' ex := Go2.same (grown_of_below hb none) (.inl rfl)
theorem Go2.less (w : World) {ex ex' : List (Option Nat)} (h : ∀ k, some k ∈ ex' → some k ∈ ex) : Go2 w ex w ex' := fun k hk => ⟨rfl, hk.1, fun h' => hk.2 (h k h')⟩

/-- These cells lie from A on, in a safe block. -/
def EAt (w : World) (ex : List (Option Nat)) (A : Option Addr) (xs : List Value) : Prop :=
  xs = [] ∨ ∃ ad, A = some ad ∧ Safe w ex ad.block ∧ ∀ j u, xs[j]? = some u → w.cell? (ad.add j) = some u
theorem EAt.go {w w' : World} {ex ex' : List (Option Nat)} {A : Option Addr} {xs : List Value} (h : EAt w ex A xs) (hg : Go2 w ex w' ex') : EAt w' ex' A xs := by
  rcases h with rfl | ⟨ad, e, hs, hc⟩
  · exact .inl rfl
  · exact .inr ⟨ad, e, (hg _ hs).2, fun j u hu => (World.cell?_of_block (by rw [add_block]; exact (hg _ hs).1)).trans (hc j u hu)⟩
theorem EAt.at {w : World} {ex : List (Option Nat)} {A : Option Addr} {xs : List Value} (h : EAt w ex A xs) : At w w.heap.size A xs := by
  rcases h with rfl | ⟨ad, e, hs, hc⟩
  · exact .inl rfl
  · exact .inr ⟨ad, e, hs.1, hc⟩
theorem EAt.nil (w : World) (ex : List (Option Nat)) (A : Option Addr) : EAt w ex A [] := .inl rfl
theorem EAt.own {w : World} {base : Nat} {ty : TypeId} {k : Nat} {A : Option Addr} {n c : Nat} {xs : List Value} {ex : List (Option Nat)} (h : w.ownsRow base ty k (.slice A n c) n xs) (he : ∀ g, (Value.slice A n c).ownBlock = some g → some g ∉ ex) : EAt w ex A xs := by
  have hl := h.1
  rcases h.2 with ⟨e, rfl⟩ | ⟨g, cap, cur, e, _, hg, _, _, _, hx⟩
  · exact .inl (List.eq_nil_of_length_eq_zero (by omega))
  · injection e with e1 _ e3
    subst e1
    refine .inr ⟨_, rfl, ⟨(Array.getElem?_eq_some_iff.1 hg).1, he g rfl⟩, fun j u hu => ?_⟩
    rw [add_of]
    have hj : (cur.toList.take (n * k))[j]? = some u := by rw [hx]; exact hu
    rw [List.getElem?_take] at hj
    split at hj
    · simp only [World.cell?, hg]
      simpa using hj
    · cases hj
/-- A block of one's own, or the beginning of it. -/
theorem EAt.fb {w : World} {g t : Nat} {cs : Array Value} {ex : List (Option Nat)} {xs : List Value} (h : Fb w g cs t) (he : some g ∉ ex) (hx : ∀ (j : Nat) (u : Value), xs[j]? = some u → cs[j]? = some u) : EAt w ex (some ⟨g, 0, none⟩) xs :=
  .inr ⟨_, rfl, ⟨h.lt, he⟩, fun j u hu => by rw [add_of, h.cell]; exact hx j u hu⟩

theorem get_at {α : Type} {l : List α} {n k : Nat} (hl : l.length = n) (hk : k < n) : ∃ x, l[k]? = some x ∧ x ∈ l :=
  ⟨l[k]'(by omega), List.getElem?_eq_getElem (by omega), List.getElem_mem _⟩
theorem flat_cell {α : Type} {f : α → List Value} {k : Nat} (hf : ∀ x, (f x).length = k) {l : List α} {i : Nat} {x : α} (h : l[i]? = some x) {j : Nat} (hj : j < k) : (l.flatMap f)[i * k + j]? = (f x)[j]? := by
  induction l generalizing i with
  | nil => simp at h
  | cons y l ih =>
    rw [List.flatMap_cons]
    cases i with
    | zero =>
      simp only [List.getElem?_cons_zero, Option.some.injEq] at h
      subst h
      rw [Nat.zero_mul, Nat.zero_add, List.getElem?_append_left (by rw [hf]; exact hj)]
    | succ i =>
      have h' : l[i]? = some x := by simpa using h
      rw [List.getElem?_append_right (by rw [hf, Nat.succ_mul]; omega), hf, show (i + 1) * k + j - k = i * k + j by rw [Nat.succ_mul]; omega]
      exact ih h'
theorem flat_len {α : Type} {f : α → List Value} {k : Nat} (hf : ∀ x, (f x).length = k) (l : List α) : (l.flatMap f).length = l.length * k := by
  induction l with
  | nil => simp
  | cons y l ih => rw [List.flatMap_cons, List.length_append, ih, hf, List.length_cons, Nat.succ_mul]; omega

/-- A list of numbers and where it lies. -/
structure RH where
  A : Option Addr
  n : Nat
  c : Nat
  l : List Int
def RH.v (x : RH) : Value := .slice x.A x.n x.c
structure RHok (w : World) (ex : List (Option Nat)) (x : RH) : Prop where
  lies : EAt w ex x.A (ints x.l)
  len : x.l.length = x.n
  few : x.n ≤ 9223372036854775807
theorem RHok.go {w w' : World} {ex ex' : List (Option Nat)} {x : RH} (h : RHok w ex x) (hg : Go2 w ex w' ex') : RHok w' ex' x := ⟨h.lies.go hg, h.len, h.few⟩
theorem RHok.below {w w' : World} {ex : List (Option Nat)} {x : RH} (h : RHok w ex x) (hb : Below w.heap.size w w') : RHok w' ex x := h.go (Go2.below hb)
theorem EAt.one {w : World} {ex : List (Option Nat)} {A : Option Addr} {xs : List Value} (h : EAt w ex A xs) {i : Nat} {u : Value} (hi : xs[i]? = some u) : ∃ ad : Addr, A = some ad ∧ Safe w ex ad.block ∧ w.cell? (ad.add i) = some u := by
  rcases h with rfl | ⟨ad, e, hs, hc⟩
  · simp at hi
  · exact ⟨ad, e, hs, hc i u hi⟩
theorem RHok.cell {w : World} {ex : List (Option Nat)} {x : RH} (h : RHok w ex x) {i : Nat} {a : Int} (hi : x.l[i]? = some a) : ∃ ad : Addr, x.A = some ad ∧ ad.block < w.heap.size ∧ w.cell? (ad.add i) = some (.int .i64 a) := by
  obtain ⟨ad, h1, h2, h3⟩ := h.lies.one (i := i) (u := .int .i64 a) (by unfold ints; rw [List.getElem?_map, hi]; rfl)
  exact ⟨ad, h1, h2.1, h3⟩
/-- A list of lists. -/
structure LH where
  A : Option Addr
  n : Nat
  c : Nat
  l : List RH
def LH.v (x : LH) : List (List Int) := x.l.map RH.l
structure LHok (w : World) (ex : List (Option Nat)) (x : LH) : Prop where
  lies : EAt w ex x.A (x.l.map RH.v)
  len : x.l.length = x.n
  few : x.n ≤ 9223372036854775807
  all : ∀ y ∈ x.l, RHok w ex y
theorem LHok.go {w w' : World} {ex ex' : List (Option Nat)} {x : LH} (h : LHok w ex x) (hg : Go2 w ex w' ex') : LHok w' ex' x := ⟨h.lies.go hg, h.len, h.few, fun y hy => (h.all y hy).go hg⟩
theorem LHok.below {w w' : World} {ex : List (Option Nat)} {x : LH} (h : LHok w ex x) (hb : Below w.heap.size w w') : LHok w' ex x := h.go (Go2.below hb)
theorem LHok.cell {w : World} {ex : List (Option Nat)} {x : LH} (h : LHok w ex x) {i : Nat} {y : RH} (hi : x.l[i]? = some y) : ∃ ad : Addr, x.A = some ad ∧ ad.block < w.heap.size ∧ w.cell? (ad.add i) = some (.slice y.A y.n y.c) := by
  obtain ⟨ad, h1, h2, h3⟩ := h.lies.one (i := i) (u := RH.v y) (by rw [List.getElem?_map, hi]; rfl)
  exact ⟨ad, h1, h2.1, h3⟩
theorem LH.vlen (x : LH) : x.v.length = x.l.length := by simp [LH.v]
theorem LH.at {x : LH} {i : Nat} {y : RH} (h : x.l[i]? = some y) : x.v[i]? = some y.l := by unfold LH.v; rw [List.getElem?_map, h]; rfl
theorem LH.rw {x : LH} {i : Nat} {y : RH} (h : x.l[i]? = some y) : rw0 x.v i = y.l := rw0_at (LH.at h)
end Go.Proofs.Ytadkjnjibefocaa
