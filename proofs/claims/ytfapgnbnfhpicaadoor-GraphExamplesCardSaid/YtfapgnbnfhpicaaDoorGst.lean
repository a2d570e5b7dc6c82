/- The generator's names and statements. -/
import Derived.Test.YtfapgnbnfhpicaaDoorPrg
namespace Go.Proofs.YtfapgnbnfhpicaaDoor
set_option maxRecDepth 20000
set_option linter.unusedVariables false
set_option linter.unusedSimpArgs false
open Go.ChangeShapes Go.WideShapes Go.ChangeAt Go.RowKit

def varsL : List ByteArray := [⟨#[120]⟩, ⟨#[121]⟩, ⟨#[122]⟩, ⟨#[119]⟩]
def fnsL : List ByteArray := [⟨#[109]⟩, ⟨#[102]⟩, ⟨#[103]⟩]
def blsL : List ByteArray := [⟨#[97]⟩, ⟨#[98]⟩, ⟨#[99]⟩]
def strC (l : List ByteArray) : Array Value := (l.map Value.string).toArray
/-- One of a block's strings. -/
theorem pickL {w w1 : World} {g T t : Nat} {l : List ByteArray} (h : Fb w g (strC l) t) (hg : w.grownBy w1 (some T)) (hne : g ≠ T) {r : Int} (h0 : 0 ≤ r) (h1 : r.toNat < l.length) :
    ∃ x, l[r.toNat]? = some x ∧ w1.cell? ⟨g, r.toNat, none⟩ = some (.string x) := by
  have h' := h.grown hg (by simpa using hne)
  refine ⟨l[r.toNat], List.getElem?_eq_getElem h1, ?_⟩
  rw [h'.cell]
  unfold strC
  simp [List.getElem?_eq_getElem h1]
/-- A statement of the generator's that ends no block. -/
def genS (k : Nat) (t : Stm) : Prop :=
  (t.op = 2 ∧ t.d = ⟨#[]⟩ ∧ (1 ≤ t.us.length ∧ t.us.length ≤ 2 ∧ ∀ x ∈ t.us, x ∈ varsL) ∧ t.ts = []) ∨
  ((t.op = 4 ∨ t.op = 6) ∧ t.d ∈ varsL ∧ t.us = [] ∧ t.ts = []) ∨
  (t.op = 5 ∧ t.d = ⟨#[]⟩ ∧ (∃ x ∈ varsL, t.us = [x]) ∧ t.ts = []) ∨
  (t.op = 3 ∧ t.d = ⟨#[]⟩ ∧ t.us = [] ∧ ∃ i x, i < k ∧ fnsL[i]? = some x ∧ t.ts = [x]) ∨
  (t.op = 1 ∧ t.d ∈ varsL ∧ (t.us.length ≤ 3 ∧ ∀ x ∈ t.us, x ∈ varsL) ∧ t.ts = [])
def agS (x : SH) : Value := .agg #[.int .i64 x.t.op, .string x.t.d, .slice x.A x.n x.c, .slice x.B x.m x.c2]
/-- What is new is safe from all that was written before. -/
def Fresh4 (w : World) (w' : World) (x : SH) : Prop := ∀ ex : List (Option Nat), (∀ k, some k ∈ ex → k < w.heap.size) → SHok w' ex x
theorem varsL_small : ∀ x ∈ varsL, x.size ≤ 1 := by decide +kernel
theorem fnsL_small : ∀ x ∈ fnsL, x.size ≤ 1 := by decide +kernel
theorem SSafe.new {wr : World} {ex : List (Option Nat)} {g m : Nat} {l : List ByteArray} (h : Fb wr g (strC l) 9) (he : some g ∉ ex) (hm : m ≤ l.length) (hl : l.length ≤ 40) (hs : ∀ x ∈ l, x.size ≤ 1000) : SSafe wr ex (some ⟨g, 0, none⟩) m (l.take m) :=
  ⟨EAt.fb h he fun j u hu => by
      unfold strC
      rw [List.getElem?_toArray]
      rw [List.map_take, List.getElem?_take] at hu
      split at hu
      · exact hu
      · exact (nomatch hu), by rw [List.length_take]; omega, by omega, fun x hx => hs x (List.mem_of_mem_take hx)⟩
end Go.Proofs.YtfapgnbnfhpicaaDoor
