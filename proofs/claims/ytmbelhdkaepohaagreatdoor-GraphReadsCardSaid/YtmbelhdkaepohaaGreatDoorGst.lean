/- The generator's names and statements. -/
import Derived.Test.YtmbelhdkaepohaaGreatDoorPrg
namespace Go.Proofs.YtmbelhdkaepohaaGreatDoor
set_option maxRecDepth 20000
set_option linter.unusedVariables false
set_option linter.unusedSimpArgs false
open Go.ChangeShapes Go.WideShapes Go.ChangeAt Go.RowKit

def varsL : List ByteArray := [⟨#[120]⟩, ⟨#[121]⟩, ⟨#[122]⟩, ⟨#[119]⟩]
def fnsL : List ByteArray := [⟨#[109]⟩, ⟨#[102]⟩, ⟨#[103]⟩]
def blsL : List ByteArray := [⟨#[97]⟩, ⟨#[98]⟩, ⟨#[99]⟩]
def strC (l : List ByteArray) : Array Value := (l.map Value.string).toArray
/-- One of a block's strings. -/
theorem pickL {w w1 : World} {g T t : Nat} {l : List ByteArray} (h : Fb w g (strC l) t) (hg : w.grownBy w1 (some T)) (hne : g ≠ T) {r : Int} (h0 : 0 ≤ r) (h1 : r.toNat < l.length) :
    ∃ x, l[r.toNat]? = some x ∧ w1.cell? ⟨g, r.toNat, none⟩ = some (.string x) := by
  have h' := h.grown hg (by simpa using hne)
  refine ⟨l[r.toNat], List.getElem?_eq_getElem h1, ?_⟩
  rw [h'.cell]
  unfold strC
  simp [List.getElem?_eq_getElem h1]
/-- A statement of the generator's that ends no block. -/
def genS (k : Nat) (t : Stm) : Prop :=
  (t.op = 2 ∧ t.d = ⟨#[]⟩ ∧ (1 ≤ t.us.length ∧ t.us.length ≤ 2 ∧ ∀ x ∈ t.us, x ∈ varsL) ∧ t.ts = []) ∨
  ((t.op = 4 ∨ t.op = 6) ∧ t.d ∈ varsL ∧ t.us = [] ∧ t.ts = []) ∨
  (t.op = 5 ∧ t.d = ⟨#[]⟩ ∧ (∃ x ∈ varsL, t.us = [x]) ∧ t.ts = []) ∨
  (t.op = 3 ∧ t.d = ⟨#[]⟩ ∧ t.us = [] ∧ ∃ i x, i < k ∧ fnsL[i]? = some x ∧ t.ts = [x]) ∨
  (t.op = 1 ∧ t.d ∈ varsL ∧ (t.us.length ≤ 3 ∧ ∀ x ∈ t.us, x ∈ varsL) ∧ t.ts = [])
def agS (x : SH) : Value := .agg #[.int .i64 x.t.op, .string x.t.d, .slice x.A x.n x.c, .slice x.B x.m x.c2]
/-- What is new is safe from all that was written before. -/
def Fresh4 (w : World) (w' : World) (x : SH) : Prop := ∀ ex : List (Option Nat), (∀ k, some k ∈ ex → k < w.heap.size) → SHok w' ex x
def RetS (w0 : World) (T k : Nat) (w : World) (e : Ending) (w' : World) : Prop :=
  ∃ x : SH, e = .returned (agS x) ∧ genS k x.t ∧ Fresh4 w w' x ∧ Going w0 T w' ∧ w.grownBy w' (some T)
/-- While a statement is made: its block, and what the statement's strings lie in. -/
def Gen4 (w0 : World) (T : Nat) (w : World) (wr : World) : Prop := Going w0 T wr ∧ w.grownBy wr (some T) ∧ T < w.heap.size ∧ Fb wr w.heap.size #[.int .i64 0, .string ⟨#[]⟩, .slice none 0 0, .slice none 0 0] 101
theorem Gen4.step {w0 w wr w' : World} {T : Nat} (h : Gen4 w0 T w wr) (ht : Going w0 T w') (hg : wr.grownBy w' (some T)) : Gen4 w0 T w w' :=
  ⟨ht, grown_trans h.2.1 hg, h.2.2.1, h.2.2.2.grown hg (by have := h.2.2.1; simp; omega)⟩
theorem varsL_small : ∀ x ∈ varsL, x.size ≤ 1 := by decide +kernel
theorem fnsL_small : ∀ x ∈ fnsL, x.size ≤ 1 := by decide +kernel
theorem SSafe.new {wr : World} {ex : List (Option Nat)} {g m : Nat} {l : List ByteArray} (h : Fb wr g (strC l) 9) (he : some g ∉ ex) (hm : m ≤ l.length) (hl : l.length ≤ 40) (hs : ∀ x ∈ l, x.size ≤ 1000) : SSafe wr ex (some ⟨g, 0, none⟩) m (l.take m) :=
  ⟨EAt.fb h he fun j u hu => by
      unfold strC
      rw [List.getElem?_toArray]
      rw [List.map_take, List.getElem?_take] at hu
      split at hu
      · exact hu
      · exact (nomatch hu), by rw [List.length_take]; omega, by omega, fun x hx => hs x (List.mem_of_mem_take hx)⟩
theorem gen_done {w0 w wr : World} {T : Nat} {x : SH} (h : Gen4 w0 T w wr) (hs : ∀ ex : List (Option Nat), (∀ j, some j ∈ ex → j ≤ w.heap.size) → SHok wr ex x) (a b c d : Value) :
    Fresh4 w ((((wr.setCell ⟨w.heap.size, 0, none⟩ a).setCell ⟨w.heap.size, 1, none⟩ b).setCell ⟨w.heap.size, 2, none⟩ c).setCell ⟨w.heap.size, 3, none⟩ d) x ∧
      Going w0 T ((((wr.setCell ⟨w.heap.size, 0, none⟩ a).setCell ⟨w.heap.size, 1, none⟩ b).setCell ⟨w.heap.size, 2, none⟩ c).setCell ⟨w.heap.size, 3, none⟩ d) ∧
      w.grownBy ((((wr.setCell ⟨w.heap.size, 0, none⟩ a).setCell ⟨w.heap.size, 1, none⟩ b).setCell ⟨w.heap.size, 2, none⟩ c).setCell ⟨w.heap.size, 3, none⟩ d) (some T) := by
  obtain ⟨h1, h2, h3, h4⟩ := h
  have hg : wr.grownBy ((((wr.setCell ⟨w.heap.size, 0, none⟩ a).setCell ⟨w.heap.size, 1, none⟩ b).setCell ⟨w.heap.size, 2, none⟩ c).setCell ⟨w.heap.size, 3, none⟩ d) (some w.heap.size) :=
    grown_trans (grown_trans (grown_trans (setCell_grown wr ⟨w.heap.size, 0, none⟩ a) (setCell_grown _ ⟨w.heap.size, 1, none⟩ b)) (setCell_grown _ ⟨w.heap.size, 2, none⟩ c)) (setCell_grown _ ⟨w.heap.size, 3, none⟩ d)
  refine ⟨fun ex he => ?_, ⟨?_, ?_, h1.2.2⟩, ?_⟩
  · have e1 := hs (some w.heap.size :: ex) (fun j hj => by
      rcases List.mem_cons.1 hj with hj | hj
      · injection hj with hj; omega
      · have := he j hj; omega)
    exact (e1.go (Go2.same hg (.inr (by simp)))).go (Go2.less _ fun k hk => List.mem_cons_of_mem _ hk)
  · exact (((h1.1.far (p := ⟨w.heap.size, 0, none⟩) h3 a).far (p := ⟨w.heap.size, 1, none⟩) h3 b).far (p := ⟨w.heap.size, 2, none⟩) h3 c).far (p := ⟨w.heap.size, 3, none⟩) h3 d
  · have hz : w0.heap.size ≤ w.heap.size := Nat.le_trans h1.2.2 (Nat.le_of_lt h3)
    exact (((h1.2.1.setCell hz a).setCell hz b).setCell hz c).setCell hz d
  · have e := fun (w' : World) (g : w.grownBy w' (some T)) (p : Addr) (hp : p.block = w.heap.size) u => grown_set_new g (p := p) (by omega) u
    exact e _ (e _ (e _ (e _ h2 _ rfl a) _ rfl b) _ rfl c) _ rfl d
theorem Gen4.cells {w0 w wr : World} {T : Nat} (h : Gen4 w0 T w wr) :
    (wr.cell? ⟨w.heap.size, 0, none⟩ = some (.int .i64 0) ∧ wr.cell? ⟨w.heap.size, 1, none⟩ = some (.string ⟨#[]⟩) ∧ wr.cell? ⟨w.heap.size, 2, none⟩ = some (.slice none 0 0) ∧ wr.cell? ⟨w.heap.size, 3, none⟩ = some (.slice none 0 0)) ∧
    (wr.frozen? ⟨w.heap.size, 0, none⟩ = false ∧ wr.frozen? ⟨w.heap.size, 1, none⟩ = false ∧ wr.frozen? ⟨w.heap.size, 2, none⟩ = false ∧ wr.frozen? ⟨w.heap.size, 3, none⟩ = false) ∧ w.heap.size < wr.heap.size :=
  ⟨h.2.2.2.four, ⟨h.2.2.2.frozen 0, h.2.2.2.frozen 1, h.2.2.2.frozen 2, h.2.2.2.frozen 3⟩, h.2.2.2.lt⟩
theorem Gen4.alloc {w0 w wr : World} {T : Nat} (h : Gen4 w0 T w wr) (o : Obj) : Gen4 w0 T w (wr.alloc o) :=
  h.step (h.1.alloc o) (grown_of_below ((Below.refl _ _).alloc (Nat.le_refl _) _) _)
theorem gt_of {w0 w wr : World} {T : Nat} (h : Gen4 w0 T w wr) : w.heap.size < wr.heap.size ∧ wr.heap.size ≠ T := ⟨h.2.2.2.lt, by have := h.1.lt; omega⟩

end Go.Proofs.YtmbelhdkaepohaaGreatDoor
