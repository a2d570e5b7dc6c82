/- The reference's Members returns the members of a valid set in ascending order, and none of an invalid one. -/
import Derived.Test.YtadkjnjibefocaaThree
namespace Go.Proofs.Ytadkjnjibefocaa
open Go.ChangeShapes Go.WideShapes Go.ChangeAt Go.RowKit

/-- The members below k, ascending. -/
def memsTo (ws : List Nat) : Nat → List Int
  | 0 => []
  | k + 1 => if Bs.bit ws k then memsTo ws k ++ [(k : Int)] else memsTo ws k
theorem memsTo_len (ws : List Nat) (k : Nat) : (memsTo ws k).length ≤ k := by
  induction k with
  | zero => simp [memsTo]
  | succ k ih =>
    unfold memsTo; split
    · rw [List.length_append]; simp; omega
    · omega
def memsB (W : Int) (ws : List Nat) : List Int := if Bs.validB W ws then memsTo ws W.toNat else []
theorem memsB_len (W : Int) (ws : List Nat) : (memsB W ws).length ≤ 256 := by
  unfold memsB; split
  · next h => have := (Bs.validB_iff.1 h).2.1; have := memsTo_len ws W.toNat; omega
  · simp

/-- Whole numbers, as an argument: where they lie and how many they are. -/
structure IArg (w : World) (A : Option Addr) (n : Nat) (l : List Int) : Prop where
  lies : At w w.heap.size A (ints l)
  len : l.length = n
theorem IArg.below {w w' : World} {A : Option Addr} {n : Nat} {l : List Int} (h : IArg w A n l) (hb : Below w.heap.size w w') : IArg w' A n l :=
  ⟨h.lies.below hb hb.size, h.len⟩
theorem IArg.alloc {w : World} {A : Option Addr} {n : Nat} {l : List Int} (h : IArg w A n l) (o : Obj) : IArg (w.alloc o) A n l :=
  h.below ((Below.refl _ _).alloc (Nat.le_refl _) o)
def RetInts (w : World) (l : List Int) (e : Ending) (w' : World) : Prop :=
  ∃ (A : Option Addr) (n c : Nat), e = .returned (.slice A n c) ∧ IArg w' A n l ∧ Below w.heap.size w w'

theorem own_below {w w' : World} {base : Nat} {ty : TypeId} {size : Nat} {v : Value} {n : Nat} {xs : List Value} (h : w.ownsRow base ty size v n xs) (hb : Below w.heap.size w w') : w'.ownsRow base ty size v n xs :=
  h.kept (grown_of_below hb none) (by cases v.ownBlock with | none => exact .inl rfl | some k => exact .inr (by simp))
theorem own_slice {w : World} {base : Nat} {ty : TypeId} {v : Value} {n : Nat} {xs : List Value} (h : w.ownsRow base ty 1 v n xs) :
    ∃ A c, v = .slice A n c ∧ At w w.heap.size A xs ∧ xs.length = n := by
  have hl := h.1
  rcases h.2 with ⟨rfl, rfl⟩ | ⟨g, cap, cur, rfl, _, hg, _⟩
  · have hx : xs = [] := List.eq_nil_of_length_eq_zero (by omega)
    subst hx
    exact ⟨none, 0, rfl, .inl rfl, rfl⟩
  · refine ⟨_, cap, rfl, .inr ⟨_, rfl, ?_, h.cells rfl⟩, by omega⟩
    rcases Nat.lt_or_ge g w.heap.size with hlt | hge
    · exact hlt
    · rw [Array.getElem?_eq_none hge] at hg; cases hg

theorem new_one (w : World) (v : Value) (ty : TypeId) : ∀ j u, [v][j]? = some u → (w.alloc (.cells #[v] ty)).cell? ((⟨w.heap.size, 0, none⟩ : Addr).add j) = some u := by
  intro j u h
  rw [add_of]
  match j, h with
  | 0, h => simp at h; subst h; rw [World.cell?_alloc_at _ _ _ _ rfl]; rfl
  | j + 1, h => simp at h
theorem one_int (k : IntKind) (x : Int) : ∀ u ∈ [Value.int k x], u.oneCell' = true := by intro u hu; simp at hu; subst hu; rfl
theorem own_row {w : World} {base : Nat} {ty : TypeId} {size : Nat} {v : Value} {n : Nat} {xs : List Value} (h : w.ownsRow base ty size v n xs) {k : Nat} (hk : k < base) : some k ≠ v.ownBlock := by
  intro he
  have := h.lt k he.symm
  omega
theorem info3 : (Try.prog.info? 3).map (fun i => (i.zero, i.size, i.bytes)) = some (some (.int .i64 0), 1, 8) := by kernel_rfl
theorem ints_snoc (l : List Int) (x : Int) : ints (l ++ [x]) = ints l ++ [.int .i64 x] := by simp [ints]

/-- While the members are gathered. -/
def Gathering (w : World) (W : Int) (A : Option Addr) (n c : Nat) (v : Value) (l : List Int) (wr : World) : Prop :=
  Box wr w.heap.size W A n c ∧ wr.ownsRow (w.heap.size + 1) 3 1 v l.length (ints l) ∧ Below w.heap.size w wr
theorem Gathering.below {w wr w' : World} {W : Int} {A : Option Addr} {n c : Nat} {v : Value} {l : List Int} (h : Gathering w W A n c v l wr) (hb : Below wr.heap.size wr w') : Gathering w W A n c v l w' :=
  ⟨h.1.below hb h.1.lt, own_below h.2.1 hb, h.2.2.trans (hb.mono h.2.2.size)⟩

theorem Gathering.push {w wr w' : World} {W : Int} {A : Option Addr} {n c : Nat} {v v' : Value} {l : List Int} {x : Int} {o : Obj} (h : Gathering w W A n c v l wr) (ho : w'.ownsRow (w.heap.size + 1) 3 1 v' (l.length + 1) (ints l ++ [.int .i64 x])) (hg : (wr.alloc o).grownBy w' v.ownBlock) : Gathering w W A n c v' (l ++ [x]) w' := by
  have hs := h.2.2.size
  have hl := h.1.lt
  refine ⟨(h.1.alloc o).grown hg (own_row h.2.1 (by omega)), ?_, ?_⟩
  · rw [ints_snoc, List.length_append]; exact ho
  · exact (h.2.2.alloc hs o).grown hg (by rw [World.size_alloc]; omega) (fun k hk => by have := h.2.1.lt k hk; omega)

end Go.Proofs.Ytadkjnjibefocaa
