/- Blocks, rows that grow, and tapes: what the walks share. -/
import Derived.Test.YtmbelhdkaepohaaGreatDoorTape
import Derived.Deep.AppendLies
import Derived.Deep.DeepMust
import Derived.Deep.QuietTactic
import Derived.BigQuiet
import Derived.IntWalk
namespace Go.Proofs.YtmbelhdkaepohaaGreatDoor
set_option maxRecDepth 20000
open Go.ChangeShapes Go.WideShapes Go.ChangeAt Go.RowKit

theorem below_step {W w' w'' : World} (h : Below W.heap.size W w') (h2 : Below w'.heap.size w' w'') : Below W.heap.size W w'' := h.trans (h2.mono h.size)
theorem grown_of_below {w w' : World} (h : Below w.heap.size w w') (row : Option Nat) : w.grownBy w' row := ⟨h.os, h.tape, h.output, h.size, fun i hi _ => h.block i hi⟩
theorem grown_set_new {a w : World} {T : Nat} (h : a.grownBy w (some T)) {p : Addr} (hp : a.heap.size ≤ p.block) (u : Value) : a.grownBy (w.setCell p u) (some T) :=
  ⟨h.os, h.tape, h.output, by simpa [World.setCell] using h.size, fun i hi hne => (Below.heap_setCell w p u i (by rintro rfl; omega)).trans (h.block i hi hne)⟩
theorem grown_drew (w : World) (row : Option Nat) : w.grownBy w.drew row := ⟨rfl, rfl, rfl, Nat.le_refl _, fun _ _ _ => rfl⟩
theorem Tape.far {w : World} {T : Nat} (h : Tape w T) {p : Addr} (hp : T < p.block) (u : Value) : Tape (w.setCell p u) T :=
  h.keep fun k hk => Below.heap_setCell w p u k (by omega)
theorem Tape.alloc {w : World} {T : Nat} (h : Tape w T) (o : Obj) : Tape (w.alloc o) T := h.below ((Below.refl w.heap.size w).alloc (Nat.le_refl _) o) h.lt
theorem after_app {w W1 w3 : World} {g0 : Nat} (hB : Below w.heap.size w W1) (hg : W1.grownBy w3 (some g0)) (h0 : w.heap.size ≤ g0) : Below w.heap.size w w3 :=
  hB.grown hg hB.size (by intro k hk; injection hk with hk; omega)
theorem cell_far {w : World} {p q : Addr} (h : q.block ≠ p.block) (u : Value) : (w.setCell p u).cell? q = w.cell? q :=
  World.cell?_of_block (Below.heap_setCell w p u q.block h)
theorem setCell_grown (w : World) (p : Addr) (u : Value) : w.grownBy (w.setCell p u) (some p.block) :=
  ⟨rfl, rfl, rfl, by simp [World.setCell], fun k _ hk => Below.heap_setCell w p u k (by rintro rfl; exact hk rfl)⟩

/-- Block g holds just these cells. -/
def Fb (w : World) (g : Nat) (cs : Array Value) (t : Nat) : Prop := w.heap[g]? = some (.cells cs t (0, 0))
section
variable {w w' : World} {g B t : Nat} {cs : Array Value}
theorem Fb.lt (h : Fb w g cs t) : g < w.heap.size := by
  rcases Nat.lt_or_ge g w.heap.size with hlt | hge
  · exact hlt
  · unfold Fb at h; rw [Array.getElem?_eq_none hge] at h; cases h
theorem Fb.cell (h : Fb w g cs t) (j : Nat) : w.cell? ⟨g, j, none⟩ = cs[j]? := by
  unfold Fb at h
  simp [World.cell?, h]
theorem Fb.frozen (h : Fb w g cs t) (j : Nat) : w.frozen? ⟨g, j, none⟩ = false := by
  unfold Fb at h
  simp [World.frozen?, h]
theorem Fb.below (h : Fb w g cs t) (hb : Below B w w') (hg : g < B) : Fb w' g cs t := (hb.block g hg).trans h
theorem Fb.grown {row : Option Nat} (h : Fb w g cs t) (hb : w.grownBy w' row) (hne : some g ≠ row) : Fb w' g cs t := (hb.block g h.lt hne).trans h
theorem Fb.new (w : World) (cs : Array Value) (t : Nat) : Fb (w.alloc (.cells cs t)) w.heap.size cs t := heap_alloc_new w _
theorem Fb.alloc (h : Fb w g cs t) (o : Obj) : Fb (w.alloc o) g cs t := (Below.heap_alloc w o g h.lt).trans h
theorem Fb.far (h : Fb w g cs t) {p : Addr} (hp : g ≠ p.block) (u : Value) : Fb (w.setCell p u) g cs t := (Below.heap_setCell w p u g hp).trans h
theorem Fb.drewN (h : Fb w g cs t) (q : Nat) : Fb (w.drewN q) g cs t := h
theorem Fb.set {w : World} {g t : Nat} {cs : Array Value} (h : Fb w g cs t) (j : Nat) (u : Value) : Fb (w.setCell ⟨g, j, none⟩ u) g (cs.setIfInBounds j u) t := by
  unfold Fb at h ⊢
  simp [World.setCell, Array.getElem?_modify, h]
end
theorem Fb.five {w : World} {g t : Nat} {a b c d e : Value} (h : Fb w g #[a, b, c, d, e] t) :
    (w.cell? ⟨g, 0, none⟩ = some a ∧ w.cell? ⟨g, 1, none⟩ = some b ∧ w.cell? ⟨g, 2, none⟩ = some c ∧ w.cell? ⟨g, 3, none⟩ = some d ∧ w.cell? ⟨g, 4, none⟩ = some e) ∧
      (w.frozen? ⟨g, 0, none⟩ = false ∧ w.frozen? ⟨g, 1, none⟩ = false ∧ w.frozen? ⟨g, 2, none⟩ = false ∧ w.frozen? ⟨g, 3, none⟩ = false ∧ w.frozen? ⟨g, 4, none⟩ = false) :=
  ⟨⟨h.cell 0, h.cell 1, h.cell 2, h.cell 3, h.cell 4⟩, h.frozen 0, h.frozen 1, h.frozen 2, h.frozen 3, h.frozen 4⟩

theorem own_below {w w' : World} {base : Nat} {ty : TypeId} {size : Nat} {v : Value} {n : Nat} {xs : List Value} (h : w.ownsRow base ty size v n xs) (hb : Below w.heap.size w w') : w'.ownsRow base ty size v n xs :=
  h.kept (grown_of_below hb none) (by cases v.ownBlock with | none => exact .inl rfl | some k => exact .inr (by simp))
theorem own_row {w : World} {base : Nat} {ty : TypeId} {size : Nat} {v : Value} {n : Nat} {xs : List Value} (h : w.ownsRow base ty size v n xs) {k : Nat} (hk : k < base) : some k ≠ v.ownBlock := by
  intro he
  have := h.lt k he.symm
  omega
theorem own_at {w : World} {base : Nat} {ty : TypeId} {k : Nat} {A : Option Addr} {n c : Nat} {xs : List Value} (h : w.ownsRow base ty k (.slice A n c) n xs) : At w w.heap.size A xs := by
  have hl := h.1
  rcases h.2 with ⟨e, rfl⟩ | ⟨g, cap, cur, e, _, hg, _, _, _, hx⟩
  · exact .inl (List.eq_nil_of_length_eq_zero (by omega))
  · injection e with e1 _ e3
    subst e1
    refine .inr ⟨_, rfl, (Array.getElem?_eq_some_iff.1 hg).1, fun j u hu => ?_⟩
    rw [add_of]
    have hj : (cur.toList.take (n * k))[j]? = some u := by rw [hx]; exact hu
    rw [List.getElem?_take] at hj
    split at hj
    · simp only [World.cell?, hg]
      simpa using hj
    · cases hj
theorem own_any_slice {w : World} {base : Nat} {ty : TypeId} {k : Nat} {v : Value} {n : Nat} {xs : List Value} (h : w.ownsRow base ty k v n xs) : ∃ (A : Option Addr) (c : Nat), v = .slice A n c := by
  rcases h.2 with ⟨rfl, rfl⟩ | ⟨g, cap, cur, rfl, _⟩
  · exact ⟨none, 0, rfl⟩
  · exact ⟨_, cap, rfl⟩

/-- Whole numbers, as an argument: where they lie and how many they are. -/
structure IArg (w : World) (A : Option Addr) (n : Nat) (l : List Int) : Prop where
  lies : At w w.heap.size A (ints l)
  len : l.length = n
theorem new_any (A : Option Addr) (n c : Nat) (w : World) :
    Calls Tryz.prog 4 #[.slice A n c] w fun e w' => e = .returned (.pointer (some ⟨w.heap.size, 0, none⟩)) ∧ w.alloc (.cells #[.slice A n c, .int .i64 0] 36) = w' := by
  go_enter Tryz.func4, Tryz.ntmps4
  go_wp2
  go_ret
  exact ⟨rfl, rfl⟩
theorem tape_new {w : World} {A : Option Addr} {n c : Nat} {zs : List Int} (h : IArg w A n zs) (hn : n ≤ maxLen) : Tape (w.alloc (.cells #[.slice A n c, .int .i64 0] 36)) w.heap.size :=
  ⟨A, n, c, 0, zs, heap_alloc_new w _, h.len, hn, Nat.zero_le _, h.lies.keep (fun p hp => World.cell?_alloc_lt w _ p hp) (Nat.le_refl _)⟩

/-- The statement's tape stands, and nothing old has changed. -/
def Going (w : World) (T : Nat) (wr : World) : Prop := Tape wr T ∧ Below w.heap.size w wr ∧ w.heap.size ≤ T
theorem Going.step {w wr w' : World} {T : Nat} (h : Going w T wr) (ht : Tape w' T) (hg : wr.grownBy w' (some T)) : Going w T w' :=
  ⟨ht, after_app h.2.1 hg h.2.2, h.2.2⟩
theorem Going.below {w wr w' : World} {T : Nat} (h : Going w T wr) (hb : Below wr.heap.size wr w') : Going w T w' :=
  h.step (h.1.below hb h.1.lt) (grown_of_below hb _)
theorem Going.alloc {w wr : World} {T : Nat} (h : Going w T wr) (o : Obj) : Going w T (wr.alloc o) := h.below ((Below.refl _ _).alloc (Nat.le_refl _) o)
end Go.Proofs.YtmbelhdkaepohaaGreatDoor
