/- The reference's mix of two sets by three flags: the errors, and the set of the bits that the flags tell. -/
import Derived.Test.YtadkjnjibefocaaWide
import Derived.Test.YtadkjnjibefocaaSame
import Derived.Deep.DeepCutAuto
namespace Go.Proofs.Ytadkjnjibefocaa
open Go.ChangeShapes Go.WideShapes Go.ChangeAt Go.RowKit

/-- A set and an error number came back. -/
def RetErr (w : World) (r : Int × List Nat × Int) (e : Ending) (w' : World) : Prop :=
  ∃ (A : Option Addr) (n c : Nat), e = .returned (.tuple #[.agg #[.int .i64 r.1, .slice A n c], .int .i64 r.2.2]) ∧ Arg w' A n r.2.1 ∧ Below w.heap.size w w'
/-- As RetErr, and the words lie in a row of their own. -/
def RetErrRow (w : World) (r : Int × List Nat × Int) (e : Ending) (w' : World) : Prop :=
  ∃ (g n c : Nat), e = .returned (.tuple #[.agg #[.int .i64 r.1, .slice (some ⟨g, 0, none⟩) n c], .int .i64 r.2.2]) ∧ Row w' g r.2.1 ∧ Arg w' (some ⟨g, 0, none⟩) n r.2.1 ∧ Below w.heap.size w w'
theorem RetErrRow.ret {w w' : World} {r : Int × List Nat × Int} {e : Ending} (h : RetErrRow w r e w') : RetErr w r e w' := by
  obtain ⟨g, n, c, h1, _, h2, h3⟩ := h
  exact ⟨_, n, c, h1, h2, h3⟩
def flag (one two both x y : Bool) : Bool := (x && y && both) || ((x && !y && one) || (!x && y && two))
def mixR (f : Bool → Bool → Bool) (W : Int) (ws : List Nat) (V : Int) (xs : List Nat) : Int × List Nat × Int :=
  if Bs.validB W ws = false ∨ Bs.validB V xs = false then (0, [], 1)
  else if W ≠ V then (0, [], 2)
  else (W, Bs.ofP W.toNat (fun i => f (Bs.bit ws i) (Bs.bit xs i)) W.toNat, 0)

theorem box3 (w : World) (W V : Int) (A B : Option Addr) (n c m d : Nat) :
    Box (((w.alloc (.cells #[.int .i64 W, .slice A n c] 47)).alloc (.cells #[.int .i64 V, .slice B m d] 47)).alloc (.cells #[.int .i64 0, .slice none 0 0] 47)) w.heap.size W A n c ∧
    Box (((w.alloc (.cells #[.int .i64 W, .slice A n c] 47)).alloc (.cells #[.int .i64 V, .slice B m d] 47)).alloc (.cells #[.int .i64 0, .slice none 0 0] 47)) (w.heap.size + 1) V B m d ∧
    Box (((w.alloc (.cells #[.int .i64 W, .slice A n c] 47)).alloc (.cells #[.int .i64 V, .slice B m d] 47)).alloc (.cells #[.int .i64 0, .slice none 0 0] 47)) (w.heap.size + 1 + 1) 0 none 0 0 := by
  refine ⟨((Box.new w _ _ _ _).alloc _).alloc _, ?_, ?_⟩
  · have h := (Box.new (w.alloc (.cells #[.int .i64 W, .slice A n c] 47)) V B m d).alloc (.cells #[.int .i64 0, .slice none 0 0] 47)
    rw [World.size_alloc] at h; exact h
  · have h := Box.new ((w.alloc (.cells #[.int .i64 W, .slice A n c] 47)).alloc (.cells #[.int .i64 V, .slice B m d] 47)) 0 none 0 0
    rw [World.size_alloc, World.size_alloc] at h; exact h
theorem below3 (w : World) (a b c : Obj) : Below w.heap.size w (((w.alloc a).alloc b).alloc c) := (((Below.refl _ _).alloc (Nat.le_refl _) _).alloc (by simp) _).alloc (by simp only [World.size_alloc]; omega) _

/-- While mix runs: the variables of its two sets, its result's cell, and the set s as far as it has been made. -/
def Mixing (w : World) (W : Int) (A B : Option Addr) (n c m d v : Nat) (b : Nat) (zs : List Nat) (wr : World) : Prop :=
  ∃ g : Nat, Box wr w.heap.size W A n c ∧ Box wr (w.heap.size + 1) W B m d ∧ Box wr (w.heap.size + 1 + 1) 0 none 0 0 ∧ Box wr b v (some ⟨g, 0, none⟩) (Bs.nw v) (Bs.nw v) ∧ Row wr g zs ∧ w.heap.size + 1 + 1 < g ∧ w.heap.size + 1 + 1 < b ∧ Below w.heap.size w wr
theorem Mixing.below {w wr w' : World} {W : Int} {A B : Option Addr} {n c m d v b : Nat} {zs : List Nat} (h : Mixing w W A B n c m d v b zs wr) (hb : Below wr.heap.size wr w') : Mixing w W A B n c m d v b zs w' := by
  obtain ⟨g, h1, h2, h3, h4, h5, h6, h7, h8⟩ := h
  exact ⟨g, h1.below hb h1.lt, h2.below hb h2.lt, h3.below hb h3.lt, h4.below hb h4.lt, h5.below hb h5.lt, h6, h7, h8.trans (hb.mono h8.size)⟩
theorem Mixing.drew {w wr : World} {W : Int} {A B : Option Addr} {n c m d v b : Nat} {zs : List Nat} (h : Mixing w W A B n c m d v b zs wr) : Mixing w W A B n c m d v b zs wr.drew := h.below (Below.refl _ _).drew

theorem Mixing.frame {w wr : World} {W : Int} {A B : Option Addr} {n c m d v b : Nat} {zs : List Nat} (h : Mixing w W A B n c m d v b zs wr) : Below w.heap.size w wr := by
  obtain ⟨g, _, _, _, _, _, _, _, h8⟩ := h; exact h8
theorem Mixing.cells {w wr : World} {W : Int} {A B : Option Addr} {n c m d v b : Nat} {zs : List Nat} (h : Mixing w W A B n c m d v b zs wr) :
    (wr.cell? ⟨w.heap.size, 0, none⟩ = some (.int .i64 W) ∧ wr.cell? ⟨w.heap.size, 1, none⟩ = some (.slice A n c)) ∧ wr.cell? ⟨w.heap.size + 1, 0, none⟩ = some (.int .i64 W) ∧ wr.cell? ⟨w.heap.size + 1, 1, none⟩ = some (.slice B m d) := by
  obtain ⟨g, h1, h2, _⟩ := h; exact ⟨⟨h1.c0, h1.c1⟩, h2.c0, h2.c1⟩

end Go.Proofs.Ytadkjnjibefocaa
