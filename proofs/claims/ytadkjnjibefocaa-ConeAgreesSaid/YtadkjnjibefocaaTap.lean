/- The reference's Follows and Apply. -/
import Derived.Test.YtadkjnjibefocaaTval
import Derived.Test.YtadkjnjibefocaaMix
namespace Go.Proofs.Ytadkjnjibefocaa
set_option maxRecDepth 20000
open Go.ChangeShapes Go.WideShapes Go.ChangeAt Go.RowKit

/-- P3.1. -/
def followsB (W : Int) (gs : List Nat) (V : Int) (ks : List Nat) (cs : List (Int × Int)) (a b : Int) : Bool :=
  validT W gs V ks cs && (decide (0 ≤ a) && decide (a < W) && decide (0 ≤ b) && decide (b < W)) && folB V ks cs a b
/-- P3.2. -/
def applyR (W : Int) (gs : List Nat) (V : Int) (ks : List Nat) (cs : List (Int × Int)) (X : Int) (ss : List Nat) : Int × List Nat × Int :=
  if validT W gs V ks cs = false ∨ Bs.validB X ss = false then (0, [], 1)
  else if W ≠ X then (0, [], 2)
  else (W, valR gs ss (folB W ks cs) W.toNat, 0)

theorem validT_iff {W V : Int} {gs ks : List Nat} {cs : List (Int × Int)} (h : validT W gs V ks cs = true) :
    Bs.validB W gs = true ∧ Bs.validB V ks = true ∧ W = V ∧ cs.length ≤ 64 ∧ ∀ i, i < cs.length → okAt W cs i = true := by
  unfold validT at h
  simp only [Bool.and_eq_true, decide_eq_true_eq, List.all_eq_true, List.mem_range] at h
  exact ⟨h.1.1.1.1, h.1.1.1.2, h.1.1.2, h.1.2, h.2⟩

/-- A function, a set and the empty result in three new blocks. -/
def Applying (w : World) (W V X : Int) (A B C D : Option Addr) (n c m d k q x y : Nat) (wr : World) : Prop :=
  Fb wr w.heap.size #[.int .i64 W, .slice A n c, .int .i64 V, .slice B m d, .slice C k q] 51 ∧ Box wr (w.heap.size + 1) X D x y ∧ Box wr (w.heap.size + 1 + 1) 0 none 0 0 ∧ Below w.heap.size w wr
section
variable {w : World} {W V X : Int} {A B C D : Option Addr} {n c m d k q x y : Nat} {wr w' : World}
theorem Applying.start (w : World) (W V X : Int) (A B C D : Option Addr) (n c m d k q x y : Nat) :
    Applying w W V X A B C D n c m d k q x y (((w.alloc (.cells #[.int .i64 W, .slice A n c, .int .i64 V, .slice B m d, .slice C k q] 51)).alloc (.cells #[.int .i64 X, .slice D x y] 47)).alloc (.cells #[.int .i64 0, .slice none 0 0] 47)) := by
  have hS := (Box.new (w.alloc (.cells #[.int .i64 W, .slice A n c, .int .i64 V, .slice B m d, .slice C k q] 51)) X D x y).alloc (.cells #[.int .i64 0, .slice none 0 0] 47)
  have hR := Box.new ((w.alloc (.cells #[.int .i64 W, .slice A n c, .int .i64 V, .slice B m d, .slice C k q] 51)).alloc (.cells #[.int .i64 X, .slice D x y] 47)) 0 none 0 0
  simp only [World.size_alloc] at hS hR
  exact ⟨((Fb.new w _ 51).alloc _).alloc _, hS, hR, below3 w _ _ _⟩
theorem Applying.below (h : Applying w W V X A B C D n c m d k q x y wr) (hb : Below wr.heap.size wr w') : Applying w W V X A B C D n c m d k q x y w' :=
  ⟨h.1.below hb h.1.lt, h.2.1.below hb h.2.1.lt, h.2.2.1.below hb h.2.2.1.lt, h.2.2.2.trans (hb.mono h.2.2.2.size)⟩
theorem Applying.res (h : Applying w W V X A B C D n c m d k q x y wr) :
    (wr.cell? ⟨w.heap.size + 1 + 1, 0, none⟩ = some (.int .i64 0) ∧ wr.cell? ⟨w.heap.size + 1 + 1, 1, none⟩ = some (.slice none 0 0)) ∧ wr.frozen? ⟨w.heap.size + 1 + 1, 0, none⟩ = false ∧ wr.frozen? ⟨w.heap.size + 1 + 1, 1, none⟩ = false :=
  ⟨⟨h.2.2.1.c0, h.2.2.1.c1⟩, h.2.2.1.f 0, h.2.2.1.f 1⟩
theorem Applying.stored (h : Applying w W V X A B C D n c m d k q x y wr) (Y : Int) (E : Option Addr) (e f : Nat) :
    Below w.heap.size w ((wr.setCell ⟨w.heap.size + 1 + 1, 0, none⟩ (.int .i64 Y)).setCell ⟨w.heap.size + 1 + 1, 1, none⟩ (.slice E e f)) :=
  (h.2.2.2.setCell (by simp; omega) _).setCell (by simp; omega) _
end

end Go.Proofs.Ytadkjnjibefocaa
