/- The reference's value: the value of a function for a set. -/
import Derived.Test.YtadkjnjibefocaaVar
namespace Go.Proofs.Ytadkjnjibefocaa
set_option maxRecDepth 20000
open Go.ChangeShapes Go.WideShapes Go.ChangeAt Go.RowKit

theorem below4 (w : World) (a b c d : Obj) : Below w.heap.size w ((((w.alloc a).alloc b).alloc c).alloc d) :=
  (below3' w a b c).alloc (by simp only [World.size_alloc]; omega) _
where below3' (w : World) (a b c : Obj) : Below w.heap.size w (((w.alloc a).alloc b).alloc c) := (((Below.refl _ _).alloc (Nat.le_refl _) _).alloc (by simp) _).alloc (by simp only [World.size_alloc]; omega) _

/-- While a value is made. -/
def Valuing (w : World) (B0 W : Nat) (A B C D : Option Addr) (n c m d k q x y : Nat) (zs : List Nat) (wr : World) : Prop :=
  VarR w (w.heap.size + 1 + 1 + 1) (w.heap.size + 1 + 1) W B0 zs wr ∧ Fb wr w.heap.size #[.int .i64 W, .slice A n c, .int .i64 W, .slice B m d, .slice C k q] 51 ∧ Box wr (w.heap.size + 1) W D x y
section
variable {w : World} {B0 W : Nat} {A B C D : Option Addr} {n c m d k q x y : Nat} {zs zs' : List Nat} {wr w' : World}
theorem Valuing.box (h : Valuing w B0 W A B C D n c m d k q x y zs wr) : wr.cell? ⟨w.heap.size + 1, 0, none⟩ = some (.int .i64 W) ∧ wr.cell? ⟨w.heap.size + 1, 1, none⟩ = some (.slice D x y) :=
  ⟨h.2.2.c0, h.2.2.c1⟩
theorem Valuing.frame (h : Valuing w B0 W A B C D n c m d k q x y zs wr) : Below w.heap.size w wr := h.1.frame
theorem Valuing.below (h : Valuing w B0 W A B C D n c m d k q x y zs wr) (hb : Below wr.heap.size wr w') : Valuing w B0 W A B C D n c m d k q x y zs w' :=
  ⟨h.1.below hb, h.2.1.below hb h.2.1.lt, h.2.2.below hb h.2.2.lt⟩
theorem Valuing.put {g e f : Nat} (h : Valuing w B0 W A B C D n c m d k q x y zs wr) (hb : Below wr.heap.size wr w') (hr : Row w' g zs') (ha : Arg w' (some ⟨g, 0, none⟩) e zs') :
    Valuing w B0 W A B C D n c m d k q x y zs' ((w'.setCell ⟨w.heap.size + 1 + 1 + 1, 0, none⟩ (.int .i64 W)).setCell ⟨w.heap.size + 1 + 1 + 1, 1, none⟩ (.slice (some ⟨g, 0, none⟩) e f)) :=
  ⟨h.1.put hb hr ha W, ((h.2.1.below hb h.2.1.lt).far (by simp; omega) _).far (by simp; omega) _, ((h.2.2.below hb h.2.2.lt).far (by simp) _).far (by simp) _⟩
end

end Go.Proofs.Ytadkjnjibefocaa
