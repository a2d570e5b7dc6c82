/- The reference's Full makes the set of all bits, and Of the set of the given members or an error. -/
import Derived.Test.YtadkjnjibefocaaInts
namespace Go.Proofs.Ytadkjnjibefocaa
open Go.ChangeShapes Go.WideShapes Go.ChangeAt Go.RowKit

/-- A set that is being made in variable b; the result's cell r is still empty. -/
def Making (w : World) (b r v : Nat) (zs : List Nat) (wr : World) : Prop :=
  ∃ g : Nat, Box wr b v (some ⟨g, 0, none⟩) (Bs.nw v) (Bs.nw v) ∧ Row wr g zs ∧ w.heap.size ≤ g ∧ w.heap.size ≤ b ∧ b ≠ r ∧ w.heap.size ≤ r ∧ Box wr r 0 none 0 0 ∧ Below w.heap.size w wr
theorem Making.below {w wr w' : World} {b r v : Nat} {zs : List Nat} (h : Making w b r v zs wr) (hb : Below wr.heap.size wr w') : Making w b r v zs w' := by
  obtain ⟨g, h1, h2, h3, h4, h5, h6, h7, h8⟩ := h
  exact ⟨g, h1.below hb h1.lt, h2.below hb h2.lt, h3, h4, h5, h6, h7.below hb h7.lt, h8.trans (hb.mono h8.size)⟩
theorem Making.frame {w wr : World} {b r v : Nat} {zs : List Nat} (h : Making w b r v zs wr) : Below w.heap.size w wr := by
  obtain ⟨g, _, _, _, _, _, _, _, h8⟩ := h; exact h8
theorem Making.put {w wr w5 : World} {b r v g5 : Nat} {zs zs' : List Nat} (h : Making w b r v zs wr) (hg : wr.heap.size ≤ g5) (hrow : Row w5 g5 zs') (hb : Below wr.heap.size wr w5) :
    Making w b r v zs' ((w5.setCell ⟨b, 0, none⟩ (.int .i64 v)).setCell ⟨b, 1, none⟩ (.slice (some ⟨g5, 0, none⟩) (Bs.nw v) (Bs.nw v))) := by
  obtain ⟨g, h1, h2, h3, h4, h5, h6, h7, h8⟩ := h
  have l1 := h1.lt
  have l7 := h7.lt
  have l8 := h8.size
  exact ⟨g5, (h1.below hb l1).set _ _ _ _, (hrow.far (by simp; omega) _).far (by simp; omega) _, by omega, h4, h5, h6, ((h7.below hb l7).far (by simp; omega) _).far (by simp; omega) _, ((h8.trans (hb.mono l8)).setCell (by simpa using h4) _).setCell (by simpa using h4) _⟩
theorem Making.start {w w2 : World} {g r v : Nat} {zs : List Nat} (hrow : Row w2 g zs) (hg : w.heap.size ≤ g) (hr : Box w2 r 0 none 0 0) (hr2 : w.heap.size ≤ r) (hb : Below w.heap.size w w2) :
    Making w w2.heap.size r v zs (w2.alloc (.cells #[.int .i64 v, .slice (some ⟨g, 0, none⟩) (Bs.nw v) (Bs.nw v)] 47)) := by
  have := hr.lt
  have := hb.size
  exact ⟨g, Box.new _ _ _ _ _, hrow.alloc _, hg, by omega, by omega, hr2, hr.alloc _, hb.alloc (by omega) _⟩
/-- The set is stored into the result's cell. -/
theorem Making.done {w wr : World} {b r v : Nat} {zs : List Nat} (h : Making w b r v zs wr) (hf : Bs.Fit v zs) :
    ∃ g : Nat, wr.cell? ⟨b, 0, none⟩ = some (.int .i64 v) ∧ wr.cell? ⟨b, 1, none⟩ = some (.slice (some ⟨g, 0, none⟩) (Bs.nw v) (Bs.nw v)) ∧
      Arg ((wr.setCell ⟨r, 0, none⟩ (.int .i64 v)).setCell ⟨r, 1, none⟩ (.slice (some ⟨g, 0, none⟩) (Bs.nw v) (Bs.nw v))) (some ⟨g, 0, none⟩) (Bs.nw v) zs ∧
      Below w.heap.size w ((wr.setCell ⟨r, 0, none⟩ (.int .i64 v)).setCell ⟨r, 1, none⟩ (.slice (some ⟨g, 0, none⟩) (Bs.nw v) (Bs.nw v))) := by
  obtain ⟨g, h1, h2, h3, h4, h5, h6, h7, h8⟩ := h
  have hne := h7.row_ne h2
  have hr := Row.arg ((h2.far (p := ⟨r, 0, none⟩) hne (.int .i64 v)).far (p := ⟨r, 1, none⟩) hne (.slice (some ⟨g, 0, none⟩) (Bs.nw v) (Bs.nw v))) hf.ok
  exact ⟨g, h1.c0, h1.c1, ⟨hr.lies, hf.len, hf.ok⟩, (h8.setCell (by simpa using h6) _).setCell (by simpa using h6) _⟩
theorem Making.cells {w wr : World} {b r v : Nat} {zs : List Nat} (h : Making w b r v zs wr) :
    ((wr.cell? ⟨r, 0, none⟩ = some (.int .i64 0) ∧ wr.cell? ⟨r, 1, none⟩ = some (.slice none 0 0)) ∧ (wr.frozen? ⟨r, 0, none⟩ = false ∧ wr.frozen? ⟨r, 1, none⟩ = false)) ∧ b ≠ r := by
  obtain ⟨g, h1, h2, h3, h4, h5, h6, h7, h8⟩ := h
  exact ⟨⟨⟨h7.c0, h7.c1⟩, h7.f 0, h7.f 1⟩, h5⟩
/-- What a round needs of the set's variable. -/
theorem Making.load {w wr : World} {b r v : Nat} {zs : List Nat} (h : Making w b r v zs wr) (hf : Bs.Fit v zs) :
    ∃ g : Nat, wr.cell? ⟨b, 0, none⟩ = some (.int .i64 v) ∧ wr.cell? ⟨b, 1, none⟩ = some (.slice (some ⟨g, 0, none⟩) (Bs.nw v) (Bs.nw v)) ∧ Arg wr (some ⟨g, 0, none⟩) (Bs.nw v) zs ∧ b < wr.heap.size := by
  obtain ⟨g, h1, h2, h3, h4, h5, h6, h7, h8⟩ := h
  have hr := h2.arg hf.ok
  exact ⟨g, h1.c0, h1.c1, ⟨hr.lies, hf.len, hf.ok⟩, h1.lt⟩
theorem box_stores {w w5 : World} {b : Nat} {W : Int} {A : Option Addr} {n c : Nat} (h : Box w b W A n c) (hb : Below w.heap.size w w5) :
    ((w5.cell? ⟨b, 0, none⟩ = some (.int .i64 W) ∧ w5.cell? ⟨b, 1, none⟩ = some (.slice A n c)) ∧ w5.frozen? ⟨b, 0, none⟩ = false ∧ w5.frozen? ⟨b, 1, none⟩ = false) := by
  have h5 := h.below hb h.lt
  exact ⟨⟨h5.c0, h5.c1⟩, h5.f 0, h5.f 1⟩
theorem Making.box {w wr : World} {b r v : Nat} {zs : List Nat} (h : Making w b r v zs wr) : ∃ g : Nat, Box wr b v (some ⟨g, 0, none⟩) (Bs.nw v) (Bs.nw v) := by
  obtain ⟨g, h1, _⟩ := h; exact ⟨g, h1⟩

end Go.Proofs.Ytadkjnjibefocaa
