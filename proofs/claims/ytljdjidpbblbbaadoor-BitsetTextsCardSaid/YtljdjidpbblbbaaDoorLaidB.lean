/- What the row of BitsetTexts lists and the shape of every world give the library's functions. -/
import Derived.Test.YtljdjidpbblbbaaDoorLaid
import Derived.Test.YtljdjidpbblbbaaDoorDNum
import Derived.Shelf.Vars
import Derived.LaidLaws
namespace Go.Proofs.YtljdjidpbblbbaaDoor
set_option maxRecDepth 100000
open Go.ChangeShapes Go.WideShapes Go.ChangeAt Go.RowKit

def list5 : List (String × DataW Unit) := Rows.bitsetTextsRow.laid
theorem gErrS : Tryd.prog.globalNamed "strconv.ErrSyntax" = some 1 := by kernel_rfl
theorem gErrR : Tryd.prog.globalNamed "strconv.ErrRange" = some 2 := by kernel_rfl
theorem gErrSType : (Tryd.prog.globals[1]?).map (·.type) = some 82 := by kernel_rfl
theorem gErrRType : (Tryd.prog.globals[2]?).map (·.type) = some 82 := by kernel_rfl

theorem libs5 {W : World} (h : laidMetH Tryd.prog list5 W) (hs : W.ShapedOpen Tryd.prog) : Libs W := by
  have hm : laidMet Tryd.prog list5 W := h
  refine ⟨tab_of hm rfl tab_data, ?_, ?_, ?_⟩
  · obtain ⟨ps, ⟨g0, t0, cs0, f0, p0, q0, hg0, ht0, hv0, hd0, ⟨g1, t1, cs1, f1, p1, q1, hg1, ht1, hv1, hd1, ⟨g2, t2, cs2, f2, p2, q2, hg2, ht2, hv2, hd2, ⟨g3, t3, cs3, f3, p3, q3, hg3, ht3, hv3, hd3, ⟨g4, t4, cs4, f4, p4, q4, hg4, ht4, hv4, hd4, _, _⟩, _⟩, _⟩, _⟩, _⟩, _, _⟩ := hm
    obtain rfl := Option.some.inj (gErrS.symm.trans hg4)
    obtain rfl := Option.some.inj (gErrSType.symm.trans ht4)
    obtain ⟨f', u, v, hcs, _, _⟩ := iface_of_trod Tryd.underlying82 hd4
    have := World.var?_cell hg4 hv4 0
    rw [Array.eq_one_of_toList hcs] at this
    exact ⟨u, v, by simpa using this⟩
  · obtain ⟨ps, ⟨g0, t0, cs0, f0, p0, q0, hg0, ht0, hv0, hd0, ⟨g1, t1, cs1, f1, p1, q1, hg1, ht1, hv1, hd1, ⟨g2, t2, cs2, f2, p2, q2, hg2, ht2, hv2, hd2, ⟨g3, t3, cs3, f3, p3, q3, hg3, ht3, hv3, hd3, _, _⟩, _⟩, _⟩, _⟩, _, _⟩ := hm
    obtain rfl := Option.some.inj (gErrR.symm.trans hg3)
    obtain rfl := Option.some.inj (gErrRType.symm.trans ht3)
    obtain ⟨f', u, v, hcs, _, _⟩ := iface_of_trod Tryd.underlying82 hd3
    have := World.var?_cell hg3 hv3 0
    rw [Array.eq_one_of_toList hcs] at this
    exact ⟨u, v, by simpa using this⟩
  · exact cell_of_shapedOpen_int (zero := #[.int .i64 0]) (t := 3) (k := .i64) hs (of_decide_eq_true (by kernel_rfl)) (by kernel_rfl) rfl (by kernel_rfl) (by kernel_rfl) Tryd.underlying3

theorem door_met5 (os : Os) (args : Array Value) : laidMet Tryd.prog list5 ((door os).forCall (fun _ _ => 0) ⟨#[], args, []⟩).memory :=
  laidMet_of_run' 8 (by kernel_rfl) (by kernel_rfl)
end Go.Proofs.YtljdjidpbblbbaaDoor
