/- The statement's comparison of Parse with the reference returns true for every text. -/
import Derived.Test.YtljdjidpbblbbaaDoorDParse
import Derived.Test.YtljdjidpbblbbaaDoorMakes
namespace Go.Proofs.YtljdjidpbblbbaaDoor
set_option maxRecDepth 10000
open Go.ChangeShapes Go.WideShapes Go.ChangeAt Go.RowKit
theorem parseR_len {text : List UInt8} {r : Int × List Nat × Int} (h : ParseR text r) : r.2.1.length ≤ 5 := by
  rcases h with ⟨-, h, -⟩ | ⟨rfl, -⟩
  · have := Bs.validB_iff.1 h
    have h2 := this.2.2.1
    unfold Bs.nw at h2; omega
  · simp

set_option maxHeartbeats 1600000 in
theorem parses_any (s : ByteArray) (w : World) (hs : s.size ≤ 100000) (hL : Libs w) :
    Calls Tryd.prog 28 #[.string s] w fun e w' => e = .returned (.bool true) ∧ Below w.heap.size w w' := by
  go_enter Tryd.func28, Tryd.ntmps28
  go_wp2_with fail
  refine (devParse_any s _ hs hL).mono ?_
  rintro e w1 ⟨r, hpr, A1, n1, c1, rfl, ha1, hb1⟩
  have Hpr := hid hpr
  have Hb1 := hid (hb1.alloc (B := w.heap.size) hb1.size (.cells #[.int .i64 r.1, .slice A1 n1 c1] 25))
  have q1 := hb1.size
  have Ha1 := hid (ha1.alloc (.cells #[.int .i64 r.1, .slice A1 n1 c1] 25))
  have Hn1 := hid (Box.new w1 r.1 A1 n1 c1)
  have hl1 := parseR_len hpr
  have hl2 := ha1.len
  have v1 : n1 ≤ maxLen := by rw [← hl2]; unfold maxLen; omega
  clear ha1 hb1 hpr hl1 hl2
  go_wp2_with fail
  refine (refParse_any s _ hs).mono ?_
  rintro e w2 ⟨q, hpq, A2, n2, c2, rfl, ha2, hb2⟩
  obtain rfl : r = q := parse_unique Hpr.out hpq Ha1.out.ok ha2.ok
  have q2 := hb2.size
  simp only [World.size_alloc] at q2
  have Hb2 := hid ((Hb1.out.trans (hb2.mono (by simp only [World.size_alloc]; omega))).alloc (by omega) (.cells #[.int .i64 r.1, .slice A2 n2 c2] 25))
  have Ha2 := hid (ha2.alloc (.cells #[.int .i64 r.1, .slice A2 n2 c2] 25))
  have Hn2 := hid (Box.new w2 r.1 A2 n2 c2)
  have f1 := (Hn1.out.below hb2 (by simp)).alloc (.cells #[.int .i64 r.1, .slice A2 n2 c2] 25)
  have f2 := Hn2.out
  have f10 := f1.c0
  have f11 := f1.c1
  have f20 := f2.c0
  have f21 := f2.c1
  have Hs2 := hid hb2
  have t3 : (r.2.2 == r.2.2) = true := by simp
  clear ha2 hb2 hpq f1 f2
  go_wp2_with fail
  refine (refSame_any r.1 r.1 A1 A2 n1 c1 n2 c2 r.2.1 r.2.1 _ ((Ha1.out.below Hs2.out).alloc _) Ha2.out v1).mono ?_
  rw [sameB_self]
  rintro e w3 ⟨rfl, hb3⟩
  have Hb3 := hid (Hb2.out.trans (hb3.mono (by simp only [World.size_alloc]; omega)))
  clear hb3
  go_wp2_with fail
  go_ret
  exact ⟨rfl, Hb3.out⟩
end Go.Proofs.YtljdjidpbblbbaaDoor
