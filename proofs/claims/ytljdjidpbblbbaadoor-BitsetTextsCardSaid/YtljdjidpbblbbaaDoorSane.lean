/- The statements' sanity check, the examples of chapter 2, returns true. -/
import Derived.Test.YtljdjidpbblbbaaDoorDevB
import Derived.Test.YtljdjidpbblbbaaDoorDText
namespace Go.Proofs.YtljdjidpbblbbaaDoor
set_option maxRecDepth 10000
open Go.ChangeShapes Go.WideShapes Go.ChangeAt Go.RowKit

def set5 : List Nat := Bs.ofP 5 (fun i => decide ((i : Int) ∈ [(3 : Int), 0, 3])) 5
theorem of5 : ofR 5 [3, 0, 3] = (5, set5, 0) := by rfl
theorem empty6 : emptyR 6 = (6, [0], 0) := by rfl
theorem empty0 : emptyR 0 = (0, [], 0) := by rfl
theorem union56 : mixR (flag true true true) 5 set5 6 [0] = (0, [], 2) := by decide
theorem dec_lt {n : Nat} (h : n < 10) : dec n = [UInt8.ofNat (48 + n)] := by unfold dec; rw [dif_pos h]
theorem text5 : textB 5 set5 = [48, 44, 51, 47, 53] := by
  unfold textB
  rw [if_pos (by decide)]
  show joinTo [0, 3] 2 ++ [47] ++ dec 5 = _
  simp [joinTo, dec_lt]
theorem text0 : textB 0 [] = [47, 48] := by
  unfold textB
  rw [if_pos (by decide)]
  show joinTo [] 0 ++ [47] ++ dec 0 = _
  simp [joinTo, dec_lt]
theorem count5 : (memsB 5 set5).length = 2 := by rfl

theorem ints_lit (w : World) (l : List Int) (cs : Array Value) (h : cs.toList = ints l) : IArg (w.alloc (.cells cs 3)) (some ⟨w.heap.size, 0, none⟩) l.length l := by
  refine ⟨.inr ⟨_, rfl, by simp, fun j u hu => ?_⟩, rfl⟩
  rw [add_of, World.cell?_alloc_at _ _ _ _ rfl]
  rw [← h] at hu
  simpa using hu

set_option maxHeartbeats 1600000 in
theorem sane_any (w : World) : Calls Tryd.prog 14 #[] w fun e w' => e = .returned (.bool true) ∧ Below w.heap.size w w' := by
  go_enter Tryd.func14, Tryd.ntmps14
  go_wp2_with fail
  refine (devOf_any 5 _ _ _ [3, 0, 3] _ (ints_lit w [3, 0, 3] _ rfl) (by unfold maxLen; simp)).mono ?_
  rw [of5]
  rintro e w1 ⟨A1, n1, c1, rfl, ha1, hb1⟩
  simp only [] at ha1
  have Ha1 := hid (ha1.alloc (.cells #[.int .i64 5, .slice A1 n1 c1] 25))
  have Hx1 := hid (Box.new w1 5 A1 n1 c1)
  have hz1 := hb1.size
  simp only [World.size_alloc] at hz1
  have Hb1 := hid ((((Below.refl _ _).alloc (Nat.le_refl _) _).trans (hb1.mono (by simp))).alloc (B := w.heap.size) (by omega) (.cells #[.int .i64 5, .slice A1 n1 c1] 25))
  clear ha1 hb1
  go_wp2_with fail
  refine (devEmpty_any 6 _).mono ?_
  rw [empty6]
  rintro e w2 ⟨A2, n2, c2, rfl, ha2, hb2⟩
  simp only [] at ha2
  have hz2 := hb2.size
  simp only [World.size_alloc] at hz2
  have hx1 := Hx1.out.below hb2 (by simp)
  have x10 := hx1.c0
  have x11 := hx1.c1
  have m1 : w1.heap.size < w2.heap.size := by omega
  have Hx1 := hid (hx1.alloc (.cells #[.int .i64 6, .slice A2 n2 c2] 25))
  have Ha1 := hid ((Ha1.out.below hb2).alloc (.cells #[.int .i64 6, .slice A2 n2 c2] 25))
  have Ha2 := hid (ha2.alloc (.cells #[.int .i64 6, .slice A2 n2 c2] 25))
  have Hx2 := hid (Box.new w2 6 A2 n2 c2)
  have Hb2 := hid ((Hb1.out.trans (hb2.mono (by simp only [World.size_alloc]; omega))).alloc (by omega) (.cells #[.int .i64 6, .slice A2 n2 c2] 25))
  clear ha2 hb2 hx1
  go_wp2_with fail
  refine (devUnion_any 5 6 A1 A2 n1 c1 n2 c2 set5 [0] _ Ha1.out Ha2.out).mono ?_
  rw [union56]
  rintro e w3 ⟨A3, n3, c3, rfl, ha3, hb3⟩
  have hz3 := hb3.size
  simp only [World.size_alloc] at hz3
  have Hx1 := hid ((Hx1.out.below hb3 (by simp only [World.size_alloc]; omega)).alloc (.cells #[.int .i64 0, .slice A3 n3 c3] 25))
  have Ha1 := hid ((Ha1.out.below hb3).alloc (.cells #[.int .i64 0, .slice A3 n3 c3] 25))
  have Hb3 := hid ((Hb2.out.trans (hb3.mono (by simp only [World.size_alloc]; omega))).alloc (by omega) (.cells #[.int .i64 0, .slice A3 n3 c3] 25))
  clear ha3 hb3 x10 x11
  simp only []
  go_wp2_with fail
  refine (devEmpty_any 0 _).mono ?_
  rw [empty0]
  rintro e w4 ⟨A4, n4, c4, rfl, ha4, hb4⟩
  simp only [] at ha4
  have hz4 := hb4.size
  simp only [World.size_alloc] at hz4
  have hx1 := Hx1.out.below hb4 (by simp only [World.size_alloc]; omega)
  have x10 := hx1.c0
  have x11 := hx1.c1
  have m4 : w1.heap.size < w4.heap.size := by omega
  have Hx1 := hid (hx1.alloc (.cells #[.int .i64 0, .slice A4 n4 c4] 25))
  have Ha1 := hid ((Ha1.out.below hb4).alloc (.cells #[.int .i64 0, .slice A4 n4 c4] 25))
  have Ha4 := hid (ha4.alloc (.cells #[.int .i64 0, .slice A4 n4 c4] 25))
  have Hx4 := hid (Box.new w4 0 A4 n4 c4)
  have Hb4 := hid ((Hb3.out.trans (hb4.mono (by simp only [World.size_alloc]; omega))).alloc (by omega) (.cells #[.int .i64 0, .slice A4 n4 c4] 25))
  clear ha4 hb4 hx1
  go_wp2_with fail
  refine (devText_any 5 A1 n1 c1 set5 _ Ha1.out (.inl (by decide))).mono ?_
  rw [text5, show str [48, 44, 51, 47, 53] = .string { data := #[48, 44, 51, 47, 53] } from rfl]
  rintro e w5 ⟨rfl, hb5⟩
  have hz5 := hb5.size
  simp only [World.size_alloc] at hz5
  have hx1 := Hx1.out.below hb5 (by simp only [World.size_alloc]; omega)
  have hx4 := Hx4.out.below hb5 (by simp)
  have x40 := hx4.c0
  have x41 := hx4.c1
  have Hx1 := hid hx1
  have Ha1 := hid (Ha1.out.below hb5)
  have Ha4 := hid (Ha4.out.below hb5)
  have Hb5 := hid (Hb4.out.trans (hb5.mono (by simp only [World.size_alloc]; omega)))
  clear hb5 hx1 hx4 x10 x11
  go_wp2_with fail
  refine (devText_any 0 A4 n4 c4 [] _ Ha4.out (.inl (by decide))).mono ?_
  rw [text0, show str [47, 48] = .string { data := #[47, 48] } from rfl]
  rintro e w6 ⟨rfl, hb6⟩
  have hx1 := Hx1.out.below hb6 (by omega)
  have x10 := hx1.c0
  have x11 := hx1.c1
  have Ha1 := hid (Ha1.out.below hb6)
  have Hb6 := hid (Hb5.out.trans (hb6.mono (by omega)))
  have hz6 := hb6.size
  clear hb6 hx1 x40 x41
  go_wp2_with fail
  refine (devCount_any 5 A1 n1 c1 set5 _ Ha1.out).mono ?_
  rw [count5]
  rintro e w7 ⟨rfl, hb7⟩
  have Hb7 := hid (Hb6.out.trans (hb7.mono (by omega)))
  clear hb7
  go_wp2_with fail
  go_ret
  exact ⟨rfl, Hb7.out⟩
end Go.Proofs.YtljdjidpbblbbaaDoor
