/- The statement's comparison of the functions of two sets with the reference returns true for any two sets. -/
import Derived.Test.YtljdjidpbblbbaaDoorDWout
namespace Go.Proofs.YtljdjidpbblbbaaDoor
set_option maxRecDepth 10000
open Go.ChangeShapes Go.WideShapes Go.ChangeAt Go.RowKit

theorem mixR_len (f : Bool → Bool → Bool) (W : Int) (ws : List Nat) (V : Int) (xs : List Nat) : (mixR f W ws V xs).2.1.length ≤ 5 := by
  unfold mixR
  split
  · simp
  · next h =>
    split
    · simp
    · have hv : Bs.validB W ws = true := by cases hq : Bs.validB W ws with | true => rfl | false => exact absurd (.inl hq) h
      have := (Bs.validB_iff.1 hv).2.1
      show (Bs.ofP _ _ _).length ≤ 5
      rw [(Bs.fit_ofP W.toNat _ W.toNat (Nat.le_refl _)).len]; unfold Bs.nw; omega
theorem sameB_self (W : Int) (ws : List Nat) : sameB W ws W ws = true := by simp [sameB]

theorem below_step {W wp w' : World} (h : Below W.heap.size W wp) (hb : Below wp.heap.size wp w') : Below W.heap.size W w' := h.trans (hb.mono h.size)
theorem Box.keep {W w' : World} {b : Nat} {V : Int} {A : Option Addr} {n c : Nat} (h : Box W b V A n c) (hb : Below W.heap.size W w') : w'.cell? ⟨b, 0, none⟩ = some (.int .i64 V) ∧ w'.cell? ⟨b, 1, none⟩ = some (.slice A n c) := by
  have h' := h.below hb h.lt
  exact ⟨h'.c0, h'.c1⟩

set_option maxHeartbeats 3200000 in
theorem combines_any (W V : Int) (A B : Option Addr) (n c m d : Nat) (ws xs : List Nat) (w : World) (hA : Arg w A n ws) (hB : Arg w B m xs) (hn : n ≤ maxLen) :
    Calls Tryd.prog 18 #[.agg #[.int .i64 W, .slice A n c], .agg #[.int .i64 V, .slice B m d]] w fun e w' => e = .returned (.bool true) ∧ Below w.heap.size w w' := by
  obtain ⟨hx1, hx2⟩ := box2 w W V A B n c m d
  have hx4 := below2 w (.cells #[.int .i64 W, .slice A n c] 25) (.cells #[.int .i64 V, .slice B m d] 25)
  have Hx1 := hid hx1; have Hx2 := hid hx2; have Hb0 := hid hx4
  have HA := hid hA; have HB := hid hB
  clear hx1 hx2 hx4 hA hB
  have l1 := mixR_len (flag true true true) W ws V xs
  have l2 := mixR_len (flag false false true) W ws V xs
  have l3 := mixR_len (flag true false false) W ws V xs
  generalize hr1 : mixR (flag true true true) W ws V xs = r1 at l1
  generalize hr2 : mixR (flag false false true) W ws V xs = r2 at l2
  generalize hr3 : mixR (flag true false false) W ws V xs = r3 at l3
  obtain ⟨R1, z1, e1⟩ := r1
  obtain ⟨R2, z2, e2⟩ := r2
  obtain ⟨R3, z3, e3⟩ := r3
  simp only [] at l1 l2 l3
  have Hr1 := hid hr1; have Hr2 := hid hr2; have Hr3 := hid hr3
  clear hr1 hr2 hr3
  have t1 : (e1 == e1) = true := by simp
  have t2 : (e2 == e2) = true := by simp
  have t3 : (e3 == e3) = true := by simp
  go_enter Tryd.func18, Tryd.ntmps18
  go_wp2_with fail
  refine (devUnion_any W V A B n c m d ws xs _ (HA.out.below Hb0.out) (HB.out.below Hb0.out)).mono ?_
  rw [Hr1.out]
  rintro e w1 ⟨A1, n1, c1, rfl, ha1, hb1⟩
  have hl1 := ha1.len
  have hq1 := hb1.size
  simp only [World.size_alloc] at hq1 hl1 ha1
  have hy1 := Hx1.out.below hb1 (by simp only [World.size_alloc]; omega)
  have hy2 := Hx2.out.below hb1 (by simp only [World.size_alloc]; omega)
  have Hb1 := hid ((Hb0.out.trans (hb1.mono (by simp only [World.size_alloc]; omega))).alloc (by omega) (.cells #[.int .i64 R1, .slice A1 n1 c1] 25))
  have Hs1 := hid hb1
  have Hl1 := hid hl1
  have Ha1 := hid (ha1.alloc (.cells #[.int .i64 R1, .slice A1 n1 c1] 25))
  have Hn1 := hid (Box.new w1 R1 A1 n1 c1)
  have Hx1 := hid (hy1.alloc (.cells #[.int .i64 R1, .slice A1 n1 c1] 25))
  have Hx2 := hid (hy2.alloc (.cells #[.int .i64 R1, .slice A1 n1 c1] 25))
  have p10 := hy1.c0
  have m10 : w.heap.size < w1.heap.size := by omega
  have m11 : w.heap.size + 1 < w1.heap.size := by omega
  have p11 := hy1.c1
  have p12 := hy2.c0
  have p13 := hy2.c1
  clear ha1 hb1 hy1 hy2 hl1
  go_wp2_with fail
  refine (refUnion_any W V A B n c m d ws xs _ (HA.out.below Hb1.out) (HB.out.below Hb1.out)).mono ?_
  rw [Hr1.out]
  rintro e w2 ⟨A2, n2, c2, rfl, ha2, hb2⟩
  have hl2 := ha2.len
  have hq2 := hb2.size
  simp only [World.size_alloc] at hq2 hl2 ha2
  have hy1 := Hx1.out.below hb2 (by simp only [World.size_alloc]; omega)
  have hy2 := Hx2.out.below hb2 (by simp only [World.size_alloc]; omega)
  have Hb2 := hid ((Hb1.out.trans (hb2.mono (by simp only [World.size_alloc]; omega))).alloc (by omega) (.cells #[.int .i64 R1, .slice A2 n2 c2] 25))
  have Hs2 := hid hb2
  have Hl2 := hid hl2
  have Ha2 := hid (ha2.alloc (.cells #[.int .i64 R1, .slice A2 n2 c2] 25))
  have Hn2 := hid (Box.new w2 R1 A2 n2 c2)
  have Hx1 := hid (hy1.alloc (.cells #[.int .i64 R1, .slice A2 n2 c2] 25))
  have Hx2 := hid (hy2.alloc (.cells #[.int .i64 R1, .slice A2 n2 c2] 25))
  have p20 := hy1.c0
  have m20 : w.heap.size < w2.heap.size := by omega
  have m21 : w.heap.size + 1 < w2.heap.size := by omega
  have p21 := hy1.c1
  have p22 := hy2.c0
  have p23 := hy2.c1
  clear ha2 hb2 hy1 hy2 hl2
  clear p10 p11 p12 p13
  go_wp2_with fail
  refine (devInter_any W V A B n c m d ws xs _ (HA.out.below Hb2.out) (HB.out.below Hb2.out)).mono ?_
  rw [Hr2.out]
  rintro e w3 ⟨A3, n3, c3, rfl, ha3, hb3⟩
  have hl3 := ha3.len
  have hq3 := hb3.size
  simp only [World.size_alloc] at hq3 hl3 ha3
  have hy1 := Hx1.out.below hb3 (by simp only [World.size_alloc]; omega)
  have hy2 := Hx2.out.below hb3 (by simp only [World.size_alloc]; omega)
  have Hb3 := hid ((Hb2.out.trans (hb3.mono (by simp only [World.size_alloc]; omega))).alloc (by omega) (.cells #[.int .i64 R2, .slice A3 n3 c3] 25))
  have Hs3 := hid hb3
  have Hl3 := hid hl3
  have Ha3 := hid (ha3.alloc (.cells #[.int .i64 R2, .slice A3 n3 c3] 25))
  have Hn3 := hid (Box.new w3 R2 A3 n3 c3)
  have Hx1 := hid (hy1.alloc (.cells #[.int .i64 R2, .slice A3 n3 c3] 25))
  have Hx2 := hid (hy2.alloc (.cells #[.int .i64 R2, .slice A3 n3 c3] 25))
  have p30 := hy1.c0
  have m30 : w.heap.size < w3.heap.size := by omega
  have m31 : w.heap.size + 1 < w3.heap.size := by omega
  have p31 := hy1.c1
  have p32 := hy2.c0
  have p33 := hy2.c1
  clear ha3 hb3 hy1 hy2 hl3
  clear p20 p21 p22 p23
  go_wp2_with fail
  refine (refInter_any W V A B n c m d ws xs _ (HA.out.below Hb3.out) (HB.out.below Hb3.out)).mono ?_
  rw [Hr2.out]
  rintro e w4 ⟨A4, n4, c4, rfl, ha4, hb4⟩
  have hl4 := ha4.len
  have hq4 := hb4.size
  simp only [World.size_alloc] at hq4 hl4 ha4
  have hy1 := Hx1.out.below hb4 (by simp only [World.size_alloc]; omega)
  have hy2 := Hx2.out.below hb4 (by simp only [World.size_alloc]; omega)
  have Hb4 := hid ((Hb3.out.trans (hb4.mono (by simp only [World.size_alloc]; omega))).alloc (by omega) (.cells #[.int .i64 R2, .slice A4 n4 c4] 25))
  have Hs4 := hid hb4
  have Hl4 := hid hl4
  have Ha4 := hid (ha4.alloc (.cells #[.int .i64 R2, .slice A4 n4 c4] 25))
  have Hn4 := hid (Box.new w4 R2 A4 n4 c4)
  have Hx1 := hid (hy1.alloc (.cells #[.int .i64 R2, .slice A4 n4 c4] 25))
  have Hx2 := hid (hy2.alloc (.cells #[.int .i64 R2, .slice A4 n4 c4] 25))
  have p40 := hy1.c0
  have m40 : w.heap.size < w4.heap.size := by omega
  have m41 : w.heap.size + 1 < w4.heap.size := by omega
  have p41 := hy1.c1
  have p42 := hy2.c0
  have p43 := hy2.c1
  clear ha4 hb4 hy1 hy2 hl4
  clear p30 p31 p32 p33
  go_wp2_with fail
  refine (devDiff_any W V A B n c m d ws xs _ (HA.out.below Hb4.out) (HB.out.below Hb4.out)).mono ?_
  rw [Hr3.out]
  rintro e w5 ⟨A5, n5, c5, rfl, ha5, hb5⟩
  have hl5 := ha5.len
  have hq5 := hb5.size
  simp only [World.size_alloc] at hq5 hl5 ha5
  have hy1 := Hx1.out.below hb5 (by simp only [World.size_alloc]; omega)
  have hy2 := Hx2.out.below hb5 (by simp only [World.size_alloc]; omega)
  have Hb5 := hid ((Hb4.out.trans (hb5.mono (by simp only [World.size_alloc]; omega))).alloc (by omega) (.cells #[.int .i64 R3, .slice A5 n5 c5] 25))
  have Hs5 := hid hb5
  have Hl5 := hid hl5
  have Ha5 := hid (ha5.alloc (.cells #[.int .i64 R3, .slice A5 n5 c5] 25))
  have Hn5 := hid (Box.new w5 R3 A5 n5 c5)
  have Hx1 := hid (hy1.alloc (.cells #[.int .i64 R3, .slice A5 n5 c5] 25))
  have Hx2 := hid (hy2.alloc (.cells #[.int .i64 R3, .slice A5 n5 c5] 25))
  have p50 := hy1.c0
  have m50 : w.heap.size < w5.heap.size := by omega
  have m51 : w.heap.size + 1 < w5.heap.size := by omega
  have p51 := hy1.c1
  have p52 := hy2.c0
  have p53 := hy2.c1
  clear ha5 hb5 hy1 hy2 hl5
  clear p40 p41 p42 p43
  go_wp2_with fail
  refine (refDiff_any W V A B n c m d ws xs _ (HA.out.below Hb5.out) (HB.out.below Hb5.out)).mono ?_
  rw [Hr3.out]
  rintro e w6 ⟨A6, n6, c6, rfl, ha6, hb6⟩
  have hl6 := ha6.len
  have hq6 := hb6.size
  simp only [World.size_alloc] at hq6 hl6 ha6
  have hy1 := Hx1.out.below hb6 (by simp only [World.size_alloc]; omega)
  have hy2 := Hx2.out.below hb6 (by simp only [World.size_alloc]; omega)
  have Hb6 := hid ((Hb5.out.trans (hb6.mono (by simp only [World.size_alloc]; omega))).alloc (by omega) (.cells #[.int .i64 R3, .slice A6 n6 c6] 25))
  have Hs6 := hid hb6
  have Hl6 := hid hl6
  have Ha6 := hid (ha6.alloc (.cells #[.int .i64 R3, .slice A6 n6 c6] 25))
  have Hn6 := hid (Box.new w6 R3 A6 n6 c6)
  have Hx1 := hid (hy1.alloc (.cells #[.int .i64 R3, .slice A6 n6 c6] 25))
  have Hx2 := hid (hy2.alloc (.cells #[.int .i64 R3, .slice A6 n6 c6] 25))
  have p60 := hy1.c0
  have m60 : w.heap.size < w6.heap.size := by omega
  have m61 : w.heap.size + 1 < w6.heap.size := by omega
  have p61 := hy1.c1
  have p62 := hy2.c0
  have p63 := hy2.c1
  clear ha6 hb6 hy1 hy2 hl6
  clear p50 p51 p52 p53
  go_wp2_with fail
  clear p60 p61 p62 p63
  have f1 := ((((((((((Hn1.out.below Hs2.out (by simp only [World.size_alloc]; omega)).alloc (.cells #[.int .i64 R1, .slice A2 n2 c2] 25)).below Hs3.out (by simp only [World.size_alloc]; omega)).alloc (.cells #[.int .i64 R2, .slice A3 n3 c3] 25)).below Hs4.out (by simp only [World.size_alloc]; omega)).alloc (.cells #[.int .i64 R2, .slice A4 n4 c4] 25)).below Hs5.out (by simp only [World.size_alloc]; omega)).alloc (.cells #[.int .i64 R3, .slice A5 n5 c5] 25)).below Hs6.out (by simp only [World.size_alloc]; omega)).alloc (.cells #[.int .i64 R3, .slice A6 n6 c6] 25))
  have g1 := ((((((((((Ha1.out.below Hs2.out).alloc (.cells #[.int .i64 R1, .slice A2 n2 c2] 25)).below Hs3.out).alloc (.cells #[.int .i64 R2, .slice A3 n3 c3] 25)).below Hs4.out).alloc (.cells #[.int .i64 R2, .slice A4 n4 c4] 25)).below Hs5.out).alloc (.cells #[.int .i64 R3, .slice A5 n5 c5] 25)).below Hs6.out).alloc (.cells #[.int .i64 R3, .slice A6 n6 c6] 25))
  have f2 := ((((((((Hn2.out.below Hs3.out (by simp only [World.size_alloc]; omega)).alloc (.cells #[.int .i64 R2, .slice A3 n3 c3] 25)).below Hs4.out (by simp only [World.size_alloc]; omega)).alloc (.cells #[.int .i64 R2, .slice A4 n4 c4] 25)).below Hs5.out (by simp only [World.size_alloc]; omega)).alloc (.cells #[.int .i64 R3, .slice A5 n5 c5] 25)).below Hs6.out (by simp only [World.size_alloc]; omega)).alloc (.cells #[.int .i64 R3, .slice A6 n6 c6] 25))
  have g2 := ((((((((Ha2.out.below Hs3.out).alloc (.cells #[.int .i64 R2, .slice A3 n3 c3] 25)).below Hs4.out).alloc (.cells #[.int .i64 R2, .slice A4 n4 c4] 25)).below Hs5.out).alloc (.cells #[.int .i64 R3, .slice A5 n5 c5] 25)).below Hs6.out).alloc (.cells #[.int .i64 R3, .slice A6 n6 c6] 25))
  have f3 := ((((((Hn3.out.below Hs4.out (by simp only [World.size_alloc]; omega)).alloc (.cells #[.int .i64 R2, .slice A4 n4 c4] 25)).below Hs5.out (by simp only [World.size_alloc]; omega)).alloc (.cells #[.int .i64 R3, .slice A5 n5 c5] 25)).below Hs6.out (by simp only [World.size_alloc]; omega)).alloc (.cells #[.int .i64 R3, .slice A6 n6 c6] 25))
  have g3 := ((((((Ha3.out.below Hs4.out).alloc (.cells #[.int .i64 R2, .slice A4 n4 c4] 25)).below Hs5.out).alloc (.cells #[.int .i64 R3, .slice A5 n5 c5] 25)).below Hs6.out).alloc (.cells #[.int .i64 R3, .slice A6 n6 c6] 25))
  have f4 := ((((Hn4.out.below Hs5.out (by simp only [World.size_alloc]; omega)).alloc (.cells #[.int .i64 R3, .slice A5 n5 c5] 25)).below Hs6.out (by simp only [World.size_alloc]; omega)).alloc (.cells #[.int .i64 R3, .slice A6 n6 c6] 25))
  have g4 := ((((Ha4.out.below Hs5.out).alloc (.cells #[.int .i64 R3, .slice A5 n5 c5] 25)).below Hs6.out).alloc (.cells #[.int .i64 R3, .slice A6 n6 c6] 25))
  have f5 := ((Hn5.out.below Hs6.out (by simp only [World.size_alloc]; omega)).alloc (.cells #[.int .i64 R3, .slice A6 n6 c6] 25))
  have g5 := ((Ha5.out.below Hs6.out).alloc (.cells #[.int .i64 R3, .slice A6 n6 c6] 25))
  have f6 := Hn6.out
  have g6 := Ha6.out
  have f7 := Hx1.out
  have f8 := Hx2.out
  have hb7 := Hb6.out
  have a7 := HA.out.below Hb6.out
  have a8 := HB.out.below Hb6.out
  have u1 := Hl1.out; have u2 := Hl2.out; have u3 := Hl3.out; have u4 := Hl4.out; have u5 := Hl5.out; have u6 := Hl6.out
  have v1 : n1 ≤ maxLen := by unfold maxLen; omega
  have v2 : n2 ≤ maxLen := by unfold maxLen; omega
  have v3 : n3 ≤ maxLen := by unfold maxLen; omega
  have v4 : n4 ≤ maxLen := by unfold maxLen; omega
  have v5 : n5 ≤ maxLen := by unfold maxLen; omega
  have v6 : n6 ≤ maxLen := by unfold maxLen; omega
  clear u1 u2 u3 u4 u5 u6
  clear Hn1 Ha1 Hs1 Hl1 hq1 m10 m11 Hb1 Hn2 Ha2 Hs2 Hl2 hq2 m20 m21 Hb2 Hn3 Ha3 Hs3 Hl3 hq3 m30 m31 Hb3 Hn4 Ha4 Hs4 Hl4 hq4 m40 m41 Hb4 Hn5 Ha5 Hs5 Hl5 hq5 m50 m51 Hb5 Hn6 Ha6 Hs6 Hl6 hq6 m60 m61 Hb6 Hr1 Hr2 Hr3 Hb0 Hx1 Hx2
  generalize w6.alloc (.cells #[.int .i64 R3, .slice A6 n6 c6] 25) = W7 at *
  generalize w1.heap.size = b1 at *
  generalize w2.heap.size = b2 at *
  generalize w3.heap.size = b3 at *
  generalize w4.heap.size = b4 at *
  generalize w5.heap.size = b5 at *
  generalize w6.heap.size = b6 at *
  generalize hw0 : w.heap.size = b7 at *
  have Hw0 := hid hw0
  have hK : ∀ w', Below W7.heap.size W7 w' → ((fun w' => Below W7.heap.size W7 w' ∧ (w'.cell? ⟨b1, 0, none⟩ = some (.int .i64 R1) ∧ w'.cell? ⟨b1, 1, none⟩ = some (.slice A1 n1 c1)) ∧ (w'.cell? ⟨b2, 0, none⟩ = some (.int .i64 R1) ∧ w'.cell? ⟨b2, 1, none⟩ = some (.slice A2 n2 c2)) ∧ (w'.cell? ⟨b3, 0, none⟩ = some (.int .i64 R2) ∧ w'.cell? ⟨b3, 1, none⟩ = some (.slice A3 n3 c3)) ∧ (w'.cell? ⟨b4, 0, none⟩ = some (.int .i64 R2) ∧ w'.cell? ⟨b4, 1, none⟩ = some (.slice A4 n4 c4)) ∧ (w'.cell? ⟨b5, 0, none⟩ = some (.int .i64 R3) ∧ w'.cell? ⟨b5, 1, none⟩ = some (.slice A5 n5 c5)) ∧ (w'.cell? ⟨b6, 0, none⟩ = some (.int .i64 R3) ∧ w'.cell? ⟨b6, 1, none⟩ = some (.slice A6 n6 c6)) ∧ (w'.cell? ⟨b7, 0, none⟩ = some (.int .i64 W) ∧ w'.cell? ⟨b7, 1, none⟩ = some (.slice A n c)) ∧ (w'.cell? ⟨b7 + 1, 0, none⟩ = some (.int .i64 V) ∧ w'.cell? ⟨b7 + 1, 1, none⟩ = some (.slice B m d))) w') := fun w' h => ⟨h, f1.keep h, f2.keep h, f3.keep h, f4.keep h, f5.keep h, f6.keep h, f7.keep h, f8.keep h⟩
  have HK := hid hK
  have G1 := hid g1
  have G2 := hid g2
  have G3 := hid g3
  have G4 := hid g4
  have G5 := hid g5
  have G6 := hid g6
  have Gb := hid hb7; have G7 := hid a7; have G8 := hid a8
  have hz7 : b7 ≤ W7.heap.size := by have := hb7.size; omega
  clear a7 a8 hK f1 f2 f3 f4 f5 f6 f7 f8 g1 g2 g3 g4 g5 g6 hb7 hw0
  go_region_held3 (fun w' => Below W7.heap.size W7 w' ∧ (w'.cell? ⟨b1, 0, none⟩ = some (.int .i64 R1) ∧ w'.cell? ⟨b1, 1, none⟩ = some (.slice A1 n1 c1)) ∧ (w'.cell? ⟨b2, 0, none⟩ = some (.int .i64 R1) ∧ w'.cell? ⟨b2, 1, none⟩ = some (.slice A2 n2 c2)) ∧ (w'.cell? ⟨b3, 0, none⟩ = some (.int .i64 R2) ∧ w'.cell? ⟨b3, 1, none⟩ = some (.slice A3 n3 c3)) ∧ (w'.cell? ⟨b4, 0, none⟩ = some (.int .i64 R2) ∧ w'.cell? ⟨b4, 1, none⟩ = some (.slice A4 n4 c4)) ∧ (w'.cell? ⟨b5, 0, none⟩ = some (.int .i64 R3) ∧ w'.cell? ⟨b5, 1, none⟩ = some (.slice A5 n5 c5)) ∧ (w'.cell? ⟨b6, 0, none⟩ = some (.int .i64 R3) ∧ w'.cell? ⟨b6, 1, none⟩ = some (.slice A6 n6 c6)) ∧ (w'.cell? ⟨b7, 0, none⟩ = some (.int .i64 W) ∧ w'.cell? ⟨b7, 1, none⟩ = some (.slice A n c)) ∧ (w'.cell? ⟨b7 + 1, 0, none⟩ = some (.int .i64 V) ∧ w'.cell? ⟨b7 + 1, 1, none⟩ = some (.slice B m d)))
    (first | exact HK.out _ (Below.refl _ _).drew | assumption)
    (first
      | (go_at_call_of 25 A1
         go_must (
         go_split_ands
         refine (refSame_any R1 R1 A1 A2 n1 c1 n2 c2 z1 z1 _ (G1.out.below (by assumption)) (G2.out.below (by assumption)) v1).mono ?_
         rw [sameB_self]
         rintro e wn ⟨rfl, hbk⟩
         have hcur := below_step (W := W7) (by assumption) hbk
         have hS := HK.out _ hcur
         clear hbk))
      | (go_at_call_of 25 A3
         go_must (
         go_split_ands
         refine (refSame_any R2 R2 A3 A4 n3 c3 n4 c4 z2 z2 _ (G3.out.below (by assumption)) (G4.out.below (by assumption)) v3).mono ?_
         rw [sameB_self]
         rintro e wn ⟨rfl, hbk⟩
         have hcur := below_step (W := W7) (by assumption) hbk
         have hS := HK.out _ hcur
         clear hbk))
      | (go_at_call_of 25 A5
         go_must (
         go_split_ands
         refine (refSame_any R3 R3 A5 A6 n5 c5 n6 c6 z3 z3 _ (G5.out.below (by assumption)) (G6.out.below (by assumption)) v5).mono ?_
         rw [sameB_self]
         rintro e wn ⟨rfl, hbk⟩
         have hcur := below_step (W := W7) (by assumption) hbk
         have hS := HK.out _ hcur
         clear hbk))
      | (go_at_call 35
         go_must (
         go_split_ands
         refine (devEqual_any W V A B n c m d ws xs _ (G7.out.below (by assumption)) (G8.out.below (by assumption)) hn).mono ?_
         rintro e wn ⟨rfl, hbk⟩
         have hcur := below_step (W := W7) (by assumption) hbk
         have hS := HK.out _ hcur
         clear hbk))
      | (go_at_call 52
         go_must (
         go_split_ands
         refine (refEqual_any W V A B n c m d ws xs _ (G7.out.below (by assumption)) (G8.out.below (by assumption)) hn).mono ?_
         rintro e wn ⟨rfl, hbk⟩
         have hcur := below_step (W := W7) (by assumption) hbk
         have hS := HK.out _ hcur
         clear hbk))
      | (go_at_call 36
         go_must (
         go_split_ands
         refine (devSubset_any W V A B n c m d ws xs _ (G7.out.below (by assumption)) (G8.out.below (by assumption))).mono ?_
         rintro e wn ⟨rfl, hbk⟩
         have hcur := below_step (W := W7) (by assumption) hbk
         have hS := HK.out _ hcur
         clear hbk))
      | (go_at_call 53
         go_must (
         go_split_ands
         refine (refSubset_any W V A B n c m d ws xs _ (G7.out.below (by assumption)) (G8.out.below (by assumption))).mono ?_
         rintro e wn ⟨rfl, hbk⟩
         have hcur := below_step (W := W7) (by assumption) hbk
         have hS := HK.out _ hcur
         clear hbk))
    )
  go_wp2_with fail
  go_ret
  refine ⟨ret_bool (by simp), ?_⟩
  rw [Hw0.out]
  exact Gb.out.trans (hcur.mono hz7)
end Go.Proofs.YtljdjidpbblbbaaDoor
