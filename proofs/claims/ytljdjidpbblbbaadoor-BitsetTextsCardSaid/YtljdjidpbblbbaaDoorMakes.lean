/- The statement's comparison of Empty, Full and Of with the reference returns true for every width and every list. -/
import Derived.Test.YtljdjidpbblbbaaDoorSane
namespace Go.Proofs.YtljdjidpbblbbaaDoor
set_option maxRecDepth 10000
open Go.ChangeShapes Go.WideShapes Go.ChangeAt Go.RowKit

theorem ofR_len (W : Int) (l : List Int) : (ofR W l).2.1.length ≤ 5 := by
  unfold ofR
  split
  · simp
  · next h =>
    split
    · simp
    · show (Bs.ofP _ _ _).length ≤ 5
      rw [(Bs.fit_ofP W.toNat _ W.toNat (Nat.le_refl _)).len]; unfold Bs.nw; omega

set_option maxHeartbeats 3200000 in
theorem makes_bad (W : Int) (A : Option Addr) (n c : Nat) (l : List Int) (w : World) (hA : IArg w A n l) (hn : n ≤ maxLen) (h : W < 0 ∨ 256 < W) :
    Calls Tryd.prog 15 #[.int .i64 W, .slice A n c] w fun e w' => e = .returned (.bool true) ∧ Below w.heap.size w w' := by
  have hE : Hid (emptyR W = (0, [], 3)) := hid (by unfold emptyR; rw [if_pos h])
  have hF : Hid (fullR W = (0, [], 3)) := hid (by unfold fullR; rw [if_pos h])
  have hO : Hid (ofR W l = (0, [], 3)) := hid (by unfold ofR; rw [if_pos h])
  have HA := hid hA
  clear hA
  have t1 : decide (W < 0) = true ∨ (decide (W < 0) = false ∧ decide (256 < W) = true) := by simp; omega
  have T1 := hid t1
  clear h t1
  go_enter Tryd.func15, Tryd.ntmps15
  go_wp2_with fail
  refine (devEmpty_any W _).mono ?_
  rw [hE.out]
  rintro e w1 ⟨A1, n1, c1, rfl, ha1, hb1⟩
  simp only [] at ha1
  have Hb1 := hid (hb1.alloc (B := w.heap.size) hb1.size (.cells #[.int .i64 (0 : Int), .slice A1 n1 c1] 25))
  have q1 := hb1.size
  have Ha1 := hid (ha1.alloc (.cells #[.int .i64 (0 : Int), .slice A1 n1 c1] 25))
  have Hn1 := hid (Box.new w1 (0 : Int) A1 n1 c1)
  have hl1 := ha1.len
  clear ha1 hb1
  simp only []
  go_wp2_with fail
  refine (devFull_any W _).mono ?_
  rw [hF.out]
  rintro e w2 ⟨A2, n2, c2, rfl, ha2, hb2⟩
  simp only [] at ha2
  have q2 := hb2.size
  simp only [World.size_alloc] at q2
  have Hb2 := hid ((Hb1.out.trans (hb2.mono (by simp only [World.size_alloc]; omega))).alloc (by omega) (.cells #[.int .i64 (0 : Int), .slice A2 n2 c2] 25))
  have Hs2 := hid hb2
  have Ha2 := hid (ha2.alloc (.cells #[.int .i64 (0 : Int), .slice A2 n2 c2] 25))
  have Hn2 := hid (Box.new w2 (0 : Int) A2 n2 c2)
  have hl2 := ha2.len
  clear ha2 hb2
  simp only []
  go_wp2_with fail
  refine (devOf_any W A n c l _ (HA.out.below Hb2.out) hn).mono ?_
  rw [hO.out]
  rintro e w3 ⟨A3, n3, c3, rfl, ha3, hb3⟩
  simp only [] at ha3
  have q3 := hb3.size
  simp only [World.size_alloc] at q3
  have Hb3 := hid ((Hb2.out.trans (hb3.mono (by simp only [World.size_alloc]; omega))).alloc (by omega) (.cells #[.int .i64 (0 : Int), .slice A3 n3 c3] 25))
  have Hs3 := hid hb3
  have Ha3 := hid (ha3.alloc (.cells #[.int .i64 (0 : Int), .slice A3 n3 c3] 25))
  have Hn3 := hid (Box.new w3 (0 : Int) A3 n3 c3)
  have hl3 := ha3.len
  clear ha3 hb3
  simp only []
  go_wp2_with fail
  refine (refOf_any W A n c l _ (HA.out.below Hb3.out) hn).mono ?_
  rw [hO.out]
  rintro e w4 ⟨A4, n4, c4, rfl, ha4, hb4⟩
  simp only [] at ha4
  have q4 := hb4.size
  simp only [World.size_alloc] at q4
  have Hb4 := hid ((Hb3.out.trans (hb4.mono (by simp only [World.size_alloc]; omega))).alloc (by omega) (.cells #[.int .i64 (0 : Int), .slice A4 n4 c4] 25))
  have Hs4 := hid hb4
  have Ha4 := hid (ha4.alloc (.cells #[.int .i64 (0 : Int), .slice A4 n4 c4] 25))
  have Hn4 := hid (Box.new w4 (0 : Int) A4 n4 c4)
  have hl4 := ha4.len
  clear ha4 hb4
  simp only []
  obtain rfl : n1 = 0 := by simpa using hl1.symm
  obtain rfl : n2 = 0 := by simpa using hl2.symm
  obtain rfl : n3 = 0 := by simpa using hl3.symm
  obtain rfl : n4 = 0 := by simpa using hl4.symm
  clear hl1 hl2 hl3 hl4
  have f1 := ((((((Hn1.out.below Hs2.out (by simp only [World.size_alloc]; omega)).alloc (.cells #[.int .i64 (0 : Int), .slice A2 0 c2] 25)).below Hs3.out (by simp only [World.size_alloc]; omega)).alloc (.cells #[.int .i64 (0 : Int), .slice A3 0 c3] 25)).below Hs4.out (by simp only [World.size_alloc]; omega)).alloc (.cells #[.int .i64 (0 : Int), .slice A4 0 c4] 25))
  have g1 := ((((((Ha1.out.below Hs2.out).alloc (.cells #[.int .i64 (0 : Int), .slice A2 0 c2] 25)).below Hs3.out).alloc (.cells #[.int .i64 (0 : Int), .slice A3 0 c3] 25)).below Hs4.out).alloc (.cells #[.int .i64 (0 : Int), .slice A4 0 c4] 25))
  have f2 := ((((Hn2.out.below Hs3.out (by simp only [World.size_alloc]; omega)).alloc (.cells #[.int .i64 (0 : Int), .slice A3 0 c3] 25)).below Hs4.out (by simp only [World.size_alloc]; omega)).alloc (.cells #[.int .i64 (0 : Int), .slice A4 0 c4] 25))
  have g2 := ((((Ha2.out.below Hs3.out).alloc (.cells #[.int .i64 (0 : Int), .slice A3 0 c3] 25)).below Hs4.out).alloc (.cells #[.int .i64 (0 : Int), .slice A4 0 c4] 25))
  have f3 := ((Hn3.out.below Hs4.out (by simp only [World.size_alloc]; omega)).alloc (.cells #[.int .i64 (0 : Int), .slice A4 0 c4] 25))
  have g3 := ((Ha3.out.below Hs4.out).alloc (.cells #[.int .i64 (0 : Int), .slice A4 0 c4] 25))
  have f4 := Hn4.out
  have g4 := Ha4.out
  have x10 := f1.c0
  have x11 := f1.c1
  have x20 := f2.c0
  have x21 := f2.c1
  have x30 := f3.c0
  have x31 := f3.c1
  have x40 := f4.c0
  have x41 := f4.c1
  have F1 := hid f1; have F2 := hid f2; have G3 := hid g3; have G4 := hid g4
  have l1 := f1.lt
  have l2 := f2.lt
  have l3 := f3.lt
  clear f1 f2 f3 f4 g1 g2 g3 g4 Hn1 Hn2 Hn3 Hn4 Ha1 Ha2 Ha3 Ha4 Hs2 Hs3 Hs4 hE hF hO
  rcases T1.out with t1 | ⟨t1, t2⟩
  all_goals
    go_wp2_with fail
    refine (refSame_any 0 0 A3 A4 0 c3 0 c4 [] [] _ G3.out G4.out (by simp [maxLen])).mono ?_
    rw [sameB_self]
    rintro e w5 ⟨rfl, hb5⟩
    have y1 := F1.out.below hb5 l1
    have y2 := F2.out.below hb5 l2
    have z10 := y1.c0
    have z11 := y1.c1
    have z20 := y2.c0
    have z21 := y2.c1
    have Hb5 := hid (Hb4.out.trans (hb5.mono (by simp only [World.size_alloc]; omega)))
    clear hb5 y1 y2 x10 x11 x20 x21 x30 x31 x40 x41
    go_wp2_with fail
    go_ret
    exact ⟨rfl, Hb5.out⟩

set_option maxHeartbeats 3200000 in
theorem makes_good (W : Nat) (A : Option Addr) (n c : Nat) (l : List Int) (w : World) (hA : IArg w A n l) (hn : n ≤ maxLen) (hW : W ≤ 256) :
    Calls Tryd.prog 15 #[.int .i64 W, .slice A n c] w fun e w' => e = .returned (.bool true) ∧ Below w.heap.size w w' := by
  have hE : Hid (emptyR W = ((W : Int), Bs.emp W, 0)) := hid (by unfold emptyR; rw [if_neg (by omega), Int.toNat_natCast])
  have hF : Hid (fullR W = ((W : Int), Bs.ofP W (fun _ => true) W, 0)) := hid (by unfold fullR; rw [if_neg (by omega), Int.toNat_natCast])
  have hlo := ofR_len W l
  generalize hO0 : ofR (W : Int) l = ro at hlo
  obtain ⟨RO, zO, eO⟩ := ro
  have hO := hid hO0
  simp only [] at hlo
  have HA := hid hA
  clear hA hO0
  have t1 : decide ((W : Int) < 0) = false := by simp
  have t2 : decide (256 < (W : Int)) = false := by simp; omega
  have t3 : (eO != eO) = false := by simp
  go_enter Tryd.func15, Tryd.ntmps15
  go_wp2_with fail
  refine (devEmpty_any W _).mono ?_
  rw [hE.out]
  rintro e w1 ⟨A1, n1, c1, rfl, ha1, hb1⟩
  simp only [] at ha1
  have Hb1 := hid (hb1.alloc (B := w.heap.size) hb1.size (.cells #[.int .i64 (W : Int), .slice A1 n1 c1] 25))
  have q1 := hb1.size
  have Ha1 := hid (ha1.alloc (.cells #[.int .i64 (W : Int), .slice A1 n1 c1] 25))
  have Hn1 := hid (Box.new w1 (W : Int) A1 n1 c1)
  have hl1 := ha1.len
  clear ha1 hb1
  simp only []
  go_wp2_with fail
  refine (devFull_any W _).mono ?_
  rw [hF.out]
  rintro e w2 ⟨A2, n2, c2, rfl, ha2, hb2⟩
  simp only [] at ha2
  have q2 := hb2.size
  simp only [World.size_alloc] at q2
  have Hb2 := hid ((Hb1.out.trans (hb2.mono (by simp only [World.size_alloc]; omega))).alloc (by omega) (.cells #[.int .i64 (W : Int), .slice A2 n2 c2] 25))
  have Hs2 := hid hb2
  have Ha2 := hid (ha2.alloc (.cells #[.int .i64 (W : Int), .slice A2 n2 c2] 25))
  have Hn2 := hid (Box.new w2 (W : Int) A2 n2 c2)
  have hl2 := ha2.len
  clear ha2 hb2
  simp only []
  go_wp2_with fail
  refine (devOf_any W A n c l _ (HA.out.below Hb2.out) hn).mono ?_
  rw [hO.out]
  rintro e w3 ⟨A3, n3, c3, rfl, ha3, hb3⟩
  simp only [] at ha3
  have q3 := hb3.size
  simp only [World.size_alloc] at q3
  have Hb3 := hid ((Hb2.out.trans (hb3.mono (by simp only [World.size_alloc]; omega))).alloc (by omega) (.cells #[.int .i64 RO, .slice A3 n3 c3] 25))
  have Hs3 := hid hb3
  have Ha3 := hid (ha3.alloc (.cells #[.int .i64 RO, .slice A3 n3 c3] 25))
  have Hn3 := hid (Box.new w3 RO A3 n3 c3)
  have hl3 := ha3.len
  clear ha3 hb3
  simp only []
  go_wp2_with fail
  refine (refOf_any W A n c l _ (HA.out.below Hb3.out) hn).mono ?_
  rw [hO.out]
  rintro e w4 ⟨A4, n4, c4, rfl, ha4, hb4⟩
  simp only [] at ha4
  have q4 := hb4.size
  simp only [World.size_alloc] at q4
  have Hb4 := hid ((Hb3.out.trans (hb4.mono (by simp only [World.size_alloc]; omega))).alloc (by omega) (.cells #[.int .i64 RO, .slice A4 n4 c4] 25))
  have Hs4 := hid hb4
  have Ha4 := hid (ha4.alloc (.cells #[.int .i64 RO, .slice A4 n4 c4] 25))
  have Hn4 := hid (Box.new w4 RO A4 n4 c4)
  have hl4 := ha4.len
  clear ha4 hb4
  simp only []
  have v1 : n1 ≤ maxLen := by rw [← hl1, len_emp]; unfold Bs.nw maxLen; omega
  have v2 : n2 ≤ maxLen := by rw [← hl2, (Bs.fit_ofP W _ W (Nat.le_refl _)).len]; unfold Bs.nw maxLen; omega
  have v3 : n3 ≤ maxLen := by rw [← hl3]; unfold maxLen; omega
  clear hl1 hl2 hl3 hl4
  have f1 := ((((((Hn1.out.below Hs2.out (by simp only [World.size_alloc]; omega)).alloc (.cells #[.int .i64 (W : Int), .slice A2 n2 c2] 25)).below Hs3.out (by simp only [World.size_alloc]; omega)).alloc (.cells #[.int .i64 RO, .slice A3 n3 c3] 25)).below Hs4.out (by simp only [World.size_alloc]; omega)).alloc (.cells #[.int .i64 RO, .slice A4 n4 c4] 25))
  have g1 := ((((((Ha1.out.below Hs2.out).alloc (.cells #[.int .i64 (W : Int), .slice A2 n2 c2] 25)).below Hs3.out).alloc (.cells #[.int .i64 RO, .slice A3 n3 c3] 25)).below Hs4.out).alloc (.cells #[.int .i64 RO, .slice A4 n4 c4] 25))
  have f2 := ((((Hn2.out.below Hs3.out (by simp only [World.size_alloc]; omega)).alloc (.cells #[.int .i64 RO, .slice A3 n3 c3] 25)).below Hs4.out (by simp only [World.size_alloc]; omega)).alloc (.cells #[.int .i64 RO, .slice A4 n4 c4] 25))
  have g2 := ((((Ha2.out.below Hs3.out).alloc (.cells #[.int .i64 RO, .slice A3 n3 c3] 25)).below Hs4.out).alloc (.cells #[.int .i64 RO, .slice A4 n4 c4] 25))
  have f3 := ((Hn3.out.below Hs4.out (by simp only [World.size_alloc]; omega)).alloc (.cells #[.int .i64 RO, .slice A4 n4 c4] 25))
  have g3 := ((Ha3.out.below Hs4.out).alloc (.cells #[.int .i64 RO, .slice A4 n4 c4] 25))
  have f4 := Hn4.out
  have g4 := Ha4.out
  have x10 := f1.c0
  have x11 := f1.c1
  have x20 := f2.c0
  have x21 := f2.c1
  have x30 := f3.c0
  have x31 := f3.c1
  have x40 := f4.c0
  have x41 := f4.c1
  have F1 := hid f1; have F2 := hid f2; have G1 := hid g1; have G2 := hid g2; have G3 := hid g3; have G4 := hid g4
  have l1 := f1.lt
  have l2 := f2.lt
  clear f1 f2 f3 f4 g1 g2 g3 g4 Hn1 Hn2 Hn3 Hn4 Ha1 Ha2 Ha3 Ha4 Hs2 Hs3 Hs4 hE hF hO
  go_wp2_with fail
  refine (refSame_any RO RO A3 A4 n3 c3 n4 c4 zO zO _ G3.out G4.out v3).mono ?_
  rw [sameB_self]
  rintro e w5 ⟨rfl, hb5⟩
  have y1 := F1.out.below hb5 l1
  have y2 := F2.out.below hb5 l2
  have G1 := hid (G1.out.below hb5)
  have G2 := hid (G2.out.below hb5)
  have Hb5 := hid (Hb4.out.trans (hb5.mono (by simp only [World.size_alloc]; omega)))
  clear hb5 x10 x11 x20 x21 x30 x31 x40 x41 l1 l2 F1 F2
  generalize w1.heap.size = b1 at *
  generalize w2.heap.size = b2 at *
  have hK : ∀ w', Below w5.heap.size w5 w' → ((fun w' => Below w5.heap.size w5 w' ∧ (w'.cell? ⟨b1, 0, none⟩ = some (.int .i64 (W : Int)) ∧ w'.cell? ⟨b1, 1, none⟩ = some (.slice A1 n1 c1)) ∧ (w'.cell? ⟨b2, 0, none⟩ = some (.int .i64 (W : Int)) ∧ w'.cell? ⟨b2, 1, none⟩ = some (.slice A2 n2 c2))) w') := fun w' h => ⟨h, y1.keep h, y2.keep h⟩
  have HK := hid hK
  clear hK y1 y2
  go_upto_region 12 with fail
  go_region_held3 (fun w' => Below w5.heap.size w5 w' ∧ (w'.cell? ⟨b1, 0, none⟩ = some (.int .i64 (W : Int)) ∧ w'.cell? ⟨b1, 1, none⟩ = some (.slice A1 n1 c1)) ∧ (w'.cell? ⟨b2, 0, none⟩ = some (.int .i64 (W : Int)) ∧ w'.cell? ⟨b2, 1, none⟩ = some (.slice A2 n2 c2)))
    (first | exact HK.out _ (Below.refl _ _).drew | assumption)
    (first
      | (go_at_call 23
         go_must (
         go_split_ands
         refine (refEmpty_any W _ (by omega)).mono fun e wn h => ?_
         obtain ⟨A7, n7, c7, rfl, ha7', hbk⟩ : RetSet _ _ _ _ _ := NewSet.ret (Bs.fit_emp W).ok h
         have ha7 := hid ha7'
         have hcur := below_step (W := w5) (by assumption) hbk
         have hS := HK.out _ hcur
         clear ha7' hbk h))
      | (go_at_call 49
         go_must (
         go_split_ands
         refine (refFull_any W _ (by omega)).mono ?_
         rintro e wn ⟨A7, n7, c7, rfl, ha7', hbk⟩
         have ha7 := hid ha7'
         have hcur := below_step (W := w5) (by assumption) hbk
         have hS := HK.out _ hcur
         clear ha7' hbk))
      | (go_at_call 25
         go_must (
         go_split_ands
         first
           | (with_reducible refine (refSame_any W W A1 A7 n1 c1 n7 c7 (Bs.emp W) (Bs.emp W) _ (by exact G1.out.below (by assumption)) ha7.out v1).mono ?_)
           | (with_reducible refine (refSame_any W W A2 A7 n2 c2 n7 c7 (Bs.ofP W (fun _ => true) W) (Bs.ofP W (fun _ => true) W) _ (by exact G2.out.below (by assumption)) ha7.out v2).mono ?_)
         rw [sameB_self]
         rintro e wn ⟨rfl, hbk⟩
         have hcur := below_step (W := w5) (by assumption) hbk
         have hS := HK.out _ hcur
         clear hbk)))
  go_wp2_with fail
  go_ret
  exact ⟨rfl, Hb5.out.trans (hcur.mono Hb5.out.size)⟩

theorem makes_any (W : Int) (A : Option Addr) (n c : Nat) (l : List Int) (w : World) (hA : IArg w A n l) (hn : n ≤ maxLen) :
    Calls Tryd.prog 15 #[.int .i64 W, .slice A n c] w fun e w' => e = .returned (.bool true) ∧ Below w.heap.size w w' := by
  by_cases h : W < 0 ∨ 256 < W
  · exact makes_bad W A n c l w hA hn h
  · obtain ⟨v, rfl⟩ := Int.eq_ofNat_of_zero_le (a := W) (by omega)
    exact makes_good v A n c l w hA hn (by omega)
end Go.Proofs.YtljdjidpbblbbaaDoor
