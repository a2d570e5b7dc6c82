/- The statements' sanity check, example 1 of chapter 3, returns true. -/
import Derived.Test.YtmbelhdkaepohaaGen
import Derived.Test.YtmbelhdkaepohaaDaT
namespace Go.Proofs.Ytmbelhdkaepohaa
set_option maxRecDepth 20000
open Go.ChangeShapes Go.WideShapes Go.ChangeAt Go.RowKit

theorem ex1a : applyR 2 [0] 2 [2] [(0, 1)] 2 [1] = (2, [3], 0) := by rfl
theorem ex1b : applyR 2 [0] 2 [2] [(0, 1)] 2 [2] = (2, [0], 0) := by rfl
theorem put0 : Bs.put (Bs.emp 2) 0 = [1] := by rfl
theorem put1 : Bs.put (Bs.emp 2) 1 = [2] := by rfl
theorem emp2 : Bs.emp 2 = [0] := by rfl
theorem full2 : Bs.ofP 2 (fun _ => true) 2 = [3] := by rfl

/-- A function in a variable: its block, its words, its copies. -/
structure VarT (w : World) (b : Nat) (W : Int) (gs ks : List Nat) (cs : List (Int × Int)) (A : Option Addr) (n c : Nat) (B : Option Addr) (m d : Nat) (C : Option Addr) (k q : Nat) : Prop where
  box : Fb w b #[.int .i64 W, .slice A n c, .int .i64 W, .slice B m d, .slice C k q] 28
  gen : Arg w A n gs
  kill : Arg w B m ks
  cops : ArgC w C k cs
theorem VarT.below {w w' : World} {b : Nat} {W : Int} {gs ks : List Nat} {cs : List (Int × Int)} {A : Option Addr} {n c : Nat} {B : Option Addr} {m d : Nat} {C : Option Addr} {k q : Nat} (h : VarT w b W gs ks cs A n c B m d C k q) (hb : Below w.heap.size w w') :
    VarT w' b W gs ks cs A n c B m d C k q := ⟨h.box.below hb h.box.lt, h.gen.below hb, h.kill.below hb, h.cops.below hb⟩
theorem pairs_lit (w : World) (cs : List (Int × Int)) (xs : Array Value) (h : xs.toList = pairs cs) : ArgC (w.alloc (.cells xs 48)) (some ⟨w.heap.size, 0, none⟩) cs.length cs := by
  refine ⟨.inr ⟨_, rfl, by simp, fun j u hu => ?_⟩, rfl⟩
  rw [add_of, World.cell?_alloc_at _ _ _ _ rfl]
  rw [← h] at hu
  simpa using hu


theorem Box.four {w : World} {b : Nat} {W : Int} {A : Option Addr} {n c : Nat} (h : Box w b W A n c) : w.cell? ⟨b, 0, none⟩ = some (.int .i64 W) ∧ w.cell? ⟨b, 1, none⟩ = some (.slice A n c) ∧ w.frozen? ⟨b, 0, none⟩ = false ∧ w.frozen? ⟨b, 1, none⟩ = false := ⟨h.c0, h.c1, h.f 0, h.f 1⟩
/-- The result's variable, made before a call. -/
def Fresh (W w : World) (b : Nat) : Prop := Box w b 0 none 0 0 ∧ W.heap.size ≤ b
theorem Fresh.mk {W w0 w1 : World} (h0 : Below W.heap.size W w0) (hb : Below (w0.alloc (.cells #[.int .i64 0, .slice none 0 0] 25)).heap.size (w0.alloc (.cells #[.int .i64 0, .slice none 0 0] 25)) w1) : Fresh W w1 w0.heap.size :=
  ⟨(Box.new w0 0 none 0 0).below hb (by simp), h0.size⟩
theorem Fresh.mkD {w0 w1 : World} (hb : Below (w0.alloc (.cells #[.int .i64 0, .slice none 0 0] 25)).drew.heap.size (w0.alloc (.cells #[.int .i64 0, .slice none 0 0] 25)).drew w1) : Fresh w0 w1 w0.heap.size :=
  ⟨(show Box (w0.alloc (.cells #[.int .i64 0, .slice none 0 0] 25)).drew w0.heap.size 0 none 0 0 from Box.new w0 0 none 0 0).below hb (by show w0.heap.size < (w0.alloc _).heap.size; simp), Nat.le_refl _⟩
theorem Fresh.below {W w w1 : World} {b : Nat} (h : Fresh W w b) (hb : Below w.heap.size w w1) : Fresh W w1 b := ⟨h.1.below hb h.1.lt, h.2⟩
theorem Fresh.stored {W w : World} {b : Nat} (h : Fresh W w b) (hb : Below W.heap.size W w) (V : Int) (B : Option Addr) (m d : Nat) : Below W.heap.size W ((w.setCell ⟨b, 0, none⟩ (.int .i64 V)).setCell ⟨b, 1, none⟩ (.slice B m d)) :=
  (hb.setCell (by exact h.2) _).setCell (by exact h.2) _

set_option maxHeartbeats 1600000 in
theorem sane_any (w : World) : Calls Try.prog 12 #[] w fun e w' => e = .returned (.bool true) ∧ Below w.heap.size w w' := by
  go_enter Try.func12, Try.ntmps12
  go_wp2_with fail
  refine (refEmpty_any 2 _ (by omega)).mono ?_
  rw [emp2]
  rintro e w1 ⟨g1, rfl, hg1, hr1, hb1⟩
  have Hr1 := hid hr1
  have Hb1 := hid hb1
  clear hr1 hb1
  go_wp2_with fail
  refine (refEmpty_any 2 _ (by omega)).mono ?_
  rw [emp2]
  rintro e w2 ⟨g2, rfl, hg2, hr2, hb2⟩
  have HrA := hid (Hr1.out.below hb2 Hr1.out.lt)
  have Hr2 := hid hr2
  have Hb2 := hid (Hb1.out.trans (hb2.mono Hb1.out.size))
  clear hr2 hb2 Hr1
  go_wp2_with fail
  refine (refPut_any 2 _ _ _ [0] 1 _ (Row.arg Hr2.out (by decide)) (by omega) rfl (by omega)).mono ?_
  rw [show Bs.put [0] 1 = [2] from rfl]
  rintro e w3 ⟨g3, rfl, hg3, hr3, hb3⟩
  have HrB := hid (HrA.out.below hb3 HrA.out.lt)
  have Hr3 := hid hr3
  have Hb3 := hid (Hb2.out.trans (hb3.mono Hb2.out.size))
  clear hr3 hb3 HrA Hr2
  have Hp := hid (pairs_lit w3 [(0, 1)] #[.int .i64 0, .int .i64 1] rfl)
  have Hb4 := hid (Hb3.out.alloc Hb3.out.size (.cells #[.int .i64 0, .int .i64 1] 48))
  have Hv := hid (show VarT _ (w3.heap.size + 1) 2 [0] [2] [(0, 1)] (some ⟨g1, 0, none⟩) 1 1 (some ⟨g3, 0, none⟩) 1 1 (some ⟨w3.heap.size, 0, none⟩) 1 1 from
    ⟨by have := Fb.new (w3.alloc (.cells #[.int .i64 0, .int .i64 1] 48)) #[.int .i64 2, .slice (some ⟨g1, 0, none⟩) 1 1, .int .i64 2, .slice (some ⟨g3, 0, none⟩) 1 1, .slice (some ⟨w3.heap.size, 0, none⟩) 1 1] 28; rw [World.size_alloc] at this; exact this,
     ((HrB.out.alloc _).alloc _).arg (by decide), ((Hr3.out.alloc _).alloc _).arg (by decide), Hp.out.alloc _⟩)
  have Hb5 := hid (Hb4.out.alloc Hb4.out.size (.cells #[.int .i64 2, .slice (some ⟨g1, 0, none⟩) 1 1, .int .i64 2, .slice (some ⟨g3, 0, none⟩) 1 1, .slice (some ⟨w3.heap.size, 0, none⟩) 1 1] 28))
  go_upto_region 2 with fail
  generalize (w3.alloc (.cells #[.int .i64 0, .int .i64 1] 48)).alloc (.cells #[.int .i64 2, .slice (some ⟨g1, 0, none⟩) 1 1, .int .i64 2, .slice (some ⟨g3, 0, none⟩) 1 1, .slice (some ⟨w3.heap.size, 0, none⟩) 1 1] 28) = w5 at *
  generalize w3.heap.size + 1 = b0 at *
  generalize w3.heap.size = g0 at *
  clear Hp Hb4 Hb3 HrB Hr3
  have hK : ∀ w', Below w5.heap.size w5 w' → ((fun w' => Below w5.heap.size w5 w' ∧ (w'.cell? ⟨b0, 0, none⟩ = some (.int .i64 2) ∧ w'.cell? ⟨b0, 1, none⟩ = some (.slice (some ⟨g1, 0, none⟩) 1 1) ∧ w'.cell? ⟨b0, 2, none⟩ = some (.int .i64 2) ∧ w'.cell? ⟨b0, 3, none⟩ = some (.slice (some ⟨g3, 0, none⟩) 1 1) ∧ w'.cell? ⟨b0, 4, none⟩ = some (.slice (some ⟨g0, 0, none⟩) 1 1))) w') := fun w' hb' => ⟨hb', (Hv.out.box.below hb' Hv.out.box.lt).five⟩
  have HK := hid hK
  have hz0 : b0 < w5.heap.size := Hv.out.box.lt
  obtain ⟨c0, c1, c2, c3, c4⟩ := Hv.out.box.five
  clear hK
  go_upto_region 2 with fail
  go_cut [2, 3] (fun sa sb wc => ∃ (b : Nat) (A : Option Addr) (n c : Nat), sa = .pointer (some ⟨b, 0, none⟩) ∧ sb = .int .i64 0 ∧ Hid (Box wc b 2 A n c ∧ Arg wc A n [3] ∧ Below w5.heap.size w5 wc))
  case first =>
    go_region_held3 (fun w' => Below w5.heap.size w5 w' ∧ (w'.cell? ⟨b0, 0, none⟩ = some (.int .i64 2) ∧ w'.cell? ⟨b0, 1, none⟩ = some (.slice (some ⟨g1, 0, none⟩) 1 1) ∧ w'.cell? ⟨b0, 2, none⟩ = some (.int .i64 2) ∧ w'.cell? ⟨b0, 3, none⟩ = some (.slice (some ⟨g3, 0, none⟩) 1 1) ∧ w'.cell? ⟨b0, 4, none⟩ = some (.slice (some ⟨g0, 0, none⟩) 1 1)))
      (first | exact HK.out _ (Below.refl _ _).drew | exact HK.out _ (((Below.refl _ _).alloc (Nat.le_refl _) _).drew) | exact HK.out _ ((‹Below w5.heap.size w5 _›).alloc (‹Below w5.heap.size w5 _›).size _) | exact HK.out _ (Hcur.out.alloc Hcur.out.size _) | exact HK.out _ (HX.out.stored Hcur.out _ _ _ _) | assumption)
      (first
        | (go_at_call 17
           go_must (
           go_split_ands
           refine (refEmpty_any 2 _ (by omega)).mono ?_
           rw [emp2]
           rintro e wn ⟨gE, rfl, hgE, hrE, hbk⟩
           have hcur := below_step (W := w5) (by assumption) hbk
           have hS := HK.out _ hcur
           try (first | (have HX := (by with_reducible exact hid (Fresh.mkD hbk))) | (have HX := (by with_reducible exact hid (Fresh.mk (by assumption) hbk))))
           clear hbk))
        | (go_at_call 18
           go_must (
           go_split_ands
           refine (refPut_any 2 _ _ _ [0] 0 _ (by first | exact Row.arg hrE (by decide) | exact (Row.alloc hrE _).arg (by decide)) (by omega) rfl (by omega)).mono ?_
           rw [show Bs.put [0] 0 = [1] from rfl]
           rintro e wn ⟨gP, rfl, hgP, hrP, hbk⟩
           have hcur := below_step (W := w5) (by assumption) hbk
           have hS := HK.out _ hcur
           try (first | (have HX := hid (HX.out.below hbk)) | (have HX := (by with_reducible exact hid (Fresh.mk (by assumption) hbk))))
           clear hbk))
        | (go_at_call 31
           go_must (
           go_split_ands
           refine (devApply_any 2 2 2 _ _ _ _ 1 1 1 1 1 1 1 1 [0] [2] [1] [(0, 1)] _ (Hv.out.gen.below (by assumption)) (Hv.out.kill.below (by assumption)) (Hv.out.cops.below (by assumption)) (by first | exact Row.arg hrP (by decide) | exact (Row.alloc hrP _).arg (by decide))).mono ?_
           rw [ex1a]
           rintro e wn ⟨A9, n9, c9, rfl, ha9, hbk⟩
           have Ha9 := hid (show Arg wn A9 n9 [3] from ha9)
           have hcur := below_step (W := w5) (by assumption) hbk
           have hS := HK.out _ hcur
           have Hcur := hid hcur
           try (first
             | (have HX := hid (HX.out.below hbk)
                obtain ⟨x0, x1, y0, y1⟩ := HX.out.1.four)
             | (have HX := (by with_reducible exact hid (Fresh.mk (by assumption) hbk))
                obtain ⟨x0, x1, y0, y1⟩ := HX.out.1.four))
           clear hbk ha9)))
    all_goals go_wp2_with fail
    all_goals go_meet
    all_goals first
      | (have Q := And.intro (HX.out.1.set 2 A9 n9 c9) (And.intro (Ha9.out.store HX.out.1 2 A9 n9 c9) (HX.out.stored Hcur.out 2 A9 n9 c9))
         refine ⟨_, A9, n9, c9, rfl, rfl, ?_⟩
         with_reducible exact hid Q)
      | (have Q := And.intro (Box.new wn 2 A9 n9 c9) (And.intro (Ha9.out.alloc (.cells #[.int .i64 2, .slice A9 n9 c9] 25)) (Hcur.out.alloc Hcur.out.size (.cells #[.int .i64 2, .slice A9 n9 c9] 25)))
         refine ⟨_, A9, n9, c9, rfl, rfl, ?_⟩
         with_reducible exact hid Q)
  case rest =>
    obtain ⟨bx, Abx, nbx, cbx, rfl, rfl, Hbx⟩ := hcut
    have Hv6 := hid (Hv.out.below Hbx.out.2.2)
    have Hbw6 := hid (Hb5.out.trans (Hbx.out.2.2.mono Hb5.out.size))
    have Hx6 := hid (And.intro Hbx.out.1 Hbx.out.2.1)
    clear HK Hbx Hb5 Hv
    clear c0 c1 c2 c3 c4 hz0
    generalize hw6 : wc = w6 at *
    clear hw6
    have Hv := Hv6
    clear Hv6
    have hK : ∀ w', Below w6.heap.size w6 w' → ((fun w' => Below w6.heap.size w6 w' ∧ (w'.cell? ⟨b0, 0, none⟩ = some (.int .i64 2) ∧ w'.cell? ⟨b0, 1, none⟩ = some (.slice (some ⟨g1, 0, none⟩) 1 1) ∧ w'.cell? ⟨b0, 2, none⟩ = some (.int .i64 2) ∧ w'.cell? ⟨b0, 3, none⟩ = some (.slice (some ⟨g3, 0, none⟩) 1 1) ∧ w'.cell? ⟨b0, 4, none⟩ = some (.slice (some ⟨g0, 0, none⟩) 1 1))) w') := fun w' hb' => ⟨hb', (Hv.out.box.below hb' Hv.out.box.lt).five⟩
    have HK := hid hK
    have hz0 : b0 < w6.heap.size := Hv.out.box.lt
    obtain ⟨c0, c1, c2, c3, c4⟩ := Hv.out.box.five
    clear hK
    go_upto_region 3 with fail
    go_cut [4, 5] (fun sa sb wc => ∃ (b : Nat) (A : Option Addr) (n c : Nat), sa = .pointer (some ⟨b, 0, none⟩) ∧ sb = .int .i64 0 ∧ Hid (Box wc b 2 A n c ∧ Arg wc A n [0] ∧ Below w6.heap.size w6 wc))
    case first =>
      go_region_held3 (fun w' => Below w6.heap.size w6 w' ∧ (w'.cell? ⟨b0, 0, none⟩ = some (.int .i64 2) ∧ w'.cell? ⟨b0, 1, none⟩ = some (.slice (some ⟨g1, 0, none⟩) 1 1) ∧ w'.cell? ⟨b0, 2, none⟩ = some (.int .i64 2) ∧ w'.cell? ⟨b0, 3, none⟩ = some (.slice (some ⟨g3, 0, none⟩) 1 1) ∧ w'.cell? ⟨b0, 4, none⟩ = some (.slice (some ⟨g0, 0, none⟩) 1 1)))
        (first | exact HK.out _ (Below.refl _ _).drew | exact HK.out _ (((Below.refl _ _).alloc (Nat.le_refl _) _).drew) | exact HK.out _ ((‹Below w6.heap.size w6 _›).alloc (‹Below w6.heap.size w6 _›).size _) | exact HK.out _ (Hcur.out.alloc Hcur.out.size _) | exact HK.out _ (HX.out.stored Hcur.out _ _ _ _) | assumption)
        (first
          | (go_at_call 17
             go_must (
             go_split_ands
             refine (refEmpty_any 2 _ (by omega)).mono ?_
             rw [emp2]
             rintro e wn ⟨gE, rfl, hgE, hrE, hbk⟩
             have hcur := below_step (W := w6) (by assumption) hbk
             have hS := HK.out _ hcur
             try (first | (have HX := (by with_reducible exact hid (Fresh.mkD hbk))) | (have HX := (by with_reducible exact hid (Fresh.mk (by assumption) hbk))))
             clear hbk))
          | (go_at_call 18
             go_must (
             go_split_ands
             refine (refPut_any 2 _ _ _ [0] 1 _ (by first | exact Row.arg hrE (by decide) | exact (Row.alloc hrE _).arg (by decide)) (by omega) rfl (by omega)).mono ?_
             rw [show Bs.put [0] 1 = [2] from rfl]
             rintro e wn ⟨gP, rfl, hgP, hrP, hbk⟩
             have hcur := below_step (W := w6) (by assumption) hbk
             have hS := HK.out _ hcur
             try (first | (have HX := hid (HX.out.below hbk)) | (have HX := (by with_reducible exact hid (Fresh.mk (by assumption) hbk))))
             clear hbk))
          | (go_at_call 31
             go_must (
             go_split_ands
             refine (devApply_any 2 2 2 _ _ _ _ 1 1 1 1 1 1 1 1 [0] [2] [2] [(0, 1)] _ (Hv.out.gen.below (by assumption)) (Hv.out.kill.below (by assumption)) (Hv.out.cops.below (by assumption)) (by first | exact Row.arg hrP (by decide) | exact (Row.alloc hrP _).arg (by decide))).mono ?_
             rw [ex1b]
             rintro e wn ⟨A9, n9, c9, rfl, ha9, hbk⟩
             have Ha9 := hid (show Arg wn A9 n9 [0] from ha9)
             have hcur := below_step (W := w6) (by assumption) hbk
             have hS := HK.out _ hcur
             have Hcur := hid hcur
             try (first
               | (have HX := hid (HX.out.below hbk)
                  obtain ⟨x0, x1, y0, y1⟩ := HX.out.1.four)
               | (have HX := (by with_reducible exact hid (Fresh.mk (by assumption) hbk))
                  obtain ⟨x0, x1, y0, y1⟩ := HX.out.1.four))
             clear hbk ha9)))
      all_goals go_wp2_with fail
      all_goals go_meet
      all_goals first
        | (have Q := And.intro (HX.out.1.set 2 A9 n9 c9) (And.intro (Ha9.out.store HX.out.1 2 A9 n9 c9) (HX.out.stored Hcur.out 2 A9 n9 c9))
           refine ⟨_, A9, n9, c9, rfl, rfl, ?_⟩
           with_reducible exact hid Q)
        | (have Q := And.intro (Box.new wn 2 A9 n9 c9) (And.intro (Ha9.out.alloc (.cells #[.int .i64 2, .slice A9 n9 c9] 25)) (Hcur.out.alloc Hcur.out.size (.cells #[.int .i64 2, .slice A9 n9 c9] 25)))
           refine ⟨_, A9, n9, c9, rfl, rfl, ?_⟩
           with_reducible exact hid Q)
    case rest =>
      obtain ⟨bz, Abz, nbz, cbz, rfl, rfl, Hbz⟩ := hcut
      have Hbw7 := hid (Hbw6.out.trans (Hbz.out.2.2.mono Hbw6.out.size))
      have Hbx7 := hid (Hx6.out.1.below Hbz.out.2.2 Hx6.out.1.lt)
      have Hax7 := hid (Hx6.out.2.below Hbz.out.2.2)
      have Hbz7 := hid Hbz.out.1
      have Haz7 := hid Hbz.out.2.1
      clear HK Hbz Hx6 Hv Hbw6 c0 c1 c2 c3 c4 hz0
      generalize hw7 : wc = w7 at *
      clear hw7
      have hK : ∀ w', Below w7.heap.size w7 w' → ((fun w' => Below w7.heap.size w7 w' ∧ (w'.cell? ⟨bx, 0, none⟩ = some (.int .i64 2) ∧ w'.cell? ⟨bx, 1, none⟩ = some (.slice Abx nbx cbx)) ∧ (w'.cell? ⟨bz, 0, none⟩ = some (.int .i64 2) ∧ w'.cell? ⟨bz, 1, none⟩ = some (.slice Abz nbz cbz))) w') := fun w' hb' => ⟨hb', And.intro (Hbx7.out.below hb' Hbx7.out.lt).c0 (Hbx7.out.below hb' Hbx7.out.lt).c1, And.intro (Hbz7.out.below hb' Hbz7.out.lt).c0 (Hbz7.out.below hb' Hbz7.out.lt).c1⟩
      have HK := hid hK
      have hz1 : bx < w7.heap.size := Hbx7.out.lt
      have hz2 : bz < w7.heap.size := Hbz7.out.lt
      have e1 : sameB 2 [3] 2 [3] = true := by decide
      have e2 : sameB 2 [0] 2 [0] = true := by decide
      clear hK
      go_upto_region 4 with fail
      go_region_held3 (fun w' => Below w7.heap.size w7 w' ∧ (w'.cell? ⟨bx, 0, none⟩ = some (.int .i64 2) ∧ w'.cell? ⟨bx, 1, none⟩ = some (.slice Abx nbx cbx)) ∧ (w'.cell? ⟨bz, 0, none⟩ = some (.int .i64 2) ∧ w'.cell? ⟨bz, 1, none⟩ = some (.slice Abz nbz cbz)))
        (first | exact HK.out _ (Below.refl _ _).drew | assumption)
        (first
          | (go_at_call 33
             go_must (
             go_split_ands
             refine (refFull_any 2 _ (by omega)).mono ?_
             rw [full2]
             rintro e wn ⟨AF, nF, cF, rfl, haF, hbk⟩
             have hcur := below_step (W := w7) (by assumption) hbk
             have hS := HK.out _ hcur
             have Hcur := hid hcur
             have HaF := hid haF
             clear hbk haF))
          | (go_at_call_of 32 AF
             go_must (
             go_split_ands
             refine (refSame_any 2 2 Abx AF nbx cbx nF cF [3] [3] _ (Hax7.out.below (by assumption)) HaF.out (by have := (Hax7.out).len; unfold maxLen; simp at this; omega)).mono ?_
             rw [e1]
             rintro e wn ⟨rfl, hbk⟩
             have hcur := below_step (W := w7) (by assumption) hbk
             have hS := HK.out _ hcur
             have Hcur := hid hcur
             clear hbk))
          | (go_at_call 17
             go_must (
             go_split_ands
             refine (refEmpty_any 2 _ (by omega)).mono ?_
             rw [emp2]
             rintro e wn ⟨gE, rfl, hgE, hrE, hbk⟩
             have hcur := below_step (W := w7) (by assumption) hbk
             have hS := HK.out _ hcur
             have Hcur := hid hcur
             clear hbk))
          | (go_at_call_of 32 gE
             go_must (
             go_split_ands
             refine (refSame_any 2 2 Abz (some ⟨gE, 0, none⟩) nbz cbz 1 1 [0] [0] _ (Haz7.out.below (by assumption)) (Row.arg hrE (by decide)) (by have := (Haz7.out).len; unfold maxLen; simp at this; omega)).mono ?_
             rw [e2]
             rintro e wn ⟨rfl, hbk⟩
             have hcur := below_step (W := w7) (by assumption) hbk
             have hS := HK.out _ hcur
             have Hcur := hid hcur
             clear hbk)))
      all_goals go_wp2_with fail
      all_goals go_ret
      all_goals exact ⟨rfl, Hbw7.out.trans (Hcur.out.mono Hbw7.out.size)⟩


end Go.Proofs.Ytmbelhdkaepohaa
