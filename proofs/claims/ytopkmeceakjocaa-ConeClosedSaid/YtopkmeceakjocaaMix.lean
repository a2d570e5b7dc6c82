/- The reference's mix of two sets by three flags: the errors, and the set of the bits that the flags tell. -/
import Derived.Test.YtopkmeceakjocaaWide
import Derived.Test.YtopkmeceakjocaaSame
import Derived.Deep.DeepCutAuto
namespace Go.Proofs.Ytopkmeceakjocaa
open Go.ChangeShapes Go.WideShapes Go.ChangeAt Go.RowKit

/-- A set and an error number came back. -/
def RetErr (w : World) (r : Int × List Nat × Int) (e : Ending) (w' : World) : Prop :=
  ∃ (A : Option Addr) (n c : Nat), e = .returned (.tuple #[.agg #[.int .i64 r.1, .slice A n c], .int .i64 r.2.2]) ∧ Arg w' A n r.2.1 ∧ Below w.heap.size w w'
/-- As RetErr, and the words lie in a row of their own. -/
def RetErrRow (w : World) (r : Int × List Nat × Int) (e : Ending) (w' : World) : Prop :=
  ∃ (g n c : Nat), e = .returned (.tuple #[.agg #[.int .i64 r.1, .slice (some ⟨g, 0, none⟩) n c], .int .i64 r.2.2]) ∧ Row w' g r.2.1 ∧ Arg w' (some ⟨g, 0, none⟩) n r.2.1 ∧ Below w.heap.size w w'
theorem RetErrRow.ret {w w' : World} {r : Int × List Nat × Int} {e : Ending} (h : RetErrRow w r e w') : RetErr w r e w' := by
  obtain ⟨g, n, c, h1, _, h2, h3⟩ := h
  exact ⟨_, n, c, h1, h2, h3⟩
def flag (one two both x y : Bool) : Bool := (x && y && both) || ((x && !y && one) || (!x && y && two))
def mixR (f : Bool → Bool → Bool) (W : Int) (ws : List Nat) (V : Int) (xs : List Nat) : Int × List Nat × Int :=
  if Bs.validB W ws = false ∨ Bs.validB V xs = false then (0, [], 1)
  else if W ≠ V then (0, [], 2)
  else (W, Bs.ofP W.toNat (fun i => f (Bs.bit ws i) (Bs.bit xs i)) W.toNat, 0)

theorem box3 (w : World) (W V : Int) (A B : Option Addr) (n c m d : Nat) :
    Box (((w.alloc (.cells #[.int .i64 W, .slice A n c] 50)).alloc (.cells #[.int .i64 V, .slice B m d] 50)).alloc (.cells #[.int .i64 0, .slice none 0 0] 50)) w.heap.size W A n c ∧
    Box (((w.alloc (.cells #[.int .i64 W, .slice A n c] 50)).alloc (.cells #[.int .i64 V, .slice B m d] 50)).alloc (.cells #[.int .i64 0, .slice none 0 0] 50)) (w.heap.size + 1) V B m d ∧
    Box (((w.alloc (.cells #[.int .i64 W, .slice A n c] 50)).alloc (.cells #[.int .i64 V, .slice B m d] 50)).alloc (.cells #[.int .i64 0, .slice none 0 0] 50)) (w.heap.size + 1 + 1) 0 none 0 0 := by
  refine ⟨((Box.new w _ _ _ _).alloc _).alloc _, ?_, ?_⟩
  · have h := (Box.new (w.alloc (.cells #[.int .i64 W, .slice A n c] 50)) V B m d).alloc (.cells #[.int .i64 0, .slice none 0 0] 50)
    rw [World.size_alloc] at h; exact h
  · have h := Box.new ((w.alloc (.cells #[.int .i64 W, .slice A n c] 50)).alloc (.cells #[.int .i64 V, .slice B m d] 50)) 0 none 0 0
    rw [World.size_alloc, World.size_alloc] at h; exact h
theorem below3 (w : World) (a b c : Obj) : Below w.heap.size w (((w.alloc a).alloc b).alloc c) := (((Below.refl _ _).alloc (Nat.le_refl _) _).alloc (by simp) _).alloc (by simp only [World.size_alloc]; omega) _

theorem mix_bad1 (W V : Int) (A B : Option Addr) (n c m d : Nat) (ws xs : List Nat) (o t b : Bool) (w : World) (hA : Arg w A n ws) (h : Bs.validB W ws = false) :
    Calls Try.prog 77 #[.agg #[.int .i64 W, .slice A n c], .agg #[.int .i64 V, .slice B m d], .bool o, .bool t, .bool b] w (RetErr w (mixR (flag o t b) W ws V xs)) := by
  have hr : mixR (flag o t b) W ws V xs = (0, [], 1) := by unfold mixR; rw [if_pos (.inl h)]
  rw [hr]
  have HA := hid hA; have H := hid h
  clear hA h hr
  obtain ⟨hx1, hx2, hx3⟩ := box3 w W V A B n c m d
  have hx4 := below3 w (.cells #[.int .i64 W, .slice A n c] 50) (.cells #[.int .i64 V, .slice B m d] 50) (.cells #[.int .i64 0, .slice none 0 0] 50)
  have Hx3 := hid hx3; have Hx4 := hid hx4
  clear hx1 hx2 hx3 hx4
  go_enter Try.func77, Try.ntmps77
  go_wp2_with (go_at_call 62; refine (refValid_any W A n c ws _ (((HA.out.alloc _).alloc _).alloc _).lies HA.out.ok HA.out.len).mono ?_; rw [H.out]; rintro e w1 ⟨rfl, hbl⟩; have hq := Hx3.out.below hbl (by simp); have hq0 := hq.c0; have hq1 := hq.c1; have hf0 := hq.f 0; have hf1 := hq.f 1; have Hbl := hid hbl; clear hbl hq)
  refine bodyPost_ret (v := .tuple #[.agg #[.int .i64 0, .slice none 0 0], .int .i64 1]) (by simp [results, Try.results77, go_sem, hq0, hq1]) rfl ⟨_, _, _, rfl, Arg.nil _ _, ?_⟩
  exact ((Hx4.out.trans (Hbl.out.mono (by simp; omega))).setCell (by simp; omega) _).setCell (by simp; omega) _

theorem mix_bad2 (W V : Int) (A B : Option Addr) (n c m d : Nat) (ws xs : List Nat) (o t b : Bool) (w : World) (hA : Arg w A n ws) (hB : Arg w B m xs) (h : Bs.validB W ws = true) (h2 : Bs.validB V xs = false) :
    Calls Try.prog 77 #[.agg #[.int .i64 W, .slice A n c], .agg #[.int .i64 V, .slice B m d], .bool o, .bool t, .bool b] w (RetErr w (mixR (flag o t b) W ws V xs)) := by
  have hr : mixR (flag o t b) W ws V xs = (0, [], 1) := by unfold mixR; rw [if_pos (.inr h2)]
  rw [hr]
  have HA := hid hA; have HB := hid hB; have H := hid h; have H2 := hid h2
  clear hA hB h h2 hr
  obtain ⟨hx1, hx2, hx3⟩ := box3 w W V A B n c m d
  have hx4 := below3 w (.cells #[.int .i64 W, .slice A n c] 50) (.cells #[.int .i64 V, .slice B m d] 50) (.cells #[.int .i64 0, .slice none 0 0] 50)
  have Hx2 := hid hx2; have Hx3 := hid hx3; have Hx4 := hid hx4
  clear hx1 hx2 hx3 hx4
  go_enter Try.func77, Try.ntmps77
  go_wp2_with fail
  refine (refValid_any W A n c ws _ (((HA.out.alloc _).alloc _).alloc _).lies HA.out.ok HA.out.len).mono ?_
  rw [H.out]
  rintro e w1 ⟨rfl, hbl⟩
  have hq2 := Hx2.out.below hbl (by simp)
  have hq20 := hq2.c0
  have hq21 := hq2.c1
  have Hq3 := hid (Hx3.out.below hbl (by simp))
  have Hb1 := hid (Hx4.out.trans (hbl.mono (by simp; omega)))
  have hz1 := hbl.size
  simp only [World.size_alloc] at hz1
  clear hbl hq2
  go_wp2_with fail
  refine (refValid_any V B m d xs _ (HB.out.below Hb1.out).lies HB.out.ok HB.out.len).mono ?_
  rw [H2.out]
  rintro e w2 ⟨rfl, hbl⟩
  have hq := Hq3.out.below hbl (by omega)
  have hq0 := hq.c0
  have hq1 := hq.c1
  have hf0 := hq.f 0
  have hf1 := hq.f 1
  have Hb2 := hid (Hb1.out.trans (hbl.mono (by omega)))
  clear hbl hq
  go_wp2_with fail
  refine bodyPost_ret (v := .tuple #[.agg #[.int .i64 0, .slice none 0 0], .int .i64 1]) (by simp [results, Try.results77, go_sem, hq0, hq1]) rfl ⟨_, _, _, rfl, Arg.nil _ _, ?_⟩
  exact ((Hb2.out).setCell (by simp; omega) _).setCell (by simp; omega) _

theorem mix_wide (W V : Int) (A B : Option Addr) (n c m d : Nat) (ws xs : List Nat) (o t b : Bool) (w : World) (hA : Arg w A n ws) (hB : Arg w B m xs) (h : Bs.validB W ws = true) (h2 : Bs.validB V xs = true) (hne : W ≠ V) :
    Calls Try.prog 77 #[.agg #[.int .i64 W, .slice A n c], .agg #[.int .i64 V, .slice B m d], .bool o, .bool t, .bool b] w (RetErr w (mixR (flag o t b) W ws V xs)) := by
  have hr : mixR (flag o t b) W ws V xs = (0, [], 2) := by unfold mixR; rw [if_neg (by simp [h, h2]), if_pos hne]
  rw [hr]
  have HA := hid hA; have HB := hid hB; have H := hid h; have H2 := hid h2
  have hne' : (W != V) = true := by simp [hne]
  clear hA hB h h2 hr hne
  obtain ⟨hx1, hx2, hx3⟩ := box3 w W V A B n c m d
  have hx4 := below3 w (.cells #[.int .i64 W, .slice A n c] 50) (.cells #[.int .i64 V, .slice B m d] 50) (.cells #[.int .i64 0, .slice none 0 0] 50)
  have Hx1 := hid hx1; have Hx2 := hid hx2; have Hx3 := hid hx3; have Hx4 := hid hx4
  clear hx1 hx2 hx3 hx4
  go_enter Try.func77, Try.ntmps77
  go_wp2_with fail
  refine (refValid_any W A n c ws _ (((HA.out.alloc _).alloc _).alloc _).lies HA.out.ok HA.out.len).mono ?_
  rw [H.out]
  rintro e w1 ⟨rfl, hbl⟩
  have hq2 := Hx2.out.below hbl (by simp)
  have hq20 := hq2.c0
  have hq21 := hq2.c1
  have Hq1 := hid (Hx1.out.below hbl (by simp; omega))
  have Hq2 := hid hq2
  have Hq3 := hid (Hx3.out.below hbl (by simp))
  have Hb1 := hid (Hx4.out.trans (hbl.mono (by simp; omega)))
  have hz1 := hbl.size
  simp only [World.size_alloc] at hz1
  clear hbl hq2
  go_wp2_with fail
  refine (refValid_any V B m d xs _ (HB.out.below Hb1.out).lies HB.out.ok HB.out.len).mono ?_
  rw [H2.out]
  rintro e w2 ⟨rfl, hbl⟩
  have hq := Hq3.out.below hbl (by omega)
  have hq0 := hq.c0
  have hq1 := hq.c1
  have hf0 := hq.f 0
  have hf1 := hq.f 1
  have hp := Hq1.out.below hbl (by omega)
  have hp0 := hp.c0
  have hp' := Hq2.out.below hbl (by omega)
  have hp1 := hp'.c0
  have Hb2 := hid (Hb1.out.trans (hbl.mono (by omega)))
  clear hbl hq hp hp'
  go_wp2_with fail
  refine bodyPost_ret (v := .tuple #[.agg #[.int .i64 0, .slice none 0 0], .int .i64 2]) (by simp [results, Try.results77, go_sem, hq0, hq1]) rfl ⟨_, _, _, rfl, Arg.nil _ _, ?_⟩
  exact ((Hb2.out).setCell (by simp; omega) _).setCell (by simp; omega) _

/-- While mix runs: the variables of its two sets, its result's cell, and the set s as far as it has been made. -/
def Mixing (w : World) (W : Int) (A B : Option Addr) (n c m d v : Nat) (b : Nat) (zs : List Nat) (wr : World) : Prop :=
  ∃ g : Nat, Box wr w.heap.size W A n c ∧ Box wr (w.heap.size + 1) W B m d ∧ Box wr (w.heap.size + 1 + 1) 0 none 0 0 ∧ Box wr b v (some ⟨g, 0, none⟩) (Bs.nw v) (Bs.nw v) ∧ Row wr g zs ∧ w.heap.size + 1 + 1 < g ∧ w.heap.size + 1 + 1 < b ∧ Below w.heap.size w wr
theorem Mixing.below {w wr w' : World} {W : Int} {A B : Option Addr} {n c m d v b : Nat} {zs : List Nat} (h : Mixing w W A B n c m d v b zs wr) (hb : Below wr.heap.size wr w') : Mixing w W A B n c m d v b zs w' := by
  obtain ⟨g, h1, h2, h3, h4, h5, h6, h7, h8⟩ := h
  exact ⟨g, h1.below hb h1.lt, h2.below hb h2.lt, h3.below hb h3.lt, h4.below hb h4.lt, h5.below hb h5.lt, h6, h7, h8.trans (hb.mono h8.size)⟩
theorem Mixing.drew {w wr : World} {W : Int} {A B : Option Addr} {n c m d v b : Nat} {zs : List Nat} (h : Mixing w W A B n c m d v b zs wr) : Mixing w W A B n c m d v b zs wr.drew := h.below (Below.refl _ _).drew

theorem Mixing.frame {w wr : World} {W : Int} {A B : Option Addr} {n c m d v b : Nat} {zs : List Nat} (h : Mixing w W A B n c m d v b zs wr) : Below w.heap.size w wr := by
  obtain ⟨g, _, _, _, _, _, _, _, h8⟩ := h; exact h8
theorem Mixing.cells {w wr : World} {W : Int} {A B : Option Addr} {n c m d v b : Nat} {zs : List Nat} (h : Mixing w W A B n c m d v b zs wr) :
    (wr.cell? ⟨w.heap.size, 0, none⟩ = some (.int .i64 W) ∧ wr.cell? ⟨w.heap.size, 1, none⟩ = some (.slice A n c)) ∧ wr.cell? ⟨w.heap.size + 1, 0, none⟩ = some (.int .i64 W) ∧ wr.cell? ⟨w.heap.size + 1, 1, none⟩ = some (.slice B m d) := by
  obtain ⟨g, h1, h2, _⟩ := h; exact ⟨⟨h1.c0, h1.c1⟩, h2.c0, h2.c1⟩

set_option maxHeartbeats 1600000 in
theorem mix_row (W : Nat) (A B : Option Addr) (n c m d : Nat) (ws xs : List Nat) (o t b : Bool) (w : World) (hA : Arg w A n ws) (hB : Arg w B m xs) (h : Bs.validB W ws = true) (h2 : Bs.validB W xs = true) :
    Calls Try.prog 77 #[.agg #[.int .i64 W, .slice A n c], .agg #[.int .i64 W, .slice B m d], .bool o, .bool t, .bool b] w (RetErrRow w (W, Bs.ofP W (fun i => flag o t b (Bs.bit ws i) (Bs.bit xs i)) W, 0)) := by
  have hW : W ≤ 256 := by have := (Bs.validB_iff.1 h).2.1; omega
  have HA := hid hA; have HB := hid hB; have H := hid h; have H2 := hid h2
  have hne' : ((W : Int) != W) = false := by simp
  clear hA hB h h2
  obtain ⟨hx1, hx2, hx3⟩ := box3 w W W A B n c m d
  have hx4 := below3 w (.cells #[.int .i64 W, .slice A n c] 50) (.cells #[.int .i64 W, .slice B m d] 50) (.cells #[.int .i64 0, .slice none 0 0] 50)
  have Hx1 := hid hx1; have Hx2 := hid hx2; have Hx3 := hid hx3; have Hx4 := hid hx4
  clear hx1 hx2 hx3 hx4
  go_enter Try.func77, Try.ntmps77
  go_wp2_with fail
  refine (refValid_any W A n c ws _ (((HA.out.alloc _).alloc _).alloc _).lies HA.out.ok HA.out.len).mono ?_
  rw [H.out]
  rintro e w1 ⟨rfl, hbl⟩
  have hq2 := Hx2.out.below hbl (by simp)
  have hq20 := hq2.c0
  have hq21 := hq2.c1
  have Hq1 := hid (Hx1.out.below hbl (by simp only [World.size_alloc]; omega))
  have Hq2 := hid hq2
  have Hq3 := hid (Hx3.out.below hbl (by simp))
  have Hb1 := hid (Hx4.out.trans (hbl.mono (by simp only [World.size_alloc]; omega)))
  have hz1 := hbl.size
  simp only [World.size_alloc] at hz1
  clear hbl hq2
  go_wp2_with fail
  refine (refValid_any W B m d xs _ (HB.out.below Hb1.out).lies HB.out.ok HB.out.len).mono ?_
  rw [H2.out]
  rintro e w2 ⟨rfl, hbl⟩
  have hp := Hq1.out.below hbl (by omega)
  have hp0 := hp.c0
  have hp' := Hq2.out.below hbl (by omega)
  have hp1 := hp'.c0
  have Hq1 := hid hp; have Hq2 := hid hp'
  have Hq3 := hid (Hq3.out.below hbl (by omega))
  have Hb2 := hid (Hb1.out.trans (hbl.mono (by omega)))
  have hz2 := hbl.size
  clear hbl hp hp'
  go_wp2_with fail
  refine (refEmpty_any W _ (by omega)).mono ?_
  rintro e w3 ⟨g, rfl, hg, hrow, hbl⟩
  rw [len_emp]
  have hinv : Mixing w W A B n c m d W w3.heap.size (Bs.emp W) (w3.alloc (.cells #[.int .i64 W, .slice (some ⟨g, 0, none⟩) (Bs.nw W) (Bs.nw W)] 50)) := by
    have hz3 := hbl.size
    exact ⟨g, (Hq1.out.below hbl (by omega)).alloc _, (Hq2.out.below hbl (by omega)).alloc _, (Hq3.out.below hbl (by omega)).alloc _, Box.new _ _ _ _ _, hrow.alloc _, by omega, by omega, (Hb2.out.trans (hbl.mono (by omega))).alloc (by omega) _⟩
  have Hinv := hid hinv
  have hb3 : w.heap.size + 1 + 1 < w3.heap.size := by have := hbl.size; omega
  clear hinv hbl hrow hg
  clear hq20 hq21 hp0 hp1 hne'
  go_wp2_with fail
  clear Hq1 Hq2 Hq3 Hb1 Hb2 Hx1 Hx2 Hx3 Hx4 hz1 hz2
  go_loopw [13, 14, 15] (fun i _ _ wr => ∃ k : Nat, k ≤ W ∧ i = .int .i64 k ∧ Hid (Mixing w W A B n c m d W w3.heap.size (Bs.ofP W (fun i => flag o t b (Bs.bit ws i) (Bs.bit xs i)) k) wr)) (fun i _ _ _ => W - (intOf i).toNat)
  case atStart => exact ⟨0, by omega, rfl, Hinv⟩
  case round =>
    obtain ⟨k, hk, rfl, hG⟩ := hrel
    by_cases hlt : k < W
    · have hx : Bs.hasB W ws k = Bs.bit ws k := Bs.hasB_nat (Bs.fit_of_valid H.out HA.out.ok) hW k
      have hy : Bs.hasB W xs k = Bs.bit xs k := Bs.hasB_nat (Bs.fit_of_valid H2.out HB.out.ok) hW k
      generalize hxe : Bs.bit ws k = x at hx
      generalize hye : Bs.bit xs k = y at hy
      have Hxe := hid hxe; have Hye := hid hye
      clear hxe hye
      have Hx := hid hx; have Hy := hid hy
      clear hx hy
      obtain ⟨⟨hc10, hc11⟩, hc20, hc21⟩ := hG.out.cells
      go_upto_region 9 with fail
      go_cut [14, 15] (fun u v wc => u = .bool x ∧ v = .bool y ∧ Hid (Mixing w W A B n c m d W w3.heap.size (Bs.ofP W (fun i => flag o t b (Bs.bit ws i) (Bs.bit xs i)) k) wc))
      case first =>
        have hM := hid hG.out.drew
        go_region_with (first
          | (go_at_call_of 95 A
             go_must (
             refine (refHas_any W A n c ws k _ (HA.out.below hM.out.frame)).mono ?_
             rw [Hx.out]
             rintro e w4 ⟨rfl, hbl⟩
             have hM := hid (hM.out.below hbl)
             obtain ⟨⟨hc10, hc11⟩, hc20, hc21⟩ := hM.out.cells
             clear hbl))
          | (go_at_call_of 95 B
             go_must (
             refine (refHas_any W B m d xs k _ (HB.out.below hM.out.frame)).mono ?_
             rw [Hy.out]
             rintro e w4 ⟨rfl, hbl⟩
             have hM := hid (hM.out.below hbl)
             obtain ⟨⟨hc10, hc11⟩, hc20, hc21⟩ := hM.out.cells
             clear hbl)))
        all_goals (go_wp2_with fail; go_meet; exact ⟨rfl, rfl, hM⟩)
      case rest =>
        obtain ⟨rfl, rfl, hM⟩ := hcut
        clear hc10 hc11 hc20 hc21 hG Hinv
        go_upto_region 10 with fail
        go_cut [72] (fun u wd => u = .bool (flag o t b x y) ∧ wd = wc)
        case first =>
          clear hM
          cases o <;> cases t <;> cases b <;> cases x <;> cases y <;> (go_wp2_with fail; go_meet; exact ⟨rfl, rfl⟩)
        case rest =>
          obtain ⟨rfl, rfl⟩ := hcut
          cases hv : flag o t b x y with
          | true =>
            have Hv := hid hv
            clear hv
            obtain ⟨g0, hq1, hq2, hq3, hq4, hq5, hq6, hq7, hq8⟩ := hM.out
            have hc0 := hq4.c0
            have hc1 := hq4.c1
            have hfit := Bs.fit_ofP W (fun i => flag o t b (Bs.bit ws i) (Bs.bit xs i)) k hk
            have hgl := hq5.lt
            have hbl4 := hq4.lt
            have hrl := hq3.lt
            have hgb := hq4.row_ne hq5
            have Hfit := hid hfit; have Hq1 := hid hq1; have Hq2 := hid hq2; have Hq3 := hid hq3; have Hq4 := hid hq4; have Hq5 := hid hq5; have Hq8 := hid hq8
            clear hfit hq1 hq2 hq3 hq4 hq5 hq8
            go_wp2_with fail
            refine (refPut_any W _ _ _ _ k _ ⟨(Row.arg Hq5.out Hfit.out.ok).lies, Hfit.out.len, Hfit.out.ok⟩ (by omega) Hfit.out.len hlt).mono ?_
            rintro e w5 ⟨g5, rfl, hg5, hrow5, hb5⟩
            have hbx5 := Hq4.out.below hb5 hbl4
            have hc50 := hbx5.c0
            have hc51 := hbx5.c1
            have hf50 := hbx5.f 0
            have hf51 := hbx5.f 1
            have hz5 := hb5.size
            have hlen : (Bs.put (Bs.ofP W (fun i => flag o t b (Bs.bit ws i) (Bs.bit xs i)) k) k).length = Bs.nw W := by rw [Bs.length_put]; exact Hfit.out.len
            rw [hlen]
            have hpx : Bs.ofP W (fun i => flag o t b (Bs.bit ws i) (Bs.bit xs i)) (k + 1) = Bs.put (Bs.ofP W (fun i => flag o t b (Bs.bit ws i) (Bs.bit xs i)) k) k := Bs.ofP_yes (by show flag o t b (Bs.bit ws k) (Bs.bit xs k) = true; rw [Hxe.out, Hye.out]; exact Hv.out)
            have hfin : Mixing w W A B n c m d W w3.heap.size (Bs.ofP W (fun i => flag o t b (Bs.bit ws i) (Bs.bit xs i)) (k + 1)) ((w5.setCell ⟨w3.heap.size, 0, none⟩ (.int .i64 W)).setCell ⟨w3.heap.size, 1, none⟩ (.slice (some ⟨g5, 0, none⟩) (Bs.nw W) (Bs.nw W))) := by
              rw [hpx]
              exact ⟨g5, ((Hq1.out.below hb5 (by omega)).far (by simp; omega) _).far (by simp; omega) _, ((Hq2.out.below hb5 (by omega)).far (by simp; omega) _).far (by simp; omega) _, ((Hq3.out.below hb5 (by omega)).far (by simp; omega) _).far (by simp; omega) _, hbx5.set _ _ _ _, (hrow5.far (by simp; omega) _).far (by simp; omega) _, by omega, by omega, ((Hq8.out.trans (hb5.mono (by omega))).setCell (by simp; omega) _).setCell (by simp; omega) _⟩
            have Hfin := hid hfin
            clear hfin hbx5 hrow5 hb5 hlen hpx hM
            go_wp2_with fail
            go_roundw
            case rel => exact ⟨k + 1, by omega, by go_num, Hfin⟩
            case measure => simp [intOf]; omega
          | false =>
            have Hv := hid hv
            clear hv
            have hpx : Bs.ofP W (fun i => flag o t b (Bs.bit ws i) (Bs.bit xs i)) (k + 1) = Bs.ofP W (fun i => flag o t b (Bs.bit ws i) (Bs.bit xs i)) k := Bs.ofP_no (by show flag o t b (Bs.bit ws k) (Bs.bit xs k) = false; rw [Hxe.out, Hye.out]; exact Hv.out)
            have Hpx := hid hpx
            clear hpx
            go_wp2_with fail
            go_roundw
            case rel => exact ⟨k + 1, by omega, by go_num, by rw [Hpx.out]; exact hM⟩
            case measure => simp [intOf]; omega
    · have hkW : k = W := by omega
      subst hkW
      obtain ⟨g0, hq1, hq2, hq3, hq4, hq5, hq6, hq7, hq8⟩ := hG.out
      have hc0 := hq4.c0
      have hc1 := hq4.c1
      have hc10 := hq1.c0
      have hr0 := hq3.c0
      have hr1 := hq3.c1
      have hf0 := hq3.f 0
      have hf1 := hq3.f 1
      have hgl := hq5.lt
      have hne := hq3.row_ne hq5
      have Hfit := hid (Bs.fit_ofP k (fun i => flag o t b (Bs.bit ws i) (Bs.bit xs i)) k (by omega))
      have Hq5 := hid hq5; have Hq8 := hid hq8
      clear hq1 hq2 hq3 hq4 hq5 hq8
      go_wp2_with fail
      refine bodyPost_ret (v := .tuple #[.agg #[.int .i64 k, .slice (some ⟨g0, 0, none⟩) (Bs.nw k) (Bs.nw k)], .int .i64 0]) (by simp [results, Try.results77, go_sem, hr0, hr1]) rfl ⟨_, _, _, rfl, ?_, ?_, ?_⟩
      · exact (Hq5.out.far (p := ⟨w.heap.size + 1 + 1, 0, none⟩) hne (.int .i64 k)).far (p := ⟨w.heap.size + 1 + 1, 1, none⟩) hne (.slice (some ⟨g0, 0, none⟩) (Bs.nw k) (Bs.nw k))
      · have hr := Row.arg ((Hq5.out.far (p := ⟨w.heap.size + 1 + 1, 0, none⟩) hne (.int .i64 k)).far (p := ⟨w.heap.size + 1 + 1, 1, none⟩) hne (.slice (some ⟨g0, 0, none⟩) (Bs.nw k) (Bs.nw k))) Hfit.out.ok
        exact ⟨hr.lies, Hfit.out.len, Hfit.out.ok⟩
      · exact (Hq8.out.setCell (by simp; omega) _).setCell (by simp; omega) _

theorem mix_in (W : Nat) (A B : Option Addr) (n c m d : Nat) (ws xs : List Nat) (o t b : Bool) (w : World) (hA : Arg w A n ws) (hB : Arg w B m xs) (h : Bs.validB W ws = true) (h2 : Bs.validB W xs = true) :
    Calls Try.prog 77 #[.agg #[.int .i64 W, .slice A n c], .agg #[.int .i64 W, .slice B m d], .bool o, .bool t, .bool b] w (RetErr w (W, Bs.ofP W (fun i => flag o t b (Bs.bit ws i) (Bs.bit xs i)) W, 0)) :=
  (mix_row W A B n c m d ws xs o t b w hA hB h h2).mono fun _ _ hh => hh.ret

theorem mix_any (W V : Int) (A B : Option Addr) (n c m d : Nat) (ws xs : List Nat) (o t b : Bool) (w : World) (hA : Arg w A n ws) (hB : Arg w B m xs) :
    Calls Try.prog 77 #[.agg #[.int .i64 W, .slice A n c], .agg #[.int .i64 V, .slice B m d], .bool o, .bool t, .bool b] w (RetErr w (mixR (flag o t b) W ws V xs)) := by
  cases h : Bs.validB W ws with
  | false => exact mix_bad1 W V A B n c m d ws xs o t b w hA h
  | true =>
    cases h2 : Bs.validB V xs with
    | false => exact mix_bad2 W V A B n c m d ws xs o t b w hA hB h h2
    | true =>
      by_cases hne : W = V
      · subst hne
        obtain ⟨v, rfl⟩ := Int.eq_ofNat_of_zero_le (Bs.validB_iff.1 h).1
        have hr : mixR (flag o t b) (v : Int) ws (v : Int) xs = ((v : Int), Bs.ofP v (fun i => flag o t b (Bs.bit ws i) (Bs.bit xs i)) v, 0) := by
          unfold mixR; rw [if_neg (by simp [h, h2]), if_neg (by simp), Int.toNat_natCast]
        rw [hr]
        exact mix_in v A B n c m d ws xs o t b w hA hB h h2
      · exact mix_wide W V A B n c m d ws xs o t b w hA hB h h2 hne
end Go.Proofs.Ytopkmeceakjocaa
