/- The reference's Join and image again: their words lie in rows of their own. -/
import Derived.Test.YtmbelhdkaepohaaTimg
import Derived.Test.YtmbelhdkaepohaaRgv
namespace Go.Proofs.Ytmbelhdkaepohaa
set_option maxRecDepth 20000
open Go.ChangeShapes Go.WideShapes Go.ChangeAt Go.RowKit

/-- A set came back, whose words lie in a row of their own. -/
def RetRow (w : World) (W : Int) (ws : List Nat) (e : Ending) (w' : World) : Prop :=
  ∃ (g n c : Nat), e = .returned (.agg #[.int .i64 W, .slice (some ⟨g, 0, none⟩) n c]) ∧ Row w' g ws ∧ Arg w' (some ⟨g, 0, none⟩) n ws ∧ Below w.heap.size w w'
theorem refUnion2_any (W : Nat) (A B : Option Addr) (n c m d : Nat) (ws xs : List Nat) (w : World) (hA : Arg w A n ws) (hB : Arg w B m xs) (hW : W ≤ 256) (h1 : Bs.Fit W ws) (h2 : Bs.Fit W xs) :
    Calls Try.prog 75 #[.agg #[.int .i64 W, .slice A n c], .agg #[.int .i64 W, .slice B m d]] w (RetErrRow w (W, orR W ws xs, 0)) := by
  have HA := hid hA; have HB := hid hB
  have H1 := hid (Bs.valid_of_fit h1 hW); have H2 := hid (Bs.valid_of_fit h2 hW)
  clear hA hB h1 h2
  obtain ⟨hx1, hx2, hx3⟩ := box3 w W W A B n c m d
  have hx4 := below3 w (.cells #[.int .i64 W, .slice A n c] 25) (.cells #[.int .i64 W, .slice B m d] 25) (.cells #[.int .i64 0, .slice none 0 0] 25)
  have Hx3 := hid hx3; have Hx4 := hid hx4
  clear hx1 hx2 hx3 hx4
  have HE := hid (show Bs.ofP W (fun i => flag true true true (Bs.bit ws i) (Bs.bit xs i)) W = orR W ws xs from Bs.ofP_congr fun i _ => by
    unfold flag
    cases Bs.bit ws i <;> cases Bs.bit xs i <;> rfl)
  go_enter Try.func75, Try.ntmps75
  go_wp2_with fail
  refine (mix_row W A B n c m d ws xs _ _ _ _ (HA.out.below Hx4.out) (HB.out.below Hx4.out) H1.out H2.out).mono ?_
  rw [HE.out]
  rintro e w1 ⟨g1, n1, c1, rfl, hr1, ha, hb⟩
  have hq := Hx3.out.below hb (by simp)
  have hq0 := hq.c0
  have hq1 := hq.c1
  have hf0 := hq.f 0
  have hf1 := hq.f 1
  have Ha := hid ha; have Hr1 := hid hr1; have Hb := hid hb; have Hq := hid hq
  clear hq ha hb hr1
  go_wp2_with fail
  refine bodyPost_ret (v := .tuple #[.agg #[.int .i64 W, .slice (some ⟨g1, 0, none⟩) n1 c1], .int .i64 0]) (by simp [results, Try.results75, go_sem, hq0, hq1]) rfl ⟨g1, n1, c1, rfl, ?_, ?_, ?_⟩
  · have hne := Hq.out.row_ne Hr1.out
    exact (Hr1.out.far (p := ⟨w.heap.size + 1 + 1, 0, none⟩) hne _).far (p := ⟨w.heap.size + 1 + 1, 1, none⟩) hne _
  · exact Hq.out.store Ha.out _ _
  · exact ((Hx4.out.trans (Hb.out.mono (by simp only [World.size_alloc]; omega))).setCell (by simp; omega) _).setCell (by simp; omega) _

set_option maxHeartbeats 800000 in
theorem refJoin2_any (W : Nat) (A B : Option Addr) (n c m d : Nat) (ws xs : List Nat) (w : World) (hA : Arg w A n ws) (hB : Arg w B m xs) (hW : W ≤ 256) (h1 : Bs.Fit W ws) (h2 : Bs.Fit W xs) :
    Calls Try.prog 51 #[.agg #[.int .i64 W, .slice A n c], .agg #[.int .i64 W, .slice B m d]] w (RetRow w W (orR W ws xs)) := by
  have HA := hid hA; have HB := hid hB
  have HF1 := hid h1; have HF2 := hid h2
  clear hA hB h1 h2
  obtain ⟨hx1, hx2, hx3⟩ := box3 w W W A B n c m d
  have hx4 := below3 w (.cells #[.int .i64 W, .slice A n c] 25) (.cells #[.int .i64 W, .slice B m d] 25) (.cells #[.int .i64 0, .slice none 0 0] 25)
  have Hx3 := hid hx3; have Hx4 := hid hx4
  clear hx1 hx2 hx3 hx4
  go_enter Try.func51, Try.ntmps51
  go_wp2_with fail
  refine (refUnion2_any W A B n c m d ws xs _ (HA.out.below Hx4.out) (HB.out.below Hx4.out) hW HF1.out HF2.out).mono ?_
  rintro e w1 ⟨g1, n1, c1, rfl, hr1, ha, hb⟩
  have Hr1 := hid hr1
  have Ha := hid ha
  have hz := hb.size
  simp only [World.size_alloc] at hz
  have hR := Hx3.out.below hb (by simp)
  have r0 := hR.c0
  have r1 := hR.c1
  have f0 := hR.f 0
  have f1 := hR.f 1
  have HR := hid hR
  have Hb := hid (Hx4.out.trans (hb.mono (by simp only [World.size_alloc]; omega)))
  have hlt : w.heap.size + 1 + 1 < w1.heap.size := by omega
  clear ha hb hR hr1
  simp only []
  go_wp2_with fail
  refine bodyPost_ret (v := .agg #[.int .i64 W, .slice (some ⟨g1, 0, none⟩) n1 c1]) (by simp [results, Try.results51, go_sem, r0, r1, hlt]) rfl ⟨_, _, _, rfl, ?_, (Ha.out.store HR.out _ _ _ _).alloc _, ?_⟩
  · have hne := HR.out.row_ne Hr1.out
    exact ((Hr1.out.far (p := ⟨w.heap.size + 1 + 1, 0, none⟩) hne _).far (p := ⟨w.heap.size + 1 + 1, 1, none⟩) hne _).alloc _
 
  exact ((Hb.out.setCell (by simp; omega) _).setCell (by simp; omega) _).alloc (by simp [World.setCell]; omega) _

/-- While a table's value is made. -/
def Imaging2 (w : World) (B0 W : Nat) (Z A D : Option Addr) (n c m d x y : Nat) (zs : List Nat) (wr : World) : Prop :=
  VarR w (w.heap.size + 1 + 1 + 1) (w.heap.size + 1 + 1) W B0 zs wr ∧ Fb wr w.heap.size #[.int .i64 W, .slice Z n c, .slice A m d] 53 ∧ Box wr (w.heap.size + 1) W D x y
section
variable {w : World} {B0 W : Nat} {Z A D : Option Addr} {n c m d x y : Nat} {zs zs' : List Nat} {wr w' : World}
theorem Imaging2.frame (h : Imaging2 w B0 W Z A D n c m d x y zs wr) : Below w.heap.size w wr := h.1.frame
theorem Imaging2.below (h : Imaging2 w B0 W Z A D n c m d x y zs wr) (hb : Below wr.heap.size wr w') : Imaging2 w B0 W Z A D n c m d x y zs w' :=
  ⟨h.1.below hb, h.2.1.below hb h.2.1.lt, h.2.2.below hb h.2.2.lt⟩
theorem Imaging2.put {g e f : Nat} (h : Imaging2 w B0 W Z A D n c m d x y zs wr) (hb : Below wr.heap.size wr w') (hr : Row w' g zs') (ha : Arg w' (some ⟨g, 0, none⟩) e zs') :
    Imaging2 w B0 W Z A D n c m d x y zs' ((w'.setCell ⟨w.heap.size + 1 + 1 + 1, 0, none⟩ (.int .i64 W)).setCell ⟨w.heap.size + 1 + 1 + 1, 1, none⟩ (.slice (some ⟨g, 0, none⟩) e f)) :=
  ⟨h.1.put hb hr ha W, ((h.2.1.below hb h.2.1.lt).far (by simp; omega) _).far (by simp; omega) _, ((h.2.2.below hb h.2.2.lt).far (by simp) _).far (by simp) _⟩
end

set_option maxHeartbeats 1600000 in
theorem refImage2_any (B0 W : Nat) (Z A D : Option Addr) (n c d x y : Nat) (zs ss : List Nat) (one : Nat → List Nat) (w : World)
    (hZ : Arg w Z n zs) (hO : ArgO w W A W one) (hD : Arg w D x ss) (hW : W ≤ 256) (hz : Bs.Fit W zs) (hs : Bs.Fit W ss) (ho : ∀ i, i < W → Bs.Fit W (one i)) (hB0 : B0 ≤ w.heap.size) (hZ0 : From w B0 Z zs) :
    Calls Try.prog 53 #[.agg #[.int .i64 W, .slice Z n c, .slice A W d], .agg #[.int .i64 W, .slice D x y]] w (RetFrom w B0 W (imTo zs one ss W W)) := by
  have HZ := hid hZ; have HO := hid hO; have HD := hid hD; have Hz := hid hz; have HS := hid hs; have Ho := hid ho
  have h4 := below4 w (.cells #[.int .i64 W, .slice Z n c, .slice A W d] 53) (.cells #[.int .i64 W, .slice D x y] 25) (.cells #[.int .i64 0, .slice none 0 0] 25) (.cells #[.int .i64 W, .slice Z n c] 25)
  have H4 := hid h4
  clear hZ hO hD hz hs ho h4
  have hT := (((Fb.new w #[.int .i64 W, .slice Z n c, .slice A W d] 53).alloc (.cells #[.int .i64 W, .slice D x y] 25)).alloc (.cells #[.int .i64 0, .slice none 0 0] 25)).alloc (.cells #[.int .i64 W, .slice Z n c] 25)
  have hS := ((Box.new (w.alloc (.cells #[.int .i64 W, .slice Z n c, .slice A W d] 53)) W D x y).alloc (.cells #[.int .i64 0, .slice none 0 0] 25)).alloc (.cells #[.int .i64 W, .slice Z n c] 25)
  have hR := (Box.new ((w.alloc (.cells #[.int .i64 W, .slice Z n c, .slice A W d] 53)).alloc (.cells #[.int .i64 W, .slice D x y] 25)) 0 none 0 0).alloc (.cells #[.int .i64 W, .slice Z n c] 25)
  have hV0 := Box.new (((w.alloc (.cells #[.int .i64 W, .slice Z n c, .slice A W d] 53)).alloc (.cells #[.int .i64 W, .slice D x y] 25)).alloc (.cells #[.int .i64 0, .slice none 0 0] 25)) W Z n c
  simp only [World.size_alloc] at hT hS hR hV0
  have hV : VarR w (w.heap.size + 1 + 1 + 1) (w.heap.size + 1 + 1) W B0 (imTo zs one ss W 0) ((((w.alloc (.cells #[.int .i64 W, .slice Z n c, .slice A W d] 53)).alloc (.cells #[.int .i64 W, .slice D x y] 25)).alloc (.cells #[.int .i64 0, .slice none 0 0] 25)).alloc (.cells #[.int .i64 W, .slice Z n c] 25)) :=
    ⟨Z, n, c, hV0, by rw [imTo_zero one ss Hz.out]; exact HZ.out.below H4.out, ⟨hB0, by rw [imTo_zero one ss Hz.out]; exact hZ0.below H4.out hB0⟩, by omega, by omega, by omega, hR, H4.out⟩
  have Hinv := hid (And.intro hV (And.intro hT hS))
  clear hT hS hR hV0 hV hZ0 hB0
  go_enter Try.func53, Try.ntmps53
  go_wp2_with fail
  go_loopw [6] (fun i wr => ∃ b : Nat, b ≤ W ∧ i = .int .i64 b ∧ Hid (Imaging2 w B0 W Z A D n c W d x y (imTo zs one ss W b) wr)) (fun i _ => W - (intOf i).toNat)
  case atStart => exact ⟨0, by omega, rfl, Hinv⟩
  case round =>
    obtain ⟨b, hb, rfl, hI⟩ := hrel
    obtain ⟨s0, s1⟩ := And.intro hI.out.2.2.c0 hI.out.2.2.c1
    by_cases hlt : b < W
    · go_wp2_with fail
      refine (refHas_any W D x y ss b _ (HD.out.below hI.out.frame)).mono ?_
      rw [Bs.hasB_nat HS.out hW b]
      rintro e w1 ⟨rfl, hb1⟩
      have hI1 := hid (hI.out.below hb1)
      clear hb1 s0 s1 hI
      cases hv : Bs.bit ss b with
      | false =>
        have HE := hid (imTo_no (zero := zs) (one := one) (W := W) hv)
        clear hv
        go_wp2_with fail
        go_roundw
        case rel => exact ⟨b + 1, by omega, by go_num, by rw [HE.out]; exact hI1⟩
        case measure => simp [intOf]; omega
      | true =>
        have HE := hid (imTo_yes (zero := zs) (one := one) (W := W) hv)
        clear hv
        obtain ⟨Ao, no, co, _, o0, o1, hao, hol⟩ := hI1.out.1.load
        obtain ⟨x0, x1, x2⟩ := hI1.out.2.1.three
        obtain ⟨ad, Bo, mo, cb, rfl, had, g1, g2, hbo⟩ := (HO.out.below hI1.out.frame).cell hlt
        have Hao := hid hao; have Hbo := hid hbo
        have k0 : (0 : Int) ≤ b := by omega
        have k1 : (b : Int) < W := by omega
        have k2 : (b : Int).toNat = b := by omega
        clear hao hbo
        go_wp2_with fail
        refine wp_region_still_tail 6 (by kernel_rfl) (by kernel_rfl) ?_
        simp only [List.take_succ_cons, List.take_zero, List.drop_succ_cons, List.drop_zero]
        repeat still_step
        try refine wpStill_nil ?_
        change wpList _ _ _ _ _ w1.drew
        have hI2 := hid (hI1.out.below (below_drewN (Below.refl _ _) 1))
        have Hao2 := hid (Hao.out.below (below_drewN (Below.refl _ _) 1))
        have Hbo2 := hid (Hbo.out.below (below_drewN (Below.refl _ _) 1))
        change Hid (Imaging2 w B0 W Z _ D n c W d x y (imTo zs one ss W b) w1.drew) at hI2
        change Hid (Arg w1.drew Ao no _) at Hao2
        change Hid (Arg w1.drew Bo mo _) at Hbo2
        clear k0 k1 k2 o0 o1 x0 x1 x2 g1 g2 had hol Hao Hbo hI1
        generalize w1.drew = w2 at *
        go_wp2_with fail
        refine (refJoin2_any W Ao Bo no co mo cb _ _ w2 Hao2.out Hbo2.out hW (fit_imTo zs one ss W b) (Ho.out b hlt)).mono ?_
        rw [HE.out]
        rintro e w5 ⟨g5, n5, c5, rfl, hr5, ha5, hb5⟩
        obtain ⟨A6, n6, c6, p0, p1, q0, q1⟩ := hI2.out.1.stores hb5
        have Hfin := hid (hI2.out.put (f := c5) hb5 hr5 ha5)
        clear ha5 hb5 hr5
        go_wp2_with fail
        go_roundw
        case rel => exact ⟨b + 1, by omega, by go_num, Hfin⟩
        case measure => simp [intOf]; omega
    · have hbW : b = W := by omega
      subst hbW
      obtain ⟨Ao, no, co, o0, o1, harg, hfrm, hbel⟩ := hI.out.1.done
      obtain ⟨⟨⟨r0, r1⟩, f0, f1⟩, hne⟩ := hI.out.1.cells
      have Harg := hid harg; have Hbel := hid hbel; have Hfrm := hid hfrm
      clear harg hbel hfrm
      go_wp2_with fail
      exact bodyPost_ret (v := .agg #[.int .i64 b, .slice Ao no co]) (by simp [results, Try.results53, go_sem, r0, r1]) rfl ⟨_, _, _, rfl, Harg.out, Hfrm.out, Hbel.out⟩

end Go.Proofs.Ytmbelhdkaepohaa
