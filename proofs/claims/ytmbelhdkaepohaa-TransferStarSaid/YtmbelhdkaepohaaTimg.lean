/- The reference's Join and image: the union of two sets of one width, and the value of a table. -/
import Derived.Test.YtmbelhdkaepohaaTtab
import Derived.Test.YtmbelhdkaepohaaThree
import Derived.StillTailTactics
namespace Go.Proofs.Ytmbelhdkaepohaa
set_option maxRecDepth 20000
open Go.ChangeShapes Go.WideShapes Go.ChangeAt Go.RowKit

def orR (W : Nat) (ws xs : List Nat) : List Nat := Bs.ofP W (fun i => Bs.bit ws i || Bs.bit xs i) W
theorem fit_orR (W : Nat) (ws xs : List Nat) : Bs.Fit W (orR W ws xs) := Bs.fit_ofP _ _ _ (Nat.le_refl _)
theorem mixR_or {W : Nat} {ws xs : List Nat} (hW : W ≤ 256) (h1 : Bs.Fit W ws) (h2 : Bs.Fit W xs) : mixR (flag true true true) W ws W xs = ((W : Int), orR W ws xs, 0) := by
  unfold mixR orR
  rw [if_neg (by simp [Bs.valid_of_fit h1 hW, Bs.valid_of_fit h2 hW]), if_neg (by simp), Int.toNat_natCast]
  congr 2
  refine Bs.ofP_congr fun i _ => ?_
  unfold flag
  cases Bs.bit ws i <;> cases Bs.bit xs i <;> rfl

set_option maxHeartbeats 800000 in
theorem refJoin_any (W : Nat) (A B : Option Addr) (n c m d : Nat) (ws xs : List Nat) (w : World) (hA : Arg w A n ws) (hB : Arg w B m xs) (hW : W ≤ 256) (h1 : Bs.Fit W ws) (h2 : Bs.Fit W xs) :
    Calls Try.prog 51 #[.agg #[.int .i64 W, .slice A n c], .agg #[.int .i64 W, .slice B m d]] w (RetSet w W (orR W ws xs)) := by
  have HA := hid hA; have HB := hid hB
  have HM := hid (mixR_or hW h1 h2)
  clear hA hB h1 h2
  obtain ⟨hx1, hx2, hx3⟩ := box3 w W W A B n c m d
  have hx4 := below3 w (.cells #[.int .i64 W, .slice A n c] 25) (.cells #[.int .i64 W, .slice B m d] 25) (.cells #[.int .i64 0, .slice none 0 0] 25)
  have Hx3 := hid hx3; have Hx4 := hid hx4
  clear hx1 hx2 hx3 hx4
  go_enter Try.func51, Try.ntmps51
  go_wp2_with fail
  refine (refUnion_any W W A B n c m d ws xs _ (HA.out.below Hx4.out) (HB.out.below Hx4.out)).mono ?_
  rw [HM.out]
  rintro e w1 ⟨A1, n1, c1, rfl, ha, hb⟩
  have Ha := hid ha
  have hz := hb.size
  simp only [World.size_alloc] at hz
  have hR := Hx3.out.below hb (by simp)
  have r0 := hR.c0
  have r1 := hR.c1
  have f0 := hR.f 0
  have f1 := hR.f 1
  have HR := hid hR
  have Hb := hid (Hx4.out.trans (hb.mono (by simp only [World.size_alloc]; omega)))
  have hlt : w.heap.size + 1 + 1 < w1.heap.size := by omega
  clear ha hb hR
  simp only []
  go_wp2_with fail
  refine bodyPost_ret (v := .agg #[.int .i64 W, .slice A1 n1 c1]) (by simp [results, Try.results51, go_sem, r0, r1, hlt]) rfl ⟨_, _, _, rfl, (Ha.out.store HR.out _ _ _ _).alloc _, ?_⟩
  exact ((Hb.out.setCell (by simp; omega) _).setCell (by simp; omega) _).alloc (by simp [World.setCell]; omega) _

/-- A row of n sets, as an argument. -/
def ArgO (w : World) (W : Int) (A : Option Addr) (n : Nat) (one : Nat → List Nat) : Prop :=
  ∃ l : List (Option Addr × Nat × Nat), l.length = n ∧ At w w.heap.size A (setCells W l) ∧ ∀ i p, l[i]? = some p → Arg w p.1 p.2.1 (one i)
theorem ArgO.below {w w' : World} {W : Int} {A : Option Addr} {n : Nat} {one : Nat → List Nat} (h : ArgO w W A n one) (hb : Below w.heap.size w w') : ArgO w' W A n one := by
  obtain ⟨l, h1, h2, h3⟩ := h
  exact ⟨l, h1, h2.below hb hb.size, fun i p hp => (h3 i p hp).below hb⟩
theorem setCells_get {W : Int} {l : List (Option Addr × Nat × Nat)} {i : Nat} {p : Option Addr × Nat × Nat} (h : l[i]? = some p) :
    (setCells W l)[i * 2]? = some (.int .i64 W) ∧ (setCells W l)[i * 2 + 1]? = some (.slice p.1 p.2.1 p.2.2) := by
  induction l generalizing i with
  | nil => simp at h
  | cons q l ih =>
    have e : setCells W (q :: l) = .int .i64 W :: .slice q.1 q.2.1 q.2.2 :: setCells W l := by simp [setCells]
    cases i with
    | zero =>
      simp only [List.getElem?_cons_zero, Option.some.injEq] at h
      subst h; rw [e]; exact ⟨rfl, rfl⟩
    | succ i =>
      obtain ⟨h1, h2⟩ := ih (by simpa using h)
      rw [e, show (i + 1) * 2 = i * 2 + 1 + 1 from by omega]
      exact ⟨by simpa using h1, by simpa using h2⟩
theorem ArgO.cell {w : World} {W : Int} {A : Option Addr} {n : Nat} {one : Nat → List Nat} (h : ArgO w W A n one) {i : Nat} (hi : i < n) :
    ∃ (ad : Addr) (B : Option Addr) (m c : Nat), A = some ad ∧ ad.block < w.heap.size ∧ w.cell? (ad.add (i * 2)) = some (.int .i64 W) ∧ w.cell? ⟨(ad.add (i * 2)).block, (ad.add (i * 2)).off + 1, none⟩ = some (.slice B m c) ∧ Arg w B m (one i) := by
  obtain ⟨l, h1, h2, h3⟩ := h
  have hl : l[i]? = some (l[i]'(by omega)) := List.getElem?_eq_getElem _
  obtain ⟨g1, g2⟩ := setCells_get (W := W) hl
  obtain ⟨ad, e, hb, hc⟩ := h2.cell g1
  obtain ⟨ad2, e2, _, hc2⟩ := h2.cell g2
  rw [e] at e2; cases e2
  exact ⟨ad, _, _, _, e, hb, hc, by rw [show (⟨(ad.add (i * 2)).block, (ad.add (i * 2)).off + 1, none⟩ : Addr) = (ad.add (i * 2)).add 1 from rfl, Go.Deep.add_add]; exact hc2, h3 _ _ hl⟩
theorem own_at {w : World} {base : Nat} {ty : TypeId} {k : Nat} {A : Option Addr} {n c : Nat} {xs : List Value} (h : w.ownsRow base ty k (.slice A n c) n xs) : At w w.heap.size A xs := by
  have hl := h.1
  rcases h.2 with ⟨e, rfl⟩ | ⟨g, cap, cur, e, _, hg, _, _, _, hx⟩
  · exact .inl (List.eq_nil_of_length_eq_zero (by omega))
  · injection e with e1 _ e3
    subst e1
    refine .inr ⟨_, rfl, (Array.getElem?_eq_some_iff.1 hg).1, fun j u hu => ?_⟩
    rw [add_of]
    have hj : (cur.toList.take (n * k))[j]? = some u := by rw [hx]; exact hu
    rw [List.getElem?_take] at hj
    split at hj
    · simp only [World.cell?, hg]
      simpa using hj
    · cases hj
theorem Ones.argO {w : World} {base B0 : Nat} {W : Int} {A : Option Addr} {c : Nat} {one : Nat → List Nat} {n : Nat} (h : Ones w base B0 W (.slice A n c) one n) (hB : B0 ≤ w.heap.size) (hok : ∀ i, i < n → ∀ x ∈ one i, x < Bs.W64) : ArgO w W A n one := by
  obtain ⟨l, h1, h2, h3⟩ := h
  refine ⟨l, h1, own_at h2, fun i p hp => (h3 i p hp).1.arg hB (h3 i p hp).2.symm (hok i ?_)⟩
  have := (List.getElem?_eq_some_iff.1 hp).1
  omega

/-- The value of a table for a set, from its first k members. -/
def imTo (zero : List Nat) (one : Nat → List Nat) (ss : List Nat) (W k : Nat) : List Nat :=
  Bs.ofP W (fun i => Bs.bit zero i || (List.range k).any (fun b => Bs.bit ss b && Bs.bit (one b) i)) W
theorem fit_imTo (zero : List Nat) (one : Nat → List Nat) (ss : List Nat) (W k : Nat) : Bs.Fit W (imTo zero one ss W k) := Bs.fit_ofP _ _ _ (Nat.le_refl _)
theorem imTo_zero {zero : List Nat} (one : Nat → List Nat) (ss : List Nat) {W : Nat} (h : Bs.Fit W zero) : imTo zero one ss W 0 = zero := by
  unfold imTo
  exact (Bs.ofP_congr fun i _ => by simp).trans (Bs.ofP_bit h)
theorem imTo_no {zero : List Nat} {one : Nat → List Nat} {ss : List Nat} {W k : Nat} (h : Bs.bit ss k = false) : imTo zero one ss W (k + 1) = imTo zero one ss W k := by
  unfold imTo
  refine Bs.ofP_congr fun i _ => ?_
  rw [any_succ, h]; simp
theorem imTo_yes {zero : List Nat} {one : Nat → List Nat} {ss : List Nat} {W k : Nat} (h : Bs.bit ss k = true) : orR W (imTo zero one ss W k) (one k) = imTo zero one ss W (k + 1) := by
  unfold orR
  conv => rhs; unfold imTo
  refine Bs.ofP_congr fun i hi => ?_
  rw [any_succ, h]
  unfold imTo
  rw [Bs.bit_ofP _ _ _ (Nat.le_refl _)]
  simp [hi, Bool.or_assoc]

/-- While a table's value is made. -/
def Imaging (w : World) (W : Nat) (Z A D : Option Addr) (n c m d x y : Nat) (zs : List Nat) (wr : World) : Prop :=
  Var w (w.heap.size + 1 + 1 + 1) (w.heap.size + 1 + 1) W zs wr ∧ Fb wr w.heap.size #[.int .i64 W, .slice Z n c, .slice A m d] 53 ∧ Box wr (w.heap.size + 1) W D x y
section
variable {w : World} {W : Nat} {Z A D : Option Addr} {n c m d x y : Nat} {zs zs' : List Nat} {wr w' : World}
theorem Imaging.frame (h : Imaging w W Z A D n c m d x y zs wr) : Below w.heap.size w wr := h.1.frame
theorem Imaging.below (h : Imaging w W Z A D n c m d x y zs wr) (hb : Below wr.heap.size wr w') : Imaging w W Z A D n c m d x y zs w' :=
  ⟨h.1.below hb, h.2.1.below hb h.2.1.lt, h.2.2.below hb h.2.2.lt⟩
theorem Imaging.put {E : Option Addr} {e f : Nat} (h : Imaging w W Z A D n c m d x y zs wr) (hb : Below wr.heap.size wr w') (ha : Arg w' E e zs') :
    Imaging w W Z A D n c m d x y zs' ((w'.setCell ⟨w.heap.size + 1 + 1 + 1, 0, none⟩ (.int .i64 W)).setCell ⟨w.heap.size + 1 + 1 + 1, 1, none⟩ (.slice E e f)) :=
  ⟨h.1.put hb ha W, ((h.2.1.below hb h.2.1.lt).far (by simp; omega) _).far (by simp; omega) _, ((h.2.2.below hb h.2.2.lt).far (by simp) _).far (by simp) _⟩
end

set_option maxHeartbeats 1600000 in
theorem refImage_any (W : Nat) (Z A D : Option Addr) (n c d x y : Nat) (zs ss : List Nat) (one : Nat → List Nat) (w : World)
    (hZ : Arg w Z n zs) (hO : ArgO w W A W one) (hD : Arg w D x ss) (hW : W ≤ 256) (hz : Bs.Fit W zs) (hs : Bs.Fit W ss) (ho : ∀ i, i < W → Bs.Fit W (one i)) :
    Calls Try.prog 53 #[.agg #[.int .i64 W, .slice Z n c, .slice A W d], .agg #[.int .i64 W, .slice D x y]] w (RetSet w W (imTo zs one ss W W)) := by
  have HZ := hid hZ; have HO := hid hO; have HD := hid hD; have Hz := hid hz; have HS := hid hs; have Ho := hid ho
  have h4 := below4 w (.cells #[.int .i64 W, .slice Z n c, .slice A W d] 53) (.cells #[.int .i64 W, .slice D x y] 25) (.cells #[.int .i64 0, .slice none 0 0] 25) (.cells #[.int .i64 W, .slice Z n c] 25)
  have H4 := hid h4
  clear hZ hO hD hz hs ho h4
  have hT := (((Fb.new w #[.int .i64 W, .slice Z n c, .slice A W d] 53).alloc (.cells #[.int .i64 W, .slice D x y] 25)).alloc (.cells #[.int .i64 0, .slice none 0 0] 25)).alloc (.cells #[.int .i64 W, .slice Z n c] 25)
  have hS := ((Box.new (w.alloc (.cells #[.int .i64 W, .slice Z n c, .slice A W d] 53)) W D x y).alloc (.cells #[.int .i64 0, .slice none 0 0] 25)).alloc (.cells #[.int .i64 W, .slice Z n c] 25)
  have hR := (Box.new ((w.alloc (.cells #[.int .i64 W, .slice Z n c, .slice A W d] 53)).alloc (.cells #[.int .i64 W, .slice D x y] 25)) 0 none 0 0).alloc (.cells #[.int .i64 W, .slice Z n c] 25)
  have hV0 := Box.new (((w.alloc (.cells #[.int .i64 W, .slice Z n c, .slice A W d] 53)).alloc (.cells #[.int .i64 W, .slice D x y] 25)).alloc (.cells #[.int .i64 0, .slice none 0 0] 25)) W Z n c
  simp only [World.size_alloc] at hT hS hR hV0
  have hV : Var w (w.heap.size + 1 + 1 + 1) (w.heap.size + 1 + 1) W (imTo zs one ss W 0) ((((w.alloc (.cells #[.int .i64 W, .slice Z n c, .slice A W d] 53)).alloc (.cells #[.int .i64 W, .slice D x y] 25)).alloc (.cells #[.int .i64 0, .slice none 0 0] 25)).alloc (.cells #[.int .i64 W, .slice Z n c] 25)) :=
    ⟨Z, n, c, hV0, by rw [imTo_zero one ss Hz.out]; exact HZ.out.below H4.out, by omega, by omega, by omega, hR, H4.out⟩
  have Hinv := hid (And.intro hV (And.intro hT hS))
  clear hT hS hR hV0 hV
  go_enter Try.func53, Try.ntmps53
  go_wp2_with fail
  go_loopw [6] (fun i wr => ∃ b : Nat, b ≤ W ∧ i = .int .i64 b ∧ Hid (Imaging w W Z A D n c W d x y (imTo zs one ss W b) wr)) (fun i _ => W - (intOf i).toNat)
  case atStart => exact ⟨0, by omega, rfl, Hinv⟩
  case round =>
    obtain ⟨b, hb, rfl, hI⟩ := hrel
    obtain ⟨s0, s1⟩ := And.intro hI.out.2.2.c0 hI.out.2.2.c1
    by_cases hlt : b < W
    · go_wp2_with fail
      refine (refHas_any W D x y ss b _ (HD.out.below hI.out.frame)).mono ?_
      rw [Bs.hasB_nat HS.out hW b]
      rintro e w1 ⟨rfl, hb1⟩
      have hI1 := hid (hI.out.below hb1)
      clear hb1 s0 s1 hI
      cases hv : Bs.bit ss b with
      | false =>
        have HE := hid (imTo_no (zero := zs) (one := one) (W := W) hv)
        clear hv
        go_wp2_with fail
        go_roundw
        case rel => exact ⟨b + 1, by omega, by go_num, by rw [HE.out]; exact hI1⟩
        case measure => simp [intOf]; omega
      | true =>
        have HE := hid (imTo_yes (zero := zs) (one := one) (W := W) hv)
        clear hv
        obtain ⟨Ao, no, co, _, o0, o1, hao, hol⟩ := hI1.out.1.load
        obtain ⟨x0, x1, x2⟩ := hI1.out.2.1.three
        obtain ⟨ad, Bo, mo, cb, rfl, had, g1, g2, hbo⟩ := (HO.out.below hI1.out.frame).cell hlt
        have Hao := hid hao; have Hbo := hid hbo
        have k0 : (0 : Int) ≤ b := by omega
        have k1 : (b : Int) < W := by omega
        have k2 : (b : Int).toNat = b := by omega
        clear hao hbo
        go_wp2_with fail
        refine wp_region_still_tail 6 (by kernel_rfl) (by kernel_rfl) ?_
        simp only [List.take_succ_cons, List.take_zero, List.drop_succ_cons, List.drop_zero]
        repeat still_step
        try refine wpStill_nil ?_
        change wpList _ _ _ _ _ w1.drew
        have hI2 := hid (hI1.out.below (below_drewN (Below.refl _ _) 1))
        have Hao2 := hid (Hao.out.below (below_drewN (Below.refl _ _) 1))
        have Hbo2 := hid (Hbo.out.below (below_drewN (Below.refl _ _) 1))
        change Hid (Imaging w W Z _ D n c W d x y (imTo zs one ss W b) w1.drew) at hI2
        change Hid (Arg w1.drew Ao no _) at Hao2
        change Hid (Arg w1.drew Bo mo _) at Hbo2
        clear k0 k1 k2 o0 o1 x0 x1 x2 g1 g2 had hol Hao Hbo hI1
        generalize w1.drew = w2 at *
        go_wp2_with fail
        refine (refJoin_any W Ao Bo no co mo cb _ _ w2 Hao2.out Hbo2.out hW (fit_imTo zs one ss W b) (Ho.out b hlt)).mono ?_
        rw [HE.out]
        rintro e w5 ⟨A5, n5, c5, rfl, ha5, hb5⟩
        obtain ⟨A6, n6, c6, p0, p1, q0, q1⟩ := hI2.out.1.stores hb5
        have Hfin := hid (hI2.out.put (f := c5) hb5 ha5)
        clear ha5 hb5
        go_wp2_with fail
        go_roundw
        case rel => exact ⟨b + 1, by omega, by go_num, Hfin⟩
        case measure => simp [intOf]; omega
    · have hbW : b = W := by omega
      subst hbW
      obtain ⟨Ao, no, co, o0, o1, harg, hbel⟩ := hI.out.1.done
      obtain ⟨⟨⟨r0, r1⟩, f0, f1⟩, hne⟩ := hI.out.1.cells
      have Harg := hid harg; have Hbel := hid hbel
      clear harg hbel
      go_wp2_with fail
      exact bodyPost_ret (v := .agg #[.int .i64 b, .slice Ao no co]) (by simp [results, Try.results53, go_sem, r0, r1]) rfl ⟨_, _, _, rfl, Harg.out, Hbel.out⟩
end Go.Proofs.Ytmbelhdkaepohaa
