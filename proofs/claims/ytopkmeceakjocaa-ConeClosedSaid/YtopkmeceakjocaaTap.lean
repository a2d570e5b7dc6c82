/- The reference's Follows and Apply. -/
import Derived.Test.YtopkmeceakjocaaTval
import Derived.Test.YtopkmeceakjocaaMix
namespace Go.Proofs.Ytopkmeceakjocaa
set_option maxRecDepth 20000
open Go.ChangeShapes Go.WideShapes Go.ChangeAt Go.RowKit

/-- P3.1. -/
def followsB (W : Int) (gs : List Nat) (V : Int) (ks : List Nat) (cs : List (Int × Int)) (a b : Int) : Bool :=
  validT W gs V ks cs && (decide (0 ≤ a) && decide (a < W) && decide (0 ≤ b) && decide (b < W)) && folB V ks cs a b
/-- P3.2. -/
def applyR (W : Int) (gs : List Nat) (V : Int) (ks : List Nat) (cs : List (Int × Int)) (X : Int) (ss : List Nat) : Int × List Nat × Int :=
  if validT W gs V ks cs = false ∨ Bs.validB X ss = false then (0, [], 1)
  else if W ≠ X then (0, [], 2)
  else (W, valR gs ss (folB W ks cs) W.toNat, 0)

theorem validT_iff {W V : Int} {gs ks : List Nat} {cs : List (Int × Int)} (h : validT W gs V ks cs = true) :
    Bs.validB W gs = true ∧ Bs.validB V ks = true ∧ W = V ∧ cs.length ≤ 64 ∧ ∀ i, i < cs.length → okAt W cs i = true := by
  unfold validT at h
  simp only [Bool.and_eq_true, decide_eq_true_eq, List.all_eq_true, List.mem_range] at h
  exact ⟨h.1.1.1.1, h.1.1.1.2, h.1.1.2, h.1.2, h.2⟩

/-- A function, a set and the empty result in three new blocks. -/
def Applying (w : World) (W V X : Int) (A B C D : Option Addr) (n c m d k q x y : Nat) (wr : World) : Prop :=
  Fb wr w.heap.size #[.int .i64 W, .slice A n c, .int .i64 V, .slice B m d, .slice C k q] 61 ∧ Box wr (w.heap.size + 1) X D x y ∧ Box wr (w.heap.size + 1 + 1) 0 none 0 0 ∧ Below w.heap.size w wr
section
variable {w : World} {W V X : Int} {A B C D : Option Addr} {n c m d k q x y : Nat} {wr w' : World}
theorem Applying.start (w : World) (W V X : Int) (A B C D : Option Addr) (n c m d k q x y : Nat) :
    Applying w W V X A B C D n c m d k q x y (((w.alloc (.cells #[.int .i64 W, .slice A n c, .int .i64 V, .slice B m d, .slice C k q] 61)).alloc (.cells #[.int .i64 X, .slice D x y] 50)).alloc (.cells #[.int .i64 0, .slice none 0 0] 50)) := by
  have hS := (Box.new (w.alloc (.cells #[.int .i64 W, .slice A n c, .int .i64 V, .slice B m d, .slice C k q] 61)) X D x y).alloc (.cells #[.int .i64 0, .slice none 0 0] 50)
  have hR := Box.new ((w.alloc (.cells #[.int .i64 W, .slice A n c, .int .i64 V, .slice B m d, .slice C k q] 61)).alloc (.cells #[.int .i64 X, .slice D x y] 50)) 0 none 0 0
  simp only [World.size_alloc] at hS hR
  exact ⟨((Fb.new w _ 61).alloc _).alloc _, hS, hR, below3 w _ _ _⟩
theorem Applying.below (h : Applying w W V X A B C D n c m d k q x y wr) (hb : Below wr.heap.size wr w') : Applying w W V X A B C D n c m d k q x y w' :=
  ⟨h.1.below hb h.1.lt, h.2.1.below hb h.2.1.lt, h.2.2.1.below hb h.2.2.1.lt, h.2.2.2.trans (hb.mono h.2.2.2.size)⟩
theorem Applying.res (h : Applying w W V X A B C D n c m d k q x y wr) :
    (wr.cell? ⟨w.heap.size + 1 + 1, 0, none⟩ = some (.int .i64 0) ∧ wr.cell? ⟨w.heap.size + 1 + 1, 1, none⟩ = some (.slice none 0 0)) ∧ wr.frozen? ⟨w.heap.size + 1 + 1, 0, none⟩ = false ∧ wr.frozen? ⟨w.heap.size + 1 + 1, 1, none⟩ = false :=
  ⟨⟨h.2.2.1.c0, h.2.2.1.c1⟩, h.2.2.1.f 0, h.2.2.1.f 1⟩
theorem Applying.stored (h : Applying w W V X A B C D n c m d k q x y wr) (Y : Int) (E : Option Addr) (e f : Nat) :
    Below w.heap.size w ((wr.setCell ⟨w.heap.size + 1 + 1, 0, none⟩ (.int .i64 Y)).setCell ⟨w.heap.size + 1 + 1, 1, none⟩ (.slice E e f)) :=
  (h.2.2.2.setCell (by simp; omega) _).setCell (by simp; omega) _
end

set_option maxHeartbeats 800000 in
theorem refApply_any (W V X : Int) (A B C D : Option Addr) (n c m d k q x y : Nat) (gs ks ss : List Nat) (cs : List (Int × Int)) (w : World)
    (hA : Arg w A n gs) (hB : Arg w B m ks) (hC : ArgC w C k cs) (hD : Arg w D x ss) :
    Calls Try.prog 73 #[.agg #[.int .i64 W, .slice A n c, .int .i64 V, .slice B m d, .slice C k q], .agg #[.int .i64 X, .slice D x y]] w
      (RetErr w (applyR W gs V ks cs X ss)) := by
  have HA := hid hA; have HB := hid hB; have HC := hid hC; have HD := hid hD
  have H0 := hid (Applying.start w W V X A B C D n c m d k q x y)
  clear hA hB hC hD
  go_enter Try.func73, Try.ntmps73
  go_wp2_with fail
  refine (refValidT_any W V A B C n c m d k q gs ks cs _ (HA.out.below H0.out.2.2.2) (HB.out.below H0.out.2.2.2) (HC.out.below H0.out.2.2.2)).mono ?_
  cases hv : validT W gs V ks cs with
  | false =>
    rintro e w1 ⟨rfl, hb1⟩
    have H1 := hid (H0.out.below hb1)
    have Hr := hid (show applyR W gs V ks cs X ss = (0, [], 1) by unfold applyR; rw [if_pos (.inl hv)])
    clear hb1 hv
    obtain ⟨⟨r0, r1⟩, f0, f1⟩ := H1.out.res
    go_wp2_with fail
    refine bodyPost_ret (v := .tuple #[.agg #[.int .i64 0, .slice none 0 0], .int .i64 1]) (by simp [results, Try.results73, go_sem, r0, r1]) rfl ?_
    rw [Hr.out]
    exact ⟨_, _, _, rfl, Arg.nil _ _, H1.out.stored _ _ _ _⟩
  | true =>
    have Hv := hid hv
    obtain ⟨h1, h2, h3, h4, h5⟩ := validT_iff hv
    have HK := hid (show k ≤ maxLen by rw [HC.out.len] at h4; unfold maxLen; omega)
    rintro e w1 ⟨rfl, hb1⟩
    have H1 := hid (H0.out.below hb1)
    clear hb1 hv h4 h5
    obtain ⟨s0, s1⟩ := And.intro H1.out.2.1.c0 H1.out.2.1.c1
    go_wp2_with fail
    refine (refValid_any X D x y ss _ (HD.out.below H1.out.2.2.2).lies HD.out.ok HD.out.len).mono ?_
    clear s0 s1
    cases hs : Bs.validB X ss with
    | false =>
      rintro e w2 ⟨rfl, hb2⟩
      have H2 := hid (H1.out.below hb2)
      have Hr := hid (show applyR W gs V ks cs X ss = (0, [], 1) by unfold applyR; rw [if_pos (.inr hs)])
      clear hb2 hs h1 h2 h3
      obtain ⟨⟨r0, r1⟩, f0, f1⟩ := H2.out.res
      go_wp2_with fail
      refine bodyPost_ret (v := .tuple #[.agg #[.int .i64 0, .slice none 0 0], .int .i64 1]) (by simp [results, Try.results73, go_sem, r0, r1]) rfl ?_
      rw [Hr.out]
      exact ⟨_, _, _, rfl, Arg.nil _ _, H2.out.stored _ _ _ _⟩
    | true =>
      rintro e w2 ⟨rfl, hb2⟩
      have H2 := hid (H1.out.below hb2)
      clear hb2
      obtain ⟨⟨r0, r1⟩, f0, f1⟩ := H2.out.res
      obtain ⟨s0, s1⟩ := And.intro H2.out.2.1.c0 H2.out.2.1.c1
      obtain ⟨t0, t1, t2, t3, t4⟩ := H2.out.1.five
      by_cases hWX : W = X
      · subst hWX
        subst h3
        have Hr := hid (show applyR W gs W ks cs W ss = (W, valR gs ss (folB W ks cs) W.toNat, 0) by unfold applyR; rw [if_neg (by simp [Hv.out, hs]), if_neg (by simp)])
        have hfg := Bs.fit_of_valid h1 HA.out.ok
        have hfs := Bs.fit_of_valid hs HD.out.ok
        obtain ⟨v, rfl⟩ := Int.eq_ofNat_of_zero_le (Bs.validB_iff.1 h1).1
        have hv256 : v ≤ 256 := by have := (Bs.validB_iff.1 h1).2.1; omega
        rw [Int.toNat_natCast] at hfg hfs
        have Hfg := hid hfg; have Hfs := hid hfs; have Hv2 := hid hv256
        clear h1 h2 hs hfg hfs hv256
        go_wp2_with fail
        refine (refValue_any _ v A B C D n c m d k q x y gs ks ss cs _ (HA.out.below H2.out.2.2.2) (HB.out.below H2.out.2.2.2) (HC.out.below H2.out.2.2.2) (HD.out.below H2.out.2.2.2) HK.out Hv2.out Hfg.out Hfs.out (Nat.le_refl _) (HA.out.below H2.out.2.2.2).lies).mono ?_
        clear r0 r1 f0 f1 s0 s1 t0 t1 t2 t3 t4
        rintro e w3 ⟨A3, n3, c3, rfl, ha3, _, hb3⟩
        have H3 := hid (H2.out.below hb3)
        have Ha3 := hid ha3
        clear hb3 ha3
        obtain ⟨⟨r0, r1⟩, f0, f1⟩ := H3.out.res
        go_wp2_with fail
        refine bodyPost_ret (v := .tuple #[.agg #[.int .i64 v, .slice A3 n3 c3], .int .i64 0]) (by simp [results, Try.results73, go_sem, r0, r1]) rfl ?_
        rw [Hr.out]
        exact ⟨_, _, _, rfl, Ha3.out.store H3.out.2.2.1 _ _ _ _, H3.out.stored _ _ _ _⟩
      · have Hr := hid (show applyR W gs V ks cs X ss = (0, [], 2) by unfold applyR; rw [if_neg (by simp [Hv.out, hs]), if_pos hWX])
        have t : (W != X) = true := by simp [hWX]
        clear hWX h1 h2 h3 hs
        go_wp2_with fail
        refine bodyPost_ret (v := .tuple #[.agg #[.int .i64 0, .slice none 0 0], .int .i64 2]) (by simp [results, Try.results73, go_sem, r0, r1]) rfl ?_
        rw [Hr.out]
        exact ⟨_, _, _, rfl, Arg.nil _ _, H2.out.stored _ _ _ _⟩
end Go.Proofs.Ytopkmeceakjocaa
