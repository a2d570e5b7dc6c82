/- The package's Equal, Subset, Has, Members and Count. -/
import Derived.Test.YtopkmeceakjocaaDev
import Derived.Test.YtopkmeceakjocaaEqual
namespace Go.Proofs.Ytopkmeceakjocaa
set_option maxRecDepth 20000
open Go.ChangeShapes Go.WideShapes Go.ChangeAt Go.RowKit

theorem slicesEq_any (A B : Option Addr) (n c m d : Nat) (xs ys : List Nat) (w : World) (hA : Arg w A n xs) (hB : Arg w B m ys) (hn : n ≤ maxLen) :
    Calls Try.prog 94 #[.slice A n c, .slice B m d] w fun e w' => e = .returned (.bool (decide (xs = ys))) ∧ Below w.heap.size w w' := by
  by_cases hnm : n = m
  · subst hnm
    unfold maxLen at hn
    have HA := hid hA; have HB := hid hB
    have t2 : ((n : Int) != (n : Int)) = false := by simp
    clear hA hB
    go_enter Try.func94, Try.ntmps94
    go_wp2
    clear t2
    go_loopw [5, 13] (fun _ i wr => ∃ k : Nat, k ≤ n ∧ i = .int .i64 k ∧ Hid (∀ j, j < k → Bs.wd xs j = Bs.wd ys j) ∧ ∃ q : Nat, wr = w.drewN q) (fun _ i _ => n - (intOf i).toNat)
    case atStart => exact ⟨0, by omega, rfl, fun j h => by omega, 0, rfl⟩
    case round =>
      obtain ⟨k, hk, rfl, hb, q, rfl⟩ := hrel
      by_cases hlt : k < n
      · obtain ⟨ad, rfl, had, hcA⟩ := HA.out.lies.cell (words_get (i := k) (by rw [HA.out.len]; exact hlt))
        obtain ⟨bd, rfl, hbd, hcB⟩ := HB.out.lies.cell (words_get (i := k) (by rw [HB.out.len]; exact hlt))
        generalize hx : Bs.wd xs k = x at hcA
        generalize hy : Bs.wd ys k = y at hcB
        have Hx := hid hx; have Hy := hid hy
        clear hx hy
        have hk0 : (0 : Int) ≤ k := by omega
        have hkn : (k : Int).toNat = k := by omega
        have hk1 : (k : Int) < n := by omega
        by_cases hxy : x = y
        · have t : ((x : Int) != (y : Int)) = false := by simp [hxy]
          have t' : (x != y) = false := by simp [hxy]
          have Hxy := hid hxy
          clear hxy
          go_wp2_with fail
          go_quiet (fail)
          go_wp2
          go_roundw
          case rel =>
            refine ⟨k + 1, by omega, by go_num, fun j hj => ?_, _, rfl⟩
            by_cases e : j = k
            · rw [e, Hx.out, Hy.out]; exact Hxy.out
            · exact hb.out j (by omega)
          case measure => simp [intOf]; omega
        · have t : ((x : Int) != (y : Int)) = true := by simp; omega
          have t' : (x != y) = true := by simp [hxy]
          have Hxy := hid hxy
          clear hxy
          go_wp2_with fail
          go_quiet (fail)
          go_wp2
          go_ret
          refine ⟨ret_bool ?_, below_drewN (below_drewN (Below.refl _ _) _) _⟩
          have : xs ≠ ys := by rintro rfl; exact Hxy.out (Hx.out.symm.trans Hy.out)
          simp [this]
      · go_wp2
        go_ret
        refine ⟨ret_bool ?_, below_drewN (Below.refl _ _) _⟩
        have e : xs = ys := wd_ext (HA.out.len.trans HB.out.len.symm) fun j hj => hb.out j (by have := HA.out.len; omega)
        rw [e]; simp
  · have hres : decide (xs = ys) = false := by
      have : xs ≠ ys := by rintro rfl; exact hnm (hA.len.symm.trans hB.len)
      simp [this]
    have t2 : ((n : Int) != (m : Int)) = true := by simp; omega
    have t3 : (n != m) = true := by simp; omega
    rw [hres]
    clear hres hA hB hnm
    go_enter Try.func94, Try.ntmps94
    go_wp2
    go_ret
    exact ⟨rfl, Below.refl _ _⟩

theorem devEqual_any (W V : Int) (A B : Option Addr) (n c m d : Nat) (ws xs : List Nat) (w : World) (hA : Arg w A n ws) (hB : Arg w B m xs) (hn : n ≤ maxLen) :
    Calls Try.prog 75 #[.agg #[.int .i64 W, .slice A n c], .agg #[.int .i64 V, .slice B m d]] w fun e w' => e = .returned (.bool (equalB W ws V xs)) ∧ Below w.heap.size w w' := by
  obtain ⟨hx1, hx2⟩ := box2 w W V A B n c m d
  have hx4 := below2 w (.cells #[.int .i64 W, .slice A n c] 50) (.cells #[.int .i64 V, .slice B m d] 50)
  have Hx1 := hid hx1; have Hx2 := hid hx2; have Hx4 := hid hx4
  have HA := hid hA; have HB := hid hB
  clear hx1 hx2 hx4 hA hB
  generalize hv : Bs.validB W ws = v
  generalize hu : Bs.validB V xs = u
  have hres : equalB W ws V xs = (v && u && sameB W ws V xs) := by unfold equalB; rw [hv, hu]
  have Hres := hid hres; have Hv := hid hv; have Hu := hid hu
  clear hres hv hu
  go_enter Try.func75, Try.ntmps75
  go_wp2_with fail
  refine (devValid_any W A n c ws _ (HA.out.below Hx4.out)).mono ?_
  rw [Hv.out]
  rintro e w1 ⟨rfl, hb⟩
  have Hb := hid (Hx4.out.trans (hb.mono (by simp only [World.size_alloc]; omega)))
  have hy2 := Hx2.out.below hb (by simp)
  have hc20 := hy2.c0
  have hc21 := hy2.c1
  have Hy1 := hid (Hx1.out.below hb (by simp only [World.size_alloc]; omega))
  have Hy2 := hid hy2
  have hz1 := hb.size
  simp only [World.size_alloc] at hz1
  clear hb hy2
  cases v with
  | false =>
    go_wp2_with fail
    go_ret
    exact ⟨ret_bool (by rw [Hres.out]; rfl), Hb.out⟩
  | true =>
    go_wp2_with fail
    refine (devValid_any V B m d xs _ (HB.out.below Hb.out)).mono ?_
    rw [Hu.out]
    rintro e w2 ⟨rfl, hb⟩
    have Hb2 := hid (Hb.out.trans (hb.mono (by omega)))
    have hy1 := Hy1.out.below hb (by omega)
    have hy2 := Hy2.out.below hb (by omega)
    have hc10 := hy1.c0
    have hc11 := hy1.c1
    have hc20' := hy2.c0
    have hc21' := hy2.c1
    have hz2 := hb.size
    clear hb hy1 hy2 hc20 hc21
    cases u with
    | false =>
      go_wp2_with fail
      go_ret
      exact ⟨ret_bool (by rw [Hres.out]; rfl), Hb2.out⟩
    | true =>
      by_cases hWV : W = V
      · have t : (W == V) = true := by simp [hWV]
        have HWV := hid hWV
        clear hWV
        go_wp2_with fail
        refine (slicesEq_any A B n c m d ws xs _ (HA.out.below Hb2.out) (HB.out.below Hb2.out) hn).mono ?_
        rintro e w3 ⟨rfl, hb⟩
        have Hb3 := hid (Hb2.out.trans (hb.mono (by omega)))
        clear hb
        go_wp2_with fail
        go_ret
        exact ⟨ret_bool (by rw [Hres.out]; unfold sameB; simp [HWV.out]), Hb3.out⟩
      · have t : (W == V) = false := by simp [hWV]
        have HWV := hid hWV
        clear hWV
        go_wp2_with fail
        go_ret
        exact ⟨ret_bool (by rw [Hres.out]; unfold sameB; simp [HWV.out]), Hb2.out⟩

theorem devHas_any (W : Int) (A : Option Addr) (n c : Nat) (ws : List Nat) (b : Int) (w : World) (hA : Arg w A n ws) :
    Calls Try.prog 113 #[.agg #[.int .i64 W, .slice A n c], .int .i64 b] w fun e w' => e = .returned (.bool (Bs.hasB W ws b)) ∧ Below w.heap.size w w' := by
  have HA := hid hA
  have Hx := hid (Box.new w W A n c)
  have Hb0 := hid ((Below.refl w.heap.size w).alloc (Nat.le_refl _) (.cells #[.int .i64 W, .slice A n c] 50))
  generalize hr0 : Bs.hasB W ws b = r0
  have Hr0 := hid hr0
  clear hA hr0
  go_enter Try.func113, Try.ntmps113
  go_wp2_with fail
  refine (devValid_any W A n c ws _ (HA.out.alloc _)).mono ?_
  cases hv : Bs.validB W ws with
  | false =>
    have hr : Bs.hasB W ws b = false := by unfold Bs.hasB; rw [hv]; rfl
    have Hr := hid hr
    rintro e w1 ⟨rfl, hb⟩
    have Hb := hid (Hb0.out.trans (hb.mono (by simp)))
    clear hb hr hv
    go_wp2_with fail
    go_ret
    exact ⟨ret_bool (Hr.out.symm.trans Hr0.out), Hb.out⟩
  | true =>
    rintro e w1 ⟨rfl, hb⟩
    have hx := Hx.out.below hb (by simp)
    have hc0 := hx.c0
    have hc1 := hx.c1
    have Hb := hid (Hb0.out.trans (hb.mono (by simp)))
    have hW := (Bs.validB_iff.1 hv).2.1
    have hf := Bs.fit_of_valid hv HA.out.ok
    have Hv := hid hv
    clear hb hx hv
    cases hi : (decide (0 ≤ b) && decide (b < W)) with
    | false =>
      have hr : Bs.hasB W ws b = false := by unfold Bs.hasB; rw [Bool.and_assoc, Bool.and_assoc, ← Bool.and_assoc (decide _), hi]; simp
      have Hr := hid hr
      have Hi := hid hi
      clear hi hr hf hW
      go_wp2_with (go_at_call 121; refine (inside_is _ _ _ _ Hi).mono ?_; rintro e w2 ⟨rfl, rfl⟩)
      go_ret
      exact ⟨ret_bool (Hr.out.symm.trans Hr0.out), Hb.out⟩
    | true =>
      have h2 := hi
      simp at h2
      obtain ⟨k, rfl⟩ := Int.eq_ofNat_of_zero_le h2.1
      have hk : k / 64 < n := by rw [← HA.out.len, hf.len]; exact Bs.lt_nw (by omega)
      have hr : Bs.hasB W ws (k : Int) = Bs.bit ws k := by unfold Bs.hasB; rw [Hv.out]; simp [h2.2]
      have Hr := hid hr
      have hk2 : k < 256 := by omega
      have Hi := hid hi
      clear hi hr hf hW h2
      go_wp2_with (first
        | (go_at_call 121; refine (inside_is _ _ _ _ Hi).mono ?_; rintro e w2 ⟨rfl, rfl⟩)
        | (go_at_call 122; refine (holds_any W A n c ws k _ (HA.out.below Hb.out) hk hk2).mono ?_; rintro e w2 ⟨rfl, rfl⟩))
      go_ret
      exact ⟨ret_bool (Hr.out.symm.trans Hr0.out), Hb.out.alloc Hb.out.size _⟩
end Go.Proofs.Ytopkmeceakjocaa
