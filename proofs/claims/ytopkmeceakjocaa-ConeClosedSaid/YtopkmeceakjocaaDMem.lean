/- The package's Members, Count and Subset. -/
import Derived.Test.YtopkmeceakjocaaDEq
namespace Go.Proofs.Ytopkmeceakjocaa
set_option maxRecDepth 20000
open Go.ChangeShapes Go.WideShapes Go.ChangeAt Go.RowKit

theorem devMem_bad (W : Int) (A : Option Addr) (n c : Nat) (ws : List Nat) (w : World) (hA : Arg w A n ws) (h : Bs.validB W ws = false) :
    Calls Try.prog 118 #[.agg #[.int .i64 W, .slice A n c]] w (RetInts w (memsB W ws)) := by
  have hr : memsB W ws = [] := by unfold memsB; rw [h]; rfl
  rw [hr]
  have HA := hid hA; have H := hid h
  clear hA h hr
  go_enter Try.func118, Try.ntmps118
  go_wp2_with (go_at_call 86; refine (devValid_any W A n c ws _ (HA.out.alloc _)).mono ?_; rw [H.out]; rintro e w1 ⟨rfl, hbl⟩; have Hbl := hid hbl; clear hbl)
  go_ret
  exact ⟨none, 0, 0, rfl, ⟨.inl rfl, rfl⟩, ((Below.refl _ _).alloc (Nat.le_refl _) _).trans (Hbl.out.mono (by simp))⟩

set_option maxHeartbeats 800000 in
theorem devMem_in (W : Nat) (A : Option Addr) (n c : Nat) (ws : List Nat) (w : World) (hA : Arg w A n ws) (h : Bs.validB W ws = true) :
    Calls Try.prog 118 #[.agg #[.int .i64 W, .slice A n c]] w (RetInts w (memsTo ws W)) := by
  have hW : W ≤ 256 := by have := (Bs.validB_iff.1 h).2.1; omega
  have hn : n = Bs.nw W := by rw [← hA.len]; have := (Bs.fit_of_valid h hA.ok).len; rwa [Int.toNat_natCast] at this
  obtain ⟨i0, hi, hz0, hz1, hz2⟩ := info_parts info3
  have HA := hid hA; have H := hid h; have Hi := hid hi; have Hz0 := hid hz0; have Hz1 := hid hz1; have Hz2 := hid hz2; have Hn := hid hn
  clear hA h hi hz0 hz1 hz2 hn
  have hinv : Gathering w W A n c (.slice none 0 0) (memsTo ws 0) (w.alloc (.cells #[.int .i64 W, .slice A n c] 50)) :=
    ⟨Box.new _ _ _ _ _, World.ownsRow_nil _ _ _ _, (Below.refl _ _).alloc (Nat.le_refl _) _⟩
  have Hinv0 := hid hinv
  clear hinv
  go_enter Try.func118, Try.ntmps118
  go_wp2_with fail
  refine (devValid_any W A n c ws _ (HA.out.alloc _)).mono ?_
  rw [H.out]
  rintro e w1 ⟨rfl, hb1⟩
  have Hinv := hid (Hinv0.out.below hb1)
  have hc0 := Hinv.out.1.c0
  clear hb1 Hinv0
  go_wp2_with fail
  clear hc0
  go_loopw [3, 4, 10] (fun v _ i wr => ∃ k : Nat, k ≤ W ∧ i = .int .i64 k ∧ Hid (Gathering w W A n c v (memsTo ws k) wr)) (fun _ _ i _ => W - (intOf i).toNat)
  case atStart => exact ⟨0, by omega, rfl, Hinv⟩
  case round =>
    obtain ⟨k, hk, rfl, hG1⟩ := hrel
    have hc10 := hG1.out.1.c0
    have hc11 := hG1.out.1.c1
    clear Hinv
    by_cases hlt : k < W
    · go_wp2_with fail
      refine (holds_any W A n c ws k _ (HA.out.below hG1.out.2.2) (by rw [Hn.out]; exact Bs.lt_nw hlt) (by omega)).mono ?_
      rintro e w2 ⟨rfl, hb2⟩
      have hG2 : Hid (Gathering w W A n c u3 (memsTo ws k) w2) := by rw [hb2]; exact hid (hG1.out.below ((Below.refl _ _).alloc (Nat.le_refl _) _))
      clear hb2 hc10 hc11 hG1
      cases hv : Bs.bit ws k with
      | false =>
        have hl : memsTo ws (k + 1) = memsTo ws k := by simp [memsTo, hv]
        have Hl := hid hl
        clear hl hv
        go_wp2_with fail
        go_roundw
        case rel => exact ⟨k + 1, by omega, by go_num, by rw [Hl.out]; exact hG2⟩
        case measure => simp [intOf]; omega
      | true =>
        have hl : memsTo ws (k + 1) = memsTo ws k ++ [(k : Int)] := by simp [memsTo, hv]
        have Hl := hid hl
        have hlen := memsTo_len ws k
        clear hl hv
        go_wp2_with (first
          | (at_builtin
             refine wpList_append_own _ rfl _ _ 22 rfl (w.heap.size + 1) 3 i0 (.int .i64 0) 1 8 Try.underlying22 Hi.out Hz0.out Hz1.out Hz2.out rfl (by decide) _ _ _ rfl (hG2.out.2.1.alloc _) ⟨w2.heap.size, 0, none⟩ 1 1 [.int .i64 (k : Int)] rfl rfl (new_one _ _ _) (one_int _ _) (by unfold maxLen; omega) (by omega) (by have := hG2.out.1.lt; rw [World.size_alloc]; omega) ?_
             intro v' w3 hown3 hgr3 hnil3
             have hG3 := hid (hG2.out.push hown3 hgr3)
             clear hown3 hgr3 hnil3))
        go_roundw
        case rel => exact ⟨k + 1, by omega, by go_num, by rw [Hl.out]; exact hG3⟩
        case measure => simp [intOf]; omega
    · have hkW : k = W := by omega
      subst hkW
      go_wp2_with fail
      go_ret
      obtain ⟨A', c', e', h1, h2⟩ := own_slice hG1.out.2.1
      subst e'
      exact ⟨A', _, c', rfl, ⟨h1, rfl⟩, hG1.out.2.2⟩

theorem devMembers_any (W : Int) (A : Option Addr) (n c : Nat) (ws : List Nat) (w : World) (hA : Arg w A n ws) :
    Calls Try.prog 118 #[.agg #[.int .i64 W, .slice A n c]] w (RetInts w (memsB W ws)) := by
  cases h : Bs.validB W ws with
  | false => exact devMem_bad W A n c ws w hA h
  | true =>
    obtain ⟨v, rfl⟩ := Int.eq_ofNat_of_zero_le (Bs.validB_iff.1 h).1
    have hr : memsB (v : Int) ws = memsTo ws v := by unfold memsB; rw [if_pos h, Int.toNat_natCast]
    rw [hr]
    exact devMem_in v A n c ws w hA h

theorem devCount_any (W : Int) (A : Option Addr) (n c : Nat) (ws : List Nat) (w : World) (hA : Arg w A n ws) :
    Calls Try.prog 101 #[.agg #[.int .i64 W, .slice A n c]] w fun e w' => e = .returned (.int .i64 ((memsB W ws).length : Nat)) ∧ Below w.heap.size w w' := by
  have HA := hid hA
  clear hA
  go_enter Try.func101, Try.ntmps101
  go_wp2_with fail
  refine (devMembers_any W A n c ws _ (HA.out.alloc _)).mono ?_
  rintro e w1 ⟨A1, n1, c1, rfl, ha, hb⟩
  have Hl := hid ha.len; have Hb := hid hb
  clear ha hb
  go_wp2_with fail
  go_ret
  exact ⟨by rw [Hl.out]; rfl, ((Below.refl _ _).alloc (Nat.le_refl _) _).trans (Hb.out.mono (by simp))⟩

theorem devSubset_any (W V : Int) (A B : Option Addr) (n c m d : Nat) (ws xs : List Nat) (w : World) (hA : Arg w A n ws) (hB : Arg w B m xs) :
    Calls Try.prog 80 #[.agg #[.int .i64 W, .slice A n c], .agg #[.int .i64 V, .slice B m d]] w fun e w' => e = .returned (.bool (subsetB W ws V xs)) ∧ Below w.heap.size w w' := by
  have hx4 := below2 w (.cells #[.int .i64 W, .slice A n c] 50) (.cells #[.int .i64 V, .slice B m d] 50)
  have Hx4 := hid hx4
  have HA := hid hA; have HB := hid hB
  clear hx4 hA hB
  unfold subsetB
  generalize hr : mixR (flag true false false) W ws V xs = r
  have Hr := hid hr
  clear hr
  obtain ⟨R, zs, er⟩ := r
  by_cases h0 : er = 0
  · have t : ((er : Int) == 0) = true := by simp [h0]
    have H0 := hid h0
    clear h0
    go_enter Try.func80, Try.ntmps80
    go_wp2_with fail
    refine (devDiff_any W V A B n c m d ws xs _ (HA.out.below Hx4.out) (HB.out.below Hx4.out)).mono ?_
    rw [Hr.out]
    rintro e w1 ⟨A1, n1, c1, rfl, ha, hb⟩
    have Ha := hid ha
    have Hb := hid (Hx4.out.trans (hb.mono (by simp only [World.size_alloc]; omega)))
    have hz := hb.size
    simp only [World.size_alloc] at hz
    clear ha hb
    simp only []
    go_wp2_with fail
    refine (devCount_any R A1 n1 c1 zs _ (Ha.out.alloc _)).mono ?_
    rintro e w2 ⟨rfl, hb2⟩
    have Hb2 := hid ((Hb.out.alloc (by omega) _).trans (hb2.mono (by simp only [World.size_alloc]; omega)))
    clear hb2
    generalize hL : (memsB R zs).length = L
    have HL := hid hL
    clear hL
    by_cases hz2 : L = 0
    · have t2 : ((L : Int) == 0) = true := by simp [hz2]
      have Hz2 := hid hz2
      clear hz2
      go_wp2_with fail
      go_ret
      exact ⟨ret_bool (by simp [H0.out, HL.out, Hz2.out]), Hb2.out⟩
    · have t2 : ((L : Int) == 0) = false := by simp [hz2]
      have Hz2 := hid hz2
      clear hz2
      go_wp2_with fail
      go_ret
      exact ⟨ret_bool (by simp [H0.out, HL.out, Hz2.out]), Hb2.out⟩
  · have t : ((er : Int) == 0) = false := by simp [h0]
    have H0 := hid h0
    clear h0
    go_enter Try.func80, Try.ntmps80
    go_wp2_with fail
    refine (devDiff_any W V A B n c m d ws xs _ (HA.out.below Hx4.out) (HB.out.below Hx4.out)).mono ?_
    rw [Hr.out]
    rintro e w1 ⟨A1, n1, c1, rfl, ha, hb⟩
    have Hb := hid (Hx4.out.trans (hb.mono (by simp only [World.size_alloc]; omega)))
    have hz := hb.size
    simp only [World.size_alloc] at hz
    clear ha hb
    simp only []
    go_wp2_with fail
    go_ret
    exact ⟨ret_bool (by simp [H0.out]), Hb.out.alloc (by omega) _⟩
end Go.Proofs.Ytopkmeceakjocaa
