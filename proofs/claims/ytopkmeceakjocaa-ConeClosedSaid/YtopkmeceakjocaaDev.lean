/- The package's Union, Inter and Diff: the errors, and the set of the bits of one or the other, of both, of the first alone. -/
import Derived.Test.YtopkmeceakjocaaDValid
import Derived.Test.YtopkmeceakjocaaThree
import Derived.StillTailTactics
namespace Go.Proofs.Ytopkmeceakjocaa
set_option maxRecDepth 20000
open Go.ChangeShapes Go.WideShapes Go.ChangeAt Go.RowKit

theorem run_rows (n : Nat) (hn : n ≤ 100000) (w : World) :
    (Instr.makeSlice 48 (.int .i64 (n : Int)) (.int .i64 (n : Int))).run Try.prog w = .ok (.slice (some ⟨w.heap.size, 0, none⟩) n n) (w.alloc (.cells (words (List.replicate n 0)).toArray 93)) := by
  obtain ⟨i, hi, hz0, hz1, hz2⟩ := info_parts info62
  have h := run_make (P := Try.prog) w 48 93 i (.int .u64 0) Try.underlying48 hi hz0 .i64 .i64 n n (by omega) (by omega) (by rw [hz2]; omega) (by omega)
  rw [h, hz1]
  simp only [Int.toNat_natCast, Nat.mul_one]
  have e2 : madeCells (Value.int IntKind.u64 0).cells n = (words (List.replicate n 0)).toArray := by
    rw [← zeros_words]; rfl
  rw [e2]

/-- What the words of a combined set are, and their bits. -/
structure OpOf (f : Nat → Nat → Nat) (fb : Bool → Bool → Bool) : Prop where
  lt : ∀ x y, x < Bs.W64 → y < Bs.W64 → f x y < Bs.W64
  bit : ∀ x y j, x < Bs.W64 → y < Bs.W64 → j < 64 → (f x y).testBit j = fb (x.testBit j) (y.testBit j)
  none : fb false false = false

def part (f : Nat → Nat → Nat) (ws xs : List Nat) (n k : Nat) : List Nat := (List.range n).map fun i => if i < k then f (Bs.wd ws i) (Bs.wd xs i) else 0
section
variable {f : Nat → Nat → Nat} {fb : Bool → Bool → Bool} {ws xs : List Nat} {n k : Nat}
theorem part_len : (part f ws xs n k).length = n := by simp [part]
theorem part_zero : part f ws xs n 0 = List.replicate n 0 := by
  refine List.ext_getElem (by simp [part]) fun i h1 h2 => ?_
  simp [part]
theorem part_set (_h : k < n) : (part f ws xs n k).set k (f (Bs.wd ws k) (Bs.wd xs k)) = part f ws xs n (k + 1) := by
  refine List.ext_getElem (by simp [part]) fun i h1 h2 => ?_
  rw [List.getElem_set]
  simp only [part, List.getElem_map, List.getElem_range]
  by_cases e : k = i
  · subst e; simp
  · rw [if_neg e]
    by_cases hi : i < k
    · rw [if_pos hi, if_pos (by omega)]
    · rw [if_neg hi, if_neg (by omega)]
theorem part_wd (i : Nat) (hi : i < n) : Bs.wd (part f ws xs n n) i = f (Bs.wd ws i) (Bs.wd xs i) := by
  rw [Bs.wd_get (by rw [part_len]; exact hi)]
  simp [part, hi]
theorem part_fit (H : OpOf f fb) {v : Nat} (h1 : Bs.Fit v ws) (h2 : Bs.Fit v xs) (hn : n = Bs.nw v) :
    Bs.Fit v (part f ws xs n n) ∧ ∀ i, i < v → Bs.bit (part f ws xs n n) i = fb (Bs.bit ws i) (Bs.bit xs i) := by
  have key : ∀ b, b / 64 < n → Bs.bit (part f ws xs n n) b = fb (Bs.bit ws b) (Bs.bit xs b) := fun b hb => by
    unfold Bs.bit
    rw [part_wd _ hb]
    exact H.bit _ _ _ (Bs.wd_lt h1.ok _) (Bs.wd_lt h2.ok _) (by omega)
  refine ⟨⟨by rw [part_len, hn], ?_, fun b hb => ?_⟩, fun i hi => key i (by rw [hn]; exact Bs.lt_nw hi)⟩
  · intro x hx
    unfold part at hx
    obtain ⟨i, _, rfl⟩ := List.mem_map.1 hx
    split
    · exact H.lt _ _ (Bs.wd_lt h1.ok _) (Bs.wd_lt h2.ok _)
    · decide
  · rcases Nat.lt_or_ge (b / 64) n with h | h
    · rw [key b h, h1.hi b hb, h2.hi b hb]; exact H.none
    · exact Bs.bit_out (by rw [part_len]; omega)
theorem part_done (H : OpOf f fb) {v : Nat} (h1 : Bs.Fit v ws) (h2 : Bs.Fit v xs) (hn : n = Bs.nw v) :
    part f ws xs n n = Bs.ofP v (fun i => fb (Bs.bit ws i) (Bs.bit xs i)) v := by
  obtain ⟨hf, hb⟩ := part_fit H h1 h2 hn
  refine Bs.ext hf (Bs.fit_ofP _ _ _ (Nat.le_refl _)) fun i hi => ?_
  rw [hb i hi, Bs.bit_ofP _ _ _ (Nat.le_refl _)]
  simp [hi]
end

/-- While the words are combined: the variables of the two sets, the result's cell, the words as far as they have been made. -/
def Comb (w : World) (W : Nat) (A B : Option Addr) (n c d g : Nat) (zs : List Nat) (wr : World) : Prop :=
  Box wr w.heap.size W A n c ∧ Box wr (w.heap.size + 1) W B n d ∧ Box wr (w.heap.size + 1 + 1) 0 none 0 0 ∧ Row wr g zs ∧ w.heap.size + 1 + 1 < g ∧ Below w.heap.size w wr
theorem Comb.drew {w wr : World} {W : Nat} {A B : Option Addr} {n c d g : Nat} {zs : List Nat} (h : Comb w W A B n c d g zs wr) : Comb w W A B n c d g zs wr.drew := by
  obtain ⟨h1, h2, h3, h4, h5, h6⟩ := h
  exact ⟨h1, h2, h3, h4, h5, h6.drew⟩
theorem Comb.set {w wr : World} {W : Nat} {A B : Option Addr} {n c d g : Nat} {zs : List Nat} (h : Comb w W A B n c d g zs wr) (k x : Nat) : Comb w W A B n c d g (zs.set k x) (wr.setCell ⟨g, k, none⟩ (.int .u64 x)) := by
  obtain ⟨h1, h2, h3, h4, h5, h6⟩ := h
  exact ⟨h1.far (by simp; omega) _, h2.far (by simp; omega) _, h3.far (by simp; omega) _, h4.set _ _, h5, h6.setCell (by simp; omega) _⟩

def unionW (x y : Nat) : Nat := x ||| y
theorem unionW_op : OpOf unionW (flag true true true) where
  lt x y h1 h2 := by
    unfold unionW; rw [Bs.W64_eq] at *; exact Nat.or_lt_two_pow h1 h2
  bit x y j h1 h2 hj := by
    unfold unionW
    rw [Nat.testBit_or]; cases x.testBit j <;> cases y.testBit j <;> rfl
  none := rfl
theorem union1_any (x y : Nat) (w : World) (hx : x < Bs.W64) (hy : y < Bs.W64) : Calls Try.prog 116 #[.int .u64 x, .int .u64 y] w fun e w' => e = .returned (.int .u64 (unionW x y : Nat)) ∧ w' = w := by
  have h := u64_or_nat x y hx hy
  generalize hz : unionW x y = z
  unfold unionW at hz
  rw [hz] at h
  clear hz hx hy
  go_enter Try.func116, Try.ntmps116
  go_wp2
  go_ret
  exact ⟨rfl, rfl⟩

theorem combUnion_bad1 (W V : Int) (A B : Option Addr) (n c m d : Nat) (ws xs : List Nat) (w : World) (hA : Arg w A n ws) (h : Bs.validB W ws = false) :
    Calls Try.prog 115 #[.agg #[.int .i64 W, .slice A n c], .agg #[.int .i64 V, .slice B m d], .func (Fn.func 116) #[] #[]] w (RetErr w (mixR (flag true true true) W ws V xs)) := by
  have hr : mixR (flag true true true) W ws V xs = (0, [], 1) := by unfold mixR; rw [if_pos (.inl h)]
  rw [hr]
  have HA := hid hA; have H := hid h
  clear hA h hr
  obtain ⟨hx1, hx2, hx3⟩ := box3 w W V A B n c m d
  have hx4 := below3 w (.cells #[.int .i64 W, .slice A n c] 50) (.cells #[.int .i64 V, .slice B m d] 50) (.cells #[.int .i64 0, .slice none 0 0] 50)
  have Hx3 := hid hx3; have Hx4 := hid hx4
  clear hx1 hx2 hx3 hx4
  go_enter Try.func115, Try.ntmps115
  go_wp2_with (go_at_call 86; refine (devValid_any W A n c ws _ (((HA.out.alloc _).alloc _).alloc _)).mono ?_; rw [H.out]; rintro e w1 ⟨rfl, hbl⟩; have hq := Hx3.out.below hbl (by simp); have hq0 := hq.c0; have hq1 := hq.c1; have hf0 := hq.f 0; have hf1 := hq.f 1; have Hbl := hid hbl; clear hbl hq)
  refine bodyPost_ret (v := .tuple #[.agg #[.int .i64 0, .slice none 0 0], .int .i64 1]) (by simp [results, Try.results115, go_sem, hq0, hq1]) rfl ⟨_, _, _, rfl, Arg.nil _ _, ?_⟩
  exact ((Hx4.out.trans (Hbl.out.mono (by simp; omega))).setCell (by simp; omega) _).setCell (by simp; omega) _

theorem combUnion_bad2 (W V : Int) (A B : Option Addr) (n c m d : Nat) (ws xs : List Nat) (w : World) (hA : Arg w A n ws) (hB : Arg w B m xs) (h : Bs.validB W ws = true) (h2 : Bs.validB V xs = false ∨ (Bs.validB V xs = true ∧ W ≠ V)) :
    Calls Try.prog 115 #[.agg #[.int .i64 W, .slice A n c], .agg #[.int .i64 V, .slice B m d], .func (Fn.func 116) #[] #[]] w (RetErr w (mixR (flag true true true) W ws V xs)) := by
  obtain ⟨u, r, hu, hr, hne⟩ : ∃ (u : Bool) (r : Int), Bs.validB V xs = u ∧ mixR (flag true true true) W ws V xs = (0, [], r) ∧ ((u = false ∧ r = 1) ∨ (u = true ∧ r = 2 ∧ (W != V) = true)) := by
    rcases h2 with h2 | ⟨h2, hne⟩
    · exact ⟨false, 1, h2, by unfold mixR; rw [if_pos (.inr h2)], .inl ⟨rfl, rfl⟩⟩
    · exact ⟨true, 2, h2, by unfold mixR; rw [if_neg (by simp [h, h2]), if_pos hne], .inr ⟨rfl, rfl, by simp [hne]⟩⟩
  rw [hr]
  have HA := hid hA; have HB := hid hB; have H := hid h; have H2 := hid hu
  clear hA hB h h2 hr hu
  obtain ⟨hx1, hx2, hx3⟩ := box3 w W V A B n c m d
  have hx4 := below3 w (.cells #[.int .i64 W, .slice A n c] 50) (.cells #[.int .i64 V, .slice B m d] 50) (.cells #[.int .i64 0, .slice none 0 0] 50)
  have Hx1 := hid hx1; have Hx2 := hid hx2; have Hx3 := hid hx3; have Hx4 := hid hx4
  clear hx1 hx2 hx3 hx4
  go_enter Try.func115, Try.ntmps115
  go_wp2_with fail
  refine (devValid_any W A n c ws _ (((HA.out.alloc _).alloc _).alloc _)).mono ?_
  rw [H.out]
  rintro e w1 ⟨rfl, hbl⟩
  have hq2 := Hx2.out.below hbl (by simp)
  have hq20 := hq2.c0
  have hq21 := hq2.c1
  have Hq1 := hid (Hx1.out.below hbl (by simp; omega))
  have Hq2 := hid hq2
  have Hq3 := hid (Hx3.out.below hbl (by simp))
  have Hb1 := hid (Hx4.out.trans (hbl.mono (by simp; omega)))
  have hz1 := hbl.size
  simp only [World.size_alloc] at hz1
  clear hbl hq2
  go_wp2_with fail
  refine (devValid_any V B m d xs _ (HB.out.below Hb1.out)).mono ?_
  rw [H2.out]
  rintro e w2 ⟨rfl, hbl⟩
  have hq := Hq3.out.below hbl (by omega)
  have hq0 := hq.c0
  have hq1 := hq.c1
  have hf0 := hq.f 0
  have hf1 := hq.f 1
  have hp := Hq1.out.below hbl (by omega)
  have hp0 := hp.c0
  have hp' := Hq2.out.below hbl (by omega)
  have hp1 := hp'.c0
  have Hb2 := hid (Hb1.out.trans (hbl.mono (by omega)))
  clear hbl hq hp hp' hq20 hq21
  rcases hne with ⟨rfl, rfl⟩ | ⟨rfl, rfl, hne⟩
  · go_wp2_with fail
    refine bodyPost_ret (v := .tuple #[.agg #[.int .i64 0, .slice none 0 0], .int .i64 1]) (by simp [results, Try.results115, go_sem, hq0, hq1]) rfl ⟨_, _, _, rfl, Arg.nil _ _, ?_⟩
    exact ((Hb2.out).setCell (by simp; omega) _).setCell (by simp; omega) _
  · go_wp2_with fail
    refine bodyPost_ret (v := .tuple #[.agg #[.int .i64 0, .slice none 0 0], .int .i64 2]) (by simp [results, Try.results115, go_sem, hq0, hq1]) rfl ⟨_, _, _, rfl, Arg.nil _ _, ?_⟩
    exact ((Hb2.out).setCell (by simp; omega) _).setCell (by simp; omega) _

theorem combUnion_in (W : Nat) (A B : Option Addr) (n c d : Nat) (ws xs : List Nat) (w : World) (hA : Arg w A n ws) (hB : Arg w B n xs) (h : Bs.validB W ws = true) (h2 : Bs.validB W xs = true) :
    Calls Try.prog 115 #[.agg #[.int .i64 W, .slice A n c], .agg #[.int .i64 W, .slice B n d], .func (Fn.func 116) #[] #[]] w (RetErr w (W, Bs.ofP W (fun i => flag true true true (Bs.bit ws i) (Bs.bit xs i)) W, 0)) := by
  have hf1 := Bs.fit_of_valid h hA.ok
  have hf2 := Bs.fit_of_valid h2 hB.ok
  rw [Int.toNat_natCast] at hf1 hf2
  have hn : n = Bs.nw W := by rw [← hf1.len]; exact hA.len.symm
  have hW : W ≤ 256 := by have := (Bs.validB_iff.1 h).2.1; omega
  have hn5 : n ≤ 5 := by rw [hn]; unfold Bs.nw; omega
  rw [← part_done unionW_op hf1 hf2 hn]
  have Hfit := hid (part_fit unionW_op hf1 hf2 hn).1
  have HA := hid hA; have HB := hid hB; have H := hid h; have H2 := hid h2; have Hf1 := hid hf1; have Hf2 := hid hf2
  have hne : ((W : Int) != W) = false := by simp
  have hm := run_rows n (by omega)
  clear hA hB h h2 hf1 hf2 hn hW
  obtain ⟨hx1, hx2, hx3⟩ := box3 w W W A B n c n d
  have hx4 := below3 w (.cells #[.int .i64 W, .slice A n c] 50) (.cells #[.int .i64 W, .slice B n d] 50) (.cells #[.int .i64 0, .slice none 0 0] 50)
  have Hx1 := hid hx1; have Hx2 := hid hx2; have Hx3 := hid hx3; have Hx4 := hid hx4
  clear hx1 hx2 hx3 hx4
  go_enter Try.func115, Try.ntmps115
  go_wp2_with fail
  refine (devValid_any W A n c ws _ (((HA.out.alloc _).alloc _).alloc _)).mono ?_
  rw [H.out]
  rintro e w1 ⟨rfl, hbl⟩
  have hq2 := Hx2.out.below hbl (by simp)
  have hq20 := hq2.c0
  have hq21 := hq2.c1
  have Hq1 := hid (Hx1.out.below hbl (by simp only [World.size_alloc]; omega))
  have Hq2 := hid hq2
  have Hq3 := hid (Hx3.out.below hbl (by simp))
  have Hb1 := hid (Hx4.out.trans (hbl.mono (by simp only [World.size_alloc]; omega)))
  have hz1 := hbl.size
  simp only [World.size_alloc] at hz1
  clear hbl hq2
  go_wp2_with fail
  refine (devValid_any W B n d xs _ (HB.out.below Hb1.out)).mono ?_
  rw [H2.out]
  rintro e w2 ⟨rfl, hbl⟩
  have hp := Hq1.out.below hbl (by omega)
  have hp0 := hp.c0
  have hp00 := hp.c1
  have hp' := Hq2.out.below hbl (by omega)
  have hp1 := hp'.c0
  have hinv : Comb w W A B n c d w2.heap.size (part unionW ws xs n 0) (w2.alloc (.cells (words (List.replicate n 0)).toArray 93)) := by
    rw [part_zero]
    have hz2 := hbl.size
    exact ⟨hp.alloc _, hp'.alloc _, (Hq3.out.below hbl (by omega)).alloc _, heap_alloc_new w2 _, by omega, (Hb1.out.trans (hbl.mono (by omega))).alloc (by omega) _⟩
  have Hinv := hid hinv
  have hz2 := hbl.size
  clear hbl hp hp' hinv hq20 hq21
  go_wp2_with fail
  clear hp0 hp00 hp1 hne hm Hq1 Hq2 Hq3 Hx1 Hx2 Hx3 Hx4 Hb1
  generalize w2.heap.size = g at Hinv hz2 ⊢
  go_loopw [9, 31] (fun _ i wr => ∃ k : Nat, k ≤ n ∧ i = .int .i64 k ∧ Hid (Comb w W A B n c d g (part unionW ws xs n k) wr)) (fun _ i _ => n - (intOf i).toNat)
  case atStart => exact ⟨0, by omega, rfl, Hinv⟩
  case round =>
    obtain ⟨k, hk, rfl, hG⟩ := hrel
    by_cases hlt : k < n
    · obtain ⟨ad, rfl, had, hcA⟩ := HA.out.lies.cell (words_get (i := k) (by rw [HA.out.len]; exact hlt))
      obtain ⟨bd, rfl, hbd, hcB⟩ := HB.out.lies.cell (words_get (i := k) (by rw [HB.out.len]; exact hlt))
      obtain ⟨g1, g2, g3, g4, g5, g6⟩ := hG.out
      have hc11 := g1.c1
      have hc21 := g2.c1
      have hcA2 := (g6.cell (p := ad.add k) (by rw [add_block]; exact had)).trans hcA
      have hcB2 := (g6.cell (p := bd.add k) (by rw [add_block]; exact hbd)).trans hcB
      have hx := Bs.wd_lt HA.out.ok k
      have hy := Bs.wd_lt HB.out.ok k
      have hst := hG.out.set k (unionW (Bs.wd ws k) (Bs.wd xs k))
      rw [part_set hlt] at hst
      have hcg := (g4.cell k).trans (words_get (by rw [part_len]; exact hlt))
      have hfg := g4.frozen k
      generalize Bs.wd ws k = x at hcA2 hx hst
      generalize Bs.wd xs k = y at hcB2 hy hst
      generalize Bs.wd (part unionW ws xs n k) k = z at hcg
      have Hst := hid hst; have Hx := hid hx; have Hy := hid hy
      clear g1 g2 g3 g4 g5 g6 hcA hcB had hbd hst hx hy Hinv HA HB H H2 Hf1 Hf2 Hfit hG
      go_wp2_with fail
      refine wp_region_still_tail 15 (by kernel_rfl) (by kernel_rfl) ?_
      simp only [List.take_succ_cons, List.take_zero, List.drop_succ_cons, List.drop_zero]
      repeat still_step
      still_call (union1_any _ _ _ Hx.out Hy.out)
      repeat still_step
      try refine wpStill_nil ?_
      change wpList _ _ _ _ _ wr.drew
      go_wp2
      go_roundw
      case rel => exact ⟨k + 1, by omega, by go_num, hid Hst.out.drew⟩
      case measure => simp [intOf]; omega
    · have hkn : k = n := by omega
      subst hkn
      obtain ⟨g1, g2, g3, g4, g5, g6⟩ := hG.out
      have hc10 := g1.c0
      have hr0 := g3.c0
      have hr1 := g3.c1
      have hf0 := g3.f 0
      have hf1 := g3.f 1
      have Hg4 := hid g4; have Hg6 := hid g6
      clear g1 g2 g3 g4 g6 Hinv hG
      go_wp2_with fail
      refine bodyPost_ret (v := .tuple #[.agg #[.int .i64 W, .slice (some ⟨g, 0, none⟩) k k], .int .i64 0]) (by simp [results, Try.results115, go_sem, hr0, hr1]) rfl ⟨_, _, _, rfl, ?_, ?_⟩
      · have hr := Row.arg ((Hg4.out.far (p := ⟨w.heap.size + 1 + 1, 0, none⟩) (by simp; omega) (.int .i64 W)).far (p := ⟨w.heap.size + 1 + 1, 1, none⟩) (by simp; omega) (.slice (some ⟨g, 0, none⟩) k k)) Hfit.out.ok
        rw [part_len] at hr
        exact hr
      · exact (Hg6.out.setCell (by simp; omega) _).setCell (by simp; omega) _

theorem combUnion_any (W V : Int) (A B : Option Addr) (n c m d : Nat) (ws xs : List Nat) (w : World) (hA : Arg w A n ws) (hB : Arg w B m xs) :
    Calls Try.prog 115 #[.agg #[.int .i64 W, .slice A n c], .agg #[.int .i64 V, .slice B m d], .func (Fn.func 116) #[] #[]] w (RetErr w (mixR (flag true true true) W ws V xs)) := by
  cases h : Bs.validB W ws with
  | false => exact combUnion_bad1 W V A B n c m d ws xs w hA h
  | true =>
    cases h2 : Bs.validB V xs with
    | false => exact combUnion_bad2 W V A B n c m d ws xs w hA hB h (.inl h2)
    | true =>
      by_cases hne : W = V
      · subst hne
        obtain ⟨v, rfl⟩ := Int.eq_ofNat_of_zero_le (Bs.validB_iff.1 h).1
        have hnm : n = m := by
          have e1 := (Bs.fit_of_valid h hA.ok).len
          have e2 := (Bs.fit_of_valid h2 hB.ok).len
          rw [← hA.len, ← hB.len, e1, e2]
        subst hnm
        have hr : mixR (flag true true true) (v : Int) ws (v : Int) xs = ((v : Int), Bs.ofP v (fun i => flag true true true (Bs.bit ws i) (Bs.bit xs i)) v, 0) := by
          unfold mixR; rw [if_neg (by simp [h, h2]), if_neg (by simp), Int.toNat_natCast]
        rw [hr]
        exact combUnion_in v A B n c d ws xs w hA hB h h2
      · exact combUnion_bad2 W V A B n c m d ws xs w hA hB h (.inr ⟨h2, hne⟩)

theorem devUnion_any (W V : Int) (A B : Option Addr) (n c m d : Nat) (ws xs : List Nat) (w : World) (hA : Arg w A n ws) (hB : Arg w B m xs) :
    Calls Try.prog 98 #[.agg #[.int .i64 W, .slice A n c], .agg #[.int .i64 V, .slice B m d]] w (RetErr w (mixR (flag true true true) W ws V xs)) := by
  have HA := hid hA; have HB := hid hB
  clear hA hB
  obtain ⟨hx1, hx2, hx3⟩ := box3 w W V A B n c m d
  have hx4 := below3 w (.cells #[.int .i64 W, .slice A n c] 50) (.cells #[.int .i64 V, .slice B m d] 50) (.cells #[.int .i64 0, .slice none 0 0] 50)
  have Hx3 := hid hx3; have Hx4 := hid hx4
  clear hx1 hx2 hx3 hx4
  generalize hr : mixR (flag true true true) W ws V xs = r
  have Hr := hid hr
  clear hr
  go_enter Try.func98, Try.ntmps98
  go_wp2_with fail
  refine (combUnion_any W V A B n c m d ws xs _ (HA.out.below Hx4.out) (HB.out.below Hx4.out)).mono ?_
  rw [Hr.out]
  rintro e w1 ⟨A1, n1, c1, rfl, ha, hb⟩
  have hq := Hx3.out.below hb (by simp)
  have hq0 := hq.c0
  have hq1 := hq.c1
  have hf0 := hq.f 0
  have hf1 := hq.f 1
  have Ha := hid ha; have Hb := hid hb; have Hq := hid hq
  clear hq ha hb
  go_wp2_with fail
  refine bodyPost_ret (v := .tuple #[.agg #[.int .i64 r.1, .slice A1 n1 c1], .int .i64 r.2.2]) (by simp [results, Try.results98, go_sem, hq0, hq1]) rfl ⟨A1, n1, c1, rfl, ?_, ?_⟩
  · exact Hq.out.store Ha.out _ _
  · exact ((Hx4.out.trans (Hb.out.mono (by simp only [World.size_alloc]; omega))).setCell (by simp; omega) _).setCell (by simp; omega) _

def interW (x y : Nat) : Nat := x &&& y
theorem interW_op : OpOf interW (flag false false true) where
  lt x y h1 h2 := by
    unfold interW; rw [Bs.W64_eq] at *; exact Nat.and_lt_two_pow _ h2
  bit x y j h1 h2 hj := by
    unfold interW
    rw [Nat.testBit_and]; cases x.testBit j <;> cases y.testBit j <;> rfl
  none := rfl
def diffW (x y : Nat) : Nat := x &&& (18446744073709551615 - y)
theorem diffW_op : OpOf diffW (flag true false false) where
  lt x y h1 h2 := by
    unfold diffW; exact Nat.lt_of_le_of_lt Nat.and_le_left h1
  bit x y j h1 h2 hj := by
    unfold diffW
    rw [Nat.testBit_and, show 18446744073709551615 - y = 2 ^ 64 - (y + 1) from by omega, Nat.testBit_two_pow_sub_succ (by rw [Bs.W64_eq] at h2; exact h2)]
    cases x.testBit j <;> cases y.testBit j <;> simp [flag, hj]
  none := rfl
theorem diff1_any (x y : Nat) (w : World) (hx : x < Bs.W64) (hy : y < Bs.W64) : Calls Try.prog 117 #[.int .u64 x, .int .u64 y] w fun e w' => e = .returned (.int .u64 (diffW x y : Nat)) ∧ w' = w := by
  have h := u64_andNot_nat x y hx hy
  generalize hz : diffW x y = z
  unfold diffW at hz
  rw [hz] at h
  clear hz hx hy
  go_enter Try.func117, Try.ntmps117
  go_wp2
  go_ret
  exact ⟨rfl, rfl⟩

theorem combDiff_bad1 (W V : Int) (A B : Option Addr) (n c m d : Nat) (ws xs : List Nat) (w : World) (hA : Arg w A n ws) (h : Bs.validB W ws = false) :
    Calls Try.prog 115 #[.agg #[.int .i64 W, .slice A n c], .agg #[.int .i64 V, .slice B m d], .func (Fn.func 117) #[] #[]] w (RetErr w (mixR (flag true false false) W ws V xs)) := by
  have hr : mixR (flag true false false) W ws V xs = (0, [], 1) := by unfold mixR; rw [if_pos (.inl h)]
  rw [hr]
  have HA := hid hA; have H := hid h
  clear hA h hr
  obtain ⟨hx1, hx2, hx3⟩ := box3 w W V A B n c m d
  have hx4 := below3 w (.cells #[.int .i64 W, .slice A n c] 50) (.cells #[.int .i64 V, .slice B m d] 50) (.cells #[.int .i64 0, .slice none 0 0] 50)
  have Hx3 := hid hx3; have Hx4 := hid hx4
  clear hx1 hx2 hx3 hx4
  go_enter Try.func115, Try.ntmps115
  go_wp2_with (go_at_call 86; refine (devValid_any W A n c ws _ (((HA.out.alloc _).alloc _).alloc _)).mono ?_; rw [H.out]; rintro e w1 ⟨rfl, hbl⟩; have hq := Hx3.out.below hbl (by simp); have hq0 := hq.c0; have hq1 := hq.c1; have hf0 := hq.f 0; have hf1 := hq.f 1; have Hbl := hid hbl; clear hbl hq)
  refine bodyPost_ret (v := .tuple #[.agg #[.int .i64 0, .slice none 0 0], .int .i64 1]) (by simp [results, Try.results115, go_sem, hq0, hq1]) rfl ⟨_, _, _, rfl, Arg.nil _ _, ?_⟩
  exact ((Hx4.out.trans (Hbl.out.mono (by simp; omega))).setCell (by simp; omega) _).setCell (by simp; omega) _

theorem combDiff_bad2 (W V : Int) (A B : Option Addr) (n c m d : Nat) (ws xs : List Nat) (w : World) (hA : Arg w A n ws) (hB : Arg w B m xs) (h : Bs.validB W ws = true) (h2 : Bs.validB V xs = false ∨ (Bs.validB V xs = true ∧ W ≠ V)) :
    Calls Try.prog 115 #[.agg #[.int .i64 W, .slice A n c], .agg #[.int .i64 V, .slice B m d], .func (Fn.func 117) #[] #[]] w (RetErr w (mixR (flag true false false) W ws V xs)) := by
  obtain ⟨u, r, hu, hr, hne⟩ : ∃ (u : Bool) (r : Int), Bs.validB V xs = u ∧ mixR (flag true false false) W ws V xs = (0, [], r) ∧ ((u = false ∧ r = 1) ∨ (u = true ∧ r = 2 ∧ (W != V) = true)) := by
    rcases h2 with h2 | ⟨h2, hne⟩
    · exact ⟨false, 1, h2, by unfold mixR; rw [if_pos (.inr h2)], .inl ⟨rfl, rfl⟩⟩
    · exact ⟨true, 2, h2, by unfold mixR; rw [if_neg (by simp [h, h2]), if_pos hne], .inr ⟨rfl, rfl, by simp [hne]⟩⟩
  rw [hr]
  have HA := hid hA; have HB := hid hB; have H := hid h; have H2 := hid hu
  clear hA hB h h2 hr hu
  obtain ⟨hx1, hx2, hx3⟩ := box3 w W V A B n c m d
  have hx4 := below3 w (.cells #[.int .i64 W, .slice A n c] 50) (.cells #[.int .i64 V, .slice B m d] 50) (.cells #[.int .i64 0, .slice none 0 0] 50)
  have Hx1 := hid hx1; have Hx2 := hid hx2; have Hx3 := hid hx3; have Hx4 := hid hx4
  clear hx1 hx2 hx3 hx4
  go_enter Try.func115, Try.ntmps115
  go_wp2_with fail
  refine (devValid_any W A n c ws _ (((HA.out.alloc _).alloc _).alloc _)).mono ?_
  rw [H.out]
  rintro e w1 ⟨rfl, hbl⟩
  have hq2 := Hx2.out.below hbl (by simp)
  have hq20 := hq2.c0
  have hq21 := hq2.c1
  have Hq1 := hid (Hx1.out.below hbl (by simp; omega))
  have Hq2 := hid hq2
  have Hq3 := hid (Hx3.out.below hbl (by simp))
  have Hb1 := hid (Hx4.out.trans (hbl.mono (by simp; omega)))
  have hz1 := hbl.size
  simp only [World.size_alloc] at hz1
  clear hbl hq2
  go_wp2_with fail
  refine (devValid_any V B m d xs _ (HB.out.below Hb1.out)).mono ?_
  rw [H2.out]
  rintro e w2 ⟨rfl, hbl⟩
  have hq := Hq3.out.below hbl (by omega)
  have hq0 := hq.c0
  have hq1 := hq.c1
  have hf0 := hq.f 0
  have hf1 := hq.f 1
  have hp := Hq1.out.below hbl (by omega)
  have hp0 := hp.c0
  have hp' := Hq2.out.below hbl (by omega)
  have hp1 := hp'.c0
  have Hb2 := hid (Hb1.out.trans (hbl.mono (by omega)))
  clear hbl hq hp hp' hq20 hq21
  rcases hne with ⟨rfl, rfl⟩ | ⟨rfl, rfl, hne⟩
  · go_wp2_with fail
    refine bodyPost_ret (v := .tuple #[.agg #[.int .i64 0, .slice none 0 0], .int .i64 1]) (by simp [results, Try.results115, go_sem, hq0, hq1]) rfl ⟨_, _, _, rfl, Arg.nil _ _, ?_⟩
    exact ((Hb2.out).setCell (by simp; omega) _).setCell (by simp; omega) _
  · go_wp2_with fail
    refine bodyPost_ret (v := .tuple #[.agg #[.int .i64 0, .slice none 0 0], .int .i64 2]) (by simp [results, Try.results115, go_sem, hq0, hq1]) rfl ⟨_, _, _, rfl, Arg.nil _ _, ?_⟩
    exact ((Hb2.out).setCell (by simp; omega) _).setCell (by simp; omega) _

theorem combDiff_in (W : Nat) (A B : Option Addr) (n c d : Nat) (ws xs : List Nat) (w : World) (hA : Arg w A n ws) (hB : Arg w B n xs) (h : Bs.validB W ws = true) (h2 : Bs.validB W xs = true) :
    Calls Try.prog 115 #[.agg #[.int .i64 W, .slice A n c], .agg #[.int .i64 W, .slice B n d], .func (Fn.func 117) #[] #[]] w (RetErr w (W, Bs.ofP W (fun i => flag true false false (Bs.bit ws i) (Bs.bit xs i)) W, 0)) := by
  have hf1 := Bs.fit_of_valid h hA.ok
  have hf2 := Bs.fit_of_valid h2 hB.ok
  rw [Int.toNat_natCast] at hf1 hf2
  have hn : n = Bs.nw W := by rw [← hf1.len]; exact hA.len.symm
  have hW : W ≤ 256 := by have := (Bs.validB_iff.1 h).2.1; omega
  have hn5 : n ≤ 5 := by rw [hn]; unfold Bs.nw; omega
  rw [← part_done diffW_op hf1 hf2 hn]
  have Hfit := hid (part_fit diffW_op hf1 hf2 hn).1
  have HA := hid hA; have HB := hid hB; have H := hid h; have H2 := hid h2; have Hf1 := hid hf1; have Hf2 := hid hf2
  have hne : ((W : Int) != W) = false := by simp
  have hm := run_rows n (by omega)
  clear hA hB h h2 hf1 hf2 hn hW
  obtain ⟨hx1, hx2, hx3⟩ := box3 w W W A B n c n d
  have hx4 := below3 w (.cells #[.int .i64 W, .slice A n c] 50) (.cells #[.int .i64 W, .slice B n d] 50) (.cells #[.int .i64 0, .slice none 0 0] 50)
  have Hx1 := hid hx1; have Hx2 := hid hx2; have Hx3 := hid hx3; have Hx4 := hid hx4
  clear hx1 hx2 hx3 hx4
  go_enter Try.func115, Try.ntmps115
  go_wp2_with fail
  refine (devValid_any W A n c ws _ (((HA.out.alloc _).alloc _).alloc _)).mono ?_
  rw [H.out]
  rintro e w1 ⟨rfl, hbl⟩
  have hq2 := Hx2.out.below hbl (by simp)
  have hq20 := hq2.c0
  have hq21 := hq2.c1
  have Hq1 := hid (Hx1.out.below hbl (by simp only [World.size_alloc]; omega))
  have Hq2 := hid hq2
  have Hq3 := hid (Hx3.out.below hbl (by simp))
  have Hb1 := hid (Hx4.out.trans (hbl.mono (by simp only [World.size_alloc]; omega)))
  have hz1 := hbl.size
  simp only [World.size_alloc] at hz1
  clear hbl hq2
  go_wp2_with fail
  refine (devValid_any W B n d xs _ (HB.out.below Hb1.out)).mono ?_
  rw [H2.out]
  rintro e w2 ⟨rfl, hbl⟩
  have hp := Hq1.out.below hbl (by omega)
  have hp0 := hp.c0
  have hp00 := hp.c1
  have hp' := Hq2.out.below hbl (by omega)
  have hp1 := hp'.c0
  have hinv : Comb w W A B n c d w2.heap.size (part diffW ws xs n 0) (w2.alloc (.cells (words (List.replicate n 0)).toArray 93)) := by
    rw [part_zero]
    have hz2 := hbl.size
    exact ⟨hp.alloc _, hp'.alloc _, (Hq3.out.below hbl (by omega)).alloc _, heap_alloc_new w2 _, by omega, (Hb1.out.trans (hbl.mono (by omega))).alloc (by omega) _⟩
  have Hinv := hid hinv
  have hz2 := hbl.size
  clear hbl hp hp' hinv hq20 hq21
  go_wp2_with fail
  clear hp0 hp00 hp1 hne hm Hq1 Hq2 Hq3 Hx1 Hx2 Hx3 Hx4 Hb1
  generalize w2.heap.size = g at Hinv hz2 ⊢
  go_loopw [9, 31] (fun _ i wr => ∃ k : Nat, k ≤ n ∧ i = .int .i64 k ∧ Hid (Comb w W A B n c d g (part diffW ws xs n k) wr)) (fun _ i _ => n - (intOf i).toNat)
  case atStart => exact ⟨0, by omega, rfl, Hinv⟩
  case round =>
    obtain ⟨k, hk, rfl, hG⟩ := hrel
    by_cases hlt : k < n
    · obtain ⟨ad, rfl, had, hcA⟩ := HA.out.lies.cell (words_get (i := k) (by rw [HA.out.len]; exact hlt))
      obtain ⟨bd, rfl, hbd, hcB⟩ := HB.out.lies.cell (words_get (i := k) (by rw [HB.out.len]; exact hlt))
      obtain ⟨g1, g2, g3, g4, g5, g6⟩ := hG.out
      have hc11 := g1.c1
      have hc21 := g2.c1
      have hcA2 := (g6.cell (p := ad.add k) (by rw [add_block]; exact had)).trans hcA
      have hcB2 := (g6.cell (p := bd.add k) (by rw [add_block]; exact hbd)).trans hcB
      have hx := Bs.wd_lt HA.out.ok k
      have hy := Bs.wd_lt HB.out.ok k
      have hst := hG.out.set k (diffW (Bs.wd ws k) (Bs.wd xs k))
      rw [part_set hlt] at hst
      have hcg := (g4.cell k).trans (words_get (by rw [part_len]; exact hlt))
      have hfg := g4.frozen k
      generalize Bs.wd ws k = x at hcA2 hx hst
      generalize Bs.wd xs k = y at hcB2 hy hst
      generalize Bs.wd (part diffW ws xs n k) k = z at hcg
      have Hst := hid hst; have Hx := hid hx; have Hy := hid hy
      clear g1 g2 g3 g4 g5 g6 hcA hcB had hbd hst hx hy Hinv HA HB H H2 Hf1 Hf2 Hfit hG
      go_wp2_with fail
      refine wp_region_still_tail 15 (by kernel_rfl) (by kernel_rfl) ?_
      simp only [List.take_succ_cons, List.take_zero, List.drop_succ_cons, List.drop_zero]
      repeat still_step
      still_call (diff1_any _ _ _ Hx.out Hy.out)
      repeat still_step
      try refine wpStill_nil ?_
      change wpList _ _ _ _ _ wr.drew
      go_wp2
      go_roundw
      case rel => exact ⟨k + 1, by omega, by go_num, hid Hst.out.drew⟩
      case measure => simp [intOf]; omega
    · have hkn : k = n := by omega
      subst hkn
      obtain ⟨g1, g2, g3, g4, g5, g6⟩ := hG.out
      have hc10 := g1.c0
      have hr0 := g3.c0
      have hr1 := g3.c1
      have hf0 := g3.f 0
      have hf1 := g3.f 1
      have Hg4 := hid g4; have Hg6 := hid g6
      clear g1 g2 g3 g4 g6 Hinv hG
      go_wp2_with fail
      refine bodyPost_ret (v := .tuple #[.agg #[.int .i64 W, .slice (some ⟨g, 0, none⟩) k k], .int .i64 0]) (by simp [results, Try.results115, go_sem, hr0, hr1]) rfl ⟨_, _, _, rfl, ?_, ?_⟩
      · have hr := Row.arg ((Hg4.out.far (p := ⟨w.heap.size + 1 + 1, 0, none⟩) (by simp; omega) (.int .i64 W)).far (p := ⟨w.heap.size + 1 + 1, 1, none⟩) (by simp; omega) (.slice (some ⟨g, 0, none⟩) k k)) Hfit.out.ok
        rw [part_len] at hr
        exact hr
      · exact (Hg6.out.setCell (by simp; omega) _).setCell (by simp; omega) _

theorem combDiff_any (W V : Int) (A B : Option Addr) (n c m d : Nat) (ws xs : List Nat) (w : World) (hA : Arg w A n ws) (hB : Arg w B m xs) :
    Calls Try.prog 115 #[.agg #[.int .i64 W, .slice A n c], .agg #[.int .i64 V, .slice B m d], .func (Fn.func 117) #[] #[]] w (RetErr w (mixR (flag true false false) W ws V xs)) := by
  cases h : Bs.validB W ws with
  | false => exact combDiff_bad1 W V A B n c m d ws xs w hA h
  | true =>
    cases h2 : Bs.validB V xs with
    | false => exact combDiff_bad2 W V A B n c m d ws xs w hA hB h (.inl h2)
    | true =>
      by_cases hne : W = V
      · subst hne
        obtain ⟨v, rfl⟩ := Int.eq_ofNat_of_zero_le (Bs.validB_iff.1 h).1
        have hnm : n = m := by
          have e1 := (Bs.fit_of_valid h hA.ok).len
          have e2 := (Bs.fit_of_valid h2 hB.ok).len
          rw [← hA.len, ← hB.len, e1, e2]
        subst hnm
        have hr : mixR (flag true false false) (v : Int) ws (v : Int) xs = ((v : Int), Bs.ofP v (fun i => flag true false false (Bs.bit ws i) (Bs.bit xs i)) v, 0) := by
          unfold mixR; rw [if_neg (by simp [h, h2]), if_neg (by simp), Int.toNat_natCast]
        rw [hr]
        exact combDiff_in v A B n c d ws xs w hA hB h h2
      · exact combDiff_bad2 W V A B n c m d ws xs w hA hB h (.inr ⟨h2, hne⟩)

theorem devDiff_any (W V : Int) (A B : Option Addr) (n c m d : Nat) (ws xs : List Nat) (w : World) (hA : Arg w A n ws) (hB : Arg w B m xs) :
    Calls Try.prog 100 #[.agg #[.int .i64 W, .slice A n c], .agg #[.int .i64 V, .slice B m d]] w (RetErr w (mixR (flag true false false) W ws V xs)) := by
  have HA := hid hA; have HB := hid hB
  clear hA hB
  obtain ⟨hx1, hx2, hx3⟩ := box3 w W V A B n c m d
  have hx4 := below3 w (.cells #[.int .i64 W, .slice A n c] 50) (.cells #[.int .i64 V, .slice B m d] 50) (.cells #[.int .i64 0, .slice none 0 0] 50)
  have Hx3 := hid hx3; have Hx4 := hid hx4
  clear hx1 hx2 hx3 hx4
  generalize hr : mixR (flag true false false) W ws V xs = r
  have Hr := hid hr
  clear hr
  go_enter Try.func100, Try.ntmps100
  go_wp2_with fail
  refine (combDiff_any W V A B n c m d ws xs _ (HA.out.below Hx4.out) (HB.out.below Hx4.out)).mono ?_
  rw [Hr.out]
  rintro e w1 ⟨A1, n1, c1, rfl, ha, hb⟩
  have hq := Hx3.out.below hb (by simp)
  have hq0 := hq.c0
  have hq1 := hq.c1
  have hf0 := hq.f 0
  have hf1 := hq.f 1
  have Ha := hid ha; have Hb := hid hb; have Hq := hid hq
  clear hq ha hb
  go_wp2_with fail
  refine bodyPost_ret (v := .tuple #[.agg #[.int .i64 r.1, .slice A1 n1 c1], .int .i64 r.2.2]) (by simp [results, Try.results100, go_sem, hq0, hq1]) rfl ⟨A1, n1, c1, rfl, ?_, ?_⟩
  · exact Hq.out.store Ha.out _ _
  · exact ((Hx4.out.trans (Hb.out.mono (by simp only [World.size_alloc]; omega))).setCell (by simp; omega) _).setCell (by simp; omega) _
end Go.Proofs.Ytopkmeceakjocaa
