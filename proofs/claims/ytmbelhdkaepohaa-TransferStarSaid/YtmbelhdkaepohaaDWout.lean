/- The package's With and Without: the errors, and the copy with one bit more or less. -/
import Derived.Test.YtmbelhdkaepohaaDWith
namespace Go.Proofs.Ytmbelhdkaepohaa
set_option maxRecDepth 20000
open Go.ChangeShapes Go.WideShapes Go.ChangeAt Go.RowKit

/-- Go's 'x &^ (1 << j)' on words. -/
theorem andNot_bit (x j : Nat) (hx : x < Bs.W64) (hj : j < 64) : bits BinOp.andNot IntKind.u64 (x : Int) (IntKind.u64.wrap (2 ^ j)) = ((x &&& (18446744073709551615 - 2 ^ j) : Nat) : Int) := by
  have hp : 2 ^ j < 18446744073709551616 := by
    have : (2 : Nat) ^ j < 2 ^ 64 := Nat.pow_lt_pow_right (by decide) hj
    simpa using this
  have e : IntKind.u64.wrap (2 ^ j) = ((2 ^ j : Nat) : Int) := by
    rw [show ((2 : Int) ^ j) = ((2 ^ j : Nat) : Int) from by simp]
    generalize 2 ^ j = p at hp
    exact IntWalk.u64_in _ (by omega)
  rw [e]
  exact u64_andNot_nat x (2 ^ j) hx hp

theorem Filling.drew {w wr : World} {b r v g n c : Nat} {zs : List Nat} (h : Filling w b r v g n c zs wr) : Filling w b r v g n c zs wr.drew := by
  obtain ⟨h1, h2, h3, h4, h5, h6, h7⟩ := h
  exact ⟨h1, World.ownsRow.drew h2, h3, h4, h5, h6, h7.drew⟩

/-- The words without bit b. -/
def cutB (ws : List Nat) (b : Nat) : List Nat := ws.set (b / 64) (Bs.wd ws (b / 64) &&& (18446744073709551615 - 2 ^ (b % 64)))
theorem wd_cut (ws : List Nat) (b i : Nat) (h : b / 64 < ws.length) : Bs.wd (cutB ws b) i = if i = b / 64 then Bs.wd ws (b / 64) &&& (18446744073709551615 - 2 ^ (b % 64)) else Bs.wd ws i := by
  unfold cutB
  split
  · next e => subst e; unfold Bs.wd; simp [h]
  · next e => unfold Bs.wd; rw [List.getD_eq_getElem?_getD, List.getElem?_set_ne (by omega), ← List.getD_eq_getElem?_getD]
theorem bit_cut (ws : List Nat) (b i : Nat) (h : b / 64 < ws.length) : Bs.bit (cutB ws b) i = (Bs.bit ws i && !decide (i = b)) := by
  unfold Bs.bit
  rw [wd_cut ws b _ h]
  by_cases e : i / 64 = b / 64
  · have hp : 2 ^ (b % 64) < 2 ^ 64 := Nat.pow_lt_pow_right (by decide) (by omega)
    rw [if_pos e, Nat.testBit_and, e, show 18446744073709551615 - 2 ^ (b % 64) = 2 ^ 64 - (2 ^ (b % 64) + 1) from by omega, Nat.testBit_two_pow_sub_succ hp, Nat.testBit_two_pow]
    congr 1
    have : i % 64 < 64 := by omega
    by_cases e2 : i = b
    · subst e2; simp
    · have : b % 64 ≠ i % 64 := by omega
      simp [e2, this]; omega
  · rw [if_neg e]
    have : i ≠ b := by intro h; subst h; exact e rfl
    simp [this]
theorem fit_cut {w : Nat} {ws : List Nat} (h : Bs.Fit w ws) {b : Nat} (hb : b < w) : Bs.Fit w (cutB ws b) := by
  have hl : b / 64 < ws.length := by rw [h.len]; exact Bs.lt_nw hb
  refine ⟨by unfold cutB; simpa using h.len, ?_, ?_⟩
  · intro x hx
    unfold cutB at hx
    rcases List.mem_or_eq_of_mem_set hx with hx | hx
    · exact h.ok x hx
    · subst hx
      exact Nat.lt_of_le_of_lt Nat.and_le_left (Bs.wd_lt h.ok _)
  · intro i hi
    rw [bit_cut ws b i hl, h.hi i hi]; rfl
theorem cut_eq {w : Nat} {ws : List Nat} (h : Bs.Fit w ws) {b : Nat} (hb : b < w) : cutB ws b = Bs.ofP w (fun i => Bs.bit ws i && !decide (i = b)) w := by
  have hl : b / 64 < ws.length := by rw [h.len]; exact Bs.lt_nw hb
  refine Bs.ext (fit_cut h hb) (Bs.fit_ofP _ _ _ (Nat.le_refl _)) fun i hi => ?_
  rw [bit_cut ws b i hl, Bs.bit_ofP _ _ _ (Nat.le_refl _)]
  simp [hi]

theorem devWithout_err (r : Int) (hr1 : r = 1 ∨ r = 3) (W : Int) (A : Option Addr) (n c : Nat) (b : Int) (w : World)
    (hc : ∀ w', Below w.heap.size w w' → Calls Try.prog 85 #[.agg #[.int .i64 W, .slice A n c], .int .i64 b] w' (RetErr w' (0, [], r))) :
    Calls Try.prog 65 #[.agg #[.int .i64 W, .slice A n c], .int .i64 b] w (RetErr w (0, [], r)) := by
  obtain ⟨_, hx2⟩ := boxB w W A n c
  have hx4 := below2 w (.cells #[.int .i64 W, .slice A n c] 25) (.cells #[.int .i64 0, .slice none 0 0] 25)
  have Hx2 := hid hx2; have Hb0 := hid hx4; have Hc := hid hc
  have t : (r != 0) = true := by rcases hr1 with rfl | rfl <;> rfl
  clear hx2 hx4 hc hr1
  go_enter Try.func65, Try.ntmps65
  go_wp2_with fail
  refine (Hc.out _ Hb0.out).mono ?_
  rintro e w1 ⟨A1, n1, c1, rfl, ha, hb⟩
  have hq := Hx2.out.below hb (by simp)
  have hq0 := hq.c0
  have hq1 := hq.c1
  have hf0 := hq.f 0
  have hf1 := hq.f 1
  have hz2 := hq.lt
  have Hb := hid (Hb0.out.trans (hb.mono (by simp only [World.size_alloc]; omega)))
  have hz3 := Hb.out.size
  clear hq ha hb
  simp only []
  go_wp2_with fail
  exact bodyPost_ret (v := .tuple #[.agg #[.int .i64 0, .slice none 0 0], .int .i64 r]) (by simp [results, Try.results65, go_sem, hq0, hq1, hz2]) rfl ⟨_, _, _, rfl, Arg.nil _ _, ((Hb.out.setCell (by simp) _).setCell (by simp) _).alloc (by simp; omega) _⟩

set_option maxHeartbeats 800000 in
theorem devWithout_in (v : Nat) (A : Option Addr) (n c : Nat) (ws : List Nat) (k : Nat) (w : World) (hA : Arg w A n ws) (h : Bs.validB v ws = true) (hk : k < v) :
    Calls Try.prog 65 #[.agg #[.int .i64 v, .slice A n c], .int .i64 k] w (RetErr w (v, cutB ws k, 0)) := by
  have hf := Bs.fit_of_valid h hA.ok
  rw [Int.toNat_natCast] at hf
  have hv : v ≤ 256 := by have := (Bs.validB_iff.1 h).2.1; omega
  have hn : n = Bs.nw v := by rw [← hA.len]; exact hf.len
  have hkn : k / 64 < n := by rw [hn]; exact Bs.lt_nw hk
  have Hfit := hid (fit_cut hf hk)
  have Hok := hid hf.ok
  have hk0 : (0 : Int) ≤ k := by omega
  obtain ⟨_, hx2⟩ := boxB w v A n c
  have hx4 := below2 w (.cells #[.int .i64 v, .slice A n c] 25) (.cells #[.int .i64 0, .slice none 0 0] 25)
  have Hx2 := hid hx2; have Hb0 := hid hx4; have HA := hid hA; have H := hid h
  clear hx2 hx4 hA h hf hn
  go_enter Try.func65, Try.ntmps65
  go_wp2_with fail
  refine (copyFor_in v A n c ws k _ (HA.out.below Hb0.out) H.out hk).mono ?_
  rintro e w2 ⟨g, c', rfl, ho, hb⟩
  have hst := Filling.start (w := w) (r := w.heap.size + 1) (v := v) (zs := ws) (OwnW.less ho (by simp only [World.size_alloc]; omega)) (Hx2.out.below hb (by simp)) (by omega) (Hb0.out.trans (hb.mono (by simp only [World.size_alloc]; omega)))
  have Hst := hid hst
  obtain ⟨⟨⟨hc0, hc1⟩, hr0, hr1⟩, ⟨hf0, hf1⟩, hne⟩ := hst.cells
  clear hst ho hb Hx2 Hb0 HA H
  go_wp2_with fail
  have hl := Hst.out.2.1.len
  have hcell := (Hst.out.2.1.cellAt (k / 64) (by omega)).trans (words_get (by omega))
  have hfr := Hst.out.2.1.frozenAt (k / 64)
  have hD := Hst.out.drew
  have hst := hD.2.1.stored (k / 64) (.int .u64 (Bs.wd ws (k / 64) &&& (18446744073709551615 - 2 ^ (k % 64)) : Nat))
  have hor := andNot_bit (Bs.wd ws (k / 64)) (k % 64) (Bs.wd_lt Hok.out _) (by omega)
  rw [words_set] at hst
  have e : ws.set (k / 64) (Bs.wd ws (k / 64) &&& (18446744073709551615 - 2 ^ (k % 64))) = cutB ws k := rfl
  rw [e] at hst
  have hfin := hD.put hst.1 hst.2
  generalize Bs.wd ws (k / 64) &&& (18446744073709551615 - 2 ^ (k % 64)) = y at hor hfin
  generalize Bs.wd ws (k / 64) = x at hcell hor
  have hw : IntKind.i64.wrap ((k : Int) / 64) = ((k / 64 : Nat) : Int) := by rw [IntWalk.i64_in _ (by omega)]; simp
  have Hfin := hid hfin
  clear hst e hfin hl hD Hst
  generalize k / 64 = q at *
  have hq0 : (0 : Int) ≤ q := by omega
  have hq1 : (q : Int) < n := by omega
  generalize w2.alloc (.cells #[.int .i64 v, .slice (some ⟨g, 0, none⟩) n c'] 25) = wr at *
  refine wp_region_still_tail 10 (by kernel_rfl) (by kernel_rfl) ?_
  simp only [List.take_succ_cons, List.take_zero, List.drop_succ_cons, List.drop_zero]
  repeat still_step
  still_call (mask_any _ _)
  repeat still_step
  try refine wpStill_nil ?_
  change wpList _ _ _ _ _ (World.drew _)
  have hfr' : wr.drew.frozen? ⟨g, q, none⟩ = false := hfr
  have hcell' : wr.drew.cell? ⟨g, q, none⟩ = some (.int .u64 x) := hcell
  obtain ⟨⟨⟨hc0', hc1'⟩, hr0', hr1'⟩, ⟨hf0', hf1'⟩, hne'⟩ := Hfin.out.cells
  have Hd := hid (Hfin.out.done Hfit.out.ok)
  generalize wr.drew = wq at *
  clear hc0 hc1 hr0 hr1 hf0 hf1 hfr hcell Hfin
  go_wp2_with fail
  exact bodyPost_ret (v := .tuple #[.agg #[.int .i64 v, .slice (some ⟨g, 0, none⟩) n c'], .int .i64 0]) (by simp [results, Try.results65, go_sem, hr0', hr1']) rfl ⟨_, _, _, rfl, Hd.out.1, Hd.out.2⟩

theorem devWithout_any (W : Int) (A : Option Addr) (n c : Nat) (ws : List Nat) (b : Int) (w : World) (hA : Arg w A n ws) :
    Calls Try.prog 65 #[.agg #[.int .i64 W, .slice A n c], .int .i64 b] w (RetErr w (withoutR W ws b)) := by
  cases hv : Bs.validB W ws with
  | false =>
    have hr : withoutR W ws b = (0, [], 1) := by unfold withoutR; rw [if_pos hv]
    rw [hr]
    exact devWithout_err 1 (.inl rfl) W A n c b w fun w' hb => copyFor_bad W A n c ws b w' (hA.below hb) hv
  | true =>
    by_cases h0 : b < 0 ∨ W ≤ b
    · have hr : withoutR W ws b = (0, [], 3) := by unfold withoutR; rw [if_neg (by simp [hv]), if_pos h0]
      rw [hr]
      exact devWithout_err 3 (.inr rfl) W A n c b w fun w' hb => copyFor_out W A n c ws b w' (hA.below hb) hv (by rcases h0 with h | h <;> simp <;> omega)
    · obtain ⟨v, rfl⟩ := Int.eq_ofNat_of_zero_le (Bs.validB_iff.1 hv).1
      obtain ⟨k, rfl⟩ := Int.eq_ofNat_of_zero_le (a := b) (by omega)
      have hf := Bs.fit_of_valid hv hA.ok
      rw [Int.toNat_natCast] at hf
      have hr : withoutR (v : Int) ws (k : Int) = ((v : Int), cutB ws k, 0) := by
        unfold withoutR; rw [if_neg (by simp [hv]), if_neg h0]; rw [cut_eq hf (by omega), Int.toNat_natCast, Int.toNat_natCast]
      rw [hr]
      exact devWithout_in v A n c ws k w hA hv (by omega)
end Go.Proofs.Ytmbelhdkaepohaa
