/- The package's Without, where the bit is one of the set's: the words of its result are the call's own. -/
import Derived.Test.YtmbelhdkaepohaaDWout
namespace Go.Proofs.Ytmbelhdkaepohaa
set_option maxRecDepth 20000
open Go.ChangeShapes Go.WideShapes Go.ChangeAt Go.RowKit

theorem Filling.doneW {w wr : World} {b r v g n c : Nat} {zs : List Nat} (h : Filling w b r v g n c zs wr) :
    OwnW ((wr.setCell ⟨r, 0, none⟩ (.int .i64 v)).setCell ⟨r, 1, none⟩ (.slice (some ⟨g, 0, none⟩) n c)) w.heap.size g n c zs ∧
      Below w.heap.size w ((wr.setCell ⟨r, 0, none⟩ (.int .i64 v)).setCell ⟨r, 1, none⟩ (.slice (some ⟨g, 0, none⟩) n c)) := by
  obtain ⟨h1, h2, h3, h4, h5, h6, h7⟩ := h
  have e2 := h6.own_ne h2
  exact ⟨(h2.far (p := ⟨r, 0, none⟩) e2 _).far (p := ⟨r, 1, none⟩) e2 _, (h7.setCell (by simpa using h5) _).setCell (by simpa using h5) _⟩

set_option maxHeartbeats 800000 in
theorem devWithout_own (v : Nat) (A : Option Addr) (n c : Nat) (ws : List Nat) (k : Nat) (w : World) (hA : Arg w A n ws) (h : Bs.validB v ws = true) (hk : k < v) :
    Calls Try.prog 65 #[.agg #[.int .i64 v, .slice A n c], .int .i64 k] w fun e w' => ∃ (g c' : Nat), e = .returned (.tuple #[.agg #[.int .i64 v, .slice (some ⟨g, 0, none⟩) n c'], .int .i64 0]) ∧ OwnW w' w.heap.size g n c' (cutB ws k) ∧ Below w.heap.size w w' := by
  have hf := Bs.fit_of_valid h hA.ok
  rw [Int.toNat_natCast] at hf
  have hv : v ≤ 256 := by have := (Bs.validB_iff.1 h).2.1; omega
  have hn : n = Bs.nw v := by rw [← hA.len]; exact hf.len
  have hkn : k / 64 < n := by rw [hn]; exact Bs.lt_nw hk
  have Hfit := hid (fit_cut hf hk)
  have Hok := hid hf.ok
  have hk0 : (0 : Int) ≤ k := by omega
  obtain ⟨_, hx2⟩ := boxB w v A n c
  have hx4 := below2 w (.cells #[.int .i64 v, .slice A n c] 25) (.cells #[.int .i64 0, .slice none 0 0] 25)
  have Hx2 := hid hx2; have Hb0 := hid hx4; have HA := hid hA; have H := hid h
  clear hx2 hx4 hA h hf hn
  go_enter Try.func65, Try.ntmps65
  go_wp2_with fail
  refine (copyFor_in v A n c ws k _ (HA.out.below Hb0.out) H.out hk).mono ?_
  rintro e w2 ⟨g, c', rfl, ho, hb⟩
  have hst := Filling.start (w := w) (r := w.heap.size + 1) (v := v) (zs := ws) (OwnW.less ho (by simp only [World.size_alloc]; omega)) (Hx2.out.below hb (by simp)) (by omega) (Hb0.out.trans (hb.mono (by simp only [World.size_alloc]; omega)))
  have Hst := hid hst
  obtain ⟨⟨⟨hc0, hc1⟩, hr0, hr1⟩, ⟨hf0, hf1⟩, hne⟩ := hst.cells
  clear hst ho hb Hx2 Hb0 HA H
  go_wp2_with fail
  have hl := Hst.out.2.1.len
  have hcell := (Hst.out.2.1.cellAt (k / 64) (by omega)).trans (words_get (by omega))
  have hfr := Hst.out.2.1.frozenAt (k / 64)
  have hD := Hst.out.drew
  have hst := hD.2.1.stored (k / 64) (.int .u64 (Bs.wd ws (k / 64) &&& (18446744073709551615 - 2 ^ (k % 64)) : Nat))
  have hor := andNot_bit (Bs.wd ws (k / 64)) (k % 64) (Bs.wd_lt Hok.out _) (by omega)
  rw [words_set] at hst
  have e : ws.set (k / 64) (Bs.wd ws (k / 64) &&& (18446744073709551615 - 2 ^ (k % 64))) = cutB ws k := rfl
  rw [e] at hst
  have hfin := hD.put hst.1 hst.2
  generalize Bs.wd ws (k / 64) &&& (18446744073709551615 - 2 ^ (k % 64)) = y at hor hfin
  generalize Bs.wd ws (k / 64) = x at hcell hor
  have hw : IntKind.i64.wrap ((k : Int) / 64) = ((k / 64 : Nat) : Int) := by rw [IntWalk.i64_in _ (by omega)]; simp
  have Hfin := hid hfin
  clear hst e hfin hl hD Hst
  generalize k / 64 = q at *
  have hq0 : (0 : Int) ≤ q := by omega
  have hq1 : (q : Int) < n := by omega
  generalize w2.alloc (.cells #[.int .i64 v, .slice (some ⟨g, 0, none⟩) n c'] 25) = wr at *
  refine wp_region_still_tail 10 (by kernel_rfl) (by kernel_rfl) ?_
  simp only [List.take_succ_cons, List.take_zero, List.drop_succ_cons, List.drop_zero]
  repeat still_step
  still_call (mask_any _ _)
  repeat still_step
  try refine wpStill_nil ?_
  change wpList _ _ _ _ _ (World.drew _)
  have hfr' : wr.drew.frozen? ⟨g, q, none⟩ = false := hfr
  have hcell' : wr.drew.cell? ⟨g, q, none⟩ = some (.int .u64 x) := hcell
  obtain ⟨⟨⟨hc0', hc1'⟩, hr0', hr1'⟩, ⟨hf0', hf1'⟩, hne'⟩ := Hfin.out.cells
  have Hd := hid (Hfin.out.doneW)
  generalize wr.drew = wq at *
  clear hc0 hc1 hr0 hr1 hf0 hf1 hfr hcell Hfin
  go_wp2_with fail
  exact bodyPost_ret (v := .tuple #[.agg #[.int .i64 v, .slice (some ⟨g, 0, none⟩) n c'], .int .i64 0]) (by simp [results, Try.results65, go_sem, hr0', hr1']) rfl ⟨g, c', rfl, Hd.out.1, Hd.out.2⟩

end Go.Proofs.Ytmbelhdkaepohaa
