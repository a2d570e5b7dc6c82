/- The walk of BitsetReads: it returns true for every list of choices, every set and every number, and writes new memory only. -/
import Derived.Test.YtljdjidpbblbbaaDoorReads
import Derived.Test.YtljdjidpbblbbaaDoorLawMakes
namespace Go.Proofs.YtljdjidpbblbbaaDoor
set_option maxRecDepth 10000
open Go.ChangeShapes Go.WideShapes Go.ChangeAt Go.RowKit

/-- Between the rounds: one variable, the tape, nothing old has changed. -/
def Between1 (w : World) (W : Int) (A : Option Addr) (n c : Nat) (T : Nat) (wr : World) : Prop :=
  Box wr w.heap.size W A n c ∧ Tape wr T ∧ Below w.heap.size w wr ∧ w.heap.size < T
theorem Between1.step {w wr w' : World} {W : Int} {A : Option Addr} {n c T : Nat} (h : Between1 w W A n c T wr) (ht : Tape w' T) (hg : wr.grownBy w' (some T)) : Between1 w W A n c T w' := by
  obtain ⟨h1, h3, h4, h5⟩ := h
  exact ⟨h1.grown hg (some_ne (by omega)), ht, after_app h4 hg (by omega), h5⟩
theorem Between1.alloc {w wr : World} {W : Int} {A : Option Addr} {n c T : Nat} (h : Between1 w W A n c T wr) (o : Obj) : Between1 w W A n c T (wr.alloc o) :=
  h.step (h.2.1.alloc o) (grown_of_below ((Below.refl _ _).alloc (Nat.le_refl _) o) _)

set_option maxHeartbeats 6400000 in
theorem lawReads (At : Option Addr) (nt ct : Nat) (zs : List Int) (W : Int) (A : Option Addr) (n c : Nat) (ws : List Nat) (b : Int) (w : World) (ht : IArg w At nt zs) (hnt : nt ≤ maxLen) (hA : Arg w A n ws) (hTb : Tab w) :
    Calls Tryd.prog 3 #[.slice At nt ct, .agg #[.int .i64 W, .slice A n c], .int .i64 b] w fun e w' => e = .returned (.bool true) ∧ Below w.heap.size w w' := by
  have hb0 := (Below.refl w.heap.size w).alloc (Nat.le_refl _) (.cells #[.int .i64 W, .slice A n c] 25)
  have hinv : Between1 w W A n c (w.heap.size + 1) ((w.alloc (.cells #[.int .i64 W, .slice A n c] 25)).alloc (.cells #[.slice At nt ct, .int .i64 0] 58)) := by
    have htp := tape_new (c := ct) (ht.below hb0) hnt
    rw [World.size_alloc] at htp
    exact ⟨(Box.new w W A n c).alloc _, htp, hb0.alloc (by simp only [World.size_alloc]; omega) _, by omega⟩
  have Hinv := hid hinv
  have HA := hid hA; have HTb := hid hTb
  clear hinv hA ht hb0 hTb
  go_enter Tryd.func3, Tryd.ntmps3
  go_wp2_with (go_at_call 9; refine (new_any At nt ct _).mono ?_; rintro e w1 ⟨rfl, rfl⟩)
  generalize hT : w.heap.size + 1 = T at *
  have HT := hid hT
  clear hT
  go_loopw [8] (fun i wr => ∃ k : Nat, k ≤ 5 ∧ i = .int .i64 k ∧ Hid (Between1 w W A n c T wr)) (fun i _ => 5 - (intOf i).toNat)
  case atStart => exact ⟨0, by omega, rfl, Hinv⟩
  case round =>
    obtain ⟨k, hk, rfl, hG⟩ := hrel
    by_cases hlt : k < 5
    · have htt := hid hG.out.2.1
      go_wp2_with fail
      refine (wide_any T _ htt.out).mono ?_
      rintro e w1 ⟨v, ax, nx, cx, sx, rfl, hv, hfx, hax, ht1, hg1⟩
      have hG1 := hid ((hG.out.step ht1 hg1).alloc (.cells #[.int .i64 v, .slice (some ax) nx cx] 25))
      have hnx := fit_len hfx hax hv
      have fx := Box.new w1 v (some ax) nx cx
      have Gx := hid (hax.alloc (.cells #[.int .i64 v, .slice (some ax) nx cx] 25))
      have hTx := fx.tape_ne hG1.out.2.1
      have HT8 := hid hG1.out.2.1
      have HTw := hid (HTb.out.below hG1.out.2.2.1 HTb.out.lt)
      have H3 := hid (show T ≠ 3 by have := HTb.out.lt; have := hG1.out.2.2.2; omega)
      clear ht1 hg1 hfx hax hG htt
      go_upto_region 6 with fail
      generalize w1.alloc (.cells #[.int .i64 v, .slice (some ax) nx cx] 25) = W8 at *
      generalize w1.heap.size = bx at *
      have hK : ∀ w', W8.grownBy w' (some T) → Tape w' T → ((fun w' => W8.grownBy w' (some T) ∧ Tape w' T ∧ (w'.cell? ⟨bx, 0, none⟩ = some (.int .i64 (v : Int)) ∧ w'.cell? ⟨bx, 1, none⟩ = some (.slice (some ax) nx cx))) w') := fun w' hg ht => ⟨hg, ht, fx.hold hg (Ne.symm hTx)⟩
      have HK := hid hK
      clear hK fx hTx
      go_region_held3 (fun w' => W8.grownBy w' (some T) ∧ Tape w' T ∧ (w'.cell? ⟨bx, 0, none⟩ = some (.int .i64 (v : Int)) ∧ w'.cell? ⟨bx, 1, none⟩ = some (.slice (some ax) nx cx)))
        (first | exact HK.out _ (grown_drew _ _) (HT8.out.keep fun _ _ => rfl) | assumption)
        (first
          | (go_at_call 11
             go_must (
             go_split_ands
             first
               | (with_reducible refine (reads_any v (some ax) nx cx sx _ _ (by exact Arg.tape Gx.out HT8.out (by assumption)) (by exact Tab.grown HTw.out (by assumption) H3.out)).mono ?_)
               | (with_reducible refine (reads_any W6 (some a6) n6 c6 s6 _ _ ha6.out (by exact Tab.grown HTw.out (by assumption) H3.out)).mono ?_)
             rintro e wn ⟨rfl, hbk⟩
             obtain ⟨hgn, htn⟩ := step_b (W8 := W8) (T := T) (by assumption) (by assumption) hbk
             have hS := HK.out _ hgn htn
             clear hbk))
          | (go_at_call 12
             go_must (
             go_split_ands
             refine (next_any T _ _ (by assumption) (by omega)).mono ?_
             rintro e wn ⟨r, rfl, hr0, hr1, htn, hg6, hz6⟩
             have hgn := grown_trans (a := W8) (by assumption) hg6
             have hS := HK.out _ hgn htn
             have hr2 : r < 300 := (by omega)
             first | have ha6 := hid (ha6.out.tape (by assumption) hg6) | skip
             clear hg6 hr1 hz6))
          | (go_at_call 13
             go_must (
             go_split_ands
             refine (spoil_any T v ax nx cx sx _ (by assumption) (by exact Arg.tape Gx.out HT8.out (by assumption)) (by omega) (by omega) (by omega)).mono ?_
             rintro e wn ⟨W6, a6, n6, c6, s6, rfl, hn6, ha6', htn, hg6⟩
             have hgn := grown_trans (a := W8) (by assumption) hg6
             have hS := HK.out _ hgn htn
             have ha6 := hid ha6'
             clear ha6' hg6)))
      have hGn := hid (hG1.out.step htn hgn)
      go_wp2_with fail
      go_roundw
      case rel => exact ⟨k + 1, by omega, by go_num, hGn⟩
      case measure => simp [intOf]; omega
    · obtain ⟨h1, h3, h4, h5⟩ := hG.out
      have x0 := h1.c0
      have x1 := h1.c1
      have H4 := hid h4
      clear h1 h3 h4 h5
      by_cases c1 : 50 < n
      · have t1 : decide (50 < (n : Int)) = true := by simp; omega
        have t1' : decide (50 < n) = true := by simp; omega
        go_wp2_with fail
        go_ret
        exact ⟨ret_bool (by simp), H4.out⟩
      · have t1 : decide (50 < (n : Int)) = false := by simp; omega
        go_wp2_with fail
        refine (reads_any W A n c ws b _ (HA.out.below H4.out) (HTb.out.below H4.out HTb.out.lt)).mono ?_
        rintro e w5 ⟨rfl, hb5⟩
        have Hb5 := hid (H4.out.trans (hb5.mono H4.out.size))
        clear hb5
        go_wp2_with fail
        refine (sane_any _).mono ?_
        rintro e w6 ⟨rfl, hb6⟩
        have Hb6 := hid (Hb5.out.trans (hb6.mono Hb5.out.size))
        clear hb6
        go_wp2_with fail
        go_ret
        exact ⟨ret_bool (by simp), Hb6.out⟩
end Go.Proofs.YtljdjidpbblbbaaDoor
