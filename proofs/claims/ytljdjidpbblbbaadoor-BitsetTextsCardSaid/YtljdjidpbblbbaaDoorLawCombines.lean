/- The walk of BitsetCombines: it returns true for every list of choices and every two sets, and writes new memory only. -/
import Derived.Test.YtljdjidpbblbbaaDoorSane
namespace Go.Proofs.YtljdjidpbblbbaaDoor
set_option maxRecDepth 10000
open Go.ChangeShapes Go.WideShapes Go.ChangeAt Go.RowKit

theorem new_any (A : Option Addr) (n c : Nat) (w : World) :
    Calls Tryd.prog 9 #[.slice A n c] w fun e w' => e = .returned (.pointer (some ⟨w.heap.size, 0, none⟩)) ∧ w.alloc (.cells #[.slice A n c, .int .i64 0] 58) = w' := by
  go_enter Tryd.func9, Tryd.ntmps9
  go_wp2
  go_ret
  exact ⟨rfl, rfl⟩
theorem tape_new {w : World} {A : Option Addr} {n c : Nat} {zs : List Int} (h : IArg w A n zs) (hn : n ≤ maxLen) : Tape (w.alloc (.cells #[.slice A n c, .int .i64 0] 58)) w.heap.size :=
  ⟨A, n, c, 0, zs, heap_alloc_new w _, h.len, hn, Nat.zero_le _, h.lies.keep (fun p hp => World.cell?_alloc_lt w _ p hp) (Nat.le_refl _)⟩

/-- Between the statement's rounds: two variables of its own, the tape, and nothing old has changed. -/
def Between (w : World) (W V : Int) (A B : Option Addr) (n c m d : Nat) (T : Nat) (wr : World) : Prop :=
  Box wr w.heap.size W A n c ∧ Box wr (w.heap.size + 1) V B m d ∧ Tape wr T ∧ Below w.heap.size w wr ∧ w.heap.size + 1 < T
theorem Between.step {w wr w' : World} {W V : Int} {A B : Option Addr} {n c m d T : Nat} (h : Between w W V A B n c m d T wr) (ht : Tape w' T) (hg : wr.grownBy w' (some T)) : Between w W V A B n c m d T w' := by
  obtain ⟨h1, h2, h3, h4, h5⟩ := h
  exact ⟨h1.grown hg (some_ne (by omega)), h2.grown hg (some_ne (by omega)), ht, after_app h4 hg (by omega), h5⟩
theorem Between.below {w wr w' : World} {W V : Int} {A B : Option Addr} {n c m d T : Nat} (h : Between w W V A B n c m d T wr) (hb : Below wr.heap.size wr w') : Between w W V A B n c m d T w' :=
  h.step (h.2.2.1.below hb h.2.2.1.lt) (grown_of_below hb _)
theorem Between.alloc {w wr : World} {W V : Int} {A B : Option Addr} {n c m d T : Nat} (h : Between w W V A B n c m d T wr) (o : Obj) : Between w W V A B n c m d T (wr.alloc o) :=
  h.below ((Below.refl _ _).alloc (Nat.le_refl _) o)

theorem pick4 (v0 v1 v2 v3 : Nat) (hv : v0 ≤ 256 ∧ v1 ≤ 256 ∧ v2 ≤ 256 ∧ v3 ≤ 256) (r : Int) (h0 : 0 ≤ r) (h1 : r < 4) (w w1 : World) {T : Nat} (hg : (w.alloc (Obj.cells #[Value.int IntKind.i64 v0, Value.int IntKind.i64 v1, Value.int IntKind.i64 v2, Value.int IntKind.i64 v3] 3)).grownBy w1 (some T)) (hT : w.heap.size ≠ T) :
    ∃ v : Nat, v ≤ 256 ∧ w1.cell? ⟨w.heap.size, r.toNat, none⟩ = some (.int .i64 v) := by
  have hh := heap_alloc_new w (Obj.cells #[Value.int IntKind.i64 v0, Value.int IntKind.i64 v1, Value.int IntKind.i64 v2, Value.int IntKind.i64 v3] 3)
  have hblk := hg.block w.heap.size (by rw [World.size_alloc]; omega) (some_ne hT)
  rw [hh] at hblk
  have : r = 0 ∨ r = 1 ∨ r = 2 ∨ r = 3 := by omega
  rcases this with rfl | rfl | rfl | rfl
  · exact ⟨v0, by omega, by simp [World.cell?, hblk]⟩
  · exact ⟨v1, by omega, by simp [World.cell?, hblk]⟩
  · exact ⟨v2, by omega, by simp [World.cell?, hblk]⟩
  · exact ⟨v3, by omega, by simp [World.cell?, hblk]⟩
theorem fit_len {W : Nat} {ws : List Nat} {w : World} {A : Option Addr} {n : Nat} (h : Bs.Fit W ws) (ha : Arg w A n ws) (hW : W ≤ 256) : n ≤ 5 := by
  rw [← ha.len, h.len]; unfold Bs.nw; omega

theorem step_b {W8 wc wn : World} {T : Nat} (hg : W8.grownBy wc (some T)) (ht : Tape wc T) (hb : Below wc.heap.size wc wn) : W8.grownBy wn (some T) ∧ Tape wn T :=
  ⟨grown_trans hg (grown_of_below hb _), ht.below hb ht.lt⟩
theorem Box.hold {W w' : World} {b T : Nat} {V : Int} {A : Option Addr} {n c : Nat} (h : Box W b V A n c) (hg : W.grownBy w' (some T)) (hne : b ≠ T) : w'.cell? ⟨b, 0, none⟩ = some (.int .i64 V) ∧ w'.cell? ⟨b, 1, none⟩ = some (.slice A n c) := by
  have h' := h.grown hg (some_ne hne)
  exact ⟨h'.c0, h'.c1⟩

set_option maxHeartbeats 3200000 in
theorem lawCombines (At : Option Addr) (nt ct : Nat) (zs : List Int) (W V : Int) (A B : Option Addr) (n c m d : Nat) (ws xs : List Nat) (w : World) (ht : IArg w At nt zs) (hnt : nt ≤ maxLen) (hA : Arg w A n ws) (hB : Arg w B m xs) (hn : n ≤ maxLen) :
    Calls Tryd.prog 5 #[.slice At nt ct, .agg #[.int .i64 W, .slice A n c], .agg #[.int .i64 V, .slice B m d]] w fun e w' => e = .returned (.bool true) ∧ Below w.heap.size w w' := by
  obtain ⟨hx1, hx2⟩ := box2 w W V A B n c m d
  have hx4 := below2 w (.cells #[.int .i64 W, .slice A n c] 25) (.cells #[.int .i64 V, .slice B m d] 25)
  have hinv : Between w W V A B n c m d (w.heap.size + 1 + 1) (((w.alloc (.cells #[.int .i64 W, .slice A n c] 25)).alloc (.cells #[.int .i64 V, .slice B m d] 25)).alloc (.cells #[.slice At nt ct, .int .i64 0] 58)) := by
    have htp := tape_new (c := ct) (ht.below hx4) hnt
    rw [World.size_alloc, World.size_alloc] at htp
    exact ⟨hx1.alloc _, hx2.alloc _, htp, hx4.alloc (by simp only [World.size_alloc]; omega) _, by omega⟩
  have Hinv := hid hinv
  have HA := hid hA; have HB := hid hB
  clear hx1 hx2 hx4 hinv hA hB ht
  go_enter Tryd.func5, Tryd.ntmps5
  go_wp2_with (go_at_call 9; refine (new_any At nt ct _).mono ?_; rintro e w1 ⟨rfl, rfl⟩)
  generalize hT : w.heap.size + 1 + 1 = T at *
  have HT := hid hT
  clear hT
  go_loopw [8] (fun i wr => ∃ k : Nat, k ≤ 5 ∧ i = .int .i64 k ∧ Hid (Between w W V A B n c m d T wr)) (fun i _ => 5 - (intOf i).toNat)
  case atStart => exact ⟨0, by omega, rfl, Hinv⟩
  case round =>
    obtain ⟨k, hk, rfl, hG⟩ := hrel
    by_cases hlt : k < 5
    · have htt := hid hG.out.2.2.1
      have hT1 := hG.out.2.2.2.2
      go_wp2_with fail
      refine (next_any T 4 _ (htt.out.alloc _) (by omega)).mono ?_
      rintro e w1 ⟨r, rfl, hr0, hr1, ht1, hg1, hs1⟩
      obtain ⟨v, hv, hcell⟩ := pick4 3 64 70 130 (by omega) r hr0 (by omega) wr w1 hg1 (by have := htt.out.lt; omega)
      have hr2 : r < 4 := by omega
      have hG1 := hid ((hG.out.alloc _).step ht1 hg1)
      clear hr1 ht1 hg1 hs1 hG htt
      go_wp2_with fail
      refine (set_any T v _ hG1.out.2.2.1 hv).mono ?_
      rintro e w2 ⟨ax, nx, cx, sx, rfl, hfx, hax, ht2, hg2⟩
      have hG2 := hid (hG1.out.step ht2 hg2)
      have Hax := hid hax; have Hfx := hid hfx
      clear ht2 hg2 hcell hax hfx
      go_wp2_with fail
      refine (set_any T v _ hG2.out.2.2.1 hv).mono ?_
      rintro e w3 ⟨ay, ny, cy, sy, rfl, hfy, hay, ht3, hg3⟩
      have hG3 := hid (hG2.out.step ht3 hg3)
      have Hax3 := hid (Hax.out.tape hG2.out.2.2.1 hg3)
      have Hay := hid hay; have Hfy := hid hfy
      clear ht3 hg3 hay hfy
      go_wp2_with fail
      have hl := mixR_len (flag false false true) v sx v sy
      refine (refInter_any v v (some ax) (some ay) nx cx ny cy sx sy _ ((Hax3.out.alloc _).alloc _) ((Hay.out.alloc _).alloc _)).mono ?_
      generalize mixR (flag false false true) v sx v sy = rz at hl
      obtain ⟨Rz, sz, ez⟩ := rz
      rintro e w4 ⟨az, nz, cz, rfl, haz, hb4⟩
      simp only [] at hl haz
      have hnx := fit_len Hfx.out Hax.out hv
      have hny := fit_len Hfy.out Hay.out hv
      have hnz : nz ≤ 5 := by rw [← haz.len]; exact hl
      obtain ⟨hbx, hby⟩ := box2 w3 v v (some ax) (some ay) nx cx ny cy
      have hG4 := hid ((((hG3.out.alloc (.cells #[.int .i64 v, .slice (some ax) nx cx] 25)).alloc (.cells #[.int .i64 v, .slice (some ay) ny cy] 25)).below hb4).alloc (.cells #[.int .i64 Rz, .slice az nz cz] 25))
      have fx := (hbx.below hb4 hbx.lt).alloc (.cells #[.int .i64 Rz, .slice az nz cz] 25)
      have fy := (hby.below hb4 hby.lt).alloc (.cells #[.int .i64 Rz, .slice az nz cz] 25)
      have fz := Box.new w4 Rz az nz cz
      have gx := (((Hax3.out.alloc (.cells #[.int .i64 v, .slice (some ax) nx cx] 25)).alloc (.cells #[.int .i64 v, .slice (some ay) ny cy] 25)).below hb4).alloc (.cells #[.int .i64 Rz, .slice az nz cz] 25)
      have gy := (((Hay.out.alloc (.cells #[.int .i64 v, .slice (some ax) nx cx] 25)).alloc (.cells #[.int .i64 v, .slice (some ay) ny cy] 25)).below hb4).alloc (.cells #[.int .i64 Rz, .slice az nz cz] 25)
      have gz := haz.alloc (.cells #[.int .i64 Rz, .slice az nz cz] 25)
      have hTx := fx.tape_ne hG4.out.2.2.1
      have hTy := fy.tape_ne hG4.out.2.2.1
      have hTz := fz.tape_ne hG4.out.2.2.1
      have hz4 := hb4.size
      simp only [World.size_alloc] at hz4
      have k1 : w3.heap.size < w4.heap.size := by omega
      have k2 : w3.heap.size + 1 < w4.heap.size := by omega
      clear haz hb4 hbx hby hl
      clear hG1 hG2 hG3 Hax Hay Hfx Hfy Hax3
      go_upto_region 8 with fail
      generalize w4.alloc (.cells #[.int .i64 Rz, .slice az nz cz] 25) = W8 at *
      generalize w4.heap.size = bz at *
      generalize w3.heap.size = bx at *
      have hK : ∀ w', W8.grownBy w' (some T) → Tape w' T → (((fun w' => W8.grownBy w' (some T) ∧ Tape w' T ∧ (w'.cell? ⟨bx, 0, none⟩ = some (.int .i64 (v : Int)) ∧ w'.cell? ⟨bx, 1, none⟩ = some (.slice (some ax) nx cx)) ∧ (w'.cell? ⟨bx + 1, 0, none⟩ = some (.int .i64 (v : Int)) ∧ w'.cell? ⟨bx + 1, 1, none⟩ = some (.slice (some ay) ny cy)) ∧ (w'.cell? ⟨bz, 0, none⟩ = some (.int .i64 Rz) ∧ w'.cell? ⟨bz, 1, none⟩ = some (.slice az nz cz))) w')) := fun w' hg ht => ⟨hg, ht, fx.hold hg (Ne.symm hTx), fy.hold hg (Ne.symm hTy), fz.hold hg (Ne.symm hTz)⟩
      have HK := hid hK
      have HT8 := hid hG4.out.2.2.1
      have Gx := hid gx; have Gy := hid gy; have Gz := hid gz
      have vx : nx ≤ maxLen := by unfold maxLen; omega
      have vz : nz ≤ maxLen := by unfold maxLen; omega
      clear hK fx fy fz gx gy gz hTx hTy hTz k1 k2 hz4
      go_region_held3 (fun w' => W8.grownBy w' (some T) ∧ Tape w' T ∧ (w'.cell? ⟨bx, 0, none⟩ = some (.int .i64 (v : Int)) ∧ w'.cell? ⟨bx, 1, none⟩ = some (.slice (some ax) nx cx)) ∧ (w'.cell? ⟨bx + 1, 0, none⟩ = some (.int .i64 (v : Int)) ∧ w'.cell? ⟨bx + 1, 1, none⟩ = some (.slice (some ay) ny cy)) ∧ (w'.cell? ⟨bz, 0, none⟩ = some (.int .i64 Rz) ∧ w'.cell? ⟨bz, 1, none⟩ = some (.slice az nz cz)))
        (first | exact HK.out _ (grown_drew _ _) (HT8.out.keep fun _ _ => rfl) | assumption)
        (first
          | (go_at_call 18
             go_must (
             go_split_ands
             first
               | (with_reducible refine (combines_any v v (some ax) (some ay) nx cx ny cy sx sy _ (by exact Arg.tape Gx.out HT8.out (by assumption)) (by exact Arg.tape Gy.out HT8.out (by assumption)) vx).mono ?_)
               | (with_reducible refine (combines_any Rz v az (some ay) nz cz ny cy sz sy _ (by exact Arg.tape Gz.out HT8.out (by assumption)) (by exact Arg.tape Gy.out HT8.out (by assumption)) vz).mono ?_)
               | (with_reducible refine (combines_any v v (some ax) (some ax) nx cx nx cx sx sx _ (by exact Arg.tape Gx.out HT8.out (by assumption)) (by exact Arg.tape Gx.out HT8.out (by assumption)) vx).mono ?_)
               | (with_reducible refine (combines_any W6 v (some a6) (some ay) n6 c6 ny cy s6 sy _ ha6.out (by exact Arg.tape Gy.out HT8.out (by assumption)) v6).mono ?_)
               | (with_reducible refine (combines_any v W6 (some ax) (some a6) nx cx n6 c6 sx s6 _ (by exact Arg.tape Gx.out HT8.out (by assumption)) ha6.out vx).mono ?_)
             rintro e wn ⟨rfl, hbk⟩
             obtain ⟨hgn, htn⟩ := step_b (W8 := W8) (T := T) (by assumption) (by assumption) hbk
             have hS := HK.out _ hgn htn
             clear hbk))
          | (go_at_call 13
             go_must (
             go_split_ands
             first
               | (with_reducible refine (spoil_any T v ax nx cx sx _ (by assumption) (by exact Arg.tape Gx.out HT8.out (by assumption)) (by omega) (by omega) (by omega)).mono ?_)
               | (with_reducible refine (spoil_any T v ay ny cy sy _ (by assumption) (by exact Arg.tape Gy.out HT8.out (by assumption)) (by omega) (by omega) (by omega)).mono ?_)
             rintro e wn ⟨W6, a6, n6, c6, s6, rfl, hn6, ha6', htn, hg6⟩
             have hgn := grown_trans (a := W8) (by assumption) hg6
             have hS := HK.out _ hgn htn
             have ha6 := hid ha6'
             have v6 : n6 ≤ maxLen := (by unfold maxLen; omega)
             clear ha6' hg6))
          | (go_at_call 10
             go_must (
             go_split_ands
             refine (wide_any T _ (by assumption)).mono ?_
             rintro e wn ⟨W6, a6, n6, c6, s6, rfl, hW6, hf6, ha6', htn, hg6⟩
             have hgn := grown_trans (a := W8) (by assumption) hg6
             have hS := HK.out _ hgn htn
             have ha6 := hid ha6'
             have v6 : n6 ≤ maxLen := (by have := fit_len hf6 ha6' hW6; unfold maxLen; omega)
             clear ha6' hg6 hf6)))
      have hGn := hid (hG4.out.step htn hgn)
      go_wp2_with fail
      go_roundw
      case rel => exact ⟨k + 1, by omega, by go_num, hGn⟩
      case measure => simp [intOf]; omega
    · obtain ⟨h1, h2, h3, h4, h5⟩ := hG.out
      have x0 := h1.c0
      have x1 := h1.c1
      have y0 := h2.c0
      have y1 := h2.c1
      have H4 := hid h4
      clear h1 h2 h3 h4 h5
      by_cases c1 : 50 < n
      · have t1 : decide (50 < (n : Int)) = true := by simp; omega
        have t1' : decide (50 < n) = true := by simp; omega
        go_wp2_with fail
        go_ret
        exact ⟨ret_bool (by simp), H4.out⟩
      · have t1 : decide (50 < (n : Int)) = false := by simp; omega
        by_cases c2 : 50 < m
        · have t2 : decide (50 < (m : Int)) = true := by simp; omega
          go_wp2_with fail
          go_ret
          exact ⟨ret_bool (by simp), H4.out⟩
        · have t2 : decide (50 < (m : Int)) = false := by simp; omega
          go_wp2_with fail
          refine (combines_any W V A B n c m d ws xs _ (HA.out.below H4.out) (HB.out.below H4.out) hn).mono ?_
          rintro e w5 ⟨rfl, hb5⟩
          have Hb5 := hid (H4.out.trans (hb5.mono H4.out.size))
          clear hb5
          go_wp2_with fail
          refine (sane_any _).mono ?_
          rintro e w6 ⟨rfl, hb6⟩
          have Hb6 := hid (Hb5.out.trans (hb6.mono Hb5.out.size))
          clear hb6
          go_wp2_with fail
          go_ret
          exact ⟨ret_bool (by simp), Hb6.out⟩
end Go.Proofs.YtljdjidpbblbbaaDoor
