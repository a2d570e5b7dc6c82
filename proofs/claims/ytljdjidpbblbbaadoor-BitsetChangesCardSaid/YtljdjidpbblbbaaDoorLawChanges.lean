/- The walk of BitsetChanges: it returns true for every list of choices and every number, and writes new memory only. -/
import Derived.Test.YtljdjidpbblbbaaDoorDevC
import Derived.Test.YtljdjidpbblbbaaDoorLawMakes
namespace Go.Proofs.YtljdjidpbblbbaaDoor
open Go.ChangeShapes Go.WideShapes Go.ChangeAt Go.RowKit

/-- A set in the statement's own variable. -/
def Held (w : World) (T b : Nat) (wr : World) : Prop := ∃ (V : Int) (ad : Addr) (n c : Nat) (ws : List Nat), Box wr b V (some ad) n c ∧ Arg wr (some ad) n ws ∧ n ≤ 60 ∧ Going w T wr

set_option maxRecDepth 100000 in
set_option maxHeartbeats 6400000 in
theorem lawChanges (At : Option Addr) (nt ct : Nat) (zs : List Int) (B : Int) (w : World) (ht : IArg w At nt zs) (hnt : nt ≤ maxLen) :
    Calls Tryd.prog 6 #[.slice At nt ct, .int .i64 B] w fun e w' => e = .returned (.bool true) ∧ Below w.heap.size w w' := by
  have hinv : Going w w.heap.size (w.alloc (.cells #[.slice At nt ct, .int .i64 0] 58)) := ⟨tape_new ht hnt, (Below.refl _ _).alloc (Nat.le_refl _) _, Nat.le_refl _⟩
  have Hinv := hid hinv
  clear hinv ht
  go_enter Tryd.func6, Tryd.ntmps6
  go_wp2_with (go_at_call 9; refine (new_any At nt ct _).mono ?_; rintro e w1 ⟨rfl, rfl⟩)
  generalize hT : w.heap.size = T at *
  have HT := hid hT
  clear hT
  go_loopw [6] (fun i wr => ∃ k : Nat, k ≤ 5 ∧ i = .int .i64 k ∧ Hid (Going w T wr)) (fun i _ => 5 - (intOf i).toNat)
  case atStart => exact ⟨0, by omega, rfl, Hinv⟩
  case round =>
    obtain ⟨k, hk, rfl, hG⟩ := hrel
    by_cases hlt : k < 5
    · have htt := hid hG.out.1
      go_wp2_with fail
      refine (wide_any T _ htt.out).mono ?_
      rintro e w1 ⟨v, ax, nx, cx, sx, rfl, hv, hfx, hax, ht1, hg1⟩
      have hG1 := hid ((hG.out.step ht1 hg1).alloc (.cells #[.int .i64 v, .slice (some ax) nx cx] 25))
      have hnx := fit_len hfx hax hv
      have hTw := ht1.lt
      have Hx := hid (Box.new w1 v (some ax) nx cx)
      have Hax := hid (hax.alloc (.cells #[.int .i64 v, .slice (some ax) nx cx] 25))
      clear ht1 hg1 hfx hax hG htt
      go_wp2_with fail
      refine (next_any T _ _ hG1.out.1 (by omega)).mono ?_
      rintro e w2 ⟨r, rfl, hr0, hr1, ht2, hg2, hz2⟩
      have hTx := Hx.out.tape_ne hG1.out.1
      have hr2 : r ≤ 258 := by omega
      have hG2 := hid (hG1.out.step ht2 hg2)
      have hx2 := Hx.out.grown hg2 (some_ne (Ne.symm hTx))
      have Hax2 := hid (Hax.out.tape hG1.out.1 hg2)
      have Hx2 := hid hx2
      clear hr1 ht2 hg2 hz2 hx2 hG1 Hax Hx
      generalize w1.heap.size = bx at *
      go_upto_if 32 with fail
      go_cut [8] (fun u wc => (∃ nn : Int, u = .int .i64 nn) ∧ wc = w2)
      case first =>
        by_cases h4 : k = 4
        · have t : ((k : Int) == 4) = true := by simp [h4]
          clear h4
          go_wp2_with fail
          go_meet
          exact ⟨⟨_, rfl⟩, rfl⟩
        · have t : ((k : Int) == 4) = false := by simp; omega
          clear h4
          go_wp2_with fail
          go_meet
          exact ⟨⟨_, rfl⟩, rfl⟩
      case rest =>
        obtain ⟨⟨nn, rfl⟩, rfl⟩ := hcut
        go_wp2_with fail
        refine (next_any T 4 _ hG2.out.1 (by omega)).mono ?_
        rintro e w4 ⟨r4, rfl, h40, h41, ht4, hg4, hz4⟩
        have hG4 := hid (hG2.out.step ht4 hg4)
        have Hx4 := hid (Hx2.out.grown hg4 (some_ne (Ne.symm hTx)))
        have Hax4 := hid (Hax2.out.tape hG2.out.1 hg4)
        clear h41 ht4 hg4 hz4 Hx2 Hax2 hG2
        go_upto_if 36 with fail
        go_cut [8] (fun u wc => u = .int .i64 nn ∧ Hid (Held w T bx wc))
        case first =>
          by_cases h4 : r4 = 0
          · have t : (r4 == 0) = true := by simp [h4]
            clear h4
            have x0 := Hx4.out.c0
            have x1 := Hx4.out.c1
            go_wp2_with fail
            refine (spoil_any T v ax nx cx sx _ hG4.out.1 Hax4.out (by omega) (by omega) (by omega)).mono ?_
            rintro e w5 ⟨V, ad, n, c, ws, rfl, hn, ha5, ht5, hg5⟩
            have hG5 := hid (hG4.out.step ht5 hg5)
            have hx5 := Hx4.out.grown hg5 (some_ne (Ne.symm hTx))
            have hc50 := hx5.c0
            have hc51 := hx5.c1
            have hf50 := hx5.f 0
            have hf51 := hx5.f 1
            have hbT : bx ≠ T := Ne.symm hTx
            have hfin : Held w T bx ((w5.setCell ⟨bx, 0, none⟩ (.int .i64 V)).setCell ⟨bx, 1, none⟩ (.slice (some ad) n c)) := by
              refine ⟨V, ad, n, c, ws, hx5.set _ _ _ _, hx5.store ha5 _ _, hn, ?_, ?_, hG5.out.2.2⟩
              · exact (hG5.out.1.far (by simp; omega) _).far (by simp; omega) _
              · exact (hG5.out.2.1.setCell (by have := HT.out; simp; omega) _).setCell (by have := HT.out; simp; omega) _
            have Hfin := hid hfin
            clear ht5 hg5 hx5 hfin ha5 x0 x1
            go_wp2_with fail
            go_meet
            exact ⟨rfl, Hfin⟩
          · have t : (r4 == 0) = false := by simp [h4]
            clear h4
            go_wp2_with fail
            go_meet
            exact ⟨rfl, hid ⟨v, ax, nx, cx, sx, Hx4.out, Hax4.out, by omega, hG4.out⟩⟩
        case rest =>
          obtain ⟨rfl, hH⟩ := hcut
          clear Hx4 Hax4 hG4
          obtain ⟨V, ad, n, c, ws, hbx, harg, hn, hgo⟩ := hH.out
          have x0 := hbx.c0
          have x1 := hbx.c1
          have Hbx := hid hbx; have Harg := hid harg; have Hgo := hid hgo
          clear hbx harg hgo hH
          go_wp2_with fail
          refine (devWith_any V (some ad) n c ws nn _ Harg.out).mono ?_
          generalize hr1 : withR V ws nn = r1
          have Hr1 := hid hr1
          clear hr1
          obtain ⟨R1, z1, e1⟩ := r1
          rintro e w5 ⟨A1, n1, c1, rfl, ha1, hb1⟩
          simp only [] at ha1
          have hx5 := Hbx.out.below hb1 Hbx.out.lt
          have x50 := hx5.c0
          have x51 := hx5.c1
          have hl5 := hx5.lt
          have Hbx5 := hid (hx5.alloc (.cells #[.int .i64 R1, .slice A1 n1 c1] 25))
          have Harg5 := hid ((Harg.out.below hb1).alloc (.cells #[.int .i64 R1, .slice A1 n1 c1] 25))
          have Hgo5 := hid ((Hgo.out.below hb1).alloc (.cells #[.int .i64 R1, .slice A1 n1 c1] 25))
          have Ha1 := hid (ha1.alloc (.cells #[.int .i64 R1, .slice A1 n1 c1] 25))
          have Hn1 := hid (Box.new w5 R1 A1 n1 c1)
          clear hx5 hb1 ha1 x0 x1 Hbx Harg Hgo
          simp only []
          go_wp2_with fail
          refine (devWithout_any V (some ad) n c ws nn _ Harg5.out).mono ?_
          generalize hr2 : withoutR V ws nn = r2
          have Hr2 := hid hr2
          clear hr2
          obtain ⟨R2, z2, e2⟩ := r2
          rintro e w6 ⟨A2, n2, c2, rfl, ha2, hb2⟩
          simp only [] at ha2
          have hx6 := Hbx5.out.below hb2 Hbx5.out.lt
          have x60 := hx6.c0
          have x61 := hx6.c1
          have hl6 := hx6.lt
          have hn6 := Hn1.out.below hb2 Hn1.out.lt
          have hl61 := hn6.lt
          have Hbx6 := hid (hx6.alloc (.cells #[.int .i64 R2, .slice A2 n2 c2] 25))
          have Harg6 := hid ((Harg5.out.below hb2).alloc (.cells #[.int .i64 R2, .slice A2 n2 c2] 25))
          have Hgo6 := hid ((Hgo5.out.below hb2).alloc (.cells #[.int .i64 R2, .slice A2 n2 c2] 25))
          have Ha1 := hid ((Ha1.out.below hb2).alloc (.cells #[.int .i64 R2, .slice A2 n2 c2] 25))
          have Hn1 := hid (hn6.alloc (.cells #[.int .i64 R2, .slice A2 n2 c2] 25))
          have Ha2 := hid (ha2.alloc (.cells #[.int .i64 R2, .slice A2 n2 c2] 25))
          have Hn2 := hid (Box.new w6 R2 A2 n2 c2)
          clear hx6 hb2 ha2 hn6 x50 x51 Hbx5 Harg5 Hgo5 hl5
          simp only []
          go_wp2_with fail
          refine (refValid_any V (some ad) n c ws _ Harg6.out.lies Harg6.out.ok Harg6.out.len).mono ?_
          cases hv : Bs.validB V ws with
          | false =>
            have hz1 : R1 = 0 ∧ z1 = [] ∧ e1 = 1 := by have := Hr1.out; unfold withR at this; rw [if_pos hv] at this; simpa [Prod.mk.injEq, eq_comm] using this
            have hz2 : R2 = 0 ∧ z2 = [] ∧ e2 = 1 := by have := Hr2.out; unfold withoutR at this; rw [if_pos hv] at this; simpa [Prod.mk.injEq, eq_comm] using this
            obtain ⟨rfl, rfl, rfl⟩ := hz1
            obtain ⟨rfl, rfl, rfl⟩ := hz2
            obtain rfl : n1 = 0 := by simpa using Ha1.out.len.symm
            obtain rfl : n2 = 0 := by simpa using Ha2.out.len.symm
            clear hv
            rintro e w7 ⟨rfl, hb7⟩
            have hn1 := Hn1.out.below hb7 Hn1.out.lt
            have hn2 := Hn2.out.below hb7 Hn2.out.lt
            have y10 := hn1.c0
            have y11 := hn1.c1
            have y20 := hn2.c0
            have y21 := hn2.c1
            have Hgo7 := hid (Hgo6.out.below hb7)
            clear hn1 hn2 hb7 x60 x61
            go_wp2_with fail
            go_roundw
            case rel => exact ⟨k + 1, by omega, by go_num, Hgo7⟩
            case measure => simp [intOf]; omega
          | true =>
            rintro e w7 ⟨rfl, hb7⟩
            have hx7 := Hbx6.out.below hb7 Hbx6.out.lt
            have x70 := hx7.c0
            have x71 := hx7.c1
            have hn1 := Hn1.out.below hb7 Hn1.out.lt
            have hn2 := Hn2.out.below hb7 Hn2.out.lt
            have y10 := hn1.c0
            have y11 := hn1.c1
            have y20 := hn2.c0
            have y21 := hn2.c1
            have Hgo7 := hid (Hgo6.out.below hb7)
            have Harg7 := hid (Harg6.out.below hb7)
            have Ha17 := hid (Ha1.out.below hb7)
            have Ha27 := hid (Ha2.out.below hb7)
            have Hx7 := hid hx7; have Hn17 := hid hn1; have Hn27 := hid hn2
            clear hn1 hn2 hb7 x60 x61 hx7 Hn1 Hn2 Ha1 Ha2 Hgo6 Harg6 Hbx6
            by_cases hin : nn < 0 ∨ V ≤ nn
            · have hz1 : R1 = 0 ∧ z1 = [] ∧ e1 = 3 := by have := Hr1.out; unfold withR at this; rw [if_neg (by simp [hv]), if_pos hin] at this; simpa [Prod.mk.injEq, eq_comm] using this
              have hz2 : R2 = 0 ∧ z2 = [] ∧ e2 = 3 := by have := Hr2.out; unfold withoutR at this; rw [if_neg (by simp [hv]), if_pos hin] at this; simpa [Prod.mk.injEq, eq_comm] using this
              obtain ⟨rfl, rfl, rfl⟩ := hz1
              obtain ⟨rfl, rfl, rfl⟩ := hz2
              obtain rfl : n1 = 0 := by simpa using Ha17.out.len.symm
              obtain rfl : n2 = 0 := by simpa using Ha27.out.len.symm
              clear hv
              by_cases h0 : nn < 0
              · clear hin
                go_wp2_with fail
                go_roundw
                case rel => exact ⟨k + 1, by omega, by go_num, Hgo7⟩
                case measure => simp [intOf]; omega
              · have h1 : V ≤ nn := by omega
                clear hin
                go_wp2_with fail
                go_roundw
                case rel => exact ⟨k + 1, by omega, by go_num, Hgo7⟩
                case measure => simp [intOf]; omega
            · obtain ⟨vv, rfl⟩ := Int.eq_ofNat_of_zero_le (Bs.validB_iff.1 hv).1
              obtain ⟨b, rfl⟩ := Int.eq_ofNat_of_zero_le (a := nn) (by omega)
              have hb : b < vv := by omega
              have hvv : vv ≤ 256 := by have := (Bs.validB_iff.1 hv).2.1; omega
              have hf := Bs.fit_of_valid hv Harg7.out.ok
              have Hf := hid hf
              have hz1 : R1 = vv ∧ z1 = Bs.put ws b ∧ e1 = 0 := by have := Hr1.out; unfold withR at this; rw [if_neg (by simp [hv]), if_neg hin, Int.toNat_natCast] at this; simpa [Prod.mk.injEq, eq_comm] using this
              have hwe := without_eq vv b ws hv hb
              rw [Hr2.out] at hwe
              have hz2 : R2 = vv ∧ z2 = Bs.ofP vv (fun i => Bs.bit ws i && !decide (i = b)) vv ∧ e2 = 0 := by have := Hr2.out; unfold withoutR at this; rw [if_neg (by simp [hv]), if_neg hin, Int.toNat_natCast, Int.toNat_natCast] at this; simpa [Prod.mk.injEq, eq_comm] using this
              obtain ⟨rfl, hzz1, rfl⟩ := hz1
              obtain ⟨rfl, hzz2, rfl⟩ := hz2
              have Hz1 := hid hzz1; have Hwe := hid hwe
              have v1 : n1 ≤ maxLen := by rw [← Ha17.out.len, hzz1, Bs.length_put, hf.len]; unfold Bs.nw maxLen; omega
              have v2 : n2 ≤ maxLen := by rw [← Ha27.out.len, hzz2, (Bs.fit_ofP vv _ vv (Nat.le_refl _)).len]; unfold Bs.nw maxLen; omega
              have hb0 : decide ((b : Int) < 0) = false := by simp
              have hb1 : decide ((vv : Int) ≤ (b : Int)) = false := by simp; omega
              have hb2 : decide (vv ≤ b) = false := by simp; omega
              clear hv hin hf hzz1 hzz2 hwe
              go_wp2_with fail
              refine (refEmpty_any vv _ (by omega)).mono fun e w8 h => ?_
              obtain ⟨A8, n8, c8, rfl, ha8, hb8⟩ : RetSet _ _ _ _ _ := NewSet.ret (Bs.fit_emp vv).ok h
              have Ha8 := hid ha8; have Hb8 := hid hb8
              have hl8 := hb8.size
              clear ha8 hb8 h
              go_wp2_with fail
              refine (refPut_any vv _ _ _ (Bs.emp vv) b _ Ha8.out (by omega) (len_emp vv) hb).mono fun e w9 h => ?_
              obtain ⟨A9, n9, c9, rfl, ha9, hb9⟩ : RetSet _ _ _ _ _ := NewSet.ret (Bs.fit_put (Bs.fit_emp vv) hb).ok h
              have hb79 := below_step Hb8.out hb9
              have hx9 := Hx7.out.below hb79 Hx7.out.lt
              have x90 := hx9.c0
              have x91 := hx9.c1
              have hl9 := hx9.lt
              have Hx9 := hid (hx9.alloc (.cells #[.int .i64 vv, .slice A9 n9 c9] 25))
              have Hn19 := hid ((Hn17.out.below hb79 Hn17.out.lt).alloc (.cells #[.int .i64 vv, .slice A9 n9 c9] 25))
              have Hn29 := hid ((Hn27.out.below hb79 Hn27.out.lt).alloc (.cells #[.int .i64 vv, .slice A9 n9 c9] 25))
              have Harg9 := hid ((Harg7.out.below hb79).alloc (.cells #[.int .i64 vv, .slice A9 n9 c9] 25))
              have Ha19 := hid ((Ha17.out.below hb79).alloc (.cells #[.int .i64 vv, .slice A9 n9 c9] 25))
              have Ha29 := hid ((Ha27.out.below hb79).alloc (.cells #[.int .i64 vv, .slice A9 n9 c9] 25))
              have Hgo9 := hid ((Hgo7.out.below hb79).alloc (.cells #[.int .i64 vv, .slice A9 n9 c9] 25))
              have Ha9 := hid (ha9.alloc (.cells #[.int .i64 vv, .slice A9 n9 c9] 25))
              clear ha9 hb9 h hx9 hb79 x70 x71 y10 y11 y20 y21 Hx7 Hn17 Hn27 Harg7 Ha17 Ha27 Hgo7 Ha8 Hb8
              go_wp2_with fail
              refine (refDiff_any vv vv (some ad) A9 n c n9 c9 ws (Bs.put (Bs.emp vv) b) _ Harg9.out Ha9.out).mono ?_
              rw [Hwe.out]
              rintro e w10 ⟨A10, n10, c10, rfl, ha10, hb10⟩
              simp only [] at ha10
              have v10 := ha10.len
              have hx10 := Hx9.out.below hb10 Hx9.out.lt
              have hn10 := Hn19.out.below hb10 Hn19.out.lt
              have hm10 := Hn29.out.below hb10 Hn29.out.lt
              have f1 := hx10.alloc (.cells #[.int .i64 vv, .slice A10 n10 c10] 25)
              have f2 := hn10.alloc (.cells #[.int .i64 vv, .slice A10 n10 c10] 25)
              have f3 := hm10.alloc (.cells #[.int .i64 vv, .slice A10 n10 c10] 25)
              have f4 := Box.new w10 vv A10 n10 c10
              have g1 := (Harg9.out.below hb10).alloc (.cells #[.int .i64 vv, .slice A10 n10 c10] 25)
              have g2 := (Ha19.out.below hb10).alloc (.cells #[.int .i64 vv, .slice A10 n10 c10] 25)
              have g3 := (Ha29.out.below hb10).alloc (.cells #[.int .i64 vv, .slice A10 n10 c10] 25)
              have g4 := ha10.alloc (.cells #[.int .i64 vv, .slice A10 n10 c10] 25)
              have Hgo10 := hid ((Hgo9.out.below hb10).alloc (.cells #[.int .i64 vv, .slice A10 n10 c10] 25))
              clear ha10 hb10 hx10 hn10 hm10 x90 x91 Hx9 Hn19 Hn29 Harg9 Ha19 Ha29 Hgo9 Ha9 Hwe Hr1 Hr2 v10 hl8 hl9
              simp only []
              go_upto_region 25 with fail
              generalize w10.alloc (.cells #[.int .i64 vv, .slice A10 n10 c10] 25) = W8 at *
              generalize w10.heap.size = b9 at *
              generalize w6.heap.size = b6 at *
              generalize w5.heap.size = b5 at *
              have hK : ∀ w', Below W8.heap.size W8 w' → ((fun w' => Below W8.heap.size W8 w' ∧ (w'.cell? ⟨bx, 0, none⟩ = some (.int .i64 (vv : Int)) ∧ w'.cell? ⟨bx, 1, none⟩ = some (.slice (some ad) n c)) ∧ (w'.cell? ⟨b5, 0, none⟩ = some (.int .i64 (vv : Int)) ∧ w'.cell? ⟨b5, 1, none⟩ = some (.slice A1 n1 c1)) ∧ (w'.cell? ⟨b6, 0, none⟩ = some (.int .i64 (vv : Int)) ∧ w'.cell? ⟨b6, 1, none⟩ = some (.slice A2 n2 c2)) ∧ (w'.cell? ⟨b9, 0, none⟩ = some (.int .i64 (vv : Int)) ∧ w'.cell? ⟨b9, 1, none⟩ = some (.slice A10 n10 c10))) w') := fun w' h => ⟨h, f1.keep h, f2.keep h, f3.keep h, f4.keep h⟩
              have HK := hid hK
              have G1 := hid g1; have G2 := hid g2; have G3 := hid g3; have G4 := hid g4
              clear hK f1 f2 f3 f4 g1 g2 g3 g4
              go_region_held3 (fun w' => Below W8.heap.size W8 w' ∧ (w'.cell? ⟨bx, 0, none⟩ = some (.int .i64 (vv : Int)) ∧ w'.cell? ⟨bx, 1, none⟩ = some (.slice (some ad) n c)) ∧ (w'.cell? ⟨b5, 0, none⟩ = some (.int .i64 (vv : Int)) ∧ w'.cell? ⟨b5, 1, none⟩ = some (.slice A1 n1 c1)) ∧ (w'.cell? ⟨b6, 0, none⟩ = some (.int .i64 (vv : Int)) ∧ w'.cell? ⟨b6, 1, none⟩ = some (.slice A2 n2 c2)) ∧ (w'.cell? ⟨b9, 0, none⟩ = some (.int .i64 (vv : Int)) ∧ w'.cell? ⟨b9, 1, none⟩ = some (.slice A10 n10 c10)))
                (first | exact HK.out _ (Below.refl _ _).drew | assumption)
                (first
                  | (go_at_call 22
                     go_must (
                     go_split_ands
                     refine (refPut_any vv _ _ _ ws b _ (by exact G1.out.below (by assumption)) (by omega) Hf.out.len hb).mono fun e wn h => ?_
                     obtain ⟨A7, n7, c7, rfl, ha7', hbk⟩ : RetSet _ _ _ _ _ := NewSet.ret (Bs.fit_put Hf.out hb).ok h
                     have ha7 := hid ha7'
                     have hcur := below_step (W := W8) (by assumption) hbk
                     have hS := HK.out _ hcur
                     clear ha7' hbk h))
                  | (go_at_call 25
                     go_must (
                     go_split_ands
                     first
                       | (with_reducible refine (refSame_any vv vv A1 A7 n1 c1 n7 c7 z1 (Bs.put ws b) _ (by exact G2.out.below (by assumption)) ha7.out v1).mono ?_)
                       | (with_reducible refine (refSame_any vv vv A2 A10 n2 c2 n10 c10 z2 z2 _ (by exact G3.out.below (by assumption)) (by exact G4.out.below (by assumption)) v2).mono ?_)
                     first | rw [Hz1.out, sameB_self] | rw [sameB_self]
                     rintro e wn ⟨rfl, hbk⟩
                     have hcur := below_step (W := W8) (by assumption) hbk
                     have hS := HK.out _ hcur
                     clear hbk)))
              have Hgon := hid (Hgo10.out.below hcur)
              go_wp2_with fail
              go_roundw
              case rel => exact ⟨k + 1, by omega, by go_num, Hgon⟩
              case measure => simp [intOf]; omega
    · have H4 := hid hG.out.2.1
      go_wp2_with fail
      refine (sane_any _).mono ?_
      rintro e w6 ⟨rfl, hb6⟩
      have Hb6 := hid (H4.out.trans (hb6.mono (HT.out ▸ H4.out.size)))
      clear hb6
      go_wp2_with fail
      go_ret
      exact ⟨rfl, HT.out ▸ Hb6.out⟩
end Go.Proofs.YtljdjidpbblbbaaDoor
