/- The tape's Set makes a valid set of the given width and changes nothing else but the tape. -/
import Derived.Test.YtopkmeceakjocaaEqual
namespace Go.Proofs.Ytopkmeceakjocaa
open Go.ChangeShapes Go.WideShapes Go.ChangeAt Go.RowKit

/-- A valid set of width W came back; nothing but the tape has changed. -/
def GenSetW (w : World) (T W : Nat) (e : Ending) (w' : World) : Prop :=
  ∃ (ad : Addr) (n c : Nat) (ws : List Nat), e = .returned (.agg #[.int .i64 W, .slice (some ad) n c]) ∧ Bs.Fit W ws ∧ Arg w' (some ad) n ws ∧ Tape w' T ∧ w.grownBy w' (some T)

theorem Growing.tape {w wr w' : World} {T b r v : Nat} (h : Growing w T b r v wr) (ht : Tape w' T) (hg : wr.grownBy w' (some T)) (hTw : T < w.heap.size) (hb : T ≠ b) (hr : T ≠ r) : Growing w T b r v w' := by
  obtain ⟨g, ws, h1, h2, h3, h4, h5, h6, h7⟩ := h
  exact ⟨g, ws, h1, h2.grown hg (by simp; omega), (hg.block g h3.lt (by simp; omega)).trans h3, h4, h5.grown hg (by simp; omega), ht, grown_trans h7 hg⟩
theorem Growing.put {w wr w5 : World} {T b r v g5 : Nat} {zs : List Nat} (h : Growing w T b r v wr) (hT : T < w.heap.size) (hbw : w.heap.size ≤ b) (hbr : b ≠ r) (hf : Bs.Fit v zs) (hg : wr.heap.size ≤ g5) (hrow : Row w5 g5 zs) (hb : Below wr.heap.size wr w5) :
    Growing w T b r v ((w5.setCell ⟨b, 0, none⟩ (.int .i64 v)).setCell ⟨b, 1, none⟩ (.slice (some ⟨g5, 0, none⟩) (Bs.nw v) (Bs.nw v))) := by
  obtain ⟨g, ws, h1, h2, h3, h4, h5, h6, h7⟩ := h
  have l2 := h2.lt
  have l5 := h5.lt
  have l7 := h7.size
  exact ⟨g5, zs, hf, (h2.below hb l2).set _ _ _ _, (hrow.far (by simp; omega) _).far (by simp; omega) _, by omega, ((h5.below hb l5).far (by simp; omega) _).far (by simp; omega) _, ((h6.below hb (by omega)).far (by simp; omega) _).far (by simp; omega) _, grown_set_new (grown_set_new (grown_trans h7 (grown_of_below hb _)) (by simpa using hbw) _) (by simpa using hbw) _⟩

set_option maxHeartbeats 1600000 in
theorem set_any (T W : Nat) (w : World) (ht : Tape w T) (hW : W ≤ 256) : Calls Try.prog 24 #[.pointer (some ⟨T, 0, none⟩), .int .i64 W] w (GenSetW w T W) := by
  have Ht := hid ht
  have hTl := ht.lt
  clear ht
  go_enter Try.func24, Try.ntmps24
  go_wp2_with fail
  refine (refEmpty_any W _ (by omega)).mono ?_
  rintro e w2 ⟨g, rfl, hg, hrow, hb2⟩
  rw [len_emp]
  have hz2 := hb2.size
  rw [World.size_alloc] at hz2 hg
  have hinv : Growing w T w2.heap.size w.heap.size W (w2.alloc (.cells #[.int .i64 W, .slice (some ⟨g, 0, none⟩) (Bs.nw W) (Bs.nw W)] 50)) :=
    ⟨g, Bs.emp W, Bs.fit_emp W, Box.new _ _ _ _ _, hrow.alloc _, by omega, ((Box.new w 0 none 0 0).below hb2 (by simp)).alloc _, ((Ht.out.alloc _).below hb2 (by rw [World.size_alloc]; omega)).alloc _,
      grown_trans (grown_trans (grown_of_below ((Below.refl _ _).alloc (Nat.le_refl _) _) _) (grown_of_below hb2 _)) (grown_of_below ((Below.refl _ _).alloc (Nat.le_refl _) _) _)⟩
  have Hinv := hid hinv
  clear hinv hrow hb2 hg
  go_wp2_with fail
  go_loopw [6] (fun i wr => ∃ k : Nat, k ≤ W ∧ i = .int .i64 k ∧ Hid (Growing w T w2.heap.size w.heap.size W wr)) (fun i _ => W - (intOf i).toNat)
  case atStart => exact ⟨0, by omega, rfl, Hinv⟩
  case round =>
    obtain ⟨k, hk, rfl, hG⟩ := hrel
    by_cases hlt : k < W
    · have htt : Tape wr T := by obtain ⟨g, ws, h1, h2, h3, h4, h5, h6, h7⟩ := hG.out; exact h6
      have Htt := hid htt
      clear htt
      go_wp2_with fail
      refine (next_any T 3 _ Htt.out (by omega)).mono ?_
      rintro e w4 ⟨r4, rfl, h40, h41, ht4, hg4, hs4⟩
      have hG4 := hid (hG.out.tape ht4 hg4 hTl (by omega) (by omega))
      clear h41 ht4 hg4 hs4
      by_cases h1 : r4 = 1
      · have t : (r4 == 1) = true := by simp [h1]
        clear h1
        obtain ⟨g2, ws, hfit, hbox, hrow, hgg, hbr, htt4, hgr⟩ := hG4.out
        have hc0 := hbox.c0
        have hc1 := hbox.c1
        have Hfit := hid hfit; have Hrow := hid hrow; have Hbox := hid hbox
        clear hfit hbox hrow hgg hbr htt4 hgr
        go_wp2_with fail
        refine (refPut_any W _ _ _ ws k _ ⟨(Row.arg Hrow.out Hfit.out.ok).lies, Hfit.out.len, Hfit.out.ok⟩ (by omega) Hfit.out.len hlt).mono ?_
        rintro e w5 ⟨g5, rfl, hg5, hrow5, hb5⟩
        obtain ⟨⟨hc50, hc51⟩, hf50, hf51⟩ := box_stores Hbox.out hb5
        have hfin := hG4.out.put hTl (by omega) (by omega) (Bs.fit_put Hfit.out hlt) hg5 hrow5 hb5
        rw [show (Bs.put ws k).length = Bs.nw W from by rw [Bs.length_put]; exact Hfit.out.len]
        have Hfin := hid hfin
        clear hfin hrow5 hb5
        go_wp2_with fail
        go_roundw
        case rel => exact ⟨k + 1, by omega, by go_num, Hfin⟩
        case measure => simp [intOf]; omega
      · have t : (r4 == 1) = false := by simp [h1]
        clear h1
        go_wp2_with fail
        go_roundw
        case rel => exact ⟨k + 1, by omega, by go_num, hG4⟩
        case measure => simp [intOf]; omega
    · have hkW : k = W := by omega
      subst hkW
      obtain ⟨g2, ws, hfit, hbox, hrow, hgg, hbr, htt, hgr⟩ := hG.out
      have hb0 := hbox.c0
      have hb1 := hbox.c1
      have hc0 := hbr.c0
      have hc1 := hbr.c1
      have hf0 := hbr.f 0
      have hf1 := hbr.f 1
      have hgl := hrow.lt
      have hne := hbr.row_ne hrow
      have Hrow := hid hrow; have Hfit := hid hfit; have Htt := hid htt; have Hgr := hid hgr; have Hbr := hid hbr
      clear hrow hfit htt hgr hbr hbox
      go_wp2
      refine bodyPost_ret (v := .agg #[.int .i64 k, .slice (some ⟨g2, 0, none⟩) (Bs.nw k) (Bs.nw k)]) (by simp [results, Try.results24, go_sem, hc0, hc1]) rfl ⟨_, _, _, ws, rfl, Hfit.out, ?_, ?_, ?_⟩
      · have hr := (Row.arg ((Hrow.out.far (p := ⟨w.heap.size, 0, none⟩) hne (.int .i64 k)).far (p := ⟨w.heap.size, 1, none⟩) hne (.slice (some ⟨g2, 0, none⟩) (Bs.nw k) (Bs.nw k))) Hfit.out.ok)
        exact ⟨hr.lies, Hfit.out.len, Hfit.out.ok⟩
      · exact (Htt.out.far (by simp; omega) _).far (by simp; omega) _
      · exact grown_set_new (grown_set_new Hgr.out (by simp) _) (by simp) _
end Go.Proofs.Ytopkmeceakjocaa
