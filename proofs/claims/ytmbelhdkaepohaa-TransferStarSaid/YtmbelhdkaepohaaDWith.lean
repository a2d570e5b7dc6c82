/- The package's With and Without. -/
import Derived.Test.YtmbelhdkaepohaaDSet
namespace Go.Proofs.Ytmbelhdkaepohaa
set_option maxRecDepth 20000
open Go.ChangeShapes Go.WideShapes Go.ChangeAt Go.RowKit

theorem copyFor_bad (W : Int) (A : Option Addr) (n c : Nat) (ws : List Nat) (b : Int) (w : World) (hA : Arg w A n ws) (h : Bs.validB W ws = false) :
    Calls Try.prog 85 #[.agg #[.int .i64 W, .slice A n c], .int .i64 b] w (RetErr w (0, [], 1)) := by
  obtain ⟨hx1, hx2⟩ := boxB w W A n c
  have hx4 := below2 w (.cells #[.int .i64 W, .slice A n c] 25) (.cells #[.int .i64 0, .slice none 0 0] 25)
  have Hx2 := hid hx2; have Hb0 := hid hx4
  have HA := hid hA; have H := hid h
  clear hx1 hx2 hx4 hA h
  go_enter Try.func85, Try.ntmps85
  go_wp2_with fail
  refine (devValid_any W A n c ws _ (HA.out.below Hb0.out)).mono ?_
  rw [H.out]
  rintro e w1 ⟨rfl, hb⟩
  have hq := Hx2.out.below hb (by simp)
  have q0 := hq.c0
  have q1 := hq.c1
  have f0 := hq.f 0
  have f1 := hq.f 1
  have Hb := hid (Hb0.out.trans (hb.mono (by simp only [World.size_alloc]; omega)))
  clear hb hq
  go_wp2_with fail
  exact bodyPost_ret (v := .tuple #[.agg #[.int .i64 0, .slice none 0 0], .int .i64 1]) (by simp [results, Try.results85, go_sem, q0, q1]) rfl ⟨_, _, _, rfl, Arg.nil _ _, (Hb.out.setCell (by simp) _).setCell (by simp) _⟩

theorem copyFor_out (W : Int) (A : Option Addr) (n c : Nat) (ws : List Nat) (b : Int) (w : World) (hA : Arg w A n ws) (h : Bs.validB W ws = true) (hi : (decide (0 ≤ b) && decide (b < W)) = false) :
    Calls Try.prog 85 #[.agg #[.int .i64 W, .slice A n c], .int .i64 b] w (RetErr w (0, [], 3)) := by
  obtain ⟨hx1, hx2⟩ := boxB w W A n c
  have hx4 := below2 w (.cells #[.int .i64 W, .slice A n c] 25) (.cells #[.int .i64 0, .slice none 0 0] 25)
  have Hx1 := hid hx1; have Hx2 := hid hx2; have Hb0 := hid hx4
  have HA := hid hA; have H := hid h; have Hi := hid hi
  clear hx1 hx2 hx4 hA h hi
  go_enter Try.func85, Try.ntmps85
  go_wp2_with fail
  refine (devValid_any W A n c ws _ (HA.out.below Hb0.out)).mono ?_
  rw [H.out]
  rintro e w1 ⟨rfl, hb⟩
  have hp := Hx1.out.below hb (by simp only [World.size_alloc]; omega)
  have p0 := hp.c0
  have hq := Hx2.out.below hb (by simp)
  have q0 := hq.c0
  have q1 := hq.c1
  have f0 := hq.f 0
  have f1 := hq.f 1
  have Hb := hid (Hb0.out.trans (hb.mono (by simp only [World.size_alloc]; omega)))
  clear hb hq hp
  go_wp2_with (go_at_call 79; refine (inside_is _ _ _ _ Hi).mono ?_; rintro e w5 ⟨rfl, rfl⟩)
  exact bodyPost_ret (v := .tuple #[.agg #[.int .i64 0, .slice none 0 0], .int .i64 3]) (by simp [results, Try.results85, go_sem, q0, q1]) rfl ⟨_, _, _, rfl, Arg.nil _ _, (Hb.out.setCell (by simp) _).setCell (by simp) _⟩

/-- A copy came back, its words in a block of the call's own. -/
def Copied (w : World) (v n : Nat) (ws : List Nat) (e : Ending) (w' : World) : Prop :=
  ∃ g c', e = .returned (.tuple #[.agg #[.int .i64 v, .slice (some ⟨g, 0, none⟩) n c'], .int .i64 0]) ∧ OwnW w' w.heap.size g n c' ws ∧ Below w.heap.size w w'

theorem copyFor_in (v : Nat) (A : Option Addr) (n c : Nat) (ws : List Nat) (k : Nat) (w : World) (hA : Arg w A n ws) (h : Bs.validB v ws = true) (hk : k < v) :
    Calls Try.prog 85 #[.agg #[.int .i64 v, .slice A n c], .int .i64 k] w (Copied w v n ws) := by
  have hf := Bs.fit_of_valid h hA.ok
  rw [Int.toNat_natCast] at hf
  have hv : v ≤ 256 := by have := (Bs.validB_iff.1 h).2.1; omega
  have hn : n = Bs.nw v := by rw [← hA.len]; exact hf.len
  have hn1 : 0 < n := by rw [hn]; have := Bs.lt_nw hk; omega
  have hn5 : n ≤ 5 := by rw [hn]; unfold Bs.nw; omega
  have Hi := hid (show (decide ((0 : Int) ≤ k) && decide ((k : Int) < v)) = true by simp; omega)
  obtain ⟨hx1, hx2⟩ := boxB w v A n c
  have hx4 := below2 w (.cells #[.int .i64 v, .slice A n c] 25) (.cells #[.int .i64 0, .slice none 0 0] 25)
  have Hx1 := hid hx1; have Hx2 := hid hx2; have Hb0 := hid hx4
  have HA := hid hA; have H := hid h
  clear hx1 hx2 hx4 hA h hf hn
  go_enter Try.func85, Try.ntmps85
  go_wp2_with fail
  refine (devValid_any v A n c ws _ (HA.out.below Hb0.out)).mono ?_
  rw [H.out]
  rintro e w1 ⟨rfl, hb⟩
  have Hp := hid (Hx1.out.below hb (by simp only [World.size_alloc]; omega))
  have Hq := hid (Hx2.out.below hb (by simp))
  have p0 := Hp.out.c0
  have p1 := Hp.out.c1
  have Hb := hid (Hb0.out.trans (hb.mono (by simp only [World.size_alloc]; omega)))
  have hz := hb.size
  simp only [World.size_alloc] at hz
  clear hb Hx1 Hx2 Hb0
  go_wp2_with (go_at_call 79; refine (inside_is _ _ _ _ Hi).mono ?_; rintro e w5 ⟨rfl, rfl⟩)
  have Hall := hid (show Box w5.drew w.heap.size v A n c ∧ Box w5.drew (w.heap.size + 1) 0 none 0 0 ∧ Arg w5.drew A n ws ∧ Below w.heap.size w w5.drew from ⟨Hp.out, Hq.out, (HA.out.below Hb.out.drew), Hb.out.drew⟩)
  go_region_with (first
    | (go_at_call 68
       go_must (
       refine (clone_any A n c ws _ Hall.out.2.2.1 (by omega) hn1).mono ?_
       rintro e w6 ⟨g, c', rfl, ho, hb6⟩
       have hz6 := hb6.size
       have hp6 := Hall.out.1.below hb6 Hall.out.1.lt
       have p60 := hp6.c0
       have hq6 := Hall.out.2.1.below hb6 Hall.out.2.1.lt
       have q60 := hq6.c0
       have q61 := hq6.c1
       have f60 := hq6.f 0
       have f61 := hq6.f 1
       have Hown := hid (OwnW.less ho (show w.heap.size ≤ w5.drew.heap.size from by show w.heap.size ≤ w5.heap.size; omega))
       have Hne := hid (hq6.own_ne ho)
       have Hb6 := hid (Hall.out.2.2.2.trans (hb6.mono (by show w.heap.size ≤ w5.heap.size; omega)))
       clear hp6 hq6 ho hb6 hz6)))
  all_goals
    go_wp2_with fail
    exact bodyPost_ret (v := .tuple #[.agg #[.int .i64 v, .slice (some ⟨g, 0, none⟩) n c'], .int .i64 0]) (by simp [results, Try.results85, go_sem, q60, q61]) rfl ⟨g, c', rfl, (Hown.out.far (by simpa using Hne.out) _).far (by simpa using Hne.out) _, (Hb6.out.setCell (by simp) _).setCell (by simp) _⟩
end Go.Proofs.Ytmbelhdkaepohaa
