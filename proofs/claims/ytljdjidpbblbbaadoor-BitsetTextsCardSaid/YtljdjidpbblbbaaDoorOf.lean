/- The reference's Of returns the set of the given members, or the error that a width or a member is out of range. -/
import Derived.Test.YtljdjidpbblbbaaDoorMake
namespace Go.Proofs.YtljdjidpbblbbaaDoor
open Go.ChangeShapes Go.WideShapes Go.ChangeAt Go.RowKit

def ofR (W : Int) (l : List Int) : Int × List Nat × Int :=
  if W < 0 ∨ 256 < W then (0, [], 3)
  else if l.any (fun x => decide (x < 0) || decide (W ≤ x)) then (0, [], 3)
  else (W, Bs.ofP W.toNat (fun i => decide ((i : Int) ∈ l)) W.toNat, 0)

theorem refOf_wide (W : Int) (A : Option Addr) (n c : Nat) (l : List Int) (w : World) (h : W < 0 ∨ 256 < W) :
    Calls Tryd.prog 48 #[.int .i64 W, .slice A n c] w (RetErr w (ofR W l)) := by
  have hr : ofR W l = (0, [], 3) := by unfold ofR; rw [if_pos h]
  rw [hr]
  clear hr
  rcases h with h | h
  all_goals
    go_enter Tryd.func48, Tryd.ntmps48
    go_wp2
    refine bodyPost_ret (v := .tuple #[.agg #[.int .i64 0, .slice none 0 0], .int .i64 3]) (by simp [results, Tryd.results48, go_sem]) rfl ⟨_, _, _, rfl, Arg.nil _ _, ?_⟩
    exact (Below.refl _ _).alloc (Nat.le_refl _) _

theorem take_snoc {α : Type} (l : List α) (k : Nat) (h : k < l.length) : l.take (k + 1) = l.take k ++ [l[k]] := by
  rw [List.take_succ_eq_append_getElem h]

theorem mem_snoc (l : List Int) (b i : Nat) : decide ((i : Int) ∈ l ++ [(b : Int)]) = (decide ((i : Int) ∈ l) || decide (i = b)) := by
  rw [← Bool.decide_or]
  congr 1
  rw [List.mem_append, List.mem_singleton]
  apply propext
  constructor
  · rintro (h | h)
    · exact .inl h
    · exact .inr (by omega)
  · rintro (h | h)
    · exact .inl h
    · exact .inr (by omega)

set_option maxHeartbeats 1600000 in
theorem refOf_in (W : Nat) (A : Option Addr) (n c : Nat) (l : List Int) (w : World) (hA : IArg w A n l) (hW : W ≤ 256) (hn : n ≤ maxLen) :
    Calls Tryd.prog 48 #[.int .i64 W, .slice A n c] w (RetErr w (ofR W l)) := by
  unfold maxLen at hn
  have t1 : decide ((W : Int) < 0) = false := by simp
  have t2 : decide (256 < (W : Int)) = false := by simp; omega
  have HA := hid hA
  clear hA
  go_enter Tryd.func48, Tryd.ntmps48
  go_wp2_with fail
  refine (refEmpty_any W _ (by omega)).mono ?_
  rintro e w2 ⟨g, rfl, hg, hrow, hb2⟩
  rw [len_emp]
  have hinv := Making.start (w := w) (v := W) hrow (by rw [World.size_alloc] at hg; omega) ((Box.new w 0 none 0 0).below hb2 (by simp)) (Nat.le_refl _) (((Below.refl _ _).alloc (Nat.le_refl _) _).trans (hb2.mono (by simp)))
  have he : Bs.emp W = Bs.ofP W (fun i => decide ((i : Int) ∈ l.take 0)) W := by
    rw [show (fun i : Nat => decide ((i : Int) ∈ l.take 0)) = fun _ => false from by funext i; simp]; exact (Bs.ofP_false W W).symm
  rw [he] at hinv
  have Hinv := hid hinv
  clear hinv hrow hb2 hg he t1 t2
  go_wp2_with fail
  go_loopw [7] (fun i wr => ∃ k : Nat, k ≤ n ∧ i = .int .i64 k ∧ Hid ((∀ x ∈ l.take k, 0 ≤ x ∧ x < W) ∧ Making w w2.heap.size w.heap.size W (Bs.ofP W (fun i => decide ((i : Int) ∈ l.take k)) W) wr)) (fun i _ => n - (intOf i).toNat)
  case atStart => exact ⟨0, by omega, rfl, hid ⟨by simp, Hinv.out⟩⟩
  case round =>
    obtain ⟨k, hk, rfl, hG⟩ := hrel
    have hfit := Bs.fit_ofP W (fun i => decide ((i : Int) ∈ l.take k)) W (Nat.le_refl _)
    have Hfit := hid hfit
    obtain ⟨⟨⟨hr0, hr1⟩, hf0, hf1⟩, hne⟩ := hG.out.2.cells
    by_cases hlt : k < n
    · have hkl : k < l.length := by rw [HA.out.len]; exact hlt
      obtain ⟨ad, rfl, had, hcell⟩ := (HA.out.below hG.out.2.frame).lies.cell (ints_get hkl)
      have hsn := take_snoc l k hkl
      have hxl : l.getD k 0 = l[k] := by rw [List.getD_eq_getElem?_getD, List.getElem?_eq_getElem hkl]; rfl
      have hmem : l[k] ∈ l := List.getElem_mem hkl
      rw [← hxl] at hsn hmem
      generalize l.getD k 0 = x at hcell hsn hmem
      have Hsn := hid hsn; have Hmem := hid hmem
      clear hsn hmem hxl
      have hk0 : (0 : Int) ≤ k := by omega
      have hkn : (k : Int).toNat = k := by omega
      have hk1 : (k : Int) < n := by omega
      by_cases hin : 0 ≤ x ∧ x < W
      · obtain ⟨hx0, hx1⟩ := hin
        obtain ⟨b, rfl⟩ := Int.eq_ofNat_of_zero_le hx0
        obtain ⟨g0, hc0, hc1, ha, hbl⟩ := hG.out.2.load hfit
        obtain ⟨gb, hbox⟩ := hG.out.2.box
        have Ha := hid ha; have Hbox := hid hbox
        have hbW : b < W := by omega
        clear hfit ha hbox
        go_wp2_with fail
        go_region_with (first
          | (go_at_call 22
             go_must (
             refine (refPut_any W _ _ _ _ b _ (Arg.below Ha.out (Below.drew (Below.refl _ _))) (by omega) Hfit.out.len hbW).mono ?_
             rintro e w5 ⟨g5, rfl, hg5, hrow5, hb5⟩
             have hb5' : Below wr.heap.size wr w5 := Below.trans (Below.drew (Below.refl _ _)) hb5
             obtain ⟨⟨hc50, hc51⟩, hf50, hf51⟩ := box_stores Hbox.out hb5'
             have hfin := hG.out.2.put hg5 hrow5 hb5'
             rw [show (Bs.put (Bs.ofP W (fun i => decide ((i : Int) ∈ l.take k)) W) b).length = Bs.nw W from by rw [Bs.length_put]; exact Hfit.out.len]
             have Hfin := hid hfin
             clear hfin hrow5 hb5 hb5')))
        all_goals
          go_wp2_with fail
          go_roundw
          case rel =>
            refine ⟨k + 1, by omega, by go_num, hid ⟨?_, ?_⟩⟩
            · rw [Hsn.out]; intro y hy
              rcases List.mem_append.1 hy with h | h
              · exact hG.out.1 y h
              · simp at h; subst h; exact ⟨hx0, hx1⟩
            · have hh := Hfin.out
              rw [Bs.put_ofP _ hbW] at hh
              rw [Bs.ofP_congr (q := fun i => decide ((i : Int) ∈ l.take k) || decide (i = b)) (fun i _ => by rw [Hsn.out]; exact mem_snoc _ _ _)]
              exact hh
          case measure => simp [intOf]; omega
      · have hres : ofR W l = (0, [], 3) := by
          unfold ofR
          rw [if_neg (by omega), if_pos]
          refine List.any_eq_true.2 ⟨x, Hmem.out, ?_⟩
          simp; omega
        have Hres := hid hres
        have hfr := hG.out.2.frame
        have Hfr := hid hfr
        clear hres hfit hfr
        by_cases hx0 : x < 0
        all_goals
          go_wp2
          refine bodyPost_ret (v := .tuple #[.agg #[.int .i64 0, .slice none 0 0], .int .i64 3]) (by simp [results, Tryd.results48, go_sem, hr0, hr1]) rfl ?_
          rw [Hres.out]
          exact ⟨_, _, _, rfl, Arg.nil _ _, (Hfr.out.setCell (by simp) _).setCell (by simp) _⟩
    · have hkW : k = n := by omega
      have hall : l.take k = l := List.take_of_length_le (by rw [HA.out.len]; omega)
      have hres : ofR W l = ((W : Int), Bs.ofP W (fun i => decide ((i : Int) ∈ l)) W, 0) := by
        unfold ofR
        rw [if_neg (by omega), if_neg, Int.toNat_natCast]
        intro h
        obtain ⟨x, hx, hb⟩ := List.any_eq_true.1 h
        have := hG.out.1 x (by rw [hall]; exact hx)
        simp at hb; omega
      have Hres := hid hres; have Hall := hid hall
      obtain ⟨g0, hc0, hc1, ha, hbl⟩ := hG.out.2.done hfit
      have Ha := hid ha; have Hbl := hid hbl
      clear hfit ha hbl hres hall hkW
      go_wp2_with fail
      refine bodyPost_ret (v := .tuple #[.agg #[.int .i64 W, .slice (some ⟨g0, 0, none⟩) (Bs.nw W) (Bs.nw W)], .int .i64 0]) (by simp [results, Tryd.results48, go_sem, hr0, hr1]) rfl ?_
      rw [Hres.out]
      refine ⟨_, _, _, rfl, ?_, Hbl.out⟩
      have hh := Ha.out
      rw [Hall.out] at hh
      exact hh

theorem refOf_any (W : Int) (A : Option Addr) (n c : Nat) (l : List Int) (w : World) (hA : IArg w A n l) (hn : n ≤ maxLen) :
    Calls Tryd.prog 48 #[.int .i64 W, .slice A n c] w (RetErr w (ofR W l)) := by
  by_cases h : W < 0 ∨ 256 < W
  · exact refOf_wide W A n c l w h
  · obtain ⟨v, rfl⟩ := Int.eq_ofNat_of_zero_le (a := W) (by omega)
    exact refOf_in v A n c l w hA (by omega) hn
end Go.Proofs.YtljdjidpbblbbaaDoor
