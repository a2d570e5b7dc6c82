/- The walk of BitsetMakes: it returns true for every list of choices, every width and every list of numbers, and writes new memory only. -/
import Derived.Test.YtljdjidpbblbbaaDoorMakes
import Derived.Test.YtljdjidpbblbbaaDoorLawCombines
namespace Go.Proofs.YtljdjidpbblbbaaDoor
set_option maxRecDepth 10000
open Go.ChangeShapes Go.WideShapes Go.ChangeAt Go.RowKit

/-- The statement's tape stands, and nothing old has changed. -/
def Going (w : World) (T : Nat) (wr : World) : Prop := Tape wr T ∧ Below w.heap.size w wr ∧ w.heap.size ≤ T
theorem Going.step {w wr w' : World} {T : Nat} (h : Going w T wr) (ht : Tape w' T) (hg : wr.grownBy w' (some T)) : Going w T w' :=
  ⟨ht, after_app h.2.1 hg h.2.2, h.2.2⟩
theorem Going.below {w wr w' : World} {T : Nat} (h : Going w T wr) (hb : Below wr.heap.size wr w') : Going w T w' :=
  h.step (h.1.below hb h.1.lt) (grown_of_below hb _)
theorem Going.alloc {w wr : World} {T : Nat} (h : Going w T wr) (o : Obj) : Going w T (wr.alloc o) := h.below ((Below.refl _ _).alloc (Nat.le_refl _) o)

theorem pick8b (r : Int) (h0 : 0 ≤ r) (h1 : r < 8) (w w1 : World) {T : Nat} (hg : (w.alloc (Obj.cells #[Value.int IntKind.i64 0, Value.int IntKind.i64 5, Value.int IntKind.i64 63, Value.int IntKind.i64 64, Value.int IntKind.i64 65, Value.int IntKind.i64 256, Value.int IntKind.i64 257, Value.int IntKind.i64 (-1)] 3)).grownBy w1 (some T)) (hT : w.heap.size ≠ T) :
    ∃ v : Int, (-1 ≤ v ∧ v ≤ 257) ∧ w1.cell? ⟨w.heap.size, r.toNat, none⟩ = some (.int .i64 v) := by
  have hh := heap_alloc_new w (Obj.cells #[Value.int IntKind.i64 0, Value.int IntKind.i64 5, Value.int IntKind.i64 63, Value.int IntKind.i64 64, Value.int IntKind.i64 65, Value.int IntKind.i64 256, Value.int IntKind.i64 257, Value.int IntKind.i64 (-1)] 3)
  have hblk := hg.block w.heap.size (by rw [World.size_alloc]; omega) (some_ne hT)
  rw [hh] at hblk
  have : r = 0 ∨ r = 1 ∨ r = 2 ∨ r = 3 ∨ r = 4 ∨ r = 5 ∨ r = 6 ∨ r = 7 := by omega
  rcases this with rfl | rfl | rfl | rfl | rfl | rfl | rfl | rfl
  · exact ⟨0, by omega, by simp [World.cell?, hblk]⟩
  · exact ⟨5, by omega, by simp [World.cell?, hblk]⟩
  · exact ⟨63, by omega, by simp [World.cell?, hblk]⟩
  · exact ⟨64, by omega, by simp [World.cell?, hblk]⟩
  · exact ⟨65, by omega, by simp [World.cell?, hblk]⟩
  · exact ⟨256, by omega, by simp [World.cell?, hblk]⟩
  · exact ⟨257, by omega, by simp [World.cell?, hblk]⟩
  · exact ⟨-1, by omega, by simp [World.cell?, hblk]⟩

/-- The members gathered so far, on a row of the call's own. -/
def Listed (w : World) (T : Nat) (v : Value) (l : List Int) (wr : World) : Prop := Going w T wr ∧ wr.ownsRow (T + 1) 3 1 v l.length (ints l)
theorem Listed.step {w wr w' : World} {T : Nat} {v : Value} {l : List Int} (h : Listed w T v l wr) (ht : Tape w' T) (hg : wr.grownBy w' (some T)) : Listed w T v l w' :=
  ⟨h.1.step ht hg, h.2.kept hg (.inr (by intro e; have := h.2.lt T e; omega))⟩
theorem Listed.push {w wr w' : World} {T : Nat} {v v' : Value} {l : List Int} {x : Int} {o : Obj} (h : Listed w T v l wr) (ho : w'.ownsRow (T + 1) 3 1 v' (l.length + 1) (ints l ++ [.int .i64 x])) (hg : (wr.alloc o).grownBy w' v.ownBlock) : Listed w T v' (l ++ [x]) w' := by
  have hlt := h.1.1.lt
  have hge : ∀ k, v.ownBlock = some k → T + 1 ≤ k := fun k hk => (h.2.lt k hk).1
  have ha := h.1.alloc o
  refine ⟨⟨ha.1.keep fun k hk => hg.block k (by rw [World.size_alloc]; omega) (fun e => by have := hge k e.symm; omega), ha.2.1.grown hg ha.2.1.size (fun k hk => by have := hge k hk; have := h.1.2.2; omega), h.1.2.2⟩, ?_⟩
  rw [ints_snoc, List.length_append]; exact ho

set_option maxHeartbeats 3200000 in
theorem lawMakes (At : Option Addr) (nt ct : Nat) (zs : List Int) (W : Int) (A : Option Addr) (n c : Nat) (l : List Int) (w : World) (ht : IArg w At nt zs) (hnt : nt ≤ maxLen) (hA : IArg w A n l) (hn : n ≤ maxLen) :
    Calls Tryd.prog 4 #[.slice At nt ct, .int .i64 W, .slice A n c] w fun e w' => e = .returned (.bool true) ∧ Below w.heap.size w w' := by
  obtain ⟨i0, hi, hz0, hz1, hz2⟩ := info_parts info3
  have Hi := hid hi; have Hz0 := hid hz0; have Hz1 := hid hz1; have Hz2 := hid hz2
  have hinv : Going w w.heap.size (w.alloc (.cells #[.slice At nt ct, .int .i64 0] 58)) := ⟨tape_new ht hnt, (Below.refl _ _).alloc (Nat.le_refl _) _, Nat.le_refl _⟩
  have Hinv := hid hinv
  have HA := hid hA
  clear hinv hA ht hi hz0 hz1 hz2
  go_enter Tryd.func4, Tryd.ntmps4
  go_wp2_with (go_at_call 9; refine (new_any At nt ct _).mono ?_; rintro e w1 ⟨rfl, rfl⟩)
  generalize hT : w.heap.size = T at *
  have HT := hid hT
  clear hT
  go_loopw [8] (fun i wr => ∃ k : Nat, k ≤ 4 ∧ i = .int .i64 k ∧ Hid (Going w T wr)) (fun i _ => 4 - (intOf i).toNat)
  case atStart => exact ⟨0, by omega, rfl, Hinv⟩
  case round =>
    obtain ⟨k, hk, rfl, hG⟩ := hrel
    by_cases hlt : k < 4
    · have htt := hid hG.out.1
      go_wp2_with fail
      refine (next_any T 8 _ (htt.out.alloc _) (by omega)).mono ?_
      rintro e w1 ⟨r, rfl, hr0, hr1, ht1, hg1, hs1⟩
      obtain ⟨v, hv, hcell⟩ := pick8b r hr0 (by omega) wr w1 hg1 (by have := htt.out.lt; omega)
      have hr2 : r < 8 := by omega
      have hG1 := hid ((hG.out.alloc _).step ht1 hg1)
      clear hr1 ht1 hg1 hs1 hG htt
      go_wp2_with fail
      refine (next_any T 6 _ hG1.out.1 (by omega)).mono ?_
      rintro e w2 ⟨s, rfl, hs0, hs1, ht2, hg2, hz2⟩
      have hG2 := hid (hG1.out.step ht2 hg2)
      have hs2 : s ≤ 5 := by omega
      obtain ⟨s0, rfl⟩ := Int.eq_ofNat_of_zero_le hs0
      have hL : Listed w T (.slice none 0 0) [] w2 := ⟨hG2.out, World.ownsRow_nil _ _ _ _⟩
      have HL := hid hL
      clear hs1 ht2 hg2 hz2 hcell hL
      go_wp2_with fail
      go_loopw [10, 11] (fun m i wr => ∃ (j : Nat) (lm : List Int), j ≤ 5 ∧ lm.length + j ≤ 5 ∧ i = .int .i64 j ∧ Hid (Listed w T m lm wr)) (fun _ i _ => (intOf i).toNat)
      case atStart => exact ⟨s0, [], by omega, by simp; omega, rfl, HL⟩
      case round =>
        obtain ⟨j, lm, hj, hlj, rfl, hM⟩ := hrel
        by_cases hj0 : 0 < j
        · have htt := hid hM.out.1.1
          by_cases hv1 : v < 1
          all_goals
            go_wp2_with (first
              | (at_builtin
                 refine wpList_append_own _ rfl _ _ 22 rfl (T + 1) 3 i0 (.int .i64 0) 1 8 Tryd.underlying22 Hi.out Hz0.out Hz1.out Hz2.out rfl (by decide) _ _ _ rfl (hM.out.2.alloc _) ⟨w4.heap.size, 0, none⟩ 1 1 [.int .i64 (r1 - r2 / 7)] rfl rfl (new_one _ _ _) (one_int _ _) (by unfold maxLen; omega) (by omega) (by have := hM.out.1.1.lt; rw [World.size_alloc]; omega) ?_
                 intro v' w5 hown5 hgr5 hnil5
                 have hM := hid (hM.out.push hown5 hgr5)
                 clear hown5 hgr5 hnil5)
              | (go_at_call_of 12 (Value.int IntKind.i64 8)
                 refine (next_any T 8 _ hM.out.1.1 (by omega)).mono ?_
                 rintro e w4 ⟨r2, rfl, h20, h21, ht4, hg4, hz4⟩
                 have hM := hid (hM.out.step ht4 hg4)
                 have h22 : r2 < 8 := (by omega)
                 clear ht4 hg4 hz4 h21)
              | (go_at_call 12
                 refine (next_any T _ _ htt.out (by omega)).mono ?_
                 rintro e w3 ⟨r1, rfl, h10, h11, ht3, hg3, hz3⟩
                 have hM := hid (hM.out.step ht3 hg3)
                 have h12 : r1 ≤ 258 := (by omega)
                 clear ht3 hg3 hz3 h11))
            go_roundw
            case rel => exact ⟨j - 1, lm ++ [r1 - r2 / 7], by omega, by simp; omega, by rw [show ((j - 1 : Nat) : Int) = (j : Int) - 1 from by omega], hM⟩
            case measure => simp [intOf]; omega
        · obtain ⟨A5, c5, e5, hat5, hl5⟩ := own_slice hM.out.2
          subst e5
          have hG5 := hid hM.out.1
          have ha5 := hid (IArg.mk hat5 rfl)
          clear hat5 hl5
          have hn5 : lm.length ≤ maxLen := by unfold maxLen; omega
          go_wp2_with fail
          refine (makes_any v A5 lm.length c5 lm _ ha5.out hn5).mono ?_
          rintro e w6 ⟨rfl, hb6⟩
          have hG6 := hid (hG5.out.below hb6)
          clear hb6
          go_wp2_with fail
          go_roundw
          case rel => exact ⟨k + 1, by omega, by go_num, hG6⟩
          case measure => simp [intOf]; omega
    · have H4 := hid hG.out.2.1
      by_cases c1 : 60 < n
      · have t1 : decide (60 < (n : Int)) = true := by simp; omega
        have t1' : decide (60 < n) = true := by simp; omega
        go_wp2_with fail
        go_ret
        refine ⟨ret_bool (by simp), ?_⟩
        rw [HT.out]; exact HT.out ▸ H4.out
      · have t1 : decide (60 < (n : Int)) = false := by simp; omega
        go_wp2_with fail
        refine (makes_any W A n c l _ (HA.out.below (HT.out ▸ H4.out)) hn).mono ?_
        rintro e w5 ⟨rfl, hb5⟩
        have Hb5 := hid (H4.out.trans (hb5.mono (HT.out ▸ H4.out.size)))
        clear hb5
        go_wp2_with fail
        refine (sane_any _).mono ?_
        rintro e w6 ⟨rfl, hb6⟩
        have Hb6 := hid (Hb5.out.trans (hb6.mono (HT.out ▸ Hb5.out.size)))
        clear hb6
        go_wp2_with fail
        go_ret
        exact ⟨ret_bool (by simp), HT.out ▸ Hb6.out⟩
end Go.Proofs.YtljdjidpbblbbaaDoor
