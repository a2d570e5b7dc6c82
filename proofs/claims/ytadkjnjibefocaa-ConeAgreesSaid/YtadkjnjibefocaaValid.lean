/- The reference's Valid returns, for every width and every list of words, whether the set is valid. -/
import Derived.Test.YtadkjnjibefocaaMem
namespace Go.Proofs.Ytadkjnjibefocaa
open Go.ChangeShapes Go.WideShapes Go.ChangeAt Go.RowKit

theorem refValid_in (W : Nat) (A : Option Addr) (n c : Nat) (ws : List Nat) (w : World) (hA0 : At w w.heap.size A (words ws)) (hok0 : ∀ x ∈ ws, x < Bs.W64) (hn0 : ws.length = n)
    (h0 : W ≤ 256) (hl0 : n = Bs.nw W) :
    Calls Try.prog 32 #[.agg #[.int .i64 W, .slice A n c]] w fun e w' => e = .returned (.bool (Bs.validB W ws)) ∧ Below w.heap.size w w' := by
  have t1 : decide ((W : Int) < 0) = false := by simp
  have t2 : decide (256 < (W : Int)) = false := by simp; omega
  have t3 : ((n : Int) != ((W : Int) + 63) / 64) = false := by rw [hl0]; unfold Bs.nw; simp
  have h5 : n ≤ 5 := by rw [hl0]; unfold Bs.nw; omega
  have h6 : (W : Int) ≤ 64 * (n : Int) := by rw [hl0]; unfold Bs.nw; omega
  have hA := hid hA0
  have hn := hid hn0
  have hl := hid hl0
  have hok := hid hok0
  clear hA0 hn0 hl0 hok0
  go_enter Try.func32, Try.ntmps32
  go_wp2
  clear t1 t2 t3
  go_loop [3] (fun b => ∃ k : Nat, W ≤ k ∧ k ≤ 64 * n ∧ b = .int .i64 k ∧ Hid (∀ i, W ≤ i → i < k → Bs.bit ws i = false)) (fun b => 64 * n - (intOf b).toNat)
  case atStart => exact ⟨W, by omega, by omega, rfl, fun i h1 h2 => by omega⟩
  case round =>
    obtain ⟨k, hk1, hk2, rfl, hb⟩ := hrel
    by_cases hlt : k < 64 * n
    · have hg : (words ws)[k / 64]? = some (.int .u64 (Bs.wd ws (k / 64))) := words_get (by have := hn.out; omega)
      obtain ⟨ad, rfl, had, hcell⟩ := hA.out.cell hg
      have hx : k / 64 < n := by omega
      clear hg
      have hcell2 : (w.alloc (Obj.cells #[Value.int IntKind.i64 ↑W, Value.slice (some ad) n c] 47)).cell? (ad.add (k / 64)) = some (.int .u64 (Bs.wd ws (k / 64))) := by
        rw [World.cell?_alloc_lt _ _ _ (by rw [add_block]; exact had)]; exact hcell
      clear hcell
      have hbit := test_bit_of hok.out k
      cases hv : Bs.bit ws k with
      | true =>
        rw [hv] at hbit
        have Hv := hid hv
        clear hv
        go_wp2
        go_ret
        refine ⟨ret_bool ?_, (Below.refl _ _).alloc (Nat.le_refl _) _⟩
        cases hq : Bs.validB W ws with
        | false => rfl
        | true =>
          obtain ⟨_, _, _, h4⟩ := Bs.validB_iff.1 hq
          have := h4 k (by omega)
          rw [Hv.out] at this; exact this.symm
      | false =>
        rw [hv] at hbit
        have Hv := hid hv
        clear hv
        go_wp2
        go_round
        case rel =>
          refine ⟨k + 1, by omega, by omega, by go_num, fun i h1 h2 => ?_⟩
          by_cases e : i = k
          · rw [e]; exact Hv.out
          · exact hb.out i h1 (by omega)
        case measure => simp [intOf]; omega
    · go_wp2
      go_ret
      refine ⟨ret_bool ?_, (Below.refl _ _).alloc (Nat.le_refl _) _⟩
      refine (Bs.validB_iff.2 ⟨by omega, by omega, by rw [hn.out]; simpa using hl.out, fun b hb' => ?_⟩).symm
      rcases Nat.lt_or_ge b k with h | h
      · exact hb.out b (by omega) h
      · exact Bs.bit_out (by have := hn.out; omega)

theorem refValid_out (W : Int) (A : Option Addr) (n c : Nat) (ws : List Nat) (w : World) (hn0 : ws.length = n)
    (hno : W < 0 ∨ 256 < W ∨ n ≠ Bs.nw W.toNat) :
    Calls Try.prog 32 #[.agg #[.int .i64 W, .slice A n c]] w fun e w' => e = .returned (.bool (Bs.validB W ws)) ∧ Below w.heap.size w w' := by
  have hv : Hid (false = Bs.validB W ws) := by
    cases hq : Bs.validB W ws with
    | false => exact hid rfl
    | true =>
      obtain ⟨h1, h2, h3, _⟩ := Bs.validB_iff.1 hq
      rw [hn0] at h3
      omega
  clear hn0
  by_cases h1 : W < 0
  · go_enter Try.func32, Try.ntmps32
    go_wp2
    go_ret
    exact ⟨ret_bool hv.out, (Below.refl _ _).alloc (Nat.le_refl _) _⟩
  · by_cases h2 : 256 < W
    · go_enter Try.func32, Try.ntmps32
      go_wp2
      go_ret
      exact ⟨ret_bool hv.out, (Below.refl _ _).alloc (Nat.le_refl _) _⟩
    · have t3 : ((n : Int) != (W + 63) / 64) = true := by
        have : (n : Int) ≠ (W + 63) / 64 := by unfold Bs.nw at hno; omega
        simpa using this
      clear hno
      go_enter Try.func32, Try.ntmps32
      go_wp2
      go_ret
      exact ⟨ret_bool hv.out, (Below.refl _ _).alloc (Nat.le_refl _) _⟩

theorem refValid_any (W : Int) (A : Option Addr) (n c : Nat) (ws : List Nat) (w : World) (hA : At w w.heap.size A (words ws)) (hok : ∀ x ∈ ws, x < Bs.W64) (hn : ws.length = n) :
    Calls Try.prog 32 #[.agg #[.int .i64 W, .slice A n c]] w fun e w' => e = .returned (.bool (Bs.validB W ws)) ∧ Below w.heap.size w w' := by
  by_cases h : W < 0 ∨ 256 < W ∨ n ≠ Bs.nw W.toNat
  · exact refValid_out W A n c ws w hn h
  · obtain ⟨m, rfl⟩ := Int.eq_ofNat_of_zero_le (a := W) (by omega)
    exact refValid_in m A n c ws w hA hok hn (by omega) (by simp at h; omega)
end Go.Proofs.Ytadkjnjibefocaa
