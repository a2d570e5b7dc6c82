/- The package's Valid returns whether the set is valid. -/
import Derived.Test.YtadkjnjibefocaaFns
namespace Go.Proofs.Ytadkjnjibefocaa
open Go.ChangeShapes Go.WideShapes Go.ChangeAt Go.RowKit

/-- Of as many words as its width needs: only the last word can have a bit from the width on. -/
theorem valid_last (v : Nat) (ws : List Nat) (hv : v ≤ 256) (hl : ws.length = Bs.nw v) (ok : ∀ x ∈ ws, x < Bs.W64) :
    Bs.validB (v : Int) ws = (decide (v % 64 = 0) || decide (Bs.wd ws (ws.length - 1) / 2 ^ (v % 64) = 0)) := by
  rw [Bool.eq_iff_iff, Bs.validB_iff]
  simp only [Bool.or_eq_true, decide_eq_true_eq, Int.toNat_natCast]
  by_cases h0 : v % 64 = 0
  · refine ⟨fun _ => .inl h0, fun _ => ⟨by omega, by omega, hl, fun b hb => Bs.bit_out ?_⟩⟩
    rw [hl]; unfold Bs.nw; omega
  · have hn : ws.length - 1 = v / 64 := by rw [hl]; unfold Bs.nw; omega
    have hpos : 0 < 2 ^ (v % 64) := Nat.two_pow_pos _
    rw [hn]
    constructor
    · rintro ⟨_, _, _, h⟩
      refine .inr (Nat.div_eq_of_lt (Nat.lt_pow_two_of_testBit _ fun j hj => ?_))
      rcases Nat.lt_or_ge j 64 with hj2 | hj2
      · have := h (64 * (v / 64) + j) (by omega)
        unfold Bs.bit at this
        rw [show (64 * (v / 64) + j) / 64 = v / 64 from by omega, show (64 * (v / 64) + j) % 64 = j from by omega] at this
        exact this
      · exact Nat.testBit_lt_two_pow (Nat.lt_of_lt_of_le (Bs.wd_lt ok _) (by rw [Bs.W64_eq]; exact Nat.pow_le_pow_right (by decide) hj2))
    · rintro (h | h)
      · exact absurd h h0
      · refine ⟨by omega, by omega, hl, fun b hb => ?_⟩
        have hlt : Bs.wd ws (v / 64) < 2 ^ (v % 64) := by
          rcases Nat.div_eq_zero_iff.1 h with h' | h'
          · omega
          · exact h'
        by_cases e : b / 64 = v / 64
        · unfold Bs.bit
          rw [e]
          exact Nat.testBit_lt_two_pow (Nat.lt_of_lt_of_le hlt (Nat.pow_le_pow_right (by decide) (by omega)))
        · exact Bs.bit_out (by rw [hl]; unfold Bs.nw; omega)

theorem devValid_no (W : Int) (A : Option Addr) (n c : Nat) (ws : List Nat) (w : World) (h : (decide (0 ≤ W) && decide (W ≤ 256)) = false) :
    Calls Try.prog 46 #[.agg #[.int .i64 W, .slice A n c]] w fun e w' => e = .returned (.bool (Bs.validB W ws)) ∧ Below w.heap.size w w' := by
  have hr : Bs.validB W ws = false := by unfold Bs.validB; rw [h]; rfl
  rw [hr]
  have H := hid h
  clear hr h
  go_enter Try.func46, Try.ntmps46
  go_wp2_with fail
  go_quiet ((first | (go_at_call 48; exact Calls.quiet_of_same (permitted_is _ _ _ H)) | (go_at_call 49; fail)))
  go_wp2
  go_ret
  exact ⟨rfl, below_drewN ((Below.refl _ _).alloc (Nat.le_refl _) _) _⟩

theorem devValid_len (v : Nat) (A : Option Addr) (n c : Nat) (ws : List Nat) (w : World) (hA : Arg w A n ws) (hv : v ≤ 256) (h : n ≠ Bs.nw v) :
    Calls Try.prog 46 #[.agg #[.int .i64 v, .slice A n c]] w fun e w' => e = .returned (.bool (Bs.validB v ws)) ∧ Below w.heap.size w w' := by
  have hr : Bs.validB v ws = false := by
    cases hq : Bs.validB v ws with
    | false => rfl
    | true => exact absurd (by rw [← hA.len]; simpa using (Bs.validB_iff.1 hq).2.2.1) h
  have H := hid (show (decide ((0 : Int) ≤ v) && decide ((v : Int) ≤ 256)) = true by simp; omega)
  have t : ((n : Int) != (Bs.nw v : Nat)) = true := by simp; omega
  rw [hr]
  clear hr h hA
  go_enter Try.func46, Try.ntmps46
  go_wp2_with fail
  go_quiet ((first | (go_at_call 48; exact Calls.quiet_of_same (permitted_is _ _ _ H)) | (go_at_call 49; exact Calls.quiet_of_same (wordsOf_any _ _ hv))))
  go_wp2
  go_ret
  exact ⟨rfl, below_drewN ((Below.refl _ _).alloc (Nat.le_refl _) _) _⟩

theorem devValid_in (v : Nat) (A : Option Addr) (n c : Nat) (ws : List Nat) (w : World) (hA : Arg w A n ws) (hv : v ≤ 256) (h : n = Bs.nw v) :
    Calls Try.prog 46 #[.agg #[.int .i64 v, .slice A n c]] w fun e w' => e = .returned (.bool (Bs.validB v ws)) ∧ Below w.heap.size w w' := by
  have H := hid (show (decide ((0 : Int) ≤ v) && decide ((v : Int) ≤ 256)) = true by simp; omega)
  have t : ((n : Int) != (Bs.nw v : Nat)) = false := by simp [h]
  have hl := valid_last v ws hv (hA.len.trans h) hA.ok
  rw [hA.len] at hl
  by_cases h0 : v % 64 = 0
  · have hr : Bs.validB v ws = true := by rw [hl]; simp [h0]
    have t2 : (((v % 64 : Nat) : Int) == 0) = true := by simp [h0]
    have t3 : (((v : Int) % 64) == 0) = true := by simp; omega
    rw [hr]
    clear hr h hA hl
    go_enter Try.func46, Try.ntmps46
    go_wp2_with fail
    go_quiet ((first | (go_at_call 48; exact Calls.quiet_of_same (permitted_is _ _ _ H)) | (go_at_call 49; exact Calls.quiet_of_same (wordsOf_any _ _ hv))))
    go_wp2
    go_ret
    exact ⟨rfl, below_drewN ((Below.refl _ _).alloc (Nat.le_refl _) _) _⟩
  · have hn1 : 0 < n := by rw [h]; unfold Bs.nw; omega
    obtain ⟨ad, rfl, had, hcell⟩ := hA.lies.cell (words_get (i := n - 1) (by rw [hA.len]; omega))
    have hr : Bs.validB v ws = decide (Bs.wd ws (n - 1) / 2 ^ (v % 64) = 0) := by rw [hl]; simp [h0]
    have t3 : (((v : Int) % 64) == 0) = false := by simp; omega
    have hn5 : n ≤ 5 := by rw [h]; unfold Bs.nw; omega
    generalize hx : Bs.wd ws (n - 1) = x at hcell hr
    have hcell2 : (w.alloc (Obj.cells #[Value.int IntKind.i64 (v : Int), Value.slice (some ad) n c] 47)).cell? (ad.add (n - 1)) = some (.int .u64 x) :=
      (World.cell?_alloc_lt _ _ _ (by rw [add_block]; exact had)).trans hcell
    have he : ((x : Int) / 2 ^ (v % 64) == 0) = decide (x / 2 ^ (v % 64) = 0) := by
      rw [show ((x : Int) / 2 ^ (v % 64)) = ((x / 2 ^ (v % 64) : Nat) : Int) from by simp]
      generalize x / 2 ^ (v % 64) = q
      by_cases hq : q = 0 <;> simp [hq]
    rw [hr]
    generalize decide (x / 2 ^ (v % 64) = 0) = r at he
    clear hr h hA hl hx hcell
    go_enter Try.func46, Try.ntmps46
    go_wp2_with fail
    go_quiet ((first | (go_at_call 48; exact Calls.quiet_of_same (permitted_is _ _ _ H)) | (go_at_call 49; exact Calls.quiet_of_same (wordsOf_any _ _ hv))))
    go_wp2
    go_ret
    exact ⟨rfl, below_drewN ((Below.refl _ _).alloc (Nat.le_refl _) _) _⟩

theorem devValid_any (W : Int) (A : Option Addr) (n c : Nat) (ws : List Nat) (w : World) (hA : Arg w A n ws) :
    Calls Try.prog 46 #[.agg #[.int .i64 W, .slice A n c]] w fun e w' => e = .returned (.bool (Bs.validB W ws)) ∧ Below w.heap.size w w' := by
  cases h : (decide (0 ≤ W) && decide (W ≤ 256)) with
  | false => exact devValid_no W A n c ws w h
  | true =>
    simp at h
    obtain ⟨v, rfl⟩ := Int.eq_ofNat_of_zero_le h.1
    by_cases hn : n = Bs.nw v
    · exact devValid_in v A n c ws w hA (by omega) hn
    · exact devValid_len v A n c ws w hA (by omega) hn
end Go.Proofs.Ytadkjnjibefocaa
