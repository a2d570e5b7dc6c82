/- The package's Union, Inter and Diff: the errors, and the set of the bits of one or the other, of both, of the first alone. -/
import Derived.Test.YtadkjnjibefocaaDValid
import Derived.Test.YtadkjnjibefocaaThree
import Derived.StillTailTactics
namespace Go.Proofs.Ytadkjnjibefocaa
set_option maxRecDepth 20000
open Go.ChangeShapes Go.WideShapes Go.ChangeAt Go.RowKit

theorem run_rows (n : Nat) (hn : n ≤ 100000) (w : World) :
    (Instr.makeSlice 45 (.int .i64 (n : Int)) (.int .i64 (n : Int))).run Try.prog w = .ok (.slice (some ⟨w.heap.size, 0, none⟩) n n) (w.alloc (.cells (words (List.replicate n 0)).toArray 72)) := by
  obtain ⟨i, hi, hz0, hz1, hz2⟩ := info_parts info62
  have h := run_make (P := Try.prog) w 45 72 i (.int .u64 0) Try.underlying45 hi hz0 .i64 .i64 n n (by omega) (by omega) (by rw [hz2]; omega) (by omega)
  rw [h, hz1]
  simp only [Int.toNat_natCast, Nat.mul_one]
  have e2 : madeCells (Value.int IntKind.u64 0).cells n = (words (List.replicate n 0)).toArray := by
    rw [← zeros_words]; rfl
  rw [e2]

/-- What the words of a combined set are, and their bits. -/
structure OpOf (f : Nat → Nat → Nat) (fb : Bool → Bool → Bool) : Prop where
  lt : ∀ x y, x < Bs.W64 → y < Bs.W64 → f x y < Bs.W64
  bit : ∀ x y j, x < Bs.W64 → y < Bs.W64 → j < 64 → (f x y).testBit j = fb (x.testBit j) (y.testBit j)
  none : fb false false = false

def part (f : Nat → Nat → Nat) (ws xs : List Nat) (n k : Nat) : List Nat := (List.range n).map fun i => if i < k then f (Bs.wd ws i) (Bs.wd xs i) else 0
section
variable {f : Nat → Nat → Nat} {fb : Bool → Bool → Bool} {ws xs : List Nat} {n k : Nat}
theorem part_len : (part f ws xs n k).length = n := by simp [part]
theorem part_zero : part f ws xs n 0 = List.replicate n 0 := by
  refine List.ext_getElem (by simp [part]) fun i h1 h2 => ?_
  simp [part]
theorem part_set (_h : k < n) : (part f ws xs n k).set k (f (Bs.wd ws k) (Bs.wd xs k)) = part f ws xs n (k + 1) := by
  refine List.ext_getElem (by simp [part]) fun i h1 h2 => ?_
  rw [List.getElem_set]
  simp only [part, List.getElem_map, List.getElem_range]
  by_cases e : k = i
  · subst e; simp
  · rw [if_neg e]
    by_cases hi : i < k
    · rw [if_pos hi, if_pos (by omega)]
    · rw [if_neg hi, if_neg (by omega)]
theorem part_wd (i : Nat) (hi : i < n) : Bs.wd (part f ws xs n n) i = f (Bs.wd ws i) (Bs.wd xs i) := by
  rw [Bs.wd_get (by rw [part_len]; exact hi)]
  simp [part, hi]
theorem part_fit (H : OpOf f fb) {v : Nat} (h1 : Bs.Fit v ws) (h2 : Bs.Fit v xs) (hn : n = Bs.nw v) :
    Bs.Fit v (part f ws xs n n) ∧ ∀ i, i < v → Bs.bit (part f ws xs n n) i = fb (Bs.bit ws i) (Bs.bit xs i) := by
  have key : ∀ b, b / 64 < n → Bs.bit (part f ws xs n n) b = fb (Bs.bit ws b) (Bs.bit xs b) := fun b hb => by
    unfold Bs.bit
    rw [part_wd _ hb]
    exact H.bit _ _ _ (Bs.wd_lt h1.ok _) (Bs.wd_lt h2.ok _) (by omega)
  refine ⟨⟨by rw [part_len, hn], ?_, fun b hb => ?_⟩, fun i hi => key i (by rw [hn]; exact Bs.lt_nw hi)⟩
  · intro x hx
    unfold part at hx
    obtain ⟨i, _, rfl⟩ := List.mem_map.1 hx
    split
    · exact H.lt _ _ (Bs.wd_lt h1.ok _) (Bs.wd_lt h2.ok _)
    · decide
  · rcases Nat.lt_or_ge (b / 64) n with h | h
    · rw [key b h, h1.hi b hb, h2.hi b hb]; exact H.none
    · exact Bs.bit_out (by rw [part_len]; omega)
theorem part_done (H : OpOf f fb) {v : Nat} (h1 : Bs.Fit v ws) (h2 : Bs.Fit v xs) (hn : n = Bs.nw v) :
    part f ws xs n n = Bs.ofP v (fun i => fb (Bs.bit ws i) (Bs.bit xs i)) v := by
  obtain ⟨hf, hb⟩ := part_fit H h1 h2 hn
  refine Bs.ext hf (Bs.fit_ofP _ _ _ (Nat.le_refl _)) fun i hi => ?_
  rw [hb i hi, Bs.bit_ofP _ _ _ (Nat.le_refl _)]
  simp [hi]
end

/-- While the words are combined: the variables of the two sets, the result's cell, the words as far as they have been made. -/
def Comb (w : World) (W : Nat) (A B : Option Addr) (n c d g : Nat) (zs : List Nat) (wr : World) : Prop :=
  Box wr w.heap.size W A n c ∧ Box wr (w.heap.size + 1) W B n d ∧ Box wr (w.heap.size + 1 + 1) 0 none 0 0 ∧ Row wr g zs ∧ w.heap.size + 1 + 1 < g ∧ Below w.heap.size w wr
theorem Comb.drew {w wr : World} {W : Nat} {A B : Option Addr} {n c d g : Nat} {zs : List Nat} (h : Comb w W A B n c d g zs wr) : Comb w W A B n c d g zs wr.drew := by
  obtain ⟨h1, h2, h3, h4, h5, h6⟩ := h
  exact ⟨h1, h2, h3, h4, h5, h6.drew⟩
theorem Comb.set {w wr : World} {W : Nat} {A B : Option Addr} {n c d g : Nat} {zs : List Nat} (h : Comb w W A B n c d g zs wr) (k x : Nat) : Comb w W A B n c d g (zs.set k x) (wr.setCell ⟨g, k, none⟩ (.int .u64 x)) := by
  obtain ⟨h1, h2, h3, h4, h5, h6⟩ := h
  exact ⟨h1.far (by simp; omega) _, h2.far (by simp; omega) _, h3.far (by simp; omega) _, h4.set _ _, h5, h6.setCell (by simp; omega) _⟩

def unionW (x y : Nat) : Nat := x ||| y
theorem unionW_op : OpOf unionW (flag true true true) where
  lt x y h1 h2 := by
    unfold unionW; rw [Bs.W64_eq] at *; exact Nat.or_lt_two_pow h1 h2
  bit x y j h1 h2 hj := by
    unfold unionW
    rw [Nat.testBit_or]; cases x.testBit j <;> cases y.testBit j <;> rfl
  none := rfl
def interW (x y : Nat) : Nat := x &&& y
theorem interW_op : OpOf interW (flag false false true) where
  lt x y h1 h2 := by
    unfold interW; rw [Bs.W64_eq] at *; exact Nat.and_lt_two_pow _ h2
  bit x y j h1 h2 hj := by
    unfold interW
    rw [Nat.testBit_and]; cases x.testBit j <;> cases y.testBit j <;> rfl
  none := rfl
def diffW (x y : Nat) : Nat := x &&& (18446744073709551615 - y)
theorem diffW_op : OpOf diffW (flag true false false) where
  lt x y h1 h2 := by
    unfold diffW; exact Nat.lt_of_le_of_lt Nat.and_le_left h1
  bit x y j h1 h2 hj := by
    unfold diffW
    rw [Nat.testBit_and, show 18446744073709551615 - y = 2 ^ 64 - (y + 1) from by omega, Nat.testBit_two_pow_sub_succ (by rw [Bs.W64_eq] at h2; exact h2)]
    cases x.testBit j <;> cases y.testBit j <;> simp [flag, hj]
  none := rfl
end Go.Proofs.Ytadkjnjibefocaa
