/- For every list of choices: the program made of them has as many facts of reaching definitions as statements that name a variable they define, and as many facts of each other kind as variables; and the sanity check holds: FactsCount returns true and leaves its argument as it was. The rows' list ties the table of shapes of the program's syntax and the library's tables of numbers. -/
import Derived.Test.YtfapgnbnfhpicaaGreatDoorFctAlla
import Derived.Deep.DeepCutAuto
import Derived.StillTailTactics
import Derived.Deep.RegionHeld3
import Derived.Test.YtfapgnbnfhpicaaGreatDoorRpa
import Derived.Test.YtfapgnbnfhpicaaGreatDoorPms
import Derived.Test.YtfapgnbnfhpicaaGreatDoorVdv
import Derived.Test.YtfapgnbnfhpicaaGreatDoorSup
import Derived.Test.YtfapgnbnfhpicaaGreatDoorPg2
import Derived.Lib.SmallJoins
import Derived.ShutString
import Derived.ChangeOld
import Derived.Test.YtfapgnbnfhpicaaGreatDoorTie
import Derived.Test.YtfapgnbnfhpicaaGreatDoorCards
import Derived.Test.YtfapgnbnfhpicaaGreatDoorDp1
import Derived.Deep.DeepHandedRow
import Derived.Deep.DeepWitnessRowRef
import Derived.LaidMore
import Derived.Lib.LaidTab
namespace Go.Proofs.YtfapgnbnfhpicaaGreatDoor.Bt
open Go.ChangeShapes Go.WideShapes Go.ChangeAt Go.RowKit

/-- Of as many words as its width needs: only the last word can have a bit from the width on. -/
theorem valid_last (v : Nat) (ws : List Nat) (hv : v ≤ 256) (hl : ws.length = Bs.nw v) (ok : ∀ x ∈ ws, x < Bs.W64) :
    Bs.validB (v : Int) ws = (decide (v % 64 = 0) || decide (Bs.wd ws (ws.length - 1) / 2 ^ (v % 64) = 0)) := by
  rw [Bool.eq_iff_iff, Bs.validB_iff]
  simp only [Bool.or_eq_true, decide_eq_true_eq, Int.toNat_natCast]
  by_cases h0 : v % 64 = 0
  · refine ⟨fun _ => .inl h0, fun _ => ⟨by omega, by omega, hl, fun b hb => Bs.bit_out ?_⟩⟩
    rw [hl]; unfold Bs.nw; omega
  · have hn : ws.length - 1 = v / 64 := by rw [hl]; unfold Bs.nw; omega
    have hpos : 0 < 2 ^ (v % 64) := Nat.two_pow_pos _
    rw [hn]
    constructor
    · rintro ⟨_, _, _, h⟩
      refine .inr (Nat.div_eq_of_lt (Nat.lt_pow_two_of_testBit _ fun j hj => ?_))
      rcases Nat.lt_or_ge j 64 with hj2 | hj2
      · have := h (64 * (v / 64) + j) (by omega)
        unfold Bs.bit at this
        rw [show (64 * (v / 64) + j) / 64 = v / 64 from by omega, show (64 * (v / 64) + j) % 64 = j from by omega] at this
        exact this
      · exact Nat.testBit_lt_two_pow (Nat.lt_of_lt_of_le (Bs.wd_lt ok _) (by rw [Bs.W64_eq]; exact Nat.pow_le_pow_right (by decide) hj2))
    · rintro (h | h)
      · exact absurd h h0
      · refine ⟨by omega, by omega, hl, fun b hb => ?_⟩
        have hlt : Bs.wd ws (v / 64) < 2 ^ (v % 64) := by
          rcases Nat.div_eq_zero_iff.1 h with h' | h'
          · omega
          · exact h'
        by_cases e : b / 64 = v / 64
        · unfold Bs.bit
          rw [e]
          exact Nat.testBit_lt_two_pow (Nat.lt_of_lt_of_le hlt (Nat.pow_le_pow_right (by decide) (by omega)))
        · exact Bs.bit_out (by rw [hl]; unfold Bs.nw; omega)

theorem devValid_no (W : Int) (A : Option Addr) (n c : Nat) (ws : List Nat) (w : World) (h : (decide (0 ≤ W) && decide (W ≤ 256)) = false) :
    Calls Tryz.prog 80 #[.agg #[.int .i64 W, .slice A n c]] w fun e w' => e = .returned (.bool (Bs.validB W ws)) ∧ Below w.heap.size w w' := by
  have hr : Bs.validB W ws = false := by unfold Bs.validB; rw [h]; rfl
  rw [hr]
  have H := hid h
  clear hr h
  go_enter Tryz.func80, Tryz.ntmps80
  go_wp2_with fail
  go_quiet ((first | (go_at_call 117; exact Calls.quiet_of_same (permitted_is _ _ _ H)) | (go_at_call 118; fail)))
  go_wp2
  go_ret
  exact ⟨rfl, below_drewN ((Below.refl _ _).alloc (Nat.le_refl _) _) _⟩

theorem devValid_len (v : Nat) (A : Option Addr) (n c : Nat) (ws : List Nat) (w : World) (hA : Arg w A n ws) (hv : v ≤ 256) (h : n ≠ Bs.nw v) :
    Calls Tryz.prog 80 #[.agg #[.int .i64 v, .slice A n c]] w fun e w' => e = .returned (.bool (Bs.validB v ws)) ∧ Below w.heap.size w w' := by
  have hr : Bs.validB v ws = false := by
    cases hq : Bs.validB v ws with
    | false => rfl
    | true => exact absurd (by rw [← hA.len]; simpa using (Bs.validB_iff.1 hq).2.2.1) h
  have H := hid (show (decide ((0 : Int) ≤ v) && decide ((v : Int) ≤ 256)) = true by simp; omega)
  have t : ((n : Int) != (Bs.nw v : Nat)) = true := by simp; omega
  rw [hr]
  clear hr h hA
  go_enter Tryz.func80, Tryz.ntmps80
  go_wp2_with fail
  go_quiet ((first | (go_at_call 117; exact Calls.quiet_of_same (permitted_is _ _ _ H)) | (go_at_call 118; exact Calls.quiet_of_same (wordsOf_any _ _ hv))))
  go_wp2
  go_ret
  exact ⟨rfl, below_drewN ((Below.refl _ _).alloc (Nat.le_refl _) _) _⟩

theorem devValid_in (v : Nat) (A : Option Addr) (n c : Nat) (ws : List Nat) (w : World) (hA : Arg w A n ws) (hv : v ≤ 256) (h : n = Bs.nw v) :
    Calls Tryz.prog 80 #[.agg #[.int .i64 v, .slice A n c]] w fun e w' => e = .returned (.bool (Bs.validB v ws)) ∧ Below w.heap.size w w' := by
  have H := hid (show (decide ((0 : Int) ≤ v) && decide ((v : Int) ≤ 256)) = true by simp; omega)
  have t : ((n : Int) != (Bs.nw v : Nat)) = false := by simp [h]
  have hl := valid_last v ws hv (hA.len.trans h) hA.ok
  rw [hA.len] at hl
  by_cases h0 : v % 64 = 0
  · have hr : Bs.validB v ws = true := by rw [hl]; simp [h0]
    have t2 : (((v % 64 : Nat) : Int) == 0) = true := by simp [h0]
    have t3 : (((v : Int) % 64) == 0) = true := by simp; omega
    rw [hr]
    clear hr h hA hl
    go_enter Tryz.func80, Tryz.ntmps80
    go_wp2_with fail
    go_quiet ((first | (go_at_call 117; exact Calls.quiet_of_same (permitted_is _ _ _ H)) | (go_at_call 118; exact Calls.quiet_of_same (wordsOf_any _ _ hv))))
    go_wp2
    go_ret
    exact ⟨rfl, below_drewN ((Below.refl _ _).alloc (Nat.le_refl _) _) _⟩
  · have hn1 : 0 < n := by rw [h]; unfold Bs.nw; omega
    obtain ⟨ad, rfl, had, hcell⟩ := hA.lies.cell (words_get (i := n - 1) (by rw [hA.len]; omega))
    have hr : Bs.validB v ws = decide (Bs.wd ws (n - 1) / 2 ^ (v % 64) = 0) := by rw [hl]; simp [h0]
    have t3 : (((v : Int) % 64) == 0) = false := by simp; omega
    have hn5 : n ≤ 5 := by rw [h]; unfold Bs.nw; omega
    generalize hx : Bs.wd ws (n - 1) = x at hcell hr
    have hcell2 : (w.alloc (Obj.cells #[Value.int IntKind.i64 (v : Int), Value.slice (some ad) n c] 47)).cell? (ad.add (n - 1)) = some (.int .u64 x) :=
      (World.cell?_alloc_lt _ _ _ (by rw [add_block]; exact had)).trans hcell
    have he : ((x : Int) / 2 ^ (v % 64) == 0) = decide (x / 2 ^ (v % 64) = 0) := by
      rw [show ((x : Int) / 2 ^ (v % 64)) = ((x / 2 ^ (v % 64) : Nat) : Int) from by simp]
      generalize x / 2 ^ (v % 64) = q
      by_cases hq : q = 0 <;> simp [hq]
    rw [hr]
    generalize decide (x / 2 ^ (v % 64) = 0) = r at he
    clear hr h hA hl hx hcell
    go_enter Tryz.func80, Tryz.ntmps80
    go_wp2_with fail
    go_quiet ((first | (go_at_call 117; exact Calls.quiet_of_same (permitted_is _ _ _ H)) | (go_at_call 118; exact Calls.quiet_of_same (wordsOf_any _ _ hv))))
    go_wp2
    go_ret
    exact ⟨rfl, below_drewN ((Below.refl _ _).alloc (Nat.le_refl _) _) _⟩

theorem devValid_any (W : Int) (A : Option Addr) (n c : Nat) (ws : List Nat) (w : World) (hA : Arg w A n ws) :
    Calls Tryz.prog 80 #[.agg #[.int .i64 W, .slice A n c]] w fun e w' => e = .returned (.bool (Bs.validB W ws)) ∧ Below w.heap.size w w' := by
  cases h : (decide (0 ≤ W) && decide (W ≤ 256)) with
  | false => exact devValid_no W A n c ws w h
  | true =>
    simp at h
    obtain ⟨v, rfl⟩ := Int.eq_ofNat_of_zero_le h.1
    by_cases hn : n = Bs.nw v
    · exact devValid_in v A n c ws w hA (by omega) hn
    · exact devValid_len v A n c ws w hA (by omega) hn
end Go.Proofs.YtfapgnbnfhpicaaGreatDoor.Bt

namespace Go.Proofs.YtfapgnbnfhpicaaGreatDoor.Bt
open Go.ChangeShapes Go.WideShapes Go.ChangeAt Go.RowKit

def sameB (W : Int) (a : List Nat) (V : Int) (b : List Nat) : Bool := decide (W = V) && decide (a = b)

theorem wd_ext {a b : List Nat} (hl : a.length = b.length) (h : ∀ j, j < a.length → Bs.wd a j = Bs.wd b j) : a = b :=
  List.ext_getElem hl fun i h1 h2 => by have := h i h1; rwa [Bs.wd_get h1, Bs.wd_get h2] at this

end Go.Proofs.YtfapgnbnfhpicaaGreatDoor.Bt

namespace Go.Proofs.YtfapgnbnfhpicaaGreatDoor.Bt
open Go.ChangeShapes Go.WideShapes Go.ChangeAt Go.RowKit

/-- A set and an error number came back. -/
def RetErr (w : World) (r : Int × List Nat × Int) (e : Ending) (w' : World) : Prop :=
  ∃ (A : Option Addr) (n c : Nat), e = .returned (.tuple #[.agg #[.int .i64 r.1, .slice A n c], .int .i64 r.2.2]) ∧ Arg w' A n r.2.1 ∧ Below w.heap.size w w'
def flag (one two both x y : Bool) : Bool := (x && y && both) || ((x && !y && one) || (!x && y && two))
def mixR (f : Bool → Bool → Bool) (W : Int) (ws : List Nat) (V : Int) (xs : List Nat) : Int × List Nat × Int :=
  if Bs.validB W ws = false ∨ Bs.validB V xs = false then (0, [], 1)
  else if W ≠ V then (0, [], 2)
  else (W, Bs.ofP W.toNat (fun i => f (Bs.bit ws i) (Bs.bit xs i)) W.toNat, 0)

theorem box3 (w : World) (W V : Int) (A B : Option Addr) (n c m d : Nat) :
    Box (((w.alloc (.cells #[.int .i64 W, .slice A n c] 47)).alloc (.cells #[.int .i64 V, .slice B m d] 47)).alloc (.cells #[.int .i64 0, .slice none 0 0] 47)) w.heap.size W A n c ∧
    Box (((w.alloc (.cells #[.int .i64 W, .slice A n c] 47)).alloc (.cells #[.int .i64 V, .slice B m d] 47)).alloc (.cells #[.int .i64 0, .slice none 0 0] 47)) (w.heap.size + 1) V B m d ∧
    Box (((w.alloc (.cells #[.int .i64 W, .slice A n c] 47)).alloc (.cells #[.int .i64 V, .slice B m d] 47)).alloc (.cells #[.int .i64 0, .slice none 0 0] 47)) (w.heap.size + 1 + 1) 0 none 0 0 := by
  refine ⟨((Box.new w _ _ _ _).alloc _).alloc _, ?_, ?_⟩
  · have h := (Box.new (w.alloc (.cells #[.int .i64 W, .slice A n c] 47)) V B m d).alloc (.cells #[.int .i64 0, .slice none 0 0] 47)
    rw [World.size_alloc] at h; exact h
  · have h := Box.new ((w.alloc (.cells #[.int .i64 W, .slice A n c] 47)).alloc (.cells #[.int .i64 V, .slice B m d] 47)) 0 none 0 0
    rw [World.size_alloc, World.size_alloc] at h; exact h
theorem below3 (w : World) (a b c : Obj) : Below w.heap.size w (((w.alloc a).alloc b).alloc c) := (((Below.refl _ _).alloc (Nat.le_refl _) _).alloc (by simp) _).alloc (by simp only [World.size_alloc]; omega) _

/-- While mix runs: the variables of its two sets, its result's cell, and the set s as far as it has been made. -/
def Mixing (w : World) (W : Int) (A B : Option Addr) (n c m d v : Nat) (b : Nat) (zs : List Nat) (wr : World) : Prop :=
  ∃ g : Nat, Box wr w.heap.size W A n c ∧ Box wr (w.heap.size + 1) W B m d ∧ Box wr (w.heap.size + 1 + 1) 0 none 0 0 ∧ Box wr b v (some ⟨g, 0, none⟩) (Bs.nw v) (Bs.nw v) ∧ Row wr g zs ∧ w.heap.size + 1 + 1 < g ∧ w.heap.size + 1 + 1 < b ∧ Below w.heap.size w wr
theorem Mixing.below {w wr w' : World} {W : Int} {A B : Option Addr} {n c m d v b : Nat} {zs : List Nat} (h : Mixing w W A B n c m d v b zs wr) (hb : Below wr.heap.size wr w') : Mixing w W A B n c m d v b zs w' := by
  obtain ⟨g, h1, h2, h3, h4, h5, h6, h7, h8⟩ := h
  exact ⟨g, h1.below hb h1.lt, h2.below hb h2.lt, h3.below hb h3.lt, h4.below hb h4.lt, h5.below hb h5.lt, h6, h7, h8.trans (hb.mono h8.size)⟩
theorem Mixing.drew {w wr : World} {W : Int} {A B : Option Addr} {n c m d v b : Nat} {zs : List Nat} (h : Mixing w W A B n c m d v b zs wr) : Mixing w W A B n c m d v b zs wr.drew := h.below (Below.refl _ _).drew

theorem Mixing.frame {w wr : World} {W : Int} {A B : Option Addr} {n c m d v b : Nat} {zs : List Nat} (h : Mixing w W A B n c m d v b zs wr) : Below w.heap.size w wr := by
  obtain ⟨g, _, _, _, _, _, _, _, h8⟩ := h; exact h8
theorem Mixing.cells {w wr : World} {W : Int} {A B : Option Addr} {n c m d v b : Nat} {zs : List Nat} (h : Mixing w W A B n c m d v b zs wr) :
    (wr.cell? ⟨w.heap.size, 0, none⟩ = some (.int .i64 W) ∧ wr.cell? ⟨w.heap.size, 1, none⟩ = some (.slice A n c)) ∧ wr.cell? ⟨w.heap.size + 1, 0, none⟩ = some (.int .i64 W) ∧ wr.cell? ⟨w.heap.size + 1, 1, none⟩ = some (.slice B m d) := by
  obtain ⟨g, h1, h2, _⟩ := h; exact ⟨⟨h1.c0, h1.c1⟩, h2.c0, h2.c1⟩

end Go.Proofs.YtfapgnbnfhpicaaGreatDoor.Bt

namespace Go.Proofs.YtfapgnbnfhpicaaGreatDoor.Bt
open Go.ChangeShapes Go.WideShapes Go.ChangeAt Go.RowKit

/-- Words do not lie in a variable that holds a set. -/
theorem Box.apart {w : World} {b : Nat} {W : Int} {A B : Option Addr} {n c m : Nat} {ws : List Nat} (h : Box w b W A n c) (ha : Arg w B m ws) : ws = [] ∨ ∀ ad, B = some ad → ad.block ≠ b := by
  rcases ws with _ | ⟨x, ws⟩
  · exact .inl rfl
  · refine .inr fun ad he hb => ?_
    obtain ⟨ad', he', _, hc⟩ := ha.lies.cell (j := 0) (u := u64 x) rfl
    rw [he] at he'
    injection he' with he'
    subst he'
    have hz : ad.add 0 = ad := by unfold Addr.add; simp
    rw [hz] at hc
    unfold Box at h
    unfold World.cell? at hc
    rw [hb, h] at hc
    simp only at hc
    split at hc
    · cases hc
    · match hoff : ad.off, hc with
      | 0, hc => simp [u64] at hc
      | 1, hc => simp [u64] at hc
      | k + 2, hc => simp at hc
theorem Arg.far {w : World} {B : Option Addr} {m : Nat} {ws : List Nat} {p : Addr} (ha : Arg w B m ws) (hn : ws = [] ∨ ∀ ad, B = some ad → ad.block ≠ p.block) (u : Value) : Arg (w.setCell p u) B m ws := by
  refine ⟨?_, ha.len, ha.ok⟩
  have hs : (w.setCell p u).heap.size = w.heap.size := by simp [World.setCell]
  rcases hn with rfl | hn
  · exact .inl rfl
  · rcases ha.lies with h0 | ⟨ad, e, hb, hc⟩
    · exact .inl h0
    · exact .inr ⟨ad, e, by omega, fun j v hj => (World.cell?_of_block (Below.heap_setCell w p u _ (by rw [add_block]; exact hn ad e))).trans (hc j v hj)⟩
theorem Box.store {w : World} {b : Nat} {W : Int} {A B : Option Addr} {n c m : Nat} {ws : List Nat} (h : Box w b W A n c) (ha : Arg w B m ws) (u v : Value) : Arg ((w.setCell ⟨b, 0, none⟩ u).setCell ⟨b, 1, none⟩ v) B m ws :=
  (ha.far (p := ⟨b, 0, none⟩) (h.apart ha) u).far (p := ⟨b, 1, none⟩) (h.apart ha) v

end Go.Proofs.YtfapgnbnfhpicaaGreatDoor.Bt

namespace Go.Proofs.YtfapgnbnfhpicaaGreatDoor.Bt
set_option maxRecDepth 20000
open Go.ChangeShapes Go.WideShapes Go.ChangeAt Go.RowKit

theorem run_rows (n : Nat) (hn : n ≤ 100000) (w : World) :
    (Instr.makeSlice 45 (.int .i64 (n : Int)) (.int .i64 (n : Int))).run Tryz.prog w = .ok (.slice (some ⟨w.heap.size, 0, none⟩) n n) (w.alloc (.cells (words (List.replicate n 0)).toArray 101)) := by
  obtain ⟨i, hi, hz0, hz1, hz2⟩ := info_parts info62
  have h := run_make (P := Tryz.prog) w 45 101 i (.int .u64 0) Tryz.underlying45 hi hz0 .i64 .i64 n n (by omega) (by omega) (by rw [hz2]; omega) (by omega)
  rw [h, hz1]
  simp only [Int.toNat_natCast, Nat.mul_one]
  have e2 : madeCells (Value.int IntKind.u64 0).cells n = (words (List.replicate n 0)).toArray := by
    rw [← zeros_words]; rfl
  rw [e2]

/-- What the words of a combined set are, and their bits. -/
structure OpOf (f : Nat → Nat → Nat) (fb : Bool → Bool → Bool) : Prop where
  lt : ∀ x y, x < Bs.W64 → y < Bs.W64 → f x y < Bs.W64
  bit : ∀ x y j, x < Bs.W64 → y < Bs.W64 → j < 64 → (f x y).testBit j = fb (x.testBit j) (y.testBit j)
  none : fb false false = false

def part (f : Nat → Nat → Nat) (ws xs : List Nat) (n k : Nat) : List Nat := (List.range n).map fun i => if i < k then f (Bs.wd ws i) (Bs.wd xs i) else 0
section
variable {f : Nat → Nat → Nat} {fb : Bool → Bool → Bool} {ws xs : List Nat} {n k : Nat}
theorem part_len : (part f ws xs n k).length = n := by simp [part]
theorem part_zero : part f ws xs n 0 = List.replicate n 0 := by
  refine List.ext_getElem (by simp [part]) fun i h1 h2 => ?_
  simp [part]
theorem part_set (_h : k < n) : (part f ws xs n k).set k (f (Bs.wd ws k) (Bs.wd xs k)) = part f ws xs n (k + 1) := by
  refine List.ext_getElem (by simp [part]) fun i h1 h2 => ?_
  rw [List.getElem_set]
  simp only [part, List.getElem_map, List.getElem_range]
  by_cases e : k = i
  · subst e; simp
  · rw [if_neg e]
    by_cases hi : i < k
    · rw [if_pos hi, if_pos (by omega)]
    · rw [if_neg hi, if_neg (by omega)]
theorem part_wd (i : Nat) (hi : i < n) : Bs.wd (part f ws xs n n) i = f (Bs.wd ws i) (Bs.wd xs i) := by
  rw [Bs.wd_get (by rw [part_len]; exact hi)]
  simp [part, hi]
theorem part_fit (H : OpOf f fb) {v : Nat} (h1 : Bs.Fit v ws) (h2 : Bs.Fit v xs) (hn : n = Bs.nw v) :
    Bs.Fit v (part f ws xs n n) ∧ ∀ i, i < v → Bs.bit (part f ws xs n n) i = fb (Bs.bit ws i) (Bs.bit xs i) := by
  have key : ∀ b, b / 64 < n → Bs.bit (part f ws xs n n) b = fb (Bs.bit ws b) (Bs.bit xs b) := fun b hb => by
    unfold Bs.bit
    rw [part_wd _ hb]
    exact H.bit _ _ _ (Bs.wd_lt h1.ok _) (Bs.wd_lt h2.ok _) (by omega)
  refine ⟨⟨by rw [part_len, hn], ?_, fun b hb => ?_⟩, fun i hi => key i (by rw [hn]; exact Bs.lt_nw hi)⟩
  · intro x hx
    unfold part at hx
    obtain ⟨i, _, rfl⟩ := List.mem_map.1 hx
    split
    · exact H.lt _ _ (Bs.wd_lt h1.ok _) (Bs.wd_lt h2.ok _)
    · decide
  · rcases Nat.lt_or_ge (b / 64) n with h | h
    · rw [key b h, h1.hi b hb, h2.hi b hb]; exact H.none
    · exact Bs.bit_out (by rw [part_len]; omega)
theorem part_done (H : OpOf f fb) {v : Nat} (h1 : Bs.Fit v ws) (h2 : Bs.Fit v xs) (hn : n = Bs.nw v) :
    part f ws xs n n = Bs.ofP v (fun i => fb (Bs.bit ws i) (Bs.bit xs i)) v := by
  obtain ⟨hf, hb⟩ := part_fit H h1 h2 hn
  refine Bs.ext hf (Bs.fit_ofP _ _ _ (Nat.le_refl _)) fun i hi => ?_
  rw [hb i hi, Bs.bit_ofP _ _ _ (Nat.le_refl _)]
  simp [hi]
end

/-- While the words are combined: the variables of the two sets, the result's cell, the words as far as they have been made. -/
def Comb (w : World) (W : Nat) (A B : Option Addr) (n c d g : Nat) (zs : List Nat) (wr : World) : Prop :=
  Box wr w.heap.size W A n c ∧ Box wr (w.heap.size + 1) W B n d ∧ Box wr (w.heap.size + 1 + 1) 0 none 0 0 ∧ Row wr g zs ∧ w.heap.size + 1 + 1 < g ∧ Below w.heap.size w wr
theorem Comb.drew {w wr : World} {W : Nat} {A B : Option Addr} {n c d g : Nat} {zs : List Nat} (h : Comb w W A B n c d g zs wr) : Comb w W A B n c d g zs wr.drew := by
  obtain ⟨h1, h2, h3, h4, h5, h6⟩ := h
  exact ⟨h1, h2, h3, h4, h5, h6.drew⟩
theorem Comb.set {w wr : World} {W : Nat} {A B : Option Addr} {n c d g : Nat} {zs : List Nat} (h : Comb w W A B n c d g zs wr) (k x : Nat) : Comb w W A B n c d g (zs.set k x) (wr.setCell ⟨g, k, none⟩ (.int .u64 x)) := by
  obtain ⟨h1, h2, h3, h4, h5, h6⟩ := h
  exact ⟨h1.far (by simp; omega) _, h2.far (by simp; omega) _, h3.far (by simp; omega) _, h4.set _ _, h5, h6.setCell (by simp; omega) _⟩

def unionW (x y : Nat) : Nat := x ||| y
theorem unionW_op : OpOf unionW (flag true true true) where
  lt x y h1 h2 := by
    unfold unionW; rw [Bs.W64_eq] at *; exact Nat.or_lt_two_pow h1 h2
  bit x y j h1 h2 hj := by
    unfold unionW
    rw [Nat.testBit_or]; cases x.testBit j <;> cases y.testBit j <;> rfl
  none := rfl
def interW (x y : Nat) : Nat := x &&& y
theorem interW_op : OpOf interW (flag false false true) where
  lt x y h1 h2 := by
    unfold interW; rw [Bs.W64_eq] at *; exact Nat.and_lt_two_pow _ h2
  bit x y j h1 h2 hj := by
    unfold interW
    rw [Nat.testBit_and]; cases x.testBit j <;> cases y.testBit j <;> rfl
  none := rfl
def diffW (x y : Nat) : Nat := x &&& (18446744073709551615 - y)
theorem diffW_op : OpOf diffW (flag true false false) where
  lt x y h1 h2 := by
    unfold diffW; exact Nat.lt_of_le_of_lt Nat.and_le_left h1
  bit x y j h1 h2 hj := by
    unfold diffW
    rw [Nat.testBit_and, show 18446744073709551615 - y = 2 ^ 64 - (y + 1) from by omega, Nat.testBit_two_pow_sub_succ (by rw [Bs.W64_eq] at h2; exact h2)]
    cases x.testBit j <;> cases y.testBit j <;> simp [flag, hj]
  none := rfl
end Go.Proofs.YtfapgnbnfhpicaaGreatDoor.Bt

namespace Go.Proofs.YtfapgnbnfhpicaaGreatDoor.Bt
open Go.ChangeShapes Go.WideShapes Go.ChangeAt Go.RowKit

/-- The members below k, ascending. -/
def memsTo (ws : List Nat) : Nat → List Int
  | 0 => []
  | k + 1 => if Bs.bit ws k then memsTo ws k ++ [(k : Int)] else memsTo ws k
theorem memsTo_len (ws : List Nat) (k : Nat) : (memsTo ws k).length ≤ k := by
  induction k with
  | zero => simp [memsTo]
  | succ k ih =>
    unfold memsTo; split
    · rw [List.length_append]; simp; omega
    · omega
def memsB (W : Int) (ws : List Nat) : List Int := if Bs.validB W ws then memsTo ws W.toNat else []
theorem memsB_len (W : Int) (ws : List Nat) : (memsB W ws).length ≤ 256 := by
  unfold memsB; split
  · next h => have := (Bs.validB_iff.1 h).2.1; have := memsTo_len ws W.toNat; omega
  · simp

/-- Whole numbers, as an argument: where they lie and how many they are. -/
structure IArg (w : World) (A : Option Addr) (n : Nat) (l : List Int) : Prop where
  lies : At w w.heap.size A (ints l)
  len : l.length = n
theorem IArg.below {w w' : World} {A : Option Addr} {n : Nat} {l : List Int} (h : IArg w A n l) (hb : Below w.heap.size w w') : IArg w' A n l :=
  ⟨h.lies.below hb hb.size, h.len⟩
theorem IArg.alloc {w : World} {A : Option Addr} {n : Nat} {l : List Int} (h : IArg w A n l) (o : Obj) : IArg (w.alloc o) A n l :=
  h.below ((Below.refl _ _).alloc (Nat.le_refl _) o)
def RetInts (w : World) (l : List Int) (e : Ending) (w' : World) : Prop :=
  ∃ (A : Option Addr) (n c : Nat), e = .returned (.slice A n c) ∧ IArg w' A n l ∧ Below w.heap.size w w'

theorem own_below {w w' : World} {base : Nat} {ty : TypeId} {size : Nat} {v : Value} {n : Nat} {xs : List Value} (h : w.ownsRow base ty size v n xs) (hb : Below w.heap.size w w') : w'.ownsRow base ty size v n xs :=
  h.kept (grown_of_below hb none) (by cases v.ownBlock with | none => exact .inl rfl | some k => exact .inr (by simp))
theorem own_slice {w : World} {base : Nat} {ty : TypeId} {v : Value} {n : Nat} {xs : List Value} (h : w.ownsRow base ty 1 v n xs) :
    ∃ A c, v = .slice A n c ∧ At w w.heap.size A xs ∧ xs.length = n := by
  have hl := h.1
  rcases h.2 with ⟨rfl, rfl⟩ | ⟨g, cap, cur, rfl, _, hg, _⟩
  · have hx : xs = [] := List.eq_nil_of_length_eq_zero (by omega)
    subst hx
    exact ⟨none, 0, rfl, .inl rfl, rfl⟩
  · refine ⟨_, cap, rfl, .inr ⟨_, rfl, ?_, h.cells rfl⟩, by omega⟩
    rcases Nat.lt_or_ge g w.heap.size with hlt | hge
    · exact hlt
    · rw [Array.getElem?_eq_none hge] at hg; cases hg

theorem new_one (w : World) (v : Value) (ty : TypeId) : ∀ j u, [v][j]? = some u → (w.alloc (.cells #[v] ty)).cell? ((⟨w.heap.size, 0, none⟩ : Addr).add j) = some u := by
  intro j u h
  rw [add_of]
  match j, h with
  | 0, h => simp at h; subst h; rw [World.cell?_alloc_at _ _ _ _ rfl]; rfl
  | j + 1, h => simp at h
theorem one_int (k : IntKind) (x : Int) : ∀ u ∈ [Value.int k x], u.oneCell' = true := by intro u hu; simp at hu; subst hu; rfl
theorem own_row {w : World} {base : Nat} {ty : TypeId} {size : Nat} {v : Value} {n : Nat} {xs : List Value} (h : w.ownsRow base ty size v n xs) {k : Nat} (hk : k < base) : some k ≠ v.ownBlock := by
  intro he
  have := h.lt k he.symm
  omega
theorem info3 : (Tryz.prog.info? 3).map (fun i => (i.zero, i.size, i.bytes)) = some (some (.int .i64 0), 1, 8) := by kernel_rfl
theorem ints_snoc (l : List Int) (x : Int) : ints (l ++ [x]) = ints l ++ [.int .i64 x] := by simp [ints]

theorem mem_bad (W : Int) (A : Option Addr) (n c : Nat) (ws : List Nat) (w : World) (hA : Arg w A n ws) (h : Bs.validB W ws = false) :
    Calls Tryz.prog 86 #[.agg #[.int .i64 W, .slice A n c]] w (RetInts w (memsB W ws)) := by
  have hr : memsB W ws = [] := by unfold memsB; rw [h]; rfl
  rw [hr]
  have HA := hid hA; have H := hid h
  clear hA h hr
  go_enter Tryz.func86, Tryz.ntmps86
  go_wp2_with fail
  refine wp_loop_rounds 1 ?_
  rw [rounds_succ]
  go_wp2_with (go_at_call 85; refine (refValid_any W A n c ws _ (HA.out.alloc _).lies HA.out.ok HA.out.len).mono ?_; rw [H.out]; rintro e w1 ⟨rfl, hbl⟩; have Hbl := hid hbl; clear hbl)
  go_ret
  exact ⟨none, 0, 0, rfl, ⟨.inl rfl, rfl⟩, ((Below.refl _ _).alloc (Nat.le_refl _) _).trans (Hbl.out.mono (by simp))⟩

/-- While the members are gathered. -/
def Gathering (w : World) (W : Int) (A : Option Addr) (n c : Nat) (v : Value) (l : List Int) (wr : World) : Prop :=
  Box wr w.heap.size W A n c ∧ wr.ownsRow (w.heap.size + 1) 3 1 v l.length (ints l) ∧ Below w.heap.size w wr
theorem Gathering.below {w wr w' : World} {W : Int} {A : Option Addr} {n c : Nat} {v : Value} {l : List Int} (h : Gathering w W A n c v l wr) (hb : Below wr.heap.size wr w') : Gathering w W A n c v l w' :=
  ⟨h.1.below hb h.1.lt, own_below h.2.1 hb, h.2.2.trans (hb.mono h.2.2.size)⟩

theorem Gathering.push {w wr w' : World} {W : Int} {A : Option Addr} {n c : Nat} {v v' : Value} {l : List Int} {x : Int} {o : Obj} (h : Gathering w W A n c v l wr) (ho : w'.ownsRow (w.heap.size + 1) 3 1 v' (l.length + 1) (ints l ++ [.int .i64 x])) (hg : (wr.alloc o).grownBy w' v.ownBlock) : Gathering w W A n c v' (l ++ [x]) w' := by
  have hs := h.2.2.size
  have hl := h.1.lt
  refine ⟨(h.1.alloc o).grown hg (own_row h.2.1 (by omega)), ?_, ?_⟩
  · rw [ints_snoc, List.length_append]; exact ho
  · exact (h.2.2.alloc hs o).grown hg (by rw [World.size_alloc]; omega) (fun k hk => by have := h.2.1.lt k hk; omega)

set_option maxHeartbeats 800000 in
theorem mem_in (W : Nat) (A : Option Addr) (n c : Nat) (ws : List Nat) (w : World) (hA : Arg w A n ws) (h : Bs.validB W ws = true) :
    Calls Tryz.prog 86 #[.agg #[.int .i64 W, .slice A n c]] w (RetInts w (memsTo ws W)) := by
  have hW : W ≤ 256 := by have := (Bs.validB_iff.1 h).2.1; omega
  obtain ⟨i0, hi, hz0, hz1, hz2⟩ := info_parts info3
  have HA := hid hA; have H := hid h; have Hi := hid hi; have Hz0 := hid hz0; have Hz1 := hid hz1; have Hz2 := hid hz2
  clear hA h hi hz0 hz1 hz2
  have hinv : Gathering w W A n c (.slice none 0 0) (memsTo ws 0) (w.alloc (.cells #[.int .i64 W, .slice A n c] 47)) :=
    ⟨Box.new _ _ _ _ _, World.ownsRow_nil _ _ _ _, (Below.refl _ _).alloc (Nat.le_refl _) _⟩
  have Hinv := hid hinv
  clear hinv
  go_enter Tryz.func86, Tryz.ntmps86
  go_wp2_with fail
  go_loopw [3, 4] (fun v i wr => ∃ k : Nat, k ≤ W ∧ i = .int .i64 k ∧ Hid (Gathering w W A n c v (memsTo ws k) wr)) (fun _ i _ => W - (intOf i).toNat)
  case atStart => exact ⟨0, by omega, rfl, Hinv⟩
  case round =>
    obtain ⟨k, hk, rfl, hG⟩ := hrel
    have hc0 := hG.out.1.c0
    have hc1 := hG.out.1.c1
    go_wp2_with fail
    refine (refValid_any W A n c ws _ (HA.out.below hG.out.2.2).lies HA.out.ok HA.out.len).mono ?_
    rw [H.out]
    rintro e w1 ⟨rfl, hb1⟩
    have hG1 := hid (hG.out.below hb1)
    have hc10 := hG1.out.1.c0
    have hc11 := hG1.out.1.c1
    clear hb1 hc0 hc1
    by_cases hlt : k < W
    · go_wp2_with fail
      refine (refHas_any W A n c ws k _ (HA.out.below hG1.out.2.2)).mono ?_
      rw [show Bs.hasB W ws k = Bs.bit ws k from Bs.hasB_nat (Bs.fit_of_valid H.out HA.out.ok) hW k]
      rintro e w2 ⟨rfl, hb2⟩
      have hG2 := hid (hG1.out.below hb2)
      clear hb2 hc10 hc11
      cases hv : Bs.bit ws k with
      | false =>
        have hl : memsTo ws (k + 1) = memsTo ws k := by simp [memsTo, hv]
        have Hl := hid hl
        clear hl hv
        go_wp2_with fail
        go_roundw
        case rel => exact ⟨k + 1, by omega, by go_num, by rw [Hl.out]; exact hG2⟩
        case measure => simp [intOf]; omega
      | true =>
        have hl : memsTo ws (k + 1) = memsTo ws k ++ [(k : Int)] := by simp [memsTo, hv]
        have Hl := hid hl
        have hlen := memsTo_len ws k
        clear hl hv
        go_wp2_with (first
          | (at_builtin
             refine wpList_append_own _ rfl _ _ 22 rfl (w.heap.size + 1) 3 i0 (.int .i64 0) 1 8 Tryz.underlying22 Hi.out Hz0.out Hz1.out Hz2.out rfl (by decide) _ _ _ rfl (hG2.out.2.1.alloc _) ⟨w2.heap.size, 0, none⟩ 1 1 [.int .i64 (k : Int)] rfl rfl (new_one _ _ _) (one_int _ _) (by unfold maxLen; omega) (by omega) (by have := hG2.out.1.lt; rw [World.size_alloc]; omega) ?_
             intro v' w3 hown3 hgr3 hnil3
             have hG3 := hid (hG2.out.push hown3 hgr3)
             clear hown3 hgr3 hnil3))
        go_roundw
        case rel => exact ⟨k + 1, by omega, by go_num, by rw [Hl.out]; exact hG3⟩
        case measure => simp [intOf]; omega
    · have hkW : k = W := by omega
      subst hkW
      go_wp2_with fail
      go_ret
      obtain ⟨A', c', e', h1, h2⟩ := own_slice hG1.out.2.1
      subst e'
      exact ⟨A', _, c', rfl, ⟨h1, rfl⟩, hG1.out.2.2⟩

theorem refMembers_any (W : Int) (A : Option Addr) (n c : Nat) (ws : List Nat) (w : World) (hA : Arg w A n ws) :
    Calls Tryz.prog 86 #[.agg #[.int .i64 W, .slice A n c]] w (RetInts w (memsB W ws)) := by
  cases h : Bs.validB W ws with
  | false => exact mem_bad W A n c ws w hA h
  | true =>
    obtain ⟨v, rfl⟩ := Int.eq_ofNat_of_zero_le (Bs.validB_iff.1 h).1
    have hr : memsB (v : Int) ws = memsTo ws v := by unfold memsB; rw [if_pos h, Int.toNat_natCast]
    rw [hr]
    exact mem_in v A n c ws w hA h
end Go.Proofs.YtfapgnbnfhpicaaGreatDoor.Bt

namespace Go.Proofs.YtfapgnbnfhpicaaGreatDoor.Bt
open Go.ChangeShapes Go.WideShapes Go.ChangeAt Go.RowKit

theorem refInts_any (A B : Option Addr) (n c m d : Nat) (xs ys : List Int) (w : World) (hA : IArg w A n xs) (hB : IArg w B m ys) (hn : n ≤ maxLen) :
    Calls Tryz.prog 12 #[.slice A n c, .slice B m d] w fun e w' => e = .returned (.bool (decide (xs = ys))) ∧ Below w.heap.size w w' := by
  unfold maxLen at hn
  by_cases h : n = m
  · subst h
    have HA := hid hA; have HB := hid hB
    have t2 : ((n : Int) != (n : Int)) = false := by simp
    clear hA hB
    go_enter Tryz.func12, Tryz.ntmps12
    go_wp2
    clear t2
    go_loopw [5] (fun i wr => ∃ k : Nat, k ≤ n ∧ i = .int .i64 k ∧ Hid (∀ j, j < k → xs.getD j 0 = ys.getD j 0) ∧ ∃ q : Nat, wr = w.drewN q) (fun i _ => n - (intOf i).toNat)
    case atStart => exact ⟨0, by omega, rfl, fun j h => by omega, 0, rfl⟩
    case round =>
      obtain ⟨k, hk, rfl, hb, q, rfl⟩ := hrel
      by_cases hlt : k < n
      · obtain ⟨ad, rfl, had, hcA⟩ := HA.out.lies.cell (ints_get (i := k) (by rw [HA.out.len]; exact hlt))
        obtain ⟨bd, rfl, hbd, hcB⟩ := HB.out.lies.cell (ints_get (i := k) (by rw [HB.out.len]; exact hlt))
        generalize hx : xs.getD k 0 = x at hcA
        generalize hy : ys.getD k 0 = y at hcB
        have Hx := hid hx; have Hy := hid hy
        clear hx hy
        have hk0 : (0 : Int) ≤ k := by omega
        have hkn : (k : Int).toNat = k := by omega
        have hk1 : (k : Int) < n := by omega
        by_cases hxy : x = y
        · have t : (x != y) = false := by simp [hxy]
          have Hxy := hid hxy
          clear hxy
          go_wp2_with fail
          go_quiet (fail)
          go_wp2
          go_roundw
          case rel =>
            refine ⟨k + 1, by omega, by go_num, fun j hj => ?_, _, rfl⟩
            by_cases e : j = k
            · rw [e, Hx.out, Hy.out]; exact Hxy.out
            · exact hb.out j (by omega)
          case measure => simp [intOf]; omega
        · have t : (x != y) = true := by simp [hxy]
          have Hxy := hid hxy
          clear hxy
          go_wp2_with fail
          go_quiet (fail)
          go_wp2
          go_ret
          refine ⟨ret_bool ?_, below_drewN (below_drewN (Below.refl _ _) _) _⟩
          have : xs ≠ ys := by rintro rfl; exact Hxy.out (Hx.out.symm.trans Hy.out)
          simp [this]
      · go_wp2
        go_ret
        refine ⟨ret_bool ?_, below_drewN (Below.refl _ _) _⟩
        have e : xs = ys := by
          refine List.ext_getElem (HA.out.len.trans HB.out.len.symm) fun j h1 h2 => ?_
          have := hb.out j (by have := HA.out.len; omega)
          simpa [List.getD_eq_getElem?_getD, List.getElem?_eq_getElem h1, List.getElem?_eq_getElem h2] using this
        simp [e]
  · have hne : decide (xs = ys) = false := by
      have : xs ≠ ys := by rintro rfl; exact h (hA.len.symm.trans hB.len)
      simp [this]
    have Hne := hid hne
    have t2 : ((n : Int) != (m : Int)) = true := by simp; omega
    have t3 : (n != m) = true := by simp; omega
    clear h hne hA hB
    go_enter Tryz.func12, Tryz.ntmps12
    go_wp2
    go_ret
    exact ⟨ret_bool Hne.out.symm, Below.refl _ _⟩
end Go.Proofs.YtfapgnbnfhpicaaGreatDoor.Bt

namespace Go.Proofs.YtfapgnbnfhpicaaGreatDoor.Bt
open Go.ChangeShapes Go.WideShapes Go.ChangeAt Go.RowKit

/-- A set that is being made in variable b; the result's cell r is still empty. -/
def Making (w : World) (b r v : Nat) (zs : List Nat) (wr : World) : Prop :=
  ∃ g : Nat, Box wr b v (some ⟨g, 0, none⟩) (Bs.nw v) (Bs.nw v) ∧ Row wr g zs ∧ w.heap.size ≤ g ∧ w.heap.size ≤ b ∧ b ≠ r ∧ w.heap.size ≤ r ∧ Box wr r 0 none 0 0 ∧ Below w.heap.size w wr
theorem Making.below {w wr w' : World} {b r v : Nat} {zs : List Nat} (h : Making w b r v zs wr) (hb : Below wr.heap.size wr w') : Making w b r v zs w' := by
  obtain ⟨g, h1, h2, h3, h4, h5, h6, h7, h8⟩ := h
  exact ⟨g, h1.below hb h1.lt, h2.below hb h2.lt, h3, h4, h5, h6, h7.below hb h7.lt, h8.trans (hb.mono h8.size)⟩
theorem Making.frame {w wr : World} {b r v : Nat} {zs : List Nat} (h : Making w b r v zs wr) : Below w.heap.size w wr := by
  obtain ⟨g, _, _, _, _, _, _, _, h8⟩ := h; exact h8
theorem Making.put {w wr w5 : World} {b r v g5 : Nat} {zs zs' : List Nat} (h : Making w b r v zs wr) (hg : wr.heap.size ≤ g5) (hrow : Row w5 g5 zs') (hb : Below wr.heap.size wr w5) :
    Making w b r v zs' ((w5.setCell ⟨b, 0, none⟩ (.int .i64 v)).setCell ⟨b, 1, none⟩ (.slice (some ⟨g5, 0, none⟩) (Bs.nw v) (Bs.nw v))) := by
  obtain ⟨g, h1, h2, h3, h4, h5, h6, h7, h8⟩ := h
  have l1 := h1.lt
  have l7 := h7.lt
  have l8 := h8.size
  exact ⟨g5, (h1.below hb l1).set _ _ _ _, (hrow.far (by simp; omega) _).far (by simp; omega) _, by omega, h4, h5, h6, ((h7.below hb l7).far (by simp; omega) _).far (by simp; omega) _, ((h8.trans (hb.mono l8)).setCell (by simpa using h4) _).setCell (by simpa using h4) _⟩
theorem Making.start {w w2 : World} {g r v : Nat} {zs : List Nat} (hrow : Row w2 g zs) (hg : w.heap.size ≤ g) (hr : Box w2 r 0 none 0 0) (hr2 : w.heap.size ≤ r) (hb : Below w.heap.size w w2) :
    Making w w2.heap.size r v zs (w2.alloc (.cells #[.int .i64 v, .slice (some ⟨g, 0, none⟩) (Bs.nw v) (Bs.nw v)] 47)) := by
  have := hr.lt
  have := hb.size
  exact ⟨g, Box.new _ _ _ _ _, hrow.alloc _, hg, by omega, by omega, hr2, hr.alloc _, hb.alloc (by omega) _⟩
/-- The set is stored into the result's cell. -/
theorem Making.done {w wr : World} {b r v : Nat} {zs : List Nat} (h : Making w b r v zs wr) (hf : Bs.Fit v zs) :
    ∃ g : Nat, wr.cell? ⟨b, 0, none⟩ = some (.int .i64 v) ∧ wr.cell? ⟨b, 1, none⟩ = some (.slice (some ⟨g, 0, none⟩) (Bs.nw v) (Bs.nw v)) ∧
      Arg ((wr.setCell ⟨r, 0, none⟩ (.int .i64 v)).setCell ⟨r, 1, none⟩ (.slice (some ⟨g, 0, none⟩) (Bs.nw v) (Bs.nw v))) (some ⟨g, 0, none⟩) (Bs.nw v) zs ∧
      Below w.heap.size w ((wr.setCell ⟨r, 0, none⟩ (.int .i64 v)).setCell ⟨r, 1, none⟩ (.slice (some ⟨g, 0, none⟩) (Bs.nw v) (Bs.nw v))) := by
  obtain ⟨g, h1, h2, h3, h4, h5, h6, h7, h8⟩ := h
  have hne := h7.row_ne h2
  have hr := Row.arg ((h2.far (p := ⟨r, 0, none⟩) hne (.int .i64 v)).far (p := ⟨r, 1, none⟩) hne (.slice (some ⟨g, 0, none⟩) (Bs.nw v) (Bs.nw v))) hf.ok
  exact ⟨g, h1.c0, h1.c1, ⟨hr.lies, hf.len, hf.ok⟩, (h8.setCell (by simpa using h6) _).setCell (by simpa using h6) _⟩
theorem Making.cells {w wr : World} {b r v : Nat} {zs : List Nat} (h : Making w b r v zs wr) :
    ((wr.cell? ⟨r, 0, none⟩ = some (.int .i64 0) ∧ wr.cell? ⟨r, 1, none⟩ = some (.slice none 0 0)) ∧ (wr.frozen? ⟨r, 0, none⟩ = false ∧ wr.frozen? ⟨r, 1, none⟩ = false)) ∧ b ≠ r := by
  obtain ⟨g, h1, h2, h3, h4, h5, h6, h7, h8⟩ := h
  exact ⟨⟨⟨h7.c0, h7.c1⟩, h7.f 0, h7.f 1⟩, h5⟩
/-- What a round needs of the set's variable. -/
theorem Making.load {w wr : World} {b r v : Nat} {zs : List Nat} (h : Making w b r v zs wr) (hf : Bs.Fit v zs) :
    ∃ g : Nat, wr.cell? ⟨b, 0, none⟩ = some (.int .i64 v) ∧ wr.cell? ⟨b, 1, none⟩ = some (.slice (some ⟨g, 0, none⟩) (Bs.nw v) (Bs.nw v)) ∧ Arg wr (some ⟨g, 0, none⟩) (Bs.nw v) zs ∧ b < wr.heap.size := by
  obtain ⟨g, h1, h2, h3, h4, h5, h6, h7, h8⟩ := h
  have hr := h2.arg hf.ok
  exact ⟨g, h1.c0, h1.c1, ⟨hr.lies, hf.len, hf.ok⟩, h1.lt⟩
theorem box_stores {w w5 : World} {b : Nat} {W : Int} {A : Option Addr} {n c : Nat} (h : Box w b W A n c) (hb : Below w.heap.size w w5) :
    ((w5.cell? ⟨b, 0, none⟩ = some (.int .i64 W) ∧ w5.cell? ⟨b, 1, none⟩ = some (.slice A n c)) ∧ w5.frozen? ⟨b, 0, none⟩ = false ∧ w5.frozen? ⟨b, 1, none⟩ = false) := by
  have h5 := h.below hb h.lt
  exact ⟨⟨h5.c0, h5.c1⟩, h5.f 0, h5.f 1⟩
theorem Making.box {w wr : World} {b r v : Nat} {zs : List Nat} (h : Making w b r v zs wr) : ∃ g : Nat, Box wr b v (some ⟨g, 0, none⟩) (Bs.nw v) (Bs.nw v) := by
  obtain ⟨g, h1, _⟩ := h; exact ⟨g, h1⟩

set_option maxHeartbeats 800000 in
theorem refFull_any (W : Nat) (w : World) (hW : W ≤ 256) : Calls Tryz.prog 58 #[.int .i64 W] w (RetSet w W (Bs.ofP W (fun _ => true) W)) := by
  go_enter Tryz.func58, Tryz.ntmps58
  go_wp2_with fail
  refine (refEmpty_any W _ (by omega)).mono ?_
  rintro e w2 ⟨g, rfl, hg, hrow, hb2⟩
  rw [len_emp]
  have hinv := Making.start (w := w) (v := W) hrow (by rw [World.size_alloc] at hg; omega) ((Box.new w 0 none 0 0).below hb2 (by simp)) (Nat.le_refl _) (((Below.refl _ _).alloc (Nat.le_refl _) _).trans (hb2.mono (by simp)))
  have Hinv := hid hinv
  clear hinv hrow hb2 hg
  go_wp2_with fail
  go_loopw [4] (fun i wr => ∃ k : Nat, k ≤ W ∧ i = .int .i64 k ∧ Hid (Making w w2.heap.size w.heap.size W (Bs.ofP W (fun _ => true) k) wr)) (fun i _ => W - (intOf i).toNat)
  case atStart => exact ⟨0, by omega, rfl, Hinv⟩
  case round =>
    obtain ⟨k, hk, rfl, hG⟩ := hrel
    have hfit := Bs.fit_ofP W (fun _ => true) k hk
    have Hfit := hid hfit
    by_cases hlt : k < W
    · obtain ⟨g0, hc0, hc1, ha, hbl⟩ := hG.out.load hfit
      obtain ⟨gb, hbox⟩ := hG.out.box
      have Ha := hid ha; have Hbox := hid hbox
      clear hfit ha hbox
      go_wp2_with fail
      refine (refPut_any W _ _ _ _ k _ Ha.out (by omega) Hfit.out.len hlt).mono ?_
      rintro e w5 ⟨g5, rfl, hg5, hrow5, hb5⟩
      obtain ⟨⟨hc50, hc51⟩, hf50, hf51⟩ := box_stores Hbox.out hb5
      have hfin := hG.out.put hg5 hrow5 hb5
      rw [show (Bs.put (Bs.ofP W (fun _ => true) k) k).length = Bs.nw W from by rw [Bs.length_put]; exact Hfit.out.len]
      have Hfin := hid hfin
      clear hfin hrow5 hb5
      go_wp2_with fail
      go_roundw
      case rel => exact ⟨k + 1, by omega, by go_num, Hfin⟩
      case measure => simp [intOf]; omega
    · have hkW : k = W := by omega
      subst hkW
      obtain ⟨g0, hc0, hc1, ha, hbl⟩ := hG.out.done hfit
      obtain ⟨⟨⟨hr0, hr1⟩, hf0, hf1⟩, hne⟩ := hG.out.cells
      have Ha := hid ha; have Hbl := hid hbl
      clear hfit ha hbl
      go_wp2_with fail
      exact bodyPost_ret (v := .agg #[.int .i64 k, .slice (some ⟨g0, 0, none⟩) (Bs.nw k) (Bs.nw k)]) (by simp [results, Tryz.results58, go_sem, hr0, hr1]) rfl ⟨_, _, _, rfl, Ha.out, Hbl.out⟩
end Go.Proofs.YtfapgnbnfhpicaaGreatDoor.Bt

namespace Go.Proofs.YtfapgnbnfhpicaaGreatDoor.Bt
open Go.ChangeShapes Go.WideShapes Go.ChangeAt Go.RowKit

def ofR (W : Int) (l : List Int) : Int × List Nat × Int :=
  if W < 0 ∨ 256 < W then (0, [], 3)
  else if l.any (fun x => decide (x < 0) || decide (W ≤ x)) then (0, [], 3)
  else (W, Bs.ofP W.toNat (fun i => decide ((i : Int) ∈ l)) W.toNat, 0)

theorem take_snoc {α : Type} (l : List α) (k : Nat) (h : k < l.length) : l.take (k + 1) = l.take k ++ [l[k]] := by
  rw [List.take_succ_eq_append_getElem h]

theorem mem_snoc (l : List Int) (b i : Nat) : decide ((i : Int) ∈ l ++ [(b : Int)]) = (decide ((i : Int) ∈ l) || decide (i = b)) := by
  rw [← Bool.decide_or]
  congr 1
  rw [List.mem_append, List.mem_singleton]
  apply propext
  constructor
  · rintro (h | h)
    · exact .inl h
    · exact .inr (by omega)
  · rintro (h | h)
    · exact .inl h
    · exact .inr (by omega)

end Go.Proofs.YtfapgnbnfhpicaaGreatDoor.Bt

namespace Go.Proofs.YtfapgnbnfhpicaaGreatDoor.Bt
open Go.ChangeShapes Go.WideShapes Go.ChangeAt Go.RowKit

def equalB (W : Int) (ws : List Nat) (V : Int) (xs : List Nat) : Bool := Bs.validB W ws && Bs.validB V xs && sameB W ws V xs

theorem box2 (w : World) (W V : Int) (A B : Option Addr) (n c m d : Nat) :
    Box ((w.alloc (.cells #[.int .i64 W, .slice A n c] 47)).alloc (.cells #[.int .i64 V, .slice B m d] 47)) w.heap.size W A n c ∧
    Box ((w.alloc (.cells #[.int .i64 W, .slice A n c] 47)).alloc (.cells #[.int .i64 V, .slice B m d] 47)) (w.heap.size + 1) V B m d := by
  refine ⟨(Box.new w _ _ _ _).alloc _, ?_⟩
  have h := Box.new (w.alloc (.cells #[.int .i64 W, .slice A n c] 47)) V B m d
  rw [World.size_alloc] at h; exact h
theorem below2 (w : World) (a b : Obj) : Below w.heap.size w ((w.alloc a).alloc b) := ((Below.refl _ _).alloc (Nat.le_refl _) _).alloc (by simp) _

def subsetB (W : Int) (ws : List Nat) (V : Int) (xs : List Nat) : Bool :=
  decide ((mixR (flag true false false) W ws V xs).2.2 = 0) && decide ((memsB (mixR (flag true false false) W ws V xs).1 (mixR (flag true false false) W ws V xs).2.1).length = 0)

end Go.Proofs.YtfapgnbnfhpicaaGreatDoor.Bt

namespace Go.Proofs.YtfapgnbnfhpicaaGreatDoor.Bt
set_option maxRecDepth 20000
open Go.ChangeShapes Go.WideShapes Go.ChangeAt Go.RowKit

end Go.Proofs.YtfapgnbnfhpicaaGreatDoor.Bt

namespace Go.Proofs.YtfapgnbnfhpicaaGreatDoor.Bt
set_option maxRecDepth 20000
open Go.ChangeShapes Go.WideShapes Go.ChangeAt Go.RowKit

theorem devMem_bad (W : Int) (A : Option Addr) (n c : Nat) (ws : List Nat) (w : World) (hA : Arg w A n ws) (h : Bs.validB W ws = false) :
    Calls Tryz.prog 82 #[.agg #[.int .i64 W, .slice A n c]] w (RetInts w (memsB W ws)) := by
  have hr : memsB W ws = [] := by unfold memsB; rw [h]; rfl
  rw [hr]
  have HA := hid hA; have H := hid h
  clear hA h hr
  go_enter Tryz.func82, Tryz.ntmps82
  go_wp2_with (go_at_call 80; refine (devValid_any W A n c ws _ (HA.out.alloc _)).mono ?_; rw [H.out]; rintro e w1 ⟨rfl, hbl⟩; have Hbl := hid hbl; clear hbl)
  go_ret
  exact ⟨none, 0, 0, rfl, ⟨.inl rfl, rfl⟩, ((Below.refl _ _).alloc (Nat.le_refl _) _).trans (Hbl.out.mono (by simp))⟩

set_option maxHeartbeats 800000 in
theorem devMem_in (W : Nat) (A : Option Addr) (n c : Nat) (ws : List Nat) (w : World) (hA : Arg w A n ws) (h : Bs.validB W ws = true) :
    Calls Tryz.prog 82 #[.agg #[.int .i64 W, .slice A n c]] w (RetInts w (memsTo ws W)) := by
  have hW : W ≤ 256 := by have := (Bs.validB_iff.1 h).2.1; omega
  have hn : n = Bs.nw W := by rw [← hA.len]; have := (Bs.fit_of_valid h hA.ok).len; rwa [Int.toNat_natCast] at this
  obtain ⟨i0, hi, hz0, hz1, hz2⟩ := info_parts info3
  have HA := hid hA; have H := hid h; have Hi := hid hi; have Hz0 := hid hz0; have Hz1 := hid hz1; have Hz2 := hid hz2; have Hn := hid hn
  clear hA h hi hz0 hz1 hz2 hn
  have hinv : Gathering w W A n c (.slice none 0 0) (memsTo ws 0) (w.alloc (.cells #[.int .i64 W, .slice A n c] 47)) :=
    ⟨Box.new _ _ _ _ _, World.ownsRow_nil _ _ _ _, (Below.refl _ _).alloc (Nat.le_refl _) _⟩
  have Hinv0 := hid hinv
  clear hinv
  go_enter Tryz.func82, Tryz.ntmps82
  go_wp2_with fail
  refine (devValid_any W A n c ws _ (HA.out.alloc _)).mono ?_
  rw [H.out]
  rintro e w1 ⟨rfl, hb1⟩
  have Hinv := hid (Hinv0.out.below hb1)
  have hc0 := Hinv.out.1.c0
  clear hb1 Hinv0
  go_wp2_with fail
  clear hc0
  go_loopw [3, 4, 10] (fun v _ i wr => ∃ k : Nat, k ≤ W ∧ i = .int .i64 k ∧ Hid (Gathering w W A n c v (memsTo ws k) wr)) (fun _ _ i _ => W - (intOf i).toNat)
  case atStart => exact ⟨0, by omega, rfl, Hinv⟩
  case round =>
    obtain ⟨k, hk, rfl, hG1⟩ := hrel
    have hc10 := hG1.out.1.c0
    have hc11 := hG1.out.1.c1
    clear Hinv
    by_cases hlt : k < W
    · go_wp2_with fail
      refine (holds_any W A n c ws k _ (HA.out.below hG1.out.2.2) (by rw [Hn.out]; exact Bs.lt_nw hlt) (by omega)).mono ?_
      rintro e w2 ⟨rfl, hb2⟩
      have hG2 : Hid (Gathering w W A n c u3 (memsTo ws k) w2) := by rw [hb2]; exact hid (hG1.out.below ((Below.refl _ _).alloc (Nat.le_refl _) _))
      clear hb2 hc10 hc11 hG1
      cases hv : Bs.bit ws k with
      | false =>
        have hl : memsTo ws (k + 1) = memsTo ws k := by simp [memsTo, hv]
        have Hl := hid hl
        clear hl hv
        go_wp2_with fail
        go_roundw
        case rel => exact ⟨k + 1, by omega, by go_num, by rw [Hl.out]; exact hG2⟩
        case measure => simp [intOf]; omega
      | true =>
        have hl : memsTo ws (k + 1) = memsTo ws k ++ [(k : Int)] := by simp [memsTo, hv]
        have Hl := hid hl
        have hlen := memsTo_len ws k
        clear hl hv
        go_wp2_with (first
          | (at_builtin
             refine wpList_append_own _ rfl _ _ 22 rfl (w.heap.size + 1) 3 i0 (.int .i64 0) 1 8 Tryz.underlying22 Hi.out Hz0.out Hz1.out Hz2.out rfl (by decide) _ _ _ rfl (hG2.out.2.1.alloc _) ⟨w2.heap.size, 0, none⟩ 1 1 [.int .i64 (k : Int)] rfl rfl (new_one _ _ _) (one_int _ _) (by unfold maxLen; omega) (by omega) (by have := hG2.out.1.lt; rw [World.size_alloc]; omega) ?_
             intro v' w3 hown3 hgr3 hnil3
             have hG3 := hid (hG2.out.push hown3 hgr3)
             clear hown3 hgr3 hnil3))
        go_roundw
        case rel => exact ⟨k + 1, by omega, by go_num, by rw [Hl.out]; exact hG3⟩
        case measure => simp [intOf]; omega
    · have hkW : k = W := by omega
      subst hkW
      go_wp2_with fail
      go_ret
      obtain ⟨A', c', e', h1, h2⟩ := own_slice hG1.out.2.1
      subst e'
      exact ⟨A', _, c', rfl, ⟨h1, rfl⟩, hG1.out.2.2⟩

theorem devMembers_any (W : Int) (A : Option Addr) (n c : Nat) (ws : List Nat) (w : World) (hA : Arg w A n ws) :
    Calls Tryz.prog 82 #[.agg #[.int .i64 W, .slice A n c]] w (RetInts w (memsB W ws)) := by
  cases h : Bs.validB W ws with
  | false => exact devMem_bad W A n c ws w hA h
  | true =>
    obtain ⟨v, rfl⟩ := Int.eq_ofNat_of_zero_le (Bs.validB_iff.1 h).1
    have hr : memsB (v : Int) ws = memsTo ws v := by unfold memsB; rw [if_pos h, Int.toNat_natCast]
    rw [hr]
    exact devMem_in v A n c ws w hA h

end Go.Proofs.YtfapgnbnfhpicaaGreatDoor.Bt

namespace Go.Proofs.YtfapgnbnfhpicaaGreatDoor
set_option maxRecDepth 20000
set_option linter.unusedVariables false
set_option linter.unusedSimpArgs false
open Go.ChangeShapes Go.WideShapes Go.ChangeAt Go.RowKit

theorem joinS_snoc (L : List (List UInt8)) (x : List UInt8) (sep : List UInt8) : Lib.join (L ++ [x]) sep = (if L = [] then x else Lib.join L sep ++ sep ++ x) := by
  cases L with
  | nil => simp [Lib.join_one]
  | cons y r =>
    rw [List.cons_append, Lib.join_cons, if_neg (by simp), Lib.join_cons]
    simp [Lib.joinTail]
theorem joinS_len {L : List (List UInt8)} (h : ∀ x ∈ L, x.length ≤ 1000) : ∀ k : Nat, k ≤ L.length → (Lib.join (L.take k) [32]).length ≤ k * 1001 := by
  intro k
  induction k with
  | zero => intro _; simp [Lib.join_nil]
  | succ k ih =>
    intro hk
    have hn : L[k]? = some L[k] := List.getElem?_eq_getElem (by omega)
    have h1 := ih (by omega)
    have h2 := h L[k] (List.getElem_mem _)
    rw [List.take_add_one, hn]
    show (Lib.join (L.take k ++ [L[k]]) [32]).length ≤ _
    rw [joinS_snoc]
    split
    · omega
    · simp only [List.length_append, List.length_cons, List.length_nil]; omega
theorem joinS_len0 {L : List ByteArray} (h : ∀ x ∈ L, x.size ≤ 1000) : (Lib.join (L.map fun x => x.data.toList) [32]).length ≤ L.length * 1001 := by
  have h1 := joinS_len (L := L.map fun x => x.data.toList) (fun x hx => by
    obtain ⟨y, hy, rfl⟩ := List.mem_map.1 hx
    have := h y hy
    rw [Array.length_toList]
    exact this) L.length (by simp)
  rwa [List.take_of_length_le (by simp)] at h1
theorem Vq.join {w wr : World} {A : Option Addr} {c m : Nat} {V : List ByteArray} (h : Vq w (.slice A m c) m V wr) (hm : m ≤ 1000) :
    Calls Tryz.prog 84 #[.slice A m c, .string ⟨#[32]⟩] wr fun e w' => e = .returned (.string ⟨(Lib.join (V.map fun x => x.data.toList) [32]).toArray⟩) ∧ Below wr.heap.size wr w' := by
  have hl := h.len
  rcases h.own.2 with ⟨hv, h0⟩ | ⟨g, cap, cur, hv, hge, -, hnc, -⟩
  · injection hv with e1 e2 e3
    subst e1; subst e3
    have : V = [] := by
      have h3 : m = 0 := e2
      rw [h3] at hl
      exact List.length_eq_zero_iff.1 hl.symm
    subst this
    subst e2
    refine (Tryz.strings_Join_none none 0 ⟨#[32]⟩ wr).mono ?_
    rintro e w'' ⟨rfl, rfl⟩
    exact ⟨by simp [Lib.join_nil], Below.refl _ _⟩
  · injection hv with e1 e2 e3
    subst e1; subst e3
    have hj := Tryz.strings_Join g 0 c V ⟨#[32]⟩ wr (fun j x hx => by
      have := h.own.cells rfl j (.string x) (by rw [List.getElem?_map, hx]; rfl)
      rw [add_of] at this
      rwa [Nat.zero_add]) (h.own.lt g rfl).2 (by omega) (by omega) (by
        have := joinS_len0 h.small
        show (Lib.join (V.map fun x => x.data.toList) [32]).length ≤ _
        omega)
    rw [← hl] at hj
    exact hj

/-- The names, the nodes and the members that Text reads. -/
structure Tx3 (w0 : World) (A1 A2 A3 A4 : Option Addr) (LF V : List Value) (N : List Value) (M : List Value) (wr : World) : Prop where
  f : EAt wr [] A1 LF
  v : EAt wr [] A2 V
  n : EAt wr [] A3 N
  m : EAt wr [] A4 M
  bel : Below w0.heap.size w0 wr
theorem Tx3.below {w0 : World} {A1 A2 A3 A4 : Option Addr} {LF V N M : List Value} {wr w' : World} (h : Tx3 w0 A1 A2 A3 A4 LF V N M wr) (hb : Below wr.heap.size wr w') : Tx3 w0 A1 A2 A3 A4 LF V N M w' :=
  ⟨h.f.go (Go2.below hb), h.v.go (Go2.below hb), h.n.go (Go2.below hb), h.m.go (Go2.below hb), below_step h.bel hb⟩
theorem EAt.of_at {w : World} {A : Option Addr} {xs : List Value} (h : At w w.heap.size A xs) : EAt w [] A xs := by
  rcases h with h | ⟨ad, e, hl, hc⟩
  · exact .inl h
  · exact .inr ⟨ad, e, ⟨hl, by simp⟩, hc⟩
theorem Fct.cells {w : World} {ex : List (Option Nat)} {A : Option Addr} {L : List Fct} (h : EAt w ex A (L.flatMap fcc)) {i : Nat} {y : Fct} (hi : L[i]? = some y) :
    ∃ ad : Addr, A = some ad ∧ ad.block < w.heap.size ∧ w.cell? (ad.add (i * 2)) = some (.int .i64 y.nd) ∧ w.cell? ⟨(ad.add (i * 2)).block, (ad.add (i * 2)).off + 1, none⟩ = some (.int .i64 y.vr) := by
  obtain ⟨ad, e, hs, hc⟩ := h.part fcc_len (by omega) hi
  exact ⟨ad, e, hs.1, hc 0 _ rfl, by rw [cell_next ad (i * 2) 0]; exact hc 1 _ rfl⟩
theorem memsR (ws : List Nat) (k : Nat) : ∀ x ∈ Bt.memsTo ws k, 0 ≤ x ∧ x < k := by
  induction k with
  | zero => simp [Bt.memsTo]
  | succ k ih =>
    intro x hx
    unfold Bt.memsTo at hx
    split at hx
    · rcases List.mem_append.1 hx with h | h
      · have := ih x h; omega
      · simp at h; omega
    · have := ih x hx; omega

set_option maxHeartbeats 16000000 in
theorem textR_any (x : PH) (W : Nat) (A : Option Addr) (n c : Nat) (ws : List Nat) (w : World) (h : PHok w [] x) (hs : Shp w) (hA : Bt.Arg w A n ws) (hv : Bs.validB W ws = true)
    (L : List Fct) (hfl : flP x.p 1 = (L, 0)) (hW : L.length = W) (wrd : Nat → ByteArray)
    (hw : ∀ (i : Nat) (y : Fct), L[i]? = some y → ∃ (k v : Nat) (nd : Nd) (nm lb : ByteArray), y = ⟨k, v⟩ ∧ (listN x.p)[k]? = some nd ∧ (varsP x.p)[v]? = some nm ∧ wrd i = nm ++ (⟨#[64]⟩ ++ lb) ∧ nm.size + (1 + lb.size) ≤ 1000 ∧
      ∀ u, PHok u [] x → Shp u → Calls Tryz.prog 83 #[.agg #[.slice x.A x.n x.c], .agg #[.int .i64 nd.kd, .int .i64 nd.fn, .int .i64 nd.bk, .int .i64 nd.st]] u (RetTx u lb)) :
    Calls Tryz.prog 50 #[.agg #[.slice x.A x.n x.c], .int .i64 1, .agg #[.int .i64 W, .slice A n c]] w
      fun e w' => e = .returned (.tuple #[.string ⟨(Lib.join (((Bt.memsTo ws W).map fun i => wrd i.toNat).map fun x => x.data.toList) [32]).toArray⟩, .int .i64 0]) ∧ Below w.heap.size w w' := by
  have hW2 : W ≤ 256 := by have := (Bs.validB_iff.1 hv).2.1; omega
  have Hrng := hid (memsR ws W)
  have Hlen := hid (Bt.memsTo_len ws W)
  have hmb : Bt.memsB (W : Int) ws = Bt.memsTo ws W := by unfold Bt.memsB; rw [if_pos hv, Int.toNat_natCast]
  obtain ⟨i0, hi, hz0, hz1, hz2⟩ := info_parts info9
  have Hi := hid hi; have Hz0 := hid hz0; have Hz1 := hid hz1; have Hz2 := hid hz2
  clear hi hz0 hz1 hz2
  have hb0 : Below w.heap.size w ((w.alloc (.cells #[.slice x.A x.n x.c] 44)).alloc (.cells #[.int .i64 W, .slice A n c] 47)) := ((Below.refl _ _).alloc (Nat.le_refl _) _).alloc (by rw [World.size_alloc]; omega) _
  have HB0 := hid hb0
  have HP0 := hid ((Fb.new w #[.slice x.A x.n x.c] 44).alloc (.cells #[.int .i64 W, .slice A n c] 47))
  have HQ0 := hid (show Fb ((w.alloc (.cells #[.slice x.A x.n x.c] 44)).alloc (.cells #[.int .i64 W, .slice A n c] 47)) (w.heap.size + 1) #[.int .i64 W, .slice A n c] 47 by
    have := Fb.new (w.alloc (.cells #[.slice x.A x.n x.c] 44)) #[.int .i64 W, .slice A n c] 47; rwa [World.size_alloc] at this)
  have HX0 := hid (PHok.below h hb0)
  have HS0 := hid (hs.keep (hb0.block 1 hs.pos0))
  have HA0 := hid (hA.below hb0)
  have HLf := hid (flist_any x [] _ HX0.out HS0.out 1)
  rw [hfl] at HLf
  have Hw := hid hw
  have HV := hid hv
  have Hlf := hid hW
  clear h hb0 hs hA hw hv hfl
  go_enter Tryz.func50, Tryz.ntmps50
  go_wp2_with fail
  generalize (w.alloc (.cells #[.slice x.A x.n x.c] 44)).alloc (.cells #[.int .i64 W, .slice A n c] 47) = w0 at *
  refine HLf.out.mono ?_
  rintro e w1 ⟨A1, c1, rfl, hF, hl1, hb1⟩
  simp only at hF hl1
  rw [show ((L, (0 : Int)).1.length : Nat) = W from hW]
  have HB1 := hid (below_step HB0.out hb1)
  have HP1 := hid (HP0.out.below hb1 HP0.out.lt)
  have HQ1 := hid (HQ0.out.below hb1 HQ0.out.lt)
  have HX1 := hid (PHok.below HX0.out hb1)
  have HS1 := hid (HS0.out.keep (hb1.block 1 HS0.out.pos0))
  have HA1 := hid (HA0.out.below hb1)
  have HF1 := hid (hF [] (by simp))
  clear hb1 hF hl1 HB0 HP0 HQ0 HX0 HS0 HA0 HLf
  obtain ⟨q0, q1⟩ := HQ1.out.twoc
  have ql := HQ1.out.lt
  simp only
  go_wp2_with fail
  clear q0 q1 ql
  refine (Bt.devValid_any W A n c ws _ HA1.out).mono ?_
  rw [HV.out]
  rintro e w2 ⟨rfl, hb2⟩
  have HB2 := hid (below_step HB1.out hb2)
  have HP2 := hid (HP1.out.below hb2 HP1.out.lt)
  have HQ2 := hid (HQ1.out.below hb2 HQ1.out.lt)
  have HX2 := hid (PHok.below HX1.out hb2)
  have HS2 := hid (HS1.out.keep (hb2.block 1 HS1.out.pos0))
  have HA2 := hid (HA1.out.below hb2)
  have HF2 := hid (HF1.out.go (Go2.below hb2))
  clear hb2 HB1 HP1 HQ1 HX1 HS1 HA1 HF1
  obtain ⟨q0, q1⟩ := HQ2.out.twoc
  have ql := HQ2.out.lt
  have p0 := HP2.out.onec
  have pl := HP2.out.lt
  go_upto_region 8 with fail
  have HVr := hid (fun (v : World) (h : Below w2.heap.size w2 v) => variables2_any x [] v (PHok.below HX2.out h) (HS2.out.keep (h.block 1 HS2.out.pos0)))
  have HLs := hid (fun (v : World) (h : Below w2.heap.size w2 v) => list_any x [] v (PHok.below HX2.out h) (HS2.out.keep (h.block 1 HS2.out.pos0)))
  have HPb := hid (fun (v : World) (h : Below w2.heap.size w2 v) => (HP2.out.below h HP2.out.lt).onec)
  go_cut [10, 11] (fun nv lv wc => ∃ (A2 A3 : Option Addr) (c2 c3 : Nat), nv = .slice A2 (varsP x.p).length c2 ∧ lv = .slice A3 (listN x.p).length c3 ∧ (varsP x.p).length ≤ 100000 ∧ (listN x.p).length ≤ 200000 ∧ Hid (EAt wc [] A2 ((varsP x.p).map Value.string) ∧ EAt wc [] A3 ((listN x.p).flatMap ndc) ∧ Below w2.heap.size w2 wc))
  case first =>
    have HB := hid (Below.refl w2.heap.size w2).drew
    go_region_held3 (fun v => v.cell? ⟨w.heap.size, 0, none⟩ = some (.slice x.A x.n x.c))
      (exact HPb.out _ HB.out)
      (first
       | (go_at_call 81
          refine (HVr.out _ HB.out).mono ?_
          rintro e v5 ⟨A2, c2, rfl, hsa, hb5, hE5⟩
          have HE2 := hid (hE5 [] (by simp))
          have Hn2 := hid hsa.few
          try (have HE3 := hid (HE3.out.go (Go2.below hb5)))
          have HB := hid (below_step HB.out hb5)
          clear hsa hb5 hE5)
       | (go_at_call 70
          refine (HLs.out _ HB.out).mono ?_
          rintro e v6 ⟨A3, c3, rfl, hE6, hn6, hb6⟩
          have HE3 := hid (hE6 [] (by simp))
          have Hn3 := hid hn6
          try (have HE2 := hid (HE2.out.go (Go2.below hb6)))
          have HB := hid (below_step HB.out hb6)
          clear hE6 hn6 hb6))
    all_goals
      go_wp2_with fail
      go_meet
      exact ⟨_, _, _, _, rfl, rfl, Hn2.out, Hn3.out, hid ⟨HE2.out, HE3.out, HB.out⟩⟩
  case rest =>
    clear q0 q1 ql p0 pl HVr HLs
    obtain ⟨A2, A3, c2, c3, rfl, rfl, hvn, hln, hE⟩ := hcut
    have HF3 := hid (HF2.out.go (Go2.below hE.out.2.2))
    have HQ3 := hid (HQ2.out.below hE.out.2.2 HQ2.out.lt)
    have HP3 := hid (HP2.out.below hE.out.2.2 HP2.out.lt)
    have HX3 := hid (PHok.below HX2.out hE.out.2.2)
    have HS3 := hid (HS2.out.keep (hE.out.2.2.block 1 HS2.out.pos0))
    have HA3 := hid (HA2.out.below hE.out.2.2)
    have HB3 := hid (below_step HB2.out hE.out.2.2)
    have HE1 := hid hE.out.1
    have HE2 := hid hE.out.2.1
    clear hE HF2 HQ2 HP2 HX2 HS2 HA2 HB2 HPb
    obtain ⟨q0, q1⟩ := HQ3.out.twoc
    have ql := HQ3.out.lt
    go_wp2_with fail
    clear q0 q1 ql
    refine (Bt.devMembers_any W A n c ws _ HA3.out).mono ?_
    rw [hmb]
    rintro e w5 ⟨A4, n4, c4, rfl, hM, hb⟩
    have HT := hid (show Tx3 w5 A1 A2 A3 A4 (L.flatMap fcc) ((varsP x.p).map Value.string) ((listN x.p).flatMap ndc) (ints (Bt.memsTo ws W)) w5 from ⟨HF3.out.go (Go2.below hb), HE1.out.go (Go2.below hb), HE2.out.go (Go2.below hb), EAt.of_at hM.lies, Below.refl _ _⟩)
    have HMl := hid hM.len
    have HB5 := hid (below_step HB3.out hb)
    have HP5 := hid (HP3.out.below hb HP3.out.lt)
    have HX5 := hid (fun (v : World) (h : Below w5.heap.size w5 v) => PHok.below HX3.out (below_step hb h))
    have HS5 := hid (fun (v : World) (h : Below w5.heap.size w5 v) => HS3.out.keep ((below_step hb h).block 1 HS3.out.pos0))
    have HP6 := hid (fun (v : World) (h : Below w5.heap.size w5 v) => And.intro (HP5.out.below h HP5.out.lt).onec (HP5.out.below h HP5.out.lt).lt)
    clear hM hb HF3 HQ3 HP3 HX3 HS3 HA3 HB3 HE1 HE2 HP5 hmb
    generalize hMe : Bt.memsTo ws W = M at *
    have HMe := hid hMe
    clear hMe
    have hn4 : n4 ≤ 256 := by have h1 := HMl.out; have h2 := Hlen.out; omega
    have HQ0 := hid (Vq.start w5)
    generalize hG : w.heap.size = G at *
    have HGe := hid hG
    clear hG
    go_wp2_with fail
    go_loopw [12, 14, 15, 40] (fun sv _ _ iv wr => ∃ (k : Nat) (v : Value), k ≤ n4 ∧ iv = .int .i64 k ∧ sv = v ∧ Hid (Vq w5 v k ((M.take k).map fun i => wrd i.toNat) wr)) (fun _ _ _ iv _ => n4 - (intOf iv).toNat)
    case atStart => exact ⟨0, _, by omega, rfl, rfl, HQ0⟩
    case round =>
      clear HQ0
      obtain ⟨k, v, hk, rfl, rfl, hV⟩ := hrel
      by_cases hlt : k < n4
      · have hkl : k < M.length := by rw [HMl.out]; exact hlt
        have HTr := hid (HT.out.below hV.out.bel)
        have hgk : M[k]? = some M[k] := List.getElem?_eq_getElem hkl
        have hrg := Hrng.out _ (List.getElem_mem hkl)
        obtain ⟨i, hi⟩ := Int.eq_ofNat_of_zero_le hrg.1
        rw [hi] at hgk hrg
        have hil : i < L.length := by rw [Hlf.out]; omega
        have hy : L[i]? = some L[i] := List.getElem?_eq_getElem hil
        obtain ⟨kk, vv, nd, nm, lb, hyy, hnd, hnm, hwi, hsz, HLb⟩ := Hw.out i _ hy
        rw [hyy] at hy
        obtain ⟨ad4, hA4, had4, hc4⟩ := EAt.onev HTr.out.m (i := k) (u := .int .i64 i) (by unfold ints; rw [List.getElem?_map, hgk]; rfl)
        obtain ⟨ad1, hA1, had1, hf1, hf2⟩ := Fct.cells HTr.out.f hy
        obtain ⟨ad2, hA2, had2, hc2⟩ := EAt.onev HTr.out.v (i := vv) (u := .string nm) (by rw [List.getElem?_map, hnm]; rfl)
        obtain ⟨ad3, hA3, had3, hd1, hd2, hd3, hd4⟩ := Nd.cells HTr.out.n hnd
        have hvl : vv < (varsP x.p).length := (List.getElem?_eq_some_iff.1 hnm).1
        have hkl2 : kk < (listN x.p).length := (List.getElem?_eq_some_iff.1 hnd).1
        subst hA1; subst hA2; subst hA3; subst hA4
        have hl1 : (ad1.add (i * 2)).block < wr.heap.size := by rw [add_block]; exact had1
        have hl3 : (ad3.add (kk * 4)).block < wr.heap.size := by rw [add_block]; exact had3
        have hl2 : (ad2.add vv).block < wr.heap.size := by rw [add_block]; exact had2.1
        have hl4 : (ad4.add k).block < wr.heap.size := by rw [add_block]; exact had4.1
        have Hr := hid (show ((M.take (k + 1)).map fun i => wrd i.toNat) = ((M.take k).map fun i => wrd i.toNat) ++ [nm ++ (⟨#[64]⟩ ++ lb)] by
          rw [List.take_add_one, hgk, List.map_append]
          show _ ++ [wrd (i : Int).toNat] = _
          rw [Int.toNat_natCast, hwi])
        have HLc := hid (fun (u : World) (h : Below wr.heap.size wr u) => HLb u (HX5.out _ (below_step hV.out.bel h)) (HS5.out _ (below_step hV.out.bel h)))
        obtain ⟨p0, pl⟩ := HP6.out _ hV.out.bel
        have Hsz := hid hsz
        have hiW : i < W := by omega
        simp only at hf1 hf2
        clear hgk hrg hy hyy hnd hnm hwi hsz HLb hil hkl hi HTr had1 had2 had3 had4
        generalize (varsP x.p).length = vn at *
        generalize (listN x.p).length = ln at *
        go_upto_region 15 with fail
        have HK := hid (Below.refl wr.heap.size wr).drew
        have hs1 : ¬ (9223372036854775807 < 1 + lb.size) := by have := Hsz.out; omega
        have hs2 : ¬ (9223372036854775807 < nm.size + (1 + lb.size)) := by have := Hsz.out; omega
        have hs3 : 1 + lb.size ≤ 9223372036854775807 := by omega
        have hs4 : nm.size + (1 + lb.size) ≤ 9223372036854775807 := by omega
        go_cut [15] (fun sv wc => sv = .string (nm ++ (⟨#[64]⟩ ++ lb)) ∧ Hid (Below wr.heap.size wr wc))
        case first =>
          go_region_law (
            (go_simp
             go_at_call 83
             go_must (
             refine (HLc.out _ HK.out).mono ?_
             rintro e w6 ⟨rfl, hb6⟩
             have HB6 := hid (below_step HK.out hb6)
             clear hb6)))
          all_goals
            go_wp2_with fail
            go_meet
            exact ⟨rfl, HB6⟩
        case rest =>
          clear hs1 hs2 hs3 hs4 p0 pl hf1 hf2 hc2 hc4 hd1 hd2 hd3 hd4 hl1 hl2 hl3 hl4
          obtain ⟨rfl, hbc⟩ := hcut
          have H6 := hid ((hV.out.below hbc.out).alloc (.cells #[.string (nm ++ (⟨#[64]⟩ ++ lb))] 9))
          have Hosm := hid (show (nm ++ (⟨#[64]⟩ ++ lb)).size ≤ 1000 by rw [ByteArray.size_append, ByteArray.size_append]; exact Hsz.out)
          generalize nm ++ (⟨#[64]⟩ ++ lb) = z at *
          go_wp2_with ((
            at_builtin
            go_must (refine wpList_append_lies _ rfl _ _ 66 rfl w5.heap.size 9 i0 _ 1 16 Tryz.underlying66 Hi.out Hz0.out Hz1.out Hz2.out rfl (by decide) _ k _ rfl H6.out.own ⟨wc.heap.size, 0, none⟩ 1 1 [.string z] rfl rfl (one_str _ _ _) (one_strc _) (by omega) (by unfold maxLen; omega) (by omega) H6.out.bel.size _ rfl ?_)
            intro g7 cap7 w7 hown7 hgr7 hat7 hlt7
            have H7 := hid (Vq.push H6.out Hosm.out hown7 hgr7 hat7)
            clear hown7 hgr7 hat7 hlt7))
          go_roundw
          case rel => exact ⟨k + 1, _, by omega, by go_num, rfl, hid (by rw [Hr.out]; exact H7.out.1)⟩
          case measure => simp [intOf]; omega
      · obtain rfl : k = n4 := by omega
        obtain ⟨A5, cc, rfl⟩ := own_any_slice hV.out.own
        have HJ := hid (fun (u : World) (h : u = wr) => (show Calls Tryz.prog 84 #[.slice A5 k cc, .string ⟨#[32]⟩] u _ from by subst h; exact hV.out.join (by omega)))
        have Hm := hid (show M.take k = M from List.take_of_length_le (by rw [HMl.out]; exact Nat.le_refl _))
        go_wp2_with fail
        refine (HJ.out _ rfl).mono ?_
        rintro e w8 ⟨rfl, hb8⟩
        have HB8 := hid (below_step (show Below w.heap.size w w5 by rw [HGe.out]; exact HB5.out) (below_step hV.out.bel hb8))
        go_wp2_with fail
        refine bodyPost_ret (v := .tuple #[.string ⟨(Lib.join (((M.take k).map fun i => wrd i.toNat).map fun x => x.data.toList) [32]).toArray⟩, .int .i64 0]) (by simp [results, Tryz.results50, go_sem]) rfl ?_
        rw [Hm.out, ← HMe.out]
        exact ⟨rfl, HB8.out⟩
end Go.Proofs.YtfapgnbnfhpicaaGreatDoor

namespace Go.Proofs.YtfapgnbnfhpicaaGreatDoor
set_option maxRecDepth 100000
set_option linter.unusedVariables false
set_option linter.unusedSimpArgs false
open Go.ChangeShapes Go.WideShapes Go.ChangeAt Go.RowKit

set_option maxHeartbeats 1600000 in
theorem sameF_yes (A B : Option Addr) (n c d : Nat) (L : List Fct) (exA exB : List (Option Nat)) (w : World) (hA : EAt w exA A (L.flatMap fcc)) (hB : EAt w exB B (L.flatMap fcc)) (hl : L.length = n) (hn : n ≤ 100000) :
    Calls Tryz.prog 52 #[.slice A n c, .slice B n d] w fun e w' => e = .returned (.bool true) ∧ Below w.heap.size w w' := by
  have HA := hid hA
  have HB := hid hB
  have Hl := hid hl
  clear hA hB hl
  go_enter Tryz.func52, Tryz.ntmps52
  go_wp2_with fail
  go_loopw [5] (fun iv wr => ∃ k : Nat, k ≤ n ∧ iv = .int .i64 k ∧ Hid (Below w.heap.size w wr)) (fun iv wr => n - (intOf iv).toNat)
  case atStart => exact ⟨0, by omega, rfl, hid (Below.refl _ _)⟩
  case round =>
    obtain ⟨k, hk, rfl, HW⟩ := hrel
    by_cases hlt : k < n
    · obtain ⟨y, hy, -⟩ := get_at Hl.out hlt
      obtain ⟨ad, rfl, had, hc1, hc2⟩ := Fct.cells (HA.out.go (Go2.below HW.out)) hy
      obtain ⟨bd, rfl, hbd, hd1, hd2⟩ := Fct.cells (HB.out.go (Go2.below HW.out)) hy
      have ha' : (ad.add (k * 2)).block < wr.heap.size := by rw [add_block]; exact had
      have hb' : (bd.add (k * 2)).block < wr.heap.size := by rw [add_block]; exact hbd
      obtain ⟨yn, yv⟩ := y
      simp only at *
      go_wp2_with fail
      go_quiet (fail)
      go_wp2_with fail
      go_roundw
      case rel => exact ⟨k + 1, by omega, by go_num, hid (below_drewN HW.out _)⟩
      case measure => simp [intOf]; omega
    · obtain rfl : k = n := by omega
      go_wp2_with fail
      go_ret
      exact ⟨rfl, HW.out⟩

def s9T : ByteArray := ⟨#[102, 117, 110, 99, 32, 109, 59, 32, 98, 108, 111, 99, 107, 32, 98, 59, 32, 120, 32, 61, 32, 121, 59, 32, 115, 97, 110, 105, 116, 105, 122, 101, 32, 120, 59, 32, 114, 101, 116, 117, 114, 110, 59, 32, 101, 110, 100]⟩
def s9B : Blk := ⟨⟨#[98]⟩, [⟨1, ⟨#[120]⟩, [⟨#[121]⟩], []⟩, ⟨6, ⟨#[120]⟩, [], []⟩, ⟨9, noB, [], []⟩]⟩
def s9P : List Fnc := [⟨⟨#[109]⟩, [s9B]⟩]
def s9L : List Nd := [⟨1, 0, -1, -1⟩, ⟨3, 0, 0, 0⟩, ⟨3, 0, 0, 1⟩, ⟨3, 0, 0, 2⟩, ⟨2, 0, -1, -1⟩]
def s9W (i : Nat) : ByteArray := if i = 0 then ⟨#[120, 64, 109, 46, 98, 46, 48]⟩ else ⟨#[120, 64, 109, 46, 98, 46, 49]⟩
theorem s9_parse : parseS s9T = (s9P, 0, 0, 0) := by kernel_rfl
theorem s9_list : listN s9P = s9L := by kernel_rfl
theorem s9_vars : varsP s9P = [⟨#[120]⟩, ⟨#[121]⟩] := by kernel_rfl
theorem s9_1 : flP s9P 1 = ([⟨1, 0⟩, ⟨2, 0⟩], 0) := by kernel_rfl
theorem s9_2 : flP s9P 2 = ([⟨-1, 0⟩, ⟨-1, 1⟩], 0) := by kernel_rfl
theorem s9_5 : flP s9P 5 = ([], 3) := by kernel_rfl
theorem s9_full : Bs.validB ((2 : Nat) : Int) (Bs.ofP 2 (fun _ => true) 2) = true := by kernel_rfl
theorem s9_txt : (⟨(Lib.join (((Bt.memsTo (Bs.ofP 2 (fun _ => true) 2) 2).map fun i => s9W i.toNat).map fun x => x.data.toList) [32]).toArray⟩ : ByteArray) = ⟨#[120, 64, 109, 46, 98, 46, 48, 32, 120, 64, 109, 46, 98, 46, 49]⟩ := by kernel_rfl
def RetP9 (p : List Fnc) (w : World) (e : Ending) (w' : World) : Prop := ∃ x : PH, e = .returned (.agg #[.slice x.A x.n x.c]) ∧ x.p = p ∧ PHok w' [] x ∧ Below w.heap.size w w'
set_option maxHeartbeats 1600000 in
theorem program9_any (w : World) : Calls Tryz.prog 57 #[] w (RetP9 s9P w) := by
  have hs : s9T.size ≤ maxLen := by have : s9T.size ≤ 100 := by decide
                                    unfold maxLen; omega
  have Hs := hid hs
  have hb0 := (Below.refl w.heap.size w).alloc (Nat.le_refl _) (.cells #[.slice none 0 0] 44)
  have HB0 := hid hb0
  have HG0 := hid (Fb.new w #[.slice none 0 0] 44)
  clear hs hb0
  go_enter Tryz.func57, Tryz.ntmps57
  go_wp2_with fail
  generalize w.alloc (.cells #[.slice none 0 0] 44) = w0 at HB0 HG0 ⊢
  have hw0 := HG0.out.lt
  refine (refParse_any s9T _ Hs.out).mono ?_
  rw [← parse_same, s9_parse]
  rintro e w1 ⟨x, rfl, hx, hp, hb⟩
  have ha := (Below.refl w1.heap.size w1).alloc (Nat.le_refl _) (.cells #[.slice x.A x.n x.c] 44)
  have hb2 := below_step hb ha
  have HX := hid (PHok.below (hp [some w.heap.size] (by intro k hk; simp at hk; subst hk; exact hw0)) ha)
  have Hx := hid hx
  have HB1 := hid (below_step HB0.out hb2)
  have HG1 := hid (HG0.out.below hb2 HG0.out.lt)
  have HM1 := hid (Fb.new w1 #[.slice x.A x.n x.c] 44)
  clear hx hb hb2 ha hp HB0 HG0 hw0
  have b0 := HM1.out.onec
  have g0 := HG1.out.onec
  have z0 := HG1.out.frozen 0
  have hl := HG1.out.lt
  have HF := hid (show RetP9 s9P w (.returned (.agg #[.slice x.A x.n x.c])) ((w1.alloc (.cells #[.slice x.A x.n x.c] 44)).setCell ⟨w.heap.size, 0, none⟩ (.slice x.A x.n x.c)) from
    ⟨x, rfl, Hx.out, (HX.out.go (Go2.same (row := some w.heap.size) (setCell_grown _ ⟨w.heap.size, 0, none⟩ _) (.inr (by simp)))).go (Go2.less _ (by simp)), HB1.out.setCell (Nat.le_refl _) _⟩)
  simp only
  clear HX Hx HB1 HG1 HM1
  go_wp2_with fail
  refine bodyPost_ret (v := .agg #[.slice x.A x.n x.c]) (by simp [results, Tryz.results57, go_sem, g0, z0, hl]) rfl ?_
  exact HF.out
theorem word9 (x : PH) (hx : x.p = s9P) (i : Nat) (y : Fct) (hy : ([⟨1, 0⟩, ⟨2, 0⟩] : List Fct)[i]? = some y) : ∃ (k v : Nat) (nd : Nd) (nm lb : ByteArray), y = ⟨k, v⟩ ∧ (listN x.p)[k]? = some nd ∧ (varsP x.p)[v]? = some nm ∧ s9W i = nm ++ (⟨#[64]⟩ ++ lb) ∧ nm.size + (1 + lb.size) ≤ 1000 ∧
      ∀ u, PHok u [] x → Shp u → Calls Tryz.prog 83 #[.agg #[.slice x.A x.n x.c], .agg #[.int .i64 nd.kd, .int .i64 nd.fn, .int .i64 nd.bk, .int .i64 nd.st]] u (RetTx u lb) := by
  have hL : listN x.p = s9L := by rw [hx]; exact s9_list
  have hV : varsP x.p = [⟨#[120]⟩, ⟨#[121]⟩] := by rw [hx]; exact s9_vars
  have h0 : x.p[0]? = some ⟨⟨#[109]⟩, [s9B]⟩ := by rw [hx]; rfl
  have hi : i < 2 := (List.getElem?_eq_some_iff.1 hy).1
  rcases (show i = 0 ∨ i = 1 by omega) with rfl | rfl <;> (injection hy with hy; subst hy)
  · refine ⟨1, 0, ⟨3, 0, 0, 0⟩, ⟨#[120]⟩, ⟨#[109, 46, 98, 46, 48]⟩, rfl, by rw [hL]; rfl, by rw [hV]; rfl, by kernel_rfl, by decide, fun u hu hs => ?_⟩
    exact label_stmt x 0 0 0 _ _ [] u hu hs h0 rfl (by omega) 1 (by rw [hL]; kernel_rfl)
  · refine ⟨2, 0, ⟨3, 0, 0, 1⟩, ⟨#[120]⟩, ⟨#[109, 46, 98, 46, 49]⟩, rfl, by rw [hL]; rfl, by rw [hV]; rfl, by kernel_rfl, by decide, fun u hu hs => ?_⟩
    exact label_stmt x 0 0 1 _ _ [] u hu hs h0 rfl (by omega) 2 (by rw [hL]; kernel_rfl)
set_option maxHeartbeats 6400000 in
theorem sane9_any (w : World) (hsh : Shp w) : Calls Tryz.prog 25 #[] w fun e w' => e = .returned (.bool true) ∧ Below w.heap.size w w' := by
  have HS := hid (fun (v : World) (h : Below w.heap.size w v) => hsh.keep (h.block 1 hsh.pos0))
  clear hsh
  go_enter Tryz.func25, Tryz.ntmps25
  go_wp2_with fail
  refine (program9_any _).mono ?_
  rintro e w1 ⟨x1, rfl, hx1, hok1, hb1⟩
  have HB1 := hid hb1
  have HC1 := hid (flist_any x1 [] w1 hok1 (HS.out _ hb1) 1)
  rw [hx1, s9_1] at HC1
  clear hx1 hok1 hb1
  go_wp2_with fail
  refine HC1.out.mono ?_
  rintro e w2 ⟨A1, c1, rfl, hE1, -, hb2⟩
  have HB2 := hid (below_step HB1.out hb2)
  have HE2 := hid (hE1 [] (by simp))
  rw [show ((([⟨1, 0⟩, ⟨2, 0⟩] : List Fct), (0 : Int)).1.length : Nat) = 2 from rfl]
  clear hE1 hb2 HB1 HC1
  go_wp2_with fail
  refine (program9_any _).mono ?_
  rintro e w3 ⟨x3, rfl, hx3, hok3, hb3⟩
  have HB3 := hid (below_step HB2.out hb3)
  have HE3 := hid (HE2.out.go (Go2.below hb3))
  have HC3 := hid (flist_any x3 [] w3 hok3 (HS.out _ HB3.out) 2)
  rw [hx3, s9_2] at HC3
  clear hx3 hok3 hb3 HB2 HE2
  go_wp2_with fail
  refine HC3.out.mono ?_
  rintro e w4 ⟨A3, c3, rfl, -, -, hb4⟩
  have HB4 := hid (below_step HB3.out hb4)
  have HE4 := hid (HE3.out.go (Go2.below hb4))
  rw [show ((([⟨-1, 0⟩, ⟨-1, 1⟩] : List Fct), (0 : Int)).1.length : Nat) = 2 from rfl]
  clear hb4 HB3 HC3 HE3
  go_wp2_with fail
  refine (program9_any _).mono ?_
  rintro e w5 ⟨x5, rfl, hx5, hok5, hb5⟩
  have HB5 := hid (below_step HB4.out hb5)
  have HE5 := hid (HE4.out.go (Go2.below hb5))
  have HC5 := hid (flist_any x5 [] w5 hok5 (HS.out _ HB5.out) 5)
  rw [hx5, s9_5] at HC5
  clear hx5 hok5 hb5 HB4 HE4
  go_wp2_with fail
  refine HC5.out.mono ?_
  rintro e w6 ⟨A5, c5, rfl, -, -, hb6⟩
  have HB6 := hid (below_step HB5.out hb6)
  have HE6 := hid (HE5.out.go (Go2.below hb6))
  rw [show ((([] : List Fct), (3 : Int)).1.length : Nat) = 0 from rfl]
  clear hb6 HB5 HC5 HE5
  go_wp2_with fail
  refine (program9_any _).mono ?_
  rintro e w7 ⟨x7, rfl, hx7, hok7, hb7⟩
  have HB7 := hid (below_step HB6.out hb7)
  have HE7 := hid (HE6.out.go (Go2.below hb7))
  have HX7 := hid hok7
  have Hx7 := hid hx7
  clear hx7 hok7 hb7 HB6 HE6
  go_wp2_with fail
  refine (Bt.refFull_any 2 _ (by omega)).mono ?_
  rintro e w8 ⟨AS, nS, cS, rfl, hS, hb8⟩
  have HB8 := hid (below_step HB7.out hb8)
  have HE8 := hid (HE7.out.go (Go2.below hb8))
  have HT8 := hid (textR_any x7 2 AS nS cS (Bs.ofP 2 (fun _ => true) 2) w8 (PHok.below HX7.out hb8) (HS.out _ HB8.out) hS s9_full [⟨1, 0⟩, ⟨2, 0⟩] (by rw [Hx7.out]; exact s9_1) rfl s9W (word9 x7 Hx7.out))
  rw [s9_txt] at HT8
  clear hS hb8 HB7 HE7 HX7 Hx7
  go_wp2_with fail
  refine HT8.out.mono ?_
  rintro e w9 ⟨rfl, hb9⟩
  have HB9 := hid (below_step HB8.out hb9)
  have HE9 := hid (HE8.out.go (Go2.below hb9))
  clear hb9 HB8 HE8 HT8
  have ha := (Below.refl w9.heap.size w9).alloc (Nat.le_refl _) (.cells #[.int .i64 1, .int .i64 0, .int .i64 2, .int .i64 0] 49)
  have HF9 := hid (sameF_yes A1 (some ⟨w9.heap.size, 0, none⟩) 2 c1 2 [⟨1, 0⟩, ⟨2, 0⟩] [] [] _ (HE9.out.go (Go2.below ha)) (EAt.fb (Fb.new w9 #[.int .i64 1, .int .i64 0, .int .i64 2, .int .i64 0] 49) (by simp) (fun j u hu => by simpa [fcc] using hu)) rfl (by omega))
  have HBa := hid (below_step HB9.out ha)
  clear ha
  go_wp2_with fail
  refine HF9.out.mono ?_
  rintro e wa ⟨rfl, hba⟩
  have HB := hid (below_step HBa.out hba)
  go_wp2_with fail
  refine bodyPost_ret (v := .bool true) (by simp [results, Tryz.results25, go_sem]) rfl ?_
  exact ⟨rfl, HB.out⟩
end Go.Proofs.YtfapgnbnfhpicaaGreatDoor

namespace Go.Proofs.YtfapgnbnfhpicaaGreatDoor
set_option maxRecDepth 20000
set_option linter.unusedVariables false
set_option linter.unusedSimpArgs false
open Go.ChangeShapes Go.WideShapes Go.ChangeAt Go.RowKit

def sunH (h : Nd → Nat) (l : List Nd) : Nat := (l.map h).sum
theorem sunH_append (h : Nd → Nat) (l m : List Nd) : sunH h (l ++ m) = sunH h l + sunH h m := by simp [sunH]
theorem sunH_len (l : List Nd) : sunH (fun _ => 1) l = l.length := by
  induction l with
  | nil => rfl
  | cons x l ih => unfold sunH at *; simp [ih]; omega
theorem sunP_append (f : Int → Nat) (l m : List Stm) : sumP f (l ++ m) = sumP f l + sumP f m := by simp [sumP]
theorem sun_stmts {h : Nd → Nat} {e : Int → Nat} {f b : Nat} {ss : List Stm} (hs : ∀ (j : Nat) (t : Stm), ss[j]? = some t → sunH h (ndS f b j t) = e t.op) : ∀ k, k ≤ ss.length → sunH h ((List.range k).flatMap (ndSs f b ss)) = sumP e (ss.take k) := by
  intro k
  induction k with
  | zero => intro _; rfl
  | succ k ih =>
    intro hk
    have ht : ss[k]? = some ss[k] := List.getElem?_eq_getElem (by omega)
    rw [range_flat, sunH_append, ih (by omega), ndSs_at ht, hs k _ ht, List.take_add_one, ht, sunP_append]
    simp [sumP]
theorem sun_blocks {h : Nd → Nat} {e : Int → Nat} {f : Nat} {bs : List Blk} (hs : ∀ (b : Nat) (B : Blk) (j : Nat) (t : Stm), bs[b]? = some B → B.ss[j]? = some t → sunH h (ndS f b j t) = e t.op) :
    ∀ k, k ≤ bs.length → sunH h ((List.range k).flatMap (ndBs f bs)) = sumP e ((bs.take k).flatMap Blk.ss) := by
  intro k
  induction k with
  | zero => intro _; rfl
  | succ k ih =>
    intro hk
    have ht : bs[k]? = some bs[k] := List.getElem?_eq_getElem (by omega)
    rw [range_flat, sunH_append, ih (by omega), ndBs_at ht, List.take_add_one, ht]
    have := sun_stmts (h := h) (e := e) (f := f) (b := k) (ss := bs[k].ss) (fun j t hj => hs k _ j t ht hj) bs[k].ss.length (Nat.le_refl _)
    unfold ndB
    rw [this, List.take_length, List.flatMap_append, sunP_append, Option.toList_some, List.flatMap_cons, List.flatMap_nil, List.append_nil]
theorem sun_funcs {h : Nd → Nat} {e : Int → Nat} {p : List Fnc} {c : Nat} (hc : ∀ f : Nat, h ⟨1, f, -1, -1⟩ + h ⟨2, f, -1, -1⟩ = c)
    (hs : ∀ (f : Nat) (F : Fnc) (b : Nat) (B : Blk) (j : Nat) (t : Stm), p[f]? = some F → F.bs[b]? = some B → B.ss[j]? = some t → sunH h (ndS f b j t) = e t.op) :
    ∀ k, k ≤ p.length → sunH h (pre1 p k) = k * c + sumP e ((p.take k).flatMap fncS) := by
  intro k
  induction k with
  | zero => intro _; simp [pre1, sunH, sumP]
  | succ k ih =>
    intro hk
    have ht : p[k]? = some p[k] := List.getElem?_eq_getElem (by omega)
    have hp : pre1 p (k + 1) = pre1 p k ++ ndF k p[k] := by unfold pre1; rw [range_flat, ndFs_at ht]
    rw [hp, sunH_append, ih (by omega), List.take_add_one, ht]
    have := sun_blocks (h := h) (e := e) (f := k) (bs := p[k].bs) (fun b B j t hb hj => hs k _ b B j t ht hb hj) p[k].bs.length (Nat.le_refl _)
    rw [List.take_length] at this
    have h2 : sunH h (ndF k p[k]) = c + sumP e (fncS p[k]) := by
      unfold ndF fncS
      rw [sunH_append, show (⟨1, k, -1, -1⟩ : Nd) :: (List.range p[k].bs.length).flatMap (ndBs k p[k].bs) = [(⟨1, k, -1, -1⟩ : Nd)] ++ (List.range p[k].bs.length).flatMap (ndBs k p[k].bs) from rfl, sunH_append, this]
      have := hc k
      unfold sunH
      simp
      omega
    rw [h2, Nat.succ_mul, List.flatMap_append, sunP_append, Option.toList_some, List.flatMap_cons, List.flatMap_nil, List.append_nil]
    omega
theorem check_parts9 {p : List Fnc} (h : (checkP p).2 = 0) : prgB p = true ∧ fitB p = true ∧ listN p = pre1 p p.length := by
  unfold checkP at h
  by_cases h1 : prgB p = true
  · rw [if_pos h1] at h
    by_cases h2 : ((funcsE p).2 == 0) = true
    · rw [if_pos h2] at h
      by_cases h3 : fitB p = true
      · refine ⟨h1, h3, ?_⟩
        unfold listN pre1 checkP
        rw [if_pos h1, if_pos h2, if_pos h3]
        rfl
      · rw [if_neg h3] at h; simp at h
    · rw [if_neg h2] at h
      rw [h] at h2
      simp at h2
  · rw [if_neg h1] at h; simp at h
theorem list_fewF {p : List Fnc} (h : (checkP p).2 = 0) : (listN p).length ≤ 256 ∧ (varsP p).length ≤ 64 := by
  obtain ⟨hp, hf, hL⟩ := check_parts9 h
  obtain ⟨q1, q2, q3⟩ := prg_parts hp
  have hn : (listN p).length = 2 * p.length + sumP nodO (p.flatMap fncS) := by
    rw [← sunH_len, hL, sun_funcs (h := fun _ => 1) (e := nodO) (c := 2) (fun _ => rfl) (fun f F b B j t h1 h2 h3 => ?_) p.length (Nat.le_refl _), List.take_length]
    · omega
    · rw [sunH_len]; unfold ndS nodO; split <;> rfl
  have hs : stmtsP p = p.flatMap fncS := by unfold stmtsP; rw [if_pos hp]
  have hne : (stmtsP p).length ≠ 0 := by
    rw [hs]
    intro h0
    have h0 := List.length_eq_zero_iff.1 h0
    rw [List.flatMap_eq_nil_iff] at h0
    have hF : p[0] ∈ p := List.getElem_mem (by omega)
    have h1 := h0 _ hF
    obtain ⟨a1, _, a3⟩ := fnc_parts (q3 _ hF)
    unfold fncS at h1
    rw [List.flatMap_eq_nil_iff] at h1
    have hB : p[0].bs[0] ∈ p[0].bs := List.getElem_mem (by omega)
    have h2 := h1 _ hB
    have := (blk_parts (a3 _ hB)).1
    rw [h2] at this
    simp at this
  have hz : sizesP p = (2 * p.length + sumP nodO (p.flatMap fncS), p.length + sumP edgO (p.flatMap fncS)) := by unfold sizesP; rw [if_neg hne, hs]
  unfold fitB at hf
  simp only [Bool.and_eq_true, decide_eq_true_eq] at hf
  obtain ⟨f1, f2, -⟩ := hf
  rw [hz] at f2
  exact ⟨by rw [hn]; exact f2, f1⟩
theorem fl_def {p : List Fnc} (h : (checkP p).2 = 0) : flP p 1 = (factsD p, 0) := by
  have h1 : (factsD p).length ≤ 256 := by
    rw [factsD_len]
    exact Nat.le_trans List.countP_le_length (list_fewF h).1
  unfold flP capL
  rw [if_pos (by rw [h]; rfl), if_pos (by rfl), if_pos h1]
theorem fl_var {p : List Fnc} (h : (checkP p).2 = 0) {k : Int} (hk : (k == 1) = false) (hk2 : (k == 2 || k == 3 || k == 4) = true) : flP p k = (factsV p, 0) := by
  have h1 : (factsV p).length ≤ 256 := by
    have := (list_fewF h).2
    unfold factsV
    rw [fctV_len]
    omega
  unfold flP capL
  rw [if_pos (by rw [h]; rfl), if_neg (by rw [hk]; simp), if_pos hk2, if_pos h1]
theorem facts_len {p : List Fnc} (h : (checkP p).2 = 0) : (factsD p).length = (pre1 p p.length).countP (isDf p) := by rw [factsD_len, (check_parts9 h).2.2]
theorem factv_len (p : List Fnc) : (factsV p).length = (varsP p).length := fctV_len _
end Go.Proofs.YtfapgnbnfhpicaaGreatDoor

namespace Go.Proofs.YtfapgnbnfhpicaaGreatDoor
set_option linter.unusedVariables false
open Go.ChangeShapes Go.WideShapes Go.ChangeAt Go.RowKit

/-- The statement's tape and the table of shapes stand, and nothing old has changed. -/
structure GoS (w : World) (T : Nat) (wr : World) : Prop where
  go : Going w T wr
  shp : Shp wr
  pos : 1 < w.heap.size
theorem GoS.step {w wr w' : World} {T : Nat} (h : GoS w T wr) (hg : Going w T w') (hw : wr.grownBy w' (some T)) : GoS w T w' :=
  ⟨hg, h.shp.keep (hw.block 1 h.shp.pos0 (by have := h.go.2.2; have := h.pos; intro e; injection e with e; omega)), h.pos⟩
theorem GoS.stepT {w wr w' : World} {T : Nat} (h : GoS w T wr) (ht : Tape w' T) (hw : wr.grownBy w' (some T)) : GoS w T w' := h.step (h.go.step ht hw) hw
theorem GoS.below {w wr w' : World} {T : Nat} (h : GoS w T wr) (hb : Below wr.heap.size wr w') : GoS w T w' := h.step (h.go.below hb) (grown_of_below hb _)
theorem GoS.alloc {w wr : World} {T : Nat} (h : GoS w T wr) (o : Obj) : GoS w T (wr.alloc o) := h.below ((Below.refl _ _).alloc (Nat.le_refl _) o)

end Go.Proofs.YtfapgnbnfhpicaaGreatDoor

namespace Go.Proofs.YtfapgnbnfhpicaaGreatDoor
set_option maxRecDepth 20000
set_option linter.unusedVariables false
set_option linter.unusedSimpArgs false
open Go.ChangeShapes Go.WideShapes Go.ChangeAt Go.RowKit

/-- What stands in FactsCount's walk: the program, its box, the shapes. -/
structure Fw (w : World) (G : Nat) (x : PH) (v : World) : Prop where
  bel : Below w.heap.size w v
  shp : Shp v
  box : Fb v G #[.slice x.A x.n x.c] 44
  prog : PHok v [] x
theorem Fw.below {w v v' : World} {G : Nat} {x : PH} (h : Fw w G x v) (hb : Below v.heap.size v v') : Fw w G x v' :=
  ⟨below_step h.bel hb, h.shp.keep (hb.block 1 h.shp.pos0), h.box.below hb h.box.lt, h.prog.below hb⟩
set_option maxHeartbeats 16000000 in
theorem lawFct (At : Option Addr) (nt ct : Nat) (zs : List Int) (w : World) (ht : IArg w At nt zs) (hnt : nt ≤ maxLen) (hsh : Shp w) :
    Calls Tryz.prog 6 #[.slice At nt ct] w fun e w' => e = .returned (.bool true) ∧ Below w.heap.size w w' := by
  have Hinv := hid (show GoS w w.heap.size (w.alloc (.cells #[.slice At nt ct, .int .i64 0] 71)) from ⟨⟨tape_new ht hnt, (Below.refl _ _).alloc (Nat.le_refl _) _, Nat.le_refl _⟩, hsh.keep (Below.heap_alloc w _ 1 hsh.pos0), hsh.pos0⟩)
  clear ht hsh
  go_enter Tryz.func6, Tryz.ntmps6
  go_wp2_with (go_at_call 7; refine (new_any At nt ct _).mono ?_; rintro e w1 ⟨rfl, rfl⟩)
  generalize w.alloc (.cells #[.slice At nt ct, .int .i64 0] 71) = w1 at Hinv ⊢
  refine (program_any [] w w.heap.size _ Hinv.out.go (by simp)).mono ?_
  rintro e w2 ⟨x, rfl, hgp, hx, hgo, hgr⟩
  have h2 := GoS.step Hinv.out hgo hgr
  have ha := (Below.refl w2.heap.size w2).alloc (Nat.le_refl _) (.cells #[.slice x.A x.n x.c] 44)
  have HW := hid (show Fw w w2.heap.size x (w2.alloc (.cells #[.slice x.A x.n x.c] 44)) from
    ⟨below_step h2.go.2.1 ha, h2.shp.keep (ha.block 1 h2.shp.pos0), Fb.new w2 _ _, PHok.below hx ha⟩)
  have hck : checkP x.p = ((0, 0, 0, 0), 0) := gen_check hgp
  have hck2 : (checkP x.p).2 = 0 := by rw [hck]
  have hprg := genP_ok hgp
  have HPrg := hid (show prgB x.p = true from hprg)
  have HL := hid (fun (v : World) (h : Fw w w2.heap.size x v) (k : Int) => flist_any x [] v h.prog h.shp k)
  have HVr := hid (fun (v : World) (h : Fw w w2.heap.size x v) => refVars_any x v h.prog hprg)
  have H1 := hid (fl_def hck2)
  have Hk := hid (fun (k : Int) (h1 : (k == 1) = false) (h2 : (k == 2 || k == 3 || k == 4) = true) => fl_var hck2 h1 h2)
  have Hc1 := hid (facts_len hck2)
  have Hgd := hid (fun (k b i : Nat) (F : Fnc) (B : Blk) (t : Stm) (h1 : x.p[k]? = some F) (h2 : F.bs[b]? = some B) (h3 : B.ss[i]? = some t) => gen_dfn hgp h1 h2 h3)
  have HK := hid (fun (v u : World) (h : Fw w w2.heap.size x v) (hb : Below v.heap.size v u) => h.below hb)
  have Hpl := hid (show x.p.length = x.n by unfold PH.p; rw [List.length_map]; exact hx.len)
  clear h2 ha hx hgo hgr hgp Hinv hck hck2 hprg
  have hxn : x.n ≤ 40 := HW.out.prog.few
  have HXl := hid HW.out.prog.len
  obtain ⟨b0, bl⟩ := And.intro HW.out.box.onec HW.out.box.lt
  simp only
  go_wp2_with fail
  generalize w2.alloc (.cells #[.slice x.A x.n x.c] 44) = w3 at *
  generalize w2.heap.size = G at *
  go_loop [4, 5, 6, 7] (fun nv iv _ _ => ∃ k m : Nat, k ≤ x.n ∧ nv = .int .i64 m ∧ iv = .int .i64 k ∧ m ≤ k * 1600 ∧ Hid (m = (pre1 x.p k).countP (isDf x.p))) (fun _ iv _ _ => x.n - (intOf iv).toNat)
  case atStart => exact ⟨0, 0, by omega, rfl, rfl, by omega, hid (by simp [pre1])⟩
  case round =>
    obtain ⟨k, m, hk, rfl, rfl, hm, hme⟩ := hrel
    by_cases hlt : k < x.n
    · obtain ⟨y, hy, hym⟩ := get_at HXl.out hlt
      obtain ⟨pa, hpA, hpad, hp1, hp2⟩ := FH.cells HW.out.prog.lies hy
      have hYf := hid (HW.out.prog.all y hym)
      have hpl : (pa.add (k * 2)).block < w3.heap.size := by rw [add_block]; exact hpad
      have hyn : y.n ≤ 40 := hYf.out.few
      have Hy1 := hid (show x.p[k]? = some y.f by unfold PH.p; rw [List.getElem?_map, hy]; rfl)
      have Hyb := hid (show y.f.bs.length = y.n by show (y.l.map BH.b).length = y.n; rw [List.length_map]; exact hYf.out.len)
      have Hyg := hid (fun (j : Nat) (z : BH) (hz : y.l[j]? = some z) => show y.f.bs[j]? = some z.b by show (y.l.map BH.b)[j]? = _; rw [List.getElem?_map, hz]; rfl)
      have b1 : w3.cell? ⟨G, 0, none⟩ = some (.slice (some pa) x.n x.c) := by rw [b0, hpA]
      rw [hpA] at b0
      clear hy hym hp1 hpad hpA b1
      go_wp2_with fail
      go_loop [4, 6, 7] (fun nv iv _ => ∃ b m2 : Nat, b ≤ y.n ∧ nv = .int .i64 m2 ∧ iv = .int .i64 b ∧ m2 ≤ k * 1600 + b * 40 ∧ Hid (m2 = (pre2 x.p k y.f.bs b).countP (isDf x.p))) (fun _ iv _ => y.n - (intOf iv).toNat)
      case atStart => exact ⟨0, m, by omega, rfl, rfl, by omega, hid (by rw [df2_zero]; exact hme.out)⟩
      case round =>
        obtain ⟨b, m2, hb, rfl, rfl, hm2, hme2⟩ := hrel
        by_cases hlt2 : b < y.n
        · obtain ⟨z, hz, hzm⟩ := get_at hYf.out.len hlt2
          obtain ⟨qa, hqA, hqad, hq1, hq2⟩ := BH.cells hYf.out.lies hz
          have hZb := hid (hYf.out.all z hzm)
          have hql : (qa.add (b * 2)).block < w3.heap.size := by rw [add_block]; exact hqad
          have hzn : z.n ≤ 40 := hZb.out.few
          have Hz1 := hid (Hyg.out b z hz)
          have Hzb := hid (show z.b.ss.length = z.n by show (z.l.map SH.t).length = z.n; rw [List.length_map]; exact hZb.out.len)
          have Hzg := hid (fun (j : Nat) (s : SH) (hs : z.l[j]? = some s) => show z.b.ss[j]? = some s.t by show (z.l.map SH.t)[j]? = _; rw [List.getElem?_map, hs]; rfl)
          have hp3 : w3.cell? ⟨(pa.add (k * 2)).block, (pa.add (k * 2)).off + 1, none⟩ = some (.slice (some qa) y.n y.c) := by rw [hp2, hqA]
          clear hz hzm hq1 hqad hqA hp2
          go_wp2_with fail
          go_loop [4, 7] (fun nv iv => ∃ i m3 : Nat, i ≤ z.n ∧ nv = .int .i64 m3 ∧ iv = .int .i64 i ∧ m3 ≤ k * 1600 + b * 40 + i ∧ Hid (m3 = (pre3 x.p k y.f.bs b z.b.ss i).countP (isDf x.p))) (fun _ iv => z.n - (intOf iv).toNat)
          case atStart => exact ⟨0, m2, by omega, rfl, rfl, by omega, hid (by rw [df3_zero]; exact hme2.out)⟩
          case round =>
            obtain ⟨i, m3, hi, rfl, rfl, hm3, hme3⟩ := hrel
            by_cases hlt3 : i < z.n
            · obtain ⟨s, hs, hsm⟩ := get_at hZb.out.len hlt3
              obtain ⟨ra, hrA, hrad, hr1, hr2, hr3, hr4⟩ := SH.cells hZb.out.lies hs
              have hrl : (ra.add (i * 4)).block < w3.heap.size := by rw [add_block]; exact hrad
              have hq3 : w3.cell? ⟨(qa.add (b * 2)).block, (qa.add (b * 2)).off + 1, none⟩ = some (.slice (some ra) z.n z.c) := by rw [hq2, hrA]
              have hd := Hgd.out k b i y.f z.b s.t Hy1.out Hz1.out (Hzg.out i s hs)
              have Hsu := hid (df_succ Hy1.out Hz1.out (Hzg.out i s hs))
              clear hs hsm hrad hrA hq2 hr1 hr3 hr4
              cases hdd : defB s.t.op with
              | true =>
                as_aux_lemma =>
                  have t1 : (!s.t.d.toList.isEmpty) = true := by rw [← hd, hdd]
                  have Hr := hid (show m3 + 1 = (pre3 x.p k y.f.bs b z.b.ss (i + 1)).countP (isDf x.p) by rw [Hsu.out, ← hme3.out, hdd]; rfl)
                  clear hd hdd
                  go_wp2_with fail
                  go_round
                  case rel => exact ⟨i + 1, m3 + 1, by omega, by go_num, by go_num, by omega, Hr⟩
                  case measure => simp [intOf]; omega
              | false =>
                as_aux_lemma =>
                  have t1 : (!s.t.d.toList.isEmpty) = false := by rw [← hd, hdd]
                  have Hr := hid (show m3 = (pre3 x.p k y.f.bs b z.b.ss (i + 1)).countP (isDf x.p) by rw [Hsu.out, ← hme3.out, hdd]; rfl)
                  clear hd hdd
                  go_wp2_with fail
                  go_round
                  case rel => exact ⟨i + 1, m3, by omega, rfl, by go_num, by omega, Hr⟩
                  case measure => simp [intOf]; omega
            · as_aux_lemma =>
                obtain rfl : i = z.n := by omega
                have Hr := hid (show m3 = (pre2 x.p k y.f.bs (b + 1)).countP (isDf x.p) by rw [hme3.out, ← Hzb.out, df3_all Hz1.out])
                go_wp2_with fail
                go_round
                case rel => exact ⟨b + 1, m3, by omega, rfl, by go_num, by omega, Hr⟩
                case measure => simp [intOf]; omega
        · as_aux_lemma =>
            obtain rfl : b = y.n := by omega
            have Hr := hid (show m2 = (pre1 x.p (k + 1)).countP (isDf x.p) by rw [hme2.out, ← Hyb.out, df2_all Hy1.out])
            go_wp2_with fail
            go_round
            case rel => exact ⟨k + 1, m2, by omega, rfl, by go_num, by omega, Hr⟩
            case measure => simp [intOf]; omega
    · obtain rfl : k = x.n := by omega
      have Hm := hid (show (factsD x.p).length = m by rw [Hc1.out, hme.out, Hpl.out])
      have HC := hid (HL.out w3 HW.out 1)
      rw [H1.out] at HC
      clear hme Hc1 H1
      go_wp2_with fail
      clear b0 bl
      refine HC.out.mono ?_
      rintro e w4 ⟨A1, c1, rfl, -, -, hb4⟩
      rw [show ((factsD x.p, (0 : Int)).1.length : Nat) = m from Hm.out]
      have HW4 := hid (HK.out _ _ HW.out hb4)
      clear hb4 HC HW Hm
      go_wp2_with fail
      go_loopw [10, 11, 12] (fun iv _ _ wr => ∃ q : Nat, 2 ≤ q ∧ q ≤ 5 ∧ iv = .int .i64 q ∧ Hid (Fw w G x wr)) (fun iv _ _ _ => 5 - (intOf iv).toNat)
      case atStart => exact ⟨2, by omega, by omega, rfl, HW4⟩
      case round =>
        clear HW4
        obtain ⟨q, hq2, hq5, rfl, hW⟩ := hrel
        by_cases hq4 : q ≤ 4
        · have HC := hid (HL.out wr hW.out q)
          rw [Hk.out q (by rw [beq_eq_false_iff_ne]; omega) (by simp only [Bool.or_eq_true, beq_iff_eq]; omega)] at HC
          have b0 := hW.out.box.onec
          have bl := hW.out.box.lt
          go_wp2_with fail
          clear b0 bl
          refine HC.out.mono ?_
          rintro e w5 ⟨A2, c2, rfl, -, -, hb5⟩
          rw [show ((factsV x.p, (0 : Int)).1.length : Nat) = (varsP x.p).length from factv_len x.p]
          have HW5 := hid (HK.out _ _ hW.out hb5)
          clear hb5 HC hW
          have b0 := HW5.out.box.onec
          have bl := HW5.out.box.lt
          have HV := hid (HVr.out _ HW5.out)
          generalize hvn : (varsP x.p).length = vn at *
          have Hvn := hid hvn
          clear hvn
          go_wp2_with fail
          clear b0 bl
          refine HV.out.mono ?_
          rintro e w6 ⟨A3, c3, rfl, -, hb6, -⟩
          rw [Hvn.out]
          have HW6 := hid (HK.out _ _ HW5.out hb6)
          clear hb6 HV HW5
          as_aux_lemma =>
            go_wp2_with fail
            go_roundw
            case rel => exact ⟨q + 1, by omega, by omega, by go_num, HW6⟩
            case measure => simp [intOf]; omega
        · obtain rfl : q = 5 := by omega
          go_wp2_with fail
          refine (sane9_any _ hW.out.shp).mono ?_
          rintro e w7 ⟨rfl, hb⟩
          have HF := hid (below_step hW.out.bel hb)
          go_wp2_with fail
          refine bodyPost_ret (v := .bool true) (by simp [results, Tryz.results6, go_sem]) rfl ?_
          exact ⟨rfl, HF.out⟩
end Go.Proofs.YtfapgnbnfhpicaaGreatDoor

namespace Go.Proofs.YtfapgnbnfhpicaaGreatDoor
set_option maxRecDepth 10000
open Go.ChangeShapes Go.WideShapes Go.ChangeAt Go.RowKit Go.Joins

theorem cells3 : Tryz.prog.cellsOf 3 = 1 := by kernel_rfl
theorem cell_in {w : World} {a : Addr} {v : Value} (h : w.cell? a = some v) : a.block < w.heap.size := by
  rcases Nat.lt_or_ge a.block w.heap.size with hlt | hge
  · exact hlt
  · unfold World.cell? at h; rw [Array.getElem?_eq_none hge] at h; cases h

theorem wf_u64 {z : Int} (h : (Lit.int .u64 z).wf = true) : 0 ≤ z ∧ z ≤ 18446744073709551615 := by
  have m0 : IntKind.u64.min = 0 := by decide
  have m1 : IntKind.u64.max = 18446744073709551615 := by decide
  simp [Lit.wf] at h
  omega
theorem open_list {H : Type} {enc : TypeId × Value → H} {W : World} {b0 base : Nat} {spare : Nat → Bool} {held : Bool} {v : Value} {d : DataW H} {p : List MemPlace}
    (hv : Value.okWide Tryz.prog W .any b0 22 v) (h : DataW.Trod enc Tryz.prog W base spare held 22 v d p) :
    ∃ (A : Option Addr) (n c : Nat) (l : List Int), v = .slice A n c ∧ IArg W A n l ∧ n ≤ maxLen := by
  obtain ⟨A, n, c, rfl⟩ := okWide_slice Tryz.underlying22 hv
  obtain ⟨fuel, hf⟩ := h
  rcases open_ints Tryz.underlying22 Tryz.underlying3 cells3 hf with ⟨hcs, _⟩ | ⟨x, l, c', zs, hcs, _, hl, hm, hz, _, hcell, hwz⟩
  · simp [Value.cells] at hcs
    obtain ⟨rfl, rfl, rfl⟩ := hcs
    exact ⟨none, 0, 0, [], rfl, ⟨.inl rfl, rfl⟩, by simp [maxLen]⟩
  · simp [Value.cells] at hcs
    obtain ⟨rfl, rfl, rfl⟩ := hcs
    have hle : n ≤ zs.length := by rw [hz]; split <;> omega
    refine ⟨some x, n, c, zs.take n, rfl, ⟨?_, by rw [List.length_take]; omega⟩, Nat.le_trans hl hm⟩
    by_cases h0 : n = 0
    · subst h0; exact .inl rfl
    · refine .inr ⟨x, rfl, ?_, fun j u hu => ?_⟩
      · have := cell_in (hcell 0 (by omega)); rwa [add_block] at this
      · unfold ints at hu
        rw [List.getElem?_map] at hu
        have hj : j < n := by
          rcases Nat.lt_or_ge j n with h | h
          · exact h
          · rw [List.getElem?_eq_none (by rw [List.length_take]; omega)] at hu; simp at hu
        rw [List.getElem?_take, if_pos hj, List.getElem?_eq_getElem (by omega)] at hu
        have := hcell j (by omega)
        rw [List.getD_eq_getElem?_getD, List.getElem?_eq_getElem (by omega)] at this
        rw [this]; simpa using hu

end Go.Proofs.YtfapgnbnfhpicaaGreatDoor

namespace Go.Proofs.YtfapgnbnfhpicaaGreatDoor
set_option maxRecDepth 100000
set_option linter.unusedVariables false
open Go.ChangeShapes Go.WideShapes Go.ChangeAt Go.RowKit

theorem own : ownKnob Tryz.prog.godebug = none := by kernel_rfl
theorem laidOut : laidOutB Tryz.prog = true := by kernel_rfl
theorem gShp : Tryz.prog.globalNamed "flowquery/syntax.shapes" = some 1 := by kernel_rfl
theorem gShpType : (Tryz.prog.globals[1]?).map (·.type) = some 215 := by kernel_rfl
theorem undArr : Tryz.prog.underlying 215 = some (.array 10 214) := by kernel_rfl
theorem undShape : ∃ fs : Array Field, Tryz.prog.underlying 214 = some (.struct fs) ∧ (fs.toList.map fun f => (f.type, f.offset)) = [(9, 0), (4, 1), (3, 2), (3, 3), (3, 4)] := by
  have h : (match Tryz.prog.underlying 214 with | some (.struct fs) => some (fs.toList.map fun f => (f.type, f.offset)) | _ => none) = some [(9, 0), (4, 1), (3, 2), (3, 3), (3, 4)] := by kernel_rfl
  split at h
  · next fs e => exact ⟨fs, e, Option.some.inj h⟩
  · cases h
theorem cArr : Tryz.prog.cellsOf 215 = 50 := by kernel_rfl
theorem cShape : Tryz.prog.cellsOf 214 = 5 := by kernel_rfl
theorem cStr : Tryz.prog.cellsOf 9 = 1 := by kernel_rfl
theorem cBool : Tryz.prog.cellsOf 4 = 1 := by kernel_rfl
theorem cInt : Tryz.prog.cellsOf 3 = 1 := by kernel_rfl
abbrev Sh := List UInt8 × Bool × Int × Int × Int
def dataSh (t : Sh) : DataW Unit := .agg [.lit (.string t.1), .lit (.bool t.2.1), .lit (.int .i64 t.2.2.1), .lit (.int .i64 t.2.2.2.1), .lit (.int .i64 t.2.2.2.2)]
def cellsSh (t : Sh) : List Value := [.string ⟨t.1.toArray⟩, .bool t.2.1, .int .i64 t.2.2.1, .int .i64 t.2.2.2.1, .int .i64 t.2.2.2.2]
def shpT : List Sh := [([], false, 0, 0, 0), ([], true, 0, 4, 0), ([117, 115, 101], false, 1, 4, 0), ([99, 97, 108, 108], false, 0, 0, 1), ([115, 111, 117, 114, 99, 101], true, 0, 0, 0), ([115, 105, 110, 107], false, 1, 1, 0), ([115, 97, 110, 105, 116, 105, 122, 101], true, 0, 0, 0), ([103, 111, 116, 111], false, 0, 0, 1), ([98, 114, 97, 110, 99, 104], false, 1, 1, 2), ([114, 101, 116, 117, 114, 110], false, 0, 0, 0)]
theorem shp_data : (Rows.laid_flowquery_syntax_shapes : DataW Unit) = .agg (shpT.map dataSh) := by kernel_rfl
theorem shp_cells : shpCells = shpT.flatMap cellsSh := by rfl
theorem one_of_drop {cs : List Value} {i : Nat} {v : Value} (h : (cs.drop i).take 1 = [v]) : cs[i]? = some v := by
  have := congrArg (·[0]?) h
  simpa [List.getElem?_take, List.getElem?_drop] using this
theorem shape_of {enc : TypeId × Value → Unit} {w : World} {base : Nat} {sp : Nat → Bool} {held : Bool} {fuel : Nat} {cs : List Value} {t : Sh} {p : List MemPlace}
    (h : DataW.trod enc Tryz.prog w base sp held fuel 214 cs = some (dataSh t, p)) : cs = cellsSh t := by
  obtain ⟨fs, hu, hfs⟩ := undShape
  obtain ⟨xs, n, -, hx, hl, hxl, hf⟩ := DataW.trod_struct hu h
  rw [cShape] at hl
  have hxs : xs.map (·.1) = [.lit (.string t.1), .lit (.bool t.2.1), .lit (.int .i64 t.2.2.1), .lit (.int .i64 t.2.2.2.1), .lit (.int .i64 t.2.2.2.2)] := by
    have := congrArg Prod.fst hx
    unfold dataSh at this
    simpa using this.symm
  have key : ∀ (i : Nat) (ty off : Nat), [((9 : Nat), 0), (4, 1), (3, 2), (3, 3), (3, 4)][i]? = some (ty, off) → Tryz.prog.cellsOf ty = 1 → ∀ d, (xs.map (·.1))[i]? = some d →
      ∃ q, DataW.trod enc Tryz.prog w base sp held n ty ((cs.drop off).take 1) = some (d, q) := by
    intro i ty off hi hc d hd
    have h1 := congrArg (·[i]?) hfs
    try simp only at h1
    rw [hi, List.getElem?_map] at h1
    obtain ⟨f, hf1, hf2⟩ := Option.map_eq_some_iff.1 h1
    injection hf2 with e1 e2
    have h2 := hf i f (by simpa using hf1)
    rw [e1, e2, hc] at h2
    rw [List.getElem?_map] at hd
    obtain ⟨x, hx1, hx2⟩ := Option.map_eq_some_iff.1 hd
    rw [hx1] at h2
    subst hx2
    exact ⟨x.2, h2⟩
  obtain ⟨q0, k0⟩ := key 0 9 0 rfl cStr _ (by rw [hxs]; rfl)
  obtain ⟨q1, k1⟩ := key 1 4 1 rfl cBool _ (by rw [hxs]; rfl)
  obtain ⟨q2, k2⟩ := key 2 3 2 rfl cInt _ (by rw [hxs]; rfl)
  obtain ⟨q3, k3⟩ := key 3 3 3 rfl cInt _ (by rw [hxs]; rfl)
  obtain ⟨q4, k4⟩ := key 4 3 4 rfl cInt _ (by rw [hxs]; rfl)
  obtain ⟨s, c0, d0, -⟩ := DataW.trod_string Tryz.underlying9 k0
  obtain ⟨bb, c1, d1⟩ := DataW.trod_bool Tryz.underlying4 k1
  obtain ⟨z2, c2, d2, -⟩ := DataW.trod_int Tryz.underlying3 k2
  obtain ⟨z3, c3, d3, -⟩ := DataW.trod_int Tryz.underlying3 k3
  obtain ⟨z4, c4, d4, -⟩ := DataW.trod_int Tryz.underlying3 k4
  have g0 := one_of_drop c0
  have g1 := one_of_drop c1
  have g2 := one_of_drop c2
  have g3 := one_of_drop c3
  have g4 := one_of_drop c4
  simp only [Prod.mk.injEq, DataW.lit.injEq, Lit.string.injEq, Lit.bool.injEq, Lit.int.injEq, true_and] at d0 d1 d2 d3 d4
  have es : s = ⟨t.1.toArray⟩ := ext_list (by simpa using d0.1.symm)
  have hc : cellsSh t = [.string s, .bool bb, .int .i64 z2, .int .i64 z3, .int .i64 z4] := by
    unfold cellsSh
    rw [es, d1.1, d2.1, d3.1, d4.1]
  rw [hc]
  apply List.ext_getElem?
  intro i
  match i with
  | 0 => exact g0
  | 1 => exact g1
  | 2 => exact g2
  | 3 => exact g3
  | 4 => exact g4
  | i + 5 => rw [List.getElem?_eq_none (by omega), List.getElem?_eq_none (by simp)]
theorem cells_of_shp {enc : TypeId × Value → Unit} {w : World} {base : Nat} {sp : Nat → Bool} {held : Bool} {fuel : Nat} {cs : List Value} {p : List MemPlace}
    (h : DataW.trod enc Tryz.prog w base sp held fuel 215 cs = some (.agg (shpT.map dataSh), p)) : cs = shpT.flatMap cellsSh := by
  cases fuel with
  | zero => simp [DataW.trod] at h
  | succ fuel =>
    unfold DataW.trod at h
    rw [undArr] at h
    try simp only at h
    rw [cShape, cArr] at h
    split at h
    · rename_i hl
      obtain ⟨xs, hm, hx⟩ := Option.map_eq_some_iff.1 h
      have hxs : xs.map (·.1) = shpT.map dataSh := by
        have := congrArg Prod.fst hx
        simpa using this
      have hlen : (shpT.flatMap cellsSh).length = 50 := by rw [flat_len (k := 5) (fun _ => rfl)]; rfl
      apply List.ext_getElem?
      intro j
      by_cases hj : j < 50
      · have hi : j / 5 < 10 := by omega
        obtain ⟨b, hb, hf⟩ := Lib.mapM_at hm (j / 5) (j / 5) (by simp [hi])
        have h1 := congrArg (·[j / 5]?) hxs
        simp only [List.getElem?_map, hb, Option.map_some] at h1
        have hti : shpT[j / 5]? = some (shpT[j / 5]'(by show j / 5 < 10; exact hi)) := List.getElem?_eq_getElem _
        rw [hti] at h1
        simp only [Option.map_some, Option.some.injEq] at h1
        obtain ⟨b1, b2⟩ := b
        try simp only at h1
        subst h1
        have hc := shape_of hf
        have hr : j % 5 < 5 := Nat.mod_lt _ (by omega)
        have h2 : (cellsSh (shpT[j / 5]'(by show j / 5 < 10; exact hi)))[j % 5]? = cs[j]? := by
          rw [← hc, List.getElem?_take, List.getElem?_drop, if_pos hr]
          congr 1
          omega
        cases h3 : cs[j]? with
        | none =>
          rw [List.getElem?_eq_none_iff] at h3
          omega
        | some u =>
          rw [h3] at h2
          have := flat_get (f := cellsSh) (k := 5) (fun _ => rfl) shpT hti h2
          rw [show j / 5 * 5 + j % 5 = j by omega] at this
          exact this.symm
      · rw [List.getElem?_eq_none (by omega), List.getElem?_eq_none (by omega)]
    · cases h

theorem wf_u8 {z : Int} (h : (Lit.int .u8 z).wf = true) : 0 ≤ z ∧ z < 256 := by
  have m0 : IntKind.u8.min = 0 := by decide
  have m1 : IntKind.u8.max = 255 := by decide
  simp [Lit.wf] at h
  omega
/-- The rows' list. -/
def listS1 : List (String × DataW Unit) := Rows.graphReachRow.laid
theorem shp_of {W : World} {n1 : String} {d1 : DataW Unit} {rest : List (String × DataW Unit)} (h : laidMet Tryz.prog ((n1, d1) :: rest) W) (hn : n1 = "flowquery/syntax.shapes") (hd : d1 = .agg (shpT.map dataSh)) : Shp W := by
  subst hn; subst hd
  obtain ⟨ps, ⟨g0, t0, cs0, f0, p0, q0, hg0, ht0, hv0, hd0, _, _⟩, _, _⟩ := h
  obtain rfl := Option.some.inj (gShp.symm.trans hg0)
  obtain rfl := Option.some.inj (gShpType.symm.trans ht0)
  have hc := cells_of_shp hd0
  intro j u hu
  rw [shp_cells, ← hc] at hu
  have := World.var?_cell gShp hv0 j
  rw [this]
  simpa using hu
theorem shp1 {W : World} (h : laidMetH Tryz.prog listS1 W) : Shp W := shp_of h rfl shp_data

/-- The heap that the program's own start leaves. -/
noncomputable def door (os : Os) : World := World.doorLaid Tryz.prog 400 os
theorem door_met (os : Os) (args : Array Value) : laidMet Tryz.prog listS1 ((door os).forCall (fun _ _ => 0) ⟨#[], args, []⟩).memory :=
  laidMet_of_run' 8 (by kernel_rfl) (by kernel_rfl)
theorem door_vars (os : Os) (args : Array Value) : ((door os).forCall (fun _ _ => 0) ⟨#[], args, []⟩).variablesRefB Tryz.prog = true := by kernel_rfl
theorem door_rest (os : Os) (args : Array Value) : (((door os).forCall (fun _ _ => 0) ⟨#[], args, []⟩).heap.toList.drop Tryz.prog.globals.size).take ((begin Tryz.prog (fun _ _ => 0) default).world.heap.size - Tryz.prog.globals.size) =
    (begin Tryz.prog (fun _ _ => 0) default).world.heap.toList.drop Tryz.prog.globals.size := by kernel_rfl
end Go.Proofs.YtfapgnbnfhpicaaGreatDoor

namespace Go.Proofs.YtfapgnbnfhpicaaGreatDoor
set_option maxRecDepth 100000
set_option linter.unusedVariables false
open Go.ChangeShapes Go.WideShapes Go.ChangeAt Go.RowKit
def listS4 : List (String × DataW Unit) := Rows.factsCountRow.laid
theorem shp4_of {W : World} {x1 x2 x3 : String × DataW Unit} {n1 : String} {d1 : DataW Unit} {rest : List (String × DataW Unit)} (h : laidMet Tryz.prog (x1 :: x2 :: x3 :: (n1, d1) :: rest) W) (hn : n1 = "flowquery/syntax.shapes") (hd : d1 = .agg (shpT.map dataSh)) : Shp W := by
  subst hn; subst hd
  obtain ⟨ps, hl, _, _⟩ := h
  obtain ⟨_, _, _, _, _, q1, _, _, _, _, hl, _⟩ := hl
  obtain ⟨_, _, _, _, _, q2, _, _, _, _, hl, _⟩ := hl
  obtain ⟨_, _, _, _, _, q3, _, _, _, _, hl, _⟩ := hl
  obtain ⟨g0, t0, cs0, f0, p0, q0, hg0, ht0, hv0, hd0, _, _⟩ := hl
  obtain rfl := Option.some.inj (gShp.symm.trans hg0)
  obtain rfl := Option.some.inj (gShpType.symm.trans ht0)
  have hc := cells_of_shp hd0
  intro j u hu
  rw [shp_cells, ← hc] at hu
  have := World.var?_cell gShp hv0 j
  rw [this]
  simpa using hu
theorem shp4 {W : World} (h : laidMetH Tryz.prog listS4 W) : Shp W := shp4_of h rfl shp_data
theorem door_met4 (os : Os) (args : Array Value) : laidMet Tryz.prog listS4 ((door os).forCall (fun _ _ => 0) ⟨#[], args, []⟩).memory :=
  laidMet_of_run' 8 (by kernel_rfl) (by kernel_rfl)
end Go.Proofs.YtfapgnbnfhpicaaGreatDoor

namespace Go.Proofs.YtfapgnbnfhpicaaGreatDoor.factsCount
set_option maxRecDepth 100000
open Go.ChangeShapes Go.WideShapes Go.ChangeAt Go.RowKit
open Go.ChangeMaps (open_string)
set_option linter.unusedVariables false

theorem reads (os : Os) {H : Type} (enc : TypeId × Value → H) : ∃ places, DataW.whole enc Tryz.prog ((door os).forCall (fun _ _ => 0) ⟨#[], #[.slice none 0 0], []⟩).memory Tryz.f6.params.toList Rows.factsCountSpec.vars false (#[.slice none 0 0] : Array Value).toList 8 = some ([.nil], [], places) :=
  ⟨[], by kernel_rfl⟩

theorem lifted (os : Os) (started : os.Started) (H : Type) (enc : TypeId × Value → H) (F : Stop.Interp) :
    ReturnsInHanded {} Tryz.checked os 6 .any ((OpenSpec.ofChange Rows.factsCountSpec).preRow enc Tryz.prog Tryz.f6 Rows.factsCountRow.domain false Rows.factsCountRow.laid) (((OpenSpec.ofChange Rows.factsCountSpec).at F).post enc Tryz.prog Tryz.f6 false true false false) := by
  obtain ⟨places, hx⟩ := reads os enc
  refine returnsInHanded_of_row (C := Tryz.checked) (s := OpenSpec.ofChange Rows.factsCountSpec) own started (by kernel_rfl) Tryz.func6
    (witness_row_atRef (enc := enc) (C := Tryz.checked) false (door os) #[.slice none 0 0] rfl (door_vars os _) (door_rest os _) (by kernel_rfl)
      (OpenSpec.preRow_of_cond 8 hx (by kernel_rfl) (fun k hk => by cases hk) (by kernel_rfl) (door_met4 os _))) ?_
  intro W base args ds gs before hval0 hW _ _ _ hL hsh _
  have hval : ∀ (j : Nat) t v, Tryz.f6.params[j]? = some t → args[j]? = some v → Value.okWide Tryz.prog W .any base t v := hval0
  have hW' := hW
  obtain ⟨p, q, hA0, hV, rfl, hfz, hnd⟩ := hW
  have hA : DataW.TrodAll enc Tryz.prog W 0 (fun _ => true) true Tryz.f6.params.toList args.toList ds p := hA0
  rw [Tryz.params6] at hA hval
  obtain ⟨v0, vs0, d0, ds0, p0, q0, hargs, rfl, rfl, h0, r0⟩ := trodAll_cons hA
  obtain ⟨rfl, rfl, rfl⟩ := trodAll_nil r0
  obtain rfl : args = #[v0] := by cases args; simp_all
  obtain ⟨rfl, rfl⟩ := trodVars_none hV
  have k0 := h0
  have lt0 : ∀ x ∈ p0, x.block < W.heap.size := by obtain ⟨m, hm⟩ := k0; exact DataW.trod_lt m _ _ _ hm
  obtain ⟨a0, n0, c0, l0, rfl, g0, m0⟩ := open_list (hval 0 22 v0 rfl rfl) h0
  clear hA0 hval0
  refine (lawFct a0 n0 c0 l0 W g0 m0 (shp4 hL)).mono fun e W' ⟨he, bel⟩ => ?_
  subst he
  exact ⟨_, rfl, _, _, _, [], _, [], hW', trodAll_mk1 (shut_bool Tryz.underlying4 _), (trodAll_cons_mk (Below.trod laidOut (by kernel_rfl) (of_decide_eq_true (by kernel_rfl)) k0 bel lt0) trodAll_mk0), rfl, bel.frame _, fun h => by cases h⟩

theorem said : Rows.FactsCountSaid :=
  OpenClaim.holds_of_cond 6 Tryz.f6 rfl rfl rfl rfl rfl rfl rfl ⟨rfl, rfl, rfl, rfl, rfl⟩ rfl rfl rfl rfl rfl (by kernel_rfl) Tryz.func6 (by kernel_rfl)
    (of_decide_eq_true (by kernel_rfl)) (by unfold Func.isWrapper; first | (rw [if_pos (by decide +kernel)]; kernel_rfl) | (rw [if_neg (by decide +kernel)]; exact ⟨rfl, rfl⟩))
    (fun os started H enc _ F => by rw [OpenClaim.pre_eq_preRow]; exact lifted os started H enc F)

theorem plain (f : FuncId) (fn : Func) (hf : Tryz.pinned.checked.prog.funcNamed "flowquery/flqlaw9.FactsCount" = some f) (hfn : Tryz.pinned.checked.prog.funcs[f]? = some fn) :
    false = Tryz.pinned.checked.prog.looks [] ∧ ∀ (j : Nat) t, fn.params[j]? = some t → Tryz.pinned.checked.prog.wantsStandIn t = false := by
  obtain rfl : f = 6 := Option.some.inj ((show Tryz.prog.funcNamed "flowquery/flqlaw9.FactsCount" = some 6 by kernel_rfl).symm.trans hf) |>.symm
  obtain rfl : fn = Tryz.f6 := (Option.some.inj (Tryz.func6.symm.trans hfn)).symm
  refine ⟨by kernel_rfl, fun j t ht => ?_⟩
  rw [Tryz.params6] at ht
  have hm : t ∈ [22] := by simpa using Array.mem_of_getElem? ht
  have hall : ([22].all fun u => !Tryz.prog.wantsStandIn u) = true := by kernel_rfl
  exact (show Tryz.prog.wantsStandIn t = false by simpa using List.all_eq_true.1 hall t hm)

theorem proved : Rows.FactsCountCardSaid :=
  Claim7.holds_tied_plain_at .later [] _ _ _ _ said (fun _ h => by cases h) (by kernel_rfl) (fun _ h => by cases h) factsCount_row_tie rfl ⟨rfl, rfl⟩ (by kernel_rfl) rfl plain (by kernel_rfl)
#print axioms proved
end Go.Proofs.YtfapgnbnfhpicaaGreatDoor.factsCount
