/- The reference's Decimal returns the decimal digits of a number, and Text the text of a set. -/
import Derived.Test.YtljdjidpbblbbaaDoorSpoil
namespace Go.Proofs.YtljdjidpbblbbaaDoor
set_option maxRecDepth 10000
open Go.ChangeShapes Go.WideShapes Go.ChangeAt Go.RowKit

/-- The decimal digits of a number, as bytes. -/
def dec (n : Nat) : List UInt8 := if h : n < 10 then [UInt8.ofNat (48 + n)] else dec (n / 10) ++ [UInt8.ofNat (48 + n % 10)]
termination_by n
decreasing_by omega

def str (l : List UInt8) : Value := .string ⟨l.toArray⟩
theorem add_str (a b : List UInt8) (h : a.length + b.length ≤ 4611686018427387904) (w : World) : (binOp BinOp.add 9 (str a) (str b)).run Tryd.prog w = .ok (str (a ++ b)) w := by
  unfold str
  simp [go_sem]
  rw [if_neg (by omega)]
  congr 3
theorem dec_len (n : Nat) : (dec n).length ≤ n + 1 := by
  induction n using Nat.strongRecOn with
  | ind n ih =>
    unfold dec
    split
    · simp
    · have := ih (n / 10) (by omega)
      rw [List.length_append]; simp; omega

theorem slice_digit (d : Int) (h0 : 0 ≤ d) (h1 : d < 10) (w : World) :
    (Instr.slice 9 (.string { data := #[48, 49, 50, 51, 52, 53, 54, 55, 56, 57] }) (some (.int .i64 d)) (some (.int .i64 (d + 1))) none).run Tryd.prog w = .ok (str [UInt8.ofNat (48 + d.toNat)]) w := by
  have : d = 0 ∨ d = 1 ∨ d = 2 ∨ d = 3 ∨ d = 4 ∨ d = 5 ∨ d = 6 ∨ d = 7 ∨ d = 8 ∨ d = 9 := by omega
  rcases this with rfl | rfl | rfl | rfl | rfl | rfl | rfl | rfl | rfl | rfl <;> rfl

theorem decimal_any (n : Nat) (w : World) (hn : n ≤ 1000000000) :
    Calls Tryd.prog 63 #[.int .i64 n] w fun e w' => e = .returned (str (dec n)) ∧ w = w' := by
  have hs := fun w => slice_digit ((n : Int) % 10) (by omega) (by omega) w
  have hd : ((n : Int) % 10).toNat = n % 10 := by omega
  generalize hl : [UInt8.ofNat (48 + ((n : Int) % 10).toNat)] = l0 at hs
  have Hl := hid hl
  have Hd := hid hd
  clear hl hd
  go_enter Tryd.func63, Tryd.ntmps63
  go_wp2_with fail
  clear hs
  go_loop [0, 3] (fun m s => ∃ (k : Nat) (l : List UInt8), k ≤ 1000000000 ∧ m = .int .i64 k ∧ s = str l ∧ Hid (dec n = (if k = 0 then [] else dec k) ++ l)) (fun m _ => (intOf m).toNat)
  case atStart =>
    refine ⟨n / 10, l0, by omega, by go_num, rfl, hid ?_⟩
    rw [← Hl.out, Hd.out]
    by_cases h : n < 10
    · have : n / 10 = 0 := by omega
      rw [if_pos this]; unfold dec; rw [dif_pos h]; simp; congr 2; omega
    · rw [if_neg (by omega)]; conv => lhs; unfold dec
      rw [dif_neg h]
  case round =>
    obtain ⟨k, l, hk, rfl, rfl, hD⟩ := hrel
    by_cases h0 : 0 < k
    · have hs := fun w => slice_digit ((k : Int) % 10) (by omega) (by omega) w
      have hd : ((k : Int) % 10).toNat = k % 10 := by omega
      have hlen := dec_len n
      have hll : (dec n).length = (if k = 0 then [] else dec k).length + l.length := by rw [hD.out, List.length_append]
      generalize hl : [UInt8.ofNat (48 + ((k : Int) % 10).toNat)] = l1 at hs
      have hl1 : l1.length = 1 := by rw [← hl]; rfl
      have ha := fun w => add_str l1 l (by omega) w
      have Hl := hid hl
      have Hd := hid hd
      clear hl hd hlen hll hl1
      go_wp2_with fail
      go_round
      case rel =>
        refine ⟨k / 10, l1 ++ l, by omega, by go_num, rfl, hid ?_⟩
        rw [hD.out, if_neg (by omega), ← Hl.out, Hd.out, ← List.append_assoc]
        congr 1
        by_cases h : k < 10
        · have : k / 10 = 0 := by omega
          rw [if_pos this]; unfold dec; rw [dif_pos h]; simp; congr 2; omega
        · rw [if_neg (by omega)]; conv => lhs; unfold dec
          rw [dif_neg h]
      case measure => simp [intOf]; omega
    · go_wp2_with fail
      go_ret
      refine ⟨?_, rfl⟩
      have h1 : k = 0 := by omega
      rw [hD.out, if_pos h1]; rfl

/-- The first i numbers of a list in decimal digits, separated by commas. -/
def joinTo (l : List Int) : Nat → List UInt8
  | 0 => []
  | i + 1 => (if 0 < i then joinTo l i ++ [44] else joinTo l i) ++ dec (l.getD i 0).toNat
/-- P2.6: the text of a set. -/
def textB (W : Int) (ws : List Nat) : List UInt8 :=
  if Bs.validB W ws then joinTo (memsTo ws W.toNat) (memsTo ws W.toNat).length ++ [47] ++ dec W.toNat else []
theorem memsTo_range (ws : List Nat) (k : Nat) : ∀ x ∈ memsTo ws k, 0 ≤ x ∧ x < k := by
  induction k with
  | zero => simp [memsTo]
  | succ k ih =>
    intro x hx
    unfold memsTo at hx
    split at hx
    · rcases List.mem_append.1 hx with h | h
      · have := ih x h; omega
      · simp at h; omega
    · have := ih x hx; omega
theorem joinTo_len (l : List Int) (h : ∀ x ∈ l, 0 ≤ x ∧ x < 257) (i : Nat) (hi : i ≤ l.length) : (joinTo l i).length ≤ 300 * i := by
  induction i with
  | zero => simp [joinTo]
  | succ i ih =>
    have h1 := ih (by omega)
    have hm : l.getD i 0 ∈ l := by
      rw [List.getD_eq_getElem?_getD, List.getElem?_eq_getElem (by omega)]; exact List.getElem_mem _
    have h2 := h _ hm
    have h3 := dec_len (l.getD i 0).toNat
    unfold joinTo
    rw [List.length_append]
    split
    · simp only [List.length_append, List.length_singleton]; omega
    · omega

theorem text_bad (W : Int) (A : Option Addr) (n c : Nat) (ws : List Nat) (w : World) (hA : Arg w A n ws) (h : Bs.validB W ws = false) :
    Calls Tryd.prog 30 #[.agg #[.int .i64 W, .slice A n c]] w fun e w' => e = .returned (str (textB W ws)) ∧ Below w.heap.size w w' := by
  have hr : textB W ws = [] := by unfold textB; rw [h]; rfl
  rw [hr]
  have HA := hid hA; have H := hid h
  clear hA h hr
  go_enter Tryd.func30, Tryd.ntmps30
  go_wp2_with (go_at_call 21; refine (refValid_any W A n c ws _ (HA.out.alloc _).lies HA.out.ok HA.out.len).mono ?_; rw [H.out]; rintro e w1 ⟨rfl, hbl⟩; have Hbl := hid hbl; clear hbl)
  go_ret
  exact ⟨rfl, ((Below.refl _ _).alloc (Nat.le_refl _) _).trans (Hbl.out.mono (by simp))⟩

set_option maxHeartbeats 800000 in
theorem text_in (W : Nat) (A : Option Addr) (n c : Nat) (ws : List Nat) (w : World) (hA : Arg w A n ws) (h : Bs.validB W ws = true) :
    Calls Tryd.prog 30 #[.agg #[.int .i64 W, .slice A n c]] w fun e w' => e = .returned (str (textB W ws)) ∧ Below w.heap.size w w' := by
  have hW : W ≤ 256 := by have := (Bs.validB_iff.1 h).2.1; omega
  have hr : textB (W : Int) ws = joinTo (memsTo ws W) (memsTo ws W).length ++ [47] ++ dec W := by unfold textB; rw [if_pos h, Int.toNat_natCast]
  have hmb : memsB (W : Int) ws = memsTo ws W := by unfold memsB; rw [if_pos h, Int.toNat_natCast]
  rw [hr]
  have hrng := memsTo_range ws W
  have hlenm := memsTo_len ws W
  generalize memsTo ws W = l at *
  have HA := hid hA; have H := hid h; have Hmb := hid hmb; have Hrng := hid hrng
  clear hA h hr hmb hrng
  have hx := Box.new w (W : Int) A n c
  have Hx := hid hx
  have Hb0 := hid ((Below.refl w.heap.size w).alloc (Nat.le_refl _) (.cells #[.int .i64 W, .slice A n c] 25))
  clear hx
  go_enter Tryd.func30, Tryd.ntmps30
  go_wp2_with fail
  refine (refValid_any W A n c ws _ (HA.out.below Hb0.out).lies HA.out.ok HA.out.len).mono ?_
  rw [H.out]
  rintro e w1 ⟨rfl, hb⟩
  have Hx1 := hid (Hx.out.below hb (by simp))
  have Hb1 := hid (Hb0.out.trans (hb.mono (by simp)))
  have hc0 := Hx1.out.c0
  have hc1 := Hx1.out.c1
  have hz1 := Hx1.out.lt
  clear hb
  go_wp2_with fail
  refine (refMembers_any W A n c ws _ (HA.out.below Hb1.out)).mono ?_
  rw [Hmb.out]
  rintro e w2 ⟨A2, n2, c2, rfl, ha2, hb⟩
  have Hx2 := hid (Hx1.out.below hb hz1)
  have Hb2 := hid (Hb1.out.trans (hb.mono Hb1.out.size))
  have Ha2 := hid ha2
  have hl2 := ha2.len
  have Hl2 := hid hl2
  have hn2 : n2 ≤ 256 := by omega
  have hc0' := Hx2.out.c0
  clear hb ha2 hl2 hc0 hc1
  go_wp2_with fail
  go_loop [3, 5] (fun s i => ∃ k : Nat, k ≤ n2 ∧ i = .int .i64 k ∧ s = str (joinTo l k)) (fun _ i => n2 - (intOf i).toNat)
  case atStart => exact ⟨0, by omega, rfl, rfl⟩
  case round =>
    obtain ⟨k, hk, rfl, rfl⟩ := hrel
    have hjl := joinTo_len l (fun x hx => by have := Hrng.out x hx; omega) k (by rw [Hl2.out]; exact hk)
    by_cases hlt : k < n2
    · have hkl : k < l.length := by rw [Hl2.out]; exact hlt
      obtain ⟨ad, rfl, had, hcell⟩ := Ha2.out.lies.cell (ints_get hkl)
      have hm : l.getD k 0 ∈ l := by
        rw [List.getD_eq_getElem?_getD, List.getElem?_eq_getElem hkl]; exact List.getElem_mem _
      have hrg := Hrng.out _ hm
      obtain ⟨x, hx⟩ := Int.eq_ofNat_of_zero_le hrg.1
      have hj : joinTo l (k + 1) = (if 0 < k then joinTo l k ++ [44] else joinTo l k) ++ dec x := by show _ ++ dec (l.getD k 0).toNat = _; rw [hx, Int.toNat_natCast]
      rw [hx] at hcell hrg
      have hdl := dec_len x
      have Hj := hid hj
      clear hm hx hj hkl
      by_cases h0 : 0 < k
      · rw [if_pos h0] at Hj
        have ha1 := fun w => add_str (joinTo l k) [44] (by simp; omega) w
        have ha2 := fun w => add_str (joinTo l k ++ [44]) (dec x) (by simp; omega) w
        have ha1' : ∀ w, (binOp BinOp.add 9 (str (joinTo l k)) (.string { data := #[44] })).run Tryd.prog w = .ok (str (joinTo l k ++ [44])) w := ha1
        generalize joinTo l k = j0 at *
        generalize hj1 : j0 ++ [44] = j1 at *
        generalize hj2 : dec x = dx at *
        generalize hj3 : j1 ++ dx = j3 at *
        have Hj2 := hid hj2
        clear ha1 hj1 hj2 hj3 hdl hjl
        go_wp2_with (go_at_call 63; refine (decimal_any x _ (by omega)).mono ?_; rw [Hj2.out]; rintro e w' ⟨rfl, rfl⟩)
        go_round
        case rel => exact ⟨k + 1, by omega, by go_num, by rw [Hj.out]⟩
        case measure => simp [intOf]; omega
      · rw [if_neg h0] at Hj
        have ha2 := fun w => add_str (joinTo l k) (dec x) (by omega) w
        generalize joinTo l k = j0 at *
        generalize hj2 : dec x = dx at *
        generalize hj3 : j0 ++ dx = j3 at *
        have Hj2 := hid hj2
        clear hj2 hj3 hdl hjl
        go_wp2_with (go_at_call 63; refine (decimal_any x _ (by omega)).mono ?_; rw [Hj2.out]; rintro e w' ⟨rfl, rfl⟩)
        go_round
        case rel => exact ⟨k + 1, by omega, by go_num, by rw [Hj.out]⟩
        case measure => simp [intOf]; omega
    · have hk2 : k = l.length := by rw [Hl2.out]; omega
      have Hk2 := hid hk2
      clear hk2
      have hdl := dec_len W
      have ha1 := fun w => add_str (joinTo l k) [47] (by simp; omega) w
      have ha2 := fun w => add_str (joinTo l k ++ [47]) (dec W) (by simp; omega) w
      have ha1' : ∀ w, (binOp BinOp.add 9 (str (joinTo l k)) (.string { data := #[47] })).run Tryd.prog w = .ok (str (joinTo l k ++ [47])) w := ha1
      generalize hj0 : joinTo l k = j0 at *
      generalize hj1 : j0 ++ [47] = j1 at *
      generalize hj2 : dec W = dx at *
      generalize hj3 : j1 ++ dx = j3 at *
      have Hj0 := hid hj0; have Hj1 := hid hj1; have Hj2 := hid hj2; have Hj3 := hid hj3
      clear ha1 hj0 hj1 hj2 hj3 hdl hjl
      go_wp2_with (go_at_call 63; refine (decimal_any W _ (by omega)).mono ?_; rw [Hj2.out]; rintro e w' ⟨rfl, rfl⟩)
      go_ret
      refine ⟨?_, Hb2.out⟩
      rw [← Hj3.out, ← Hj1.out, ← Hj0.out, Hk2.out, Hj2.out]
      rfl

theorem refText_any (W : Int) (A : Option Addr) (n c : Nat) (ws : List Nat) (w : World) (hA : Arg w A n ws) :
    Calls Tryd.prog 30 #[.agg #[.int .i64 W, .slice A n c]] w fun e w' => e = .returned (str (textB W ws)) ∧ Below w.heap.size w w' := by
  cases h : Bs.validB W ws with
  | false => exact text_bad W A n c ws w hA h
  | true =>
    obtain ⟨v, rfl⟩ := Int.eq_ofNat_of_zero_le (Bs.validB_iff.1 h).1
    exact text_in v A n c ws w hA h
end Go.Proofs.YtljdjidpbblbbaaDoor
