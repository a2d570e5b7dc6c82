/- The package's Text: the text of a set. -/
import Derived.Test.YtljdjidpbblbbaaDoorShelf
import Derived.Test.YtljdjidpbblbbaaDoorText
import Derived.Test.YtljdjidpbblbbaaDoorDWout
namespace Go.Proofs.YtljdjidpbblbbaaDoor
set_option maxRecDepth 20000
open Go.ChangeShapes Go.WideShapes Go.ChangeAt Go.RowKit Go.Sort

/-- The table of powers of ten that Itoa reads holds what the text of the program lays there. -/
def Tab (w : World) : Prop := Lib.TabIs Tryd.prog w "internal/strconv.uint64pow10" .u64 Lib.pow10Tab
theorem gTab : Tryd.prog.globalNamed "internal/strconv.uint64pow10" = some 3 := by kernel_rfl
theorem Tab.lt {w : World} (h : Tab w) : 3 < w.heap.size :=
  World.block_lt_of_cell? w _ (Lib.TabIs.cell h gTab 0 (by decide))
theorem Tab.below {B : Nat} {w w' : World} (h : Tab w) (hb : Below B w w') (hB : 3 < B) : Tab w' := var?_below hb gTab hB h
theorem Tab.step {w w' : World} (h : Tab w) (hb : Below w.heap.size w w') : Tab w' := h.below hb h.lt

/-- What the numerals of the numbers below W want of the world. -/
def Digs (W : Int) (w : World) : Prop := W < 100 ∨ Tab w
theorem Digs.step {W : Int} {w w' : World} (h : Digs W w) (hb : Below w.heap.size w w') : Digs W w' := h.imp id fun h => h.step hb

theorem decDigits_dec (n : Nat) : Lib.decDigits n = dec n := by
  induction n using Nat.strongRecOn with
  | ind n ih =>
    rw [Lib.decDigits, dec]
    split
    · rfl
    · rw [ih (n / 10) (by omega)]
theorem below_grow {B : Nat} {w : World} (hB : B ≤ w.heap.size) (os : Array Obj) : Below B w (grow w os) :=
  ⟨rfl, rfl, rfl, by simp [grow], fun k hk => by simp only [grow]; exact Array.getElem?_append_left (by omega)⟩

theorem itoa_any (n : Nat) (W : Int) (w : World) (hn : (n : Int) ≤ W) (hW : W ≤ 256) (hT : Digs W w) :
    Calls Tryd.prog 60 #[.int .i64 n] w fun e w' => e = .returned (str (dec n)) ∧ Below w.heap.size w w' := by
  rcases hT with h | h
  · refine (Tryd.strconv_Itoa_small n (by omega) w).mono ?_
    rintro e w' ⟨rfl, rfl⟩
    exact ⟨by rw [decDigits_dec]; rfl, Below.refl _ _⟩
  · refine (Tryd.strconv_Itoa n (by omega) (by omega) w h).mono ?_
    rintro e w' ⟨rfl, k, os, rfl⟩
    refine ⟨?_, (below_drewN (Below.refl _ _) k).trans (below_grow (by simp) os)⟩
    unfold Lib.itoa
    rw [if_neg (by omega), Int.toNat_natCast, decDigits_dec]; rfl

def nums (l : List Int) : List (List UInt8) := l.map fun x => dec x.toNat
def strs (l : List Int) : List Value := l.map fun x => str (dec x.toNat)
theorem strs_snoc (l : List Int) (x : Int) : strs (l ++ [x]) = strs l ++ [str (dec x.toNat)] := by simp [strs]

/-- The numbers joined with commas. -/
theorem join_snoc (L : List (List UInt8)) (x : List UInt8) (sep : List UInt8) : Lib.join (L ++ [x]) sep = (if L = [] then x else Lib.join L sep ++ sep ++ x) := by
  cases L with
  | nil => simp [Lib.join_one]
  | cons y r =>
    rw [List.cons_append, Lib.join_cons, if_neg (by simp), Lib.join_cons]
    simp [Lib.joinTail]
theorem joinTo_eq (l : List Int) (k : Nat) (h : k ≤ l.length) : joinTo l k = Lib.join (nums (l.take k)) [44] := by
  induction k with
  | zero => simp [joinTo, nums, Lib.join_nil]
  | succ k ih =>
    have e : l.take (k + 1) = l.take k ++ [l.getD k 0] := by
      rw [take_snoc l k (by omega), List.getD_eq_getElem?_getD, List.getElem?_eq_getElem (by omega)]; rfl
    rw [e]
    unfold nums
    rw [List.map_append, List.map_cons, List.map_nil, join_snoc]
    unfold joinTo
    rw [ih (by omega)]
    by_cases hk : 0 < k
    · rw [if_pos hk, if_neg]
      · rfl
      · intro h0
        have := congrArg List.length h0
        rw [List.length_map, List.length_take, List.length_nil] at this
        omega
    · have : k = 0 := by omega
      subst this
      simp [nums, Lib.join_nil]
theorem info9 : (Tryd.prog.info? 9).map (fun i => (i.zero, i.size, i.bytes)) = some (some (.string ⟨#[]⟩), 1, 16) := by kernel_rfl

theorem dText_bad (W : Int) (A : Option Addr) (n c : Nat) (ws : List Nat) (w : World) (hA : Arg w A n ws) (h : Bs.validB W ws = false) :
    Calls Tryd.prog 27 #[.agg #[.int .i64 W, .slice A n c]] w fun e w' => e = .returned (str (textB W ws)) ∧ Below w.heap.size w w' := by
  have hr : textB W ws = [] := by unfold textB; rw [h]; rfl
  rw [hr]
  have HA := hid hA; have H := hid h
  clear hA h hr
  go_enter Tryd.func27, Tryd.ntmps27
  go_wp2_with (go_at_call 39; refine (devValid_any W A n c ws _ (HA.out.alloc _)).mono ?_; rw [H.out]; rintro e w1 ⟨rfl, hbl⟩; have Hbl := hid hbl; clear hbl)
  go_ret
  exact ⟨rfl, ((Below.refl _ _).alloc (Nat.le_refl _) _).trans (Hbl.out.mono (by simp))⟩

theorem below_on {W a b : World} (h : Below W.heap.size W a) (hb : Below a.heap.size a b) : Below W.heap.size W b := h.trans (hb.mono h.size)
/-- The numerals as far as they have been gathered. -/
def Strung (w2 : World) (v : Value) (l : List Int) (wr : World) : Prop :=
  wr.ownsRow w2.heap.size 9 1 v l.length (strs l) ∧ Below w2.heap.size w2 wr
theorem Strung.below {w2 wr w' : World} {v : Value} {l : List Int} (h : Strung w2 v l wr) (hb : Below wr.heap.size wr w') : Strung w2 v l w' :=
  ⟨own_below h.1 hb, h.2.trans (hb.mono h.2.size)⟩
theorem Strung.push {w2 wr w' : World} {v v' : Value} {l : List Int} {x : Int} {o : Obj} (h : Strung w2 v l wr) (ho : w'.ownsRow w2.heap.size 9 1 v' (l.length + 1) (strs l ++ [str (dec x.toNat)])) (hg : (wr.alloc o).grownBy w' v.ownBlock) : Strung w2 v' (l ++ [x]) w' := by
  have hs := h.2.size
  refine ⟨?_, (h.2.alloc hs o).grown hg (by rw [World.size_alloc]; omega) (fun k hk => by have := h.1.lt k hk; omega)⟩
  rw [strs_snoc, List.length_append]; exact ho

set_option maxHeartbeats 1600000 in
theorem dText_in (W : Nat) (A : Option Addr) (n c : Nat) (ws : List Nat) (w : World) (hA : Arg w A n ws) (h : Bs.validB W ws = true) (hT : Digs W w) :
    Calls Tryd.prog 27 #[.agg #[.int .i64 W, .slice A n c]] w fun e w' => e = .returned (str (textB W ws)) ∧ Below w.heap.size w w' := by
  have hW : W ≤ 256 := by have := (Bs.validB_iff.1 h).2.1; omega
  have hr : textB (W : Int) ws = joinTo (memsTo ws W) (memsTo ws W).length ++ [47] ++ dec W := by unfold textB; rw [if_pos h, Int.toNat_natCast]
  have hmb : memsB (W : Int) ws = memsTo ws W := by unfold memsB; rw [if_pos h, Int.toNat_natCast]
  rw [hr]
  have hrng := memsTo_range ws W
  have hlenm := memsTo_len ws W
  generalize memsTo ws W = l at *
  obtain ⟨i0, hi, hz0, hz1, hz2⟩ := info_parts info9
  have HA := hid hA; have H := hid h; have Hmb := hid hmb; have Hrng := hid hrng; have HT := hid hT; have Hi := hid hi; have Hz0 := hid hz0; have Hz1 := hid hz1; have Hz2 := hid hz2
  clear hA h hr hmb hrng hT hi hz0 hz1 hz2
  have hx := Box.new w (W : Int) A n c
  have Hx := hid hx
  have Hb0 := hid ((Below.refl w.heap.size w).alloc (Nat.le_refl _) (.cells #[.int .i64 W, .slice A n c] 25))
  clear hx
  go_enter Tryd.func27, Tryd.ntmps27
  go_wp2_with fail
  refine (devValid_any W A n c ws _ (HA.out.below Hb0.out)).mono ?_
  rw [H.out]
  rintro e w1 ⟨rfl, hb⟩
  have Hx1 := hid (Hx.out.below hb (by simp))
  have Hb1 := hid (Hb0.out.trans (hb.mono (by simp)))
  have hc0 := Hx1.out.c0
  have hc1 := Hx1.out.c1
  have hz1 := Hx1.out.lt
  clear hb
  go_wp2_with fail
  refine (devMembers_any W A n c ws _ (HA.out.below Hb1.out)).mono ?_
  rw [Hmb.out]
  rintro e w2 ⟨A2, n2, c2, rfl, ha2, hb⟩
  have Hx2 := hid (Hx1.out.below hb hz1)
  have Hb2 := hid (Hb1.out.trans (hb.mono Hb1.out.size))
  have Ha2 := hid ha2
  have hl2 := ha2.len
  have Hl2 := hid hl2
  have hn2 : n2 ≤ 256 := by omega
  have hc0' := Hx2.out.c0
  have HT2 := hid (HT.out.step Hb2.out)
  have Hinv := hid (show Strung w2 (.slice none 0 0) (l.take 0) w2 from ⟨World.ownsRow_nil _ _ _ _, Below.refl _ _⟩)
  clear hb ha2 hl2 hc0 hc1
  go_wp2_with fail
  go_loopw [3, 5, 12] (fun v _ i wr => ∃ k : Nat, k ≤ n2 ∧ i = .int .i64 k ∧ Hid (Strung w2 v (l.take k) wr)) (fun _ _ i _ => n2 - (intOf i).toNat)
  case atStart => exact ⟨0, by omega, rfl, Hinv⟩
  case round =>
    obtain ⟨k, hk, rfl, hG⟩ := hrel
    clear Hinv
    by_cases hlt : k < n2
    · have hkl : k < l.length := by rw [Hl2.out]; exact hlt
      obtain ⟨ad, rfl, had, hcell⟩ := (Ha2.out.below hG.out.2).lies.cell (ints_get hkl)
      have hsn := take_snoc l k hkl
      have hxl : l.getD k 0 = l[k] := by rw [List.getD_eq_getElem?_getD, List.getElem?_eq_getElem hkl]; rfl
      have hrg := Hrng.out _ (List.getElem_mem hkl)
      rw [← hxl] at hsn hrg
      generalize l.getD k 0 = x0 at hcell hsn hrg
      obtain ⟨x, rfl⟩ := Int.eq_ofNat_of_zero_le hrg.1
      have Hsn := hid hsn
      have hln : (l.take k).length = k := by rw [List.length_take]; omega
      obtain ⟨sx, hsx⟩ : ∃ sx, str (dec x) = .string sx := ⟨_, rfl⟩
      have Hsx := hid hsx
      clear hsn hxl hsx
      have hk0 : (0 : Int) ≤ k := by omega
      have hkn : (k : Int).toNat = k := by omega
      have hk1 : (k : Int) < n2 := by omega
      go_wp2_with (first
        | (go_at_call 60
           refine (itoa_any x W _ (by omega) (by omega) (HT2.out.step hG.out.2)).mono ?_
           rw [Hsx.out]
           rintro e w4 ⟨rfl, hb4⟩
           have hG4 := hid (hG.out.below hb4)
           clear hb4)
        | (at_builtin
           go_must (
           refine wpList_append_own _ rfl _ _ 51 rfl w2.heap.size 9 i0 (.string ⟨#[]⟩) 1 16 Tryd.underlying51 Hi.out Hz0.out Hz1.out Hz2.out rfl (by decide) _ _ _ rfl (hG4.out.1.alloc _) ⟨w4.heap.size, 0, none⟩ 1 1 [.string sx] rfl rfl (new_one _ _ _) (by intro u hu; simp at hu; subst hu; rfl) (by unfold maxLen; omega) (by omega) (by have := hG4.out.2.size; rw [World.size_alloc]; omega) ?_
           intro v' w5 hown5 hgr5 hnil5
           have hG5 := hid (hG4.out.push (x := (x : Int)) (by rw [show str (dec (x : Int).toNat) = .string sx from Hsx.out]; exact hown5) hgr5)
           clear hown5 hgr5 hnil5)))
      go_roundw
      case rel => exact ⟨k + 1, by omega, by go_num, by rw [Hsn.out]; exact hG5⟩
      case measure => simp [intOf]; omega
    · have hk2 : k = l.length := by rw [Hl2.out]; omega
      have hG2 : Strung w2 u3 l wr := by have := hG.out; rwa [hk2, List.take_length] at this
      have hb3 : Below w.heap.size w wr := Hb2.out.trans (hG2.2.mono Hb2.out.size)
      have hcw : wr.cell? ⟨w.heap.size, 0, none⟩ = some (.int .i64 W) := (hG2.2.cell (p := ⟨w.heap.size, 0, none⟩) Hx2.out.lt).trans hc0'
      have hjn : ∀ w', Below wr.heap.size wr w' → Calls Tryd.prog 61 #[u3, .string ⟨#[44]⟩] w' fun e w'' => e = .returned (str (joinTo l l.length)) ∧ Below w'.heap.size w' w'' := fun w' hb' => by
        have ho := own_below hG2.1 hb'
        rcases ho.2 with ⟨rfl, h0⟩ | ⟨g, cap, cur, rfl, hge, _⟩
        · have : l = [] := List.length_eq_zero_iff.1 h0
          subst this
          refine (Tryd.strings_Join_none none 0 ⟨#[44]⟩ w').mono ?_
          rintro e w'' ⟨rfl, rfl⟩
          exact ⟨rfl, Below.refl _ _⟩
        · have hlen := joinTo_len l (fun x hx => by have := Hrng.out x hx; omega) l.length (Nat.le_refl _)
          rw [joinTo_eq l l.length (Nat.le_refl _), List.take_length] at hlen ⊢
          have hmap : (l.map fun x => (⟨(dec x.toNat).toArray⟩ : ByteArray)).map (·.data.toList) = nums l := by simp [nums, Function.comp_def]
          have hj := Tryd.strings_Join g 0 cap (l.map fun x => (⟨(dec x.toNat).toArray⟩ : ByteArray)) ⟨#[44]⟩ w' (fun j x hx => by
            rw [List.getElem?_map] at hx
            obtain ⟨y, hy, rfl⟩ := Option.map_eq_some_iff.1 hx
            have := ho.cells rfl j (str (dec y.toNat)) (by unfold strs; rw [List.getElem?_map, hy]; rfl)
            rw [add_of] at this
            rwa [Nat.zero_add]) (ho.lt g rfl).2 (by rw [List.length_map]; omega) (by rw [List.length_map]; omega) (by rw [hmap]; exact Nat.le_trans hlen (by omega))
          rw [hmap, List.length_map] at hj
          exact hj
      have Hjn := hid hjn; have Hb3 := hid hb3; have HT3 := hid (HT2.out.step hG2.2)
      have Hcw := hid hcw
      have Hk : Hid (∀ w', Below wr.heap.size wr w' → w'.cell? ⟨w.heap.size, 0, none⟩ = some (.int .i64 W)) := hid fun w' hb' => (hb'.cell (p := ⟨w.heap.size, 0, none⟩) (by have := hb3.size; have := Hx2.out.lt; have := hG2.2.size; show w.heap.size < _; omega)).trans Hcw.out
      have hjl := joinTo_len l (fun x hx => by have := Hrng.out x hx; omega) l.length (Nat.le_refl _)
      have hdl := dec_len W
      have ha1 := fun w => add_str (joinTo l l.length) [47] (by simp; omega) w
      have ha2 := fun w => add_str (joinTo l l.length ++ [47]) (dec W) (by simp; omega) w
      have ha1' : ∀ w, (binOp BinOp.add 9 (str (joinTo l l.length)) (.string { data := #[47] })).run Tryd.prog w = .ok (str (joinTo l l.length ++ [47])) w := ha1
      clear hjn hb3 hG2 hG hcw hk2 ha1 hjl hdl hc0' Hb0 Hx Hx1 Hb1 HT HT2 Hx2 Hb2 Ha2 Hl2 Hrng Hmb H HA Hi Hz0 Hz1 Hz2
      generalize hj0 : joinTo l l.length = j0 at *
      generalize hj1 : j0 ++ [47] = j1 at *
      generalize hj2 : dec W = dx at *
      generalize hj3 : j1 ++ dx = j3 at *
      have Hj0 := hid hj0; have Hj1 := hid hj1; have Hj2 := hid hj2; have Hj3 := hid hj3
      clear hj0 hj1 hj2 hj3
      go_wp2_with fail
      go_region_held3 (fun w' => Below wr.heap.size wr w' ∧ w'.cell? ⟨w.heap.size, 0, none⟩ = some (.int .i64 W))
        (first | exact ⟨(Below.refl _ _).drew, Hk.out _ (Below.refl _ _).drew⟩ | assumption)
        (first
          | (go_at_call 61
             go_must (
             go_split_ands
             refine (Hjn.out _ (by assumption)).mono ?_
             rintro e wn ⟨rfl, hbk⟩
             have hcur := below_on (W := wr) (by assumption) hbk
             have hS : Below wr.heap.size wr wn ∧ wn.cell? ⟨w.heap.size, 0, none⟩ = some (.int .i64 W) := ⟨hcur, Hk.out _ hcur⟩
             clear hbk))
          | (go_at_call 60
             go_must (
             go_split_ands
             refine (itoa_any W W _ (Int.le_refl _) (by omega) (HT3.out.step (by assumption))).mono ?_
             rw [Hj2.out]
             rintro e wn ⟨rfl, hbk⟩
             have hcur := below_on (W := wr) (by assumption) hbk
             have hS : Below wr.heap.size wr wn ∧ wn.cell? ⟨w.heap.size, 0, none⟩ = some (.int .i64 W) := ⟨hcur, Hk.out _ hcur⟩
             clear hbk)))
      go_wp2_with fail
      go_ret
      refine ⟨?_, Hb3.out.trans (hcur.mono Hb3.out.size)⟩
      rw [← Hj3.out, ← Hj1.out, ← Hj0.out, ← Hj2.out]
      rfl

theorem devText_any (W : Int) (A : Option Addr) (n c : Nat) (ws : List Nat) (w : World) (hA : Arg w A n ws) (hT : Digs W w) :
    Calls Tryd.prog 27 #[.agg #[.int .i64 W, .slice A n c]] w fun e w' => e = .returned (str (textB W ws)) ∧ Below w.heap.size w w' := by
  cases h : Bs.validB W ws with
  | false => exact dText_bad W A n c ws w hA h
  | true =>
    obtain ⟨v, rfl⟩ := Int.eq_ofNat_of_zero_le (Bs.validB_iff.1 h).1
    exact dText_in v A n c ws w hA h hT
end Go.Proofs.YtljdjidpbblbbaaDoor
