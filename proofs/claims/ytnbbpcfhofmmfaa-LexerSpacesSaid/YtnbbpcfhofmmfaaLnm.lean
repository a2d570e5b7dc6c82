/- The walk of LexerNames: it returns true for every list of choices and every string, and writes new memory only. -/
import Derived.Test.YtnbbpcfhofmmfaaSnl
import Derived.Test.YtnbbpcfhofmmfaaRn
namespace Go.Proofs.Ytnbbpcfhofmmfaa
set_option maxRecDepth 20000
set_option linter.unusedVariables false
open Go.ChangeShapes Go.WideShapes Go.ChangeAt Go.RowKit

def nameD (s : ByteArray) : Bool := decide (0 < s.size) && letB (byt s 0) && decide (s.size ≤ 16) && decide (runL wrdB s 0 = s.size) && !(kws.any fun k => s.data.toList == k)
theorem nameD_eq (s : ByteArray) : nameB s = nameD s := by unfold nameB nameD kwB; rw [toList_data]
theorem kw_names : ∀ x ∈ kwb, nameB x = false ∧ nameB (x ++ ⟨#[95]⟩) = true := by
  intro x hx
  rw [nameD_eq, nameD_eq]
  revert x
  decide +kernel
theorem kwb_small : ∀ x ∈ kwb, x.size ≤ 8 := by decide +kernel

/-- One of a block's strings. -/
theorem pickS {w w1 : World} {g T : Nat} {cs : Array Value} {t b : Nat} (h : Fb w g cs t) (hg : w.grownBy w1 (some T)) (hne : g ≠ T) (hall : ∀ u ∈ cs.toList, ∃ x : ByteArray, u = .string x ∧ x.size ≤ b) {r n : Int} (hn : n = cs.size) (h0 : 0 ≤ r) (h1 : r < n ∨ r = 0) (hpos : 0 < n) :
    ∃ x : ByteArray, w1.cell? ⟨g, r.toNat, none⟩ = some (.string x) ∧ x.size ≤ b := by
  have h' := h.grown hg (by simpa using hne)
  rw [h'.cell]
  have hlt : r.toNat < cs.size := by omega
  rw [Array.getElem?_eq_getElem hlt]
  obtain ⟨x, hx, hb⟩ := hall cs[r.toNat] (by simp)
  exact ⟨x, by rw [hx], hb⟩
theorem Going.lt {w wr : World} {T : Nat} (h : Going w T wr) : T < wr.heap.size := h.1.lt

def namCells : Array Value := #[.string ⟨#[97]⟩, .string ⟨#[90]⟩, .string ⟨#[95]⟩, .string ⟨#[48]⟩, .string ⟨#[102, 117, 110, 99]⟩, .string ⟨#[101, 110, 100]⟩, .string ⟨#[117, 115, 101]⟩, .string ⟨#[99, 97, 108, 108]⟩, .string ⟨#[103, 111, 116, 111]⟩, .string ⟨#[97, 98, 99, 100, 101, 102, 103, 104]⟩, .string ⟨#[45]⟩, .string ⟨#[]⟩]
theorem namCells_all : ∀ u ∈ namCells.toList, ∃ x : ByteArray, u = .string x ∧ x.size ≤ 8 := by
  intro u hu
  simp [namCells] at hu
  rcases hu with rfl | rfl | rfl | rfl | rfl | rfl | rfl | rfl | rfl | rfl | rfl | rfl <;> exact ⟨_, rfl, by decide⟩

set_option maxHeartbeats 1000000 in
theorem lawNames (At : Option Addr) (nt ct : Nat) (zs : List Int) (s : ByteArray) (w : World) (ht : IArg w At nt zs) (hnt : nt ≤ maxLen) (hs : s.size ≤ maxLen) :
    Calls Try.prog 4 #[.slice At nt ct, .string s] w fun e w' => e = .returned (.bool true) ∧ Below w.heap.size w w' := by
  have Hinv := hid (show Going w w.heap.size (w.alloc (.cells #[.slice At nt ct, .int .i64 0] 51)) from ⟨tape_new ht hnt, (Below.refl _ _).alloc (Nat.le_refl _) _, Nat.le_refl _⟩)
  clear ht
  go_enter Try.func4, Try.ntmps4
  go_wp2_with (go_at_call 7; refine (new_any At nt ct _).mono ?_; rintro e w1 ⟨rfl, rfl⟩)
  generalize w.alloc (.cells #[.slice At nt ct, .int .i64 0] 51) = w1 at *
  generalize hT : w.heap.size = T at *
  have HT := hid hT
  clear hT
  go_loopw [6, 7, 8] (fun i _ _ wr => ∃ k : Nat, k ≤ 8 ∧ i = .int .i64 k ∧ Hid (Going w T wr)) (fun i _ _ _ => 8 - (intOf i).toNat)
  case atStart => exact ⟨0, by omega, rfl, Hinv.out⟩
  case round =>
    clear Hinv
    obtain ⟨k, hk, rfl, hG⟩ := hrel
    by_cases hlt : k < 8
    · go_wp2_with fail
      refine (next_any T 4 _ hG.out.1 (by omega)).mono ?_
      rintro e w2 ⟨m, rfl, hm0, hm1, ht2, hg2, -⟩
      have H2 := hid (hG.out.step ht2 hg2)
      obtain ⟨m, rfl⟩ := Int.eq_ofNat_of_zero_le hm0
      have hm4 : m ≤ 4 := by omega
      clear ht2 hg2 hm0 hm1 hG
      go_wp2_with fail
      go_loopw [7, 8] (fun v n wr => ∃ (m : Nat) (x : ByteArray), m ≤ 4 ∧ n = .int .i64 (m : Int) ∧ v = .string x ∧ x.size + 8 * m ≤ 32 ∧ Hid (Going w T wr)) (fun _ n _ => (intOf n).toNat)
      case atStart => exact ⟨m, _, hm4, rfl, rfl, by show ByteArray.size ⟨#[]⟩ + _ ≤ _; simp [ByteArray.size]; omega, H2.out⟩
      case round =>
        clear H2
        obtain ⟨m, x, hm, rfl, rfl, hx, hG⟩ := hrel
        by_cases hpos : 0 < m
        · have Hfb := hid (Fb.new wr namCells 9)
          have H3 := hid (hG.out.alloc (.cells namCells 9))
          have hne := hid (show wr.heap.size ≠ T by have := hG.out.lt; omega)
          go_wp2_with fail
          refine (next_any T 12 _ H3.out.1 (by omega)).mono ?_
          rintro e w3 ⟨r, rfl, hr0, hr1, ht3, hg3, -⟩
          obtain ⟨y, hy, hyb⟩ := pickS Hfb.out hg3 hne.out namCells_all (by rfl) hr0 hr1 (by omega)
          have hr12 : r < 12 := by omega
          have H4 := hid (H3.out.step ht3 hg3)
          have hsz : (x ++ y).size = x.size + y.size := ByteArray.size_append
          have Hsz := hid hsz
          have hsum : x.size + y.size ≤ 9223372036854775807 := by omega
          clear ht3 hg3 Hfb H3 hne hG hsz
          go_wp2
          go_roundw
          case rel => exact ⟨m - 1, x ++ y, by omega, by first | go_num | (congr 1; omega), rfl, by rw [Hsz.out]; omega, H4⟩
          case measure => simp [intOf]; omega
        · obtain rfl : m = 0 := by omega
          have hxl : x.size ≤ maxLen := by unfold maxLen; omega
          have t : ∀ b : Bool, (b != b) = false := by simp
          clear hpos
          go_wp2_with fail
          refine (devIsName_any x _ hxl).mono ?_
          rintro e w3 ⟨rfl, rfl⟩
          go_wp2_with fail
          refine (refIsName_any x _ hxl).mono ?_
          rintro e w3 ⟨rfl, hb3⟩
          have H3 := hid (hG.out.below hb3)
          generalize nameB x = b
          clear hb3 hG
          go_wp2
          go_roundw
          case rel => exact ⟨k + 1, by omega, by go_num, H3⟩
          case measure => simp [intOf]; omega
    · go_wp2_with fail
      refine (keywords_any _).mono ?_
      rintro e w2 ⟨rfl, rfl⟩
      have hfb := Fb.new wr kwc 9
      have hbl := (hG.out.alloc (.cells kwc 9)).2.1
      generalize wr.alloc (.cells kwc 9) = w2 at *
      generalize wr.heap.size = g at *
      have Hfb := hid hfb; have Hbl := hid hbl
      clear hfb hbl hG
      go_wp2_with fail
      go_loopw [10] (fun i wr => ∃ j : Nat, j ≤ 11 ∧ i = .int .i64 j ∧ Hid (Below w.heap.size w wr ∧ Fb wr g kwc 9)) (fun i _ => 11 - (intOf i).toNat)
      case atStart => exact ⟨0, by omega, rfl, Hbl.out, Hfb.out⟩
      case round =>
        clear Hfb Hbl
        obtain ⟨j, hj, rfl, hI⟩ := hrel
        by_cases hlj : j < 11
        · have hc : wr.cell? ⟨g, j, none⟩ = some (.string (kwb[j]'(by rw [kwb_len]; exact hlj))) := by rw [hI.out.2.cell]; exact kwc_get _
          have hmem : (kwb[j]'(by rw [kwb_len]; exact hlj)) ∈ kwb := List.getElem_mem _
          generalize (kwb[j]'(by rw [kwb_len]; exact hlj)) = x at hc hmem
          have hn1 := (kw_names x hmem).1
          have hn2 := (kw_names x hmem).2
          have hx8 := kwb_small x hmem
          have Hn1 := hid hn1; have Hn2 := hid hn2
          have hsz : (x ++ ⟨#[95]⟩).size = x.size + 1 := ByteArray.size_append
          have Hxm := hid (show (x ++ (⟨#[95]⟩ : ByteArray)).size ≤ maxLen by rw [hsz]; unfold maxLen; omega)
          have hsum : x.size + (⟨#[95]⟩ : ByteArray).size ≤ 9223372036854775807 := by show x.size + 1 ≤ _; omega
          clear hmem hn1 hn2 hsz
          go_wp2_with fail
          refine (devIsName_any x _ (by unfold maxLen; omega)).mono ?_
          rw [Hn1.out]
          rintro e w' ⟨rfl, rfl⟩
          go_wp2_with fail
          refine (devIsName_any _ _ Hxm.out).mono ?_
          rw [Hn2.out]
          rintro e w' ⟨rfl, rfl⟩
          go_wp2
          go_roundw
          case rel => exact ⟨j + 1, by omega, by go_num, hI⟩
          case measure => simp [intOf]; omega
        · have t : ∀ b : Bool, (b == b) = true := by simp
          go_wp2_with fail
          refine (devIsName_any s _ hs).mono ?_
          rintro e w3 ⟨rfl, rfl⟩
          go_wp2_with fail
          refine (refIsName_any s _ hs).mono ?_
          rintro e w3 ⟨rfl, hb3⟩
          have H3 := hid (below_step hI.out.1 hb3)
          generalize nameB s = b
          clear hb3
          go_wp2_with fail
          refine (sane_any _).mono ?_
          rintro e w4 ⟨rfl, hb4⟩
          have H4 := hid (below_step H3.out hb4)
          clear hb4
          go_wp2
          go_ret
          exact ⟨rfl, H4.out⟩
end Go.Proofs.Ytnbbpcfhofmmfaa
