/- The reference's namesOK and Line; the law file's func2 and name. -/
import Derived.Test.YtfapgnbnfhpicaaGreatDoorWds
namespace Go.Proofs.YtfapgnbnfhpicaaGreatDoor
set_option maxRecDepth 20000
set_option linter.unusedVariables false
open Go.ChangeShapes Go.WideShapes Go.ChangeAt Go.RowKit

def namesB (l : List ByteArray) (a b : Int) : Bool := l.all nameB && (decide (a ≤ (l.length : Int)) && decide ((l.length : Int) ≤ b))
set_option maxHeartbeats 800000 in
theorem namesOK_any (A : Option Addr) (n c : Nat) (l : List ByteArray) (a b : Int) (w : World) (hA : SArg w A n l) :
    Calls Tryz.prog 137 #[.slice A n c, .int .i64 a, .int .i64 b] w fun e w' => e = .returned (.bool (namesB l a b)) ∧ Below w.heap.size w w' := by
  have HA := hid hA
  have hn := hA.few
  have HL := hid hA.len
  clear hA
  go_enter Tryz.func137, Tryz.ntmps137
  go_wp2_with fail
  go_loopw [7] (fun iv wr => ∃ k : Nat, k ≤ n ∧ iv = .int .i64 k ∧ Hid ((l.take k).all nameB = true) ∧ Hid (Below w.heap.size w wr)) (fun iv _ => n - (intOf iv).toNat)
  case atStart => exact ⟨0, by omega, rfl, hid rfl, Below.refl _ _⟩
  case round =>
    obtain ⟨k, hk, rfl, hX, hB⟩ := hrel
    by_cases hlt : k < n
    · obtain ⟨ad, rfl, hb, hc, hs⟩ := (HA.out.below hB.out).cell hlt
      have hsm : (l.getD k ByteArray.empty).size ≤ maxLen := by unfold maxLen; omega
      have Hsm := hid hsm
      have hall := hid (show (l.take (k + 1)).all nameB = ((l.take k).all nameB && nameB (l.getD k ByteArray.empty)) by
        have hkl : k < l.length := by rw [HL.out]; exact hlt
        rw [List.take_add_one, List.all_append, List.getElem?_eq_getElem hkl, List.getD_eq_getElem?_getD, List.getElem?_eq_getElem hkl]
        simp)
      have hno := hid (show nameB (l.getD k ByteArray.empty) = false → l.all nameB = false by
        intro h
        have hkl : k < l.length := by rw [HL.out]; exact hlt
        rw [List.all_eq_false]
        refine ⟨l.getD k ByteArray.empty, ?_, by rw [h]; simp⟩
        rw [List.getD_eq_getElem?_getD, List.getElem?_eq_getElem hkl]
        exact List.getElem_mem _)
      generalize l.getD k ByteArray.empty = y at *
      clear hsm
      cases hy : nameB y with
      | true =>
        have HY := hid hy
        clear hy
        go_wp2_with (go_at_call 93; refine (refIsName_any _ _ Hsm.out).mono ?_; rw [HY.out]; rintro e w' ⟨rfl, hb'⟩; have hB' := hid (below_step hB.out hb'); clear hb')
        go_roundw
        case rel => exact ⟨k + 1, by omega, by go_num, hid (by rw [hall.out, hX.out, HY.out]; rfl), hB'⟩
        case measure => simp [intOf]; omega
      | false =>
        have HY := hid hy
        have hF := hid (show namesB l a b = false by unfold namesB; rw [hno.out hy]; rfl)
        clear hy
        go_wp2_with (go_at_call 93; refine (refIsName_any _ _ Hsm.out).mono ?_; rw [HY.out]; rintro e w' ⟨rfl, hb'⟩; have hB' := hid (below_step hB.out hb'); clear hb')
        go_ret
        exact ⟨by rw [hF.out]; rfl, hB'.out⟩
    · obtain rfl : k = n := by omega
      have hR := hid (show namesB l a b = (decide (a ≤ (k : Int)) && decide ((k : Int) ≤ b)) by
        have := hX.out
        rw [← HL.out, List.take_length] at this
        unfold namesB; rw [this, HL.out]; rfl)
      cases h1 : decide (a ≤ (k : Int)) with
      | true =>
        have H1 := hid h1
        cases h2 : decide ((k : Int) ≤ b) with
        | true => 
          have H2 := hid h2
          go_wp2
          go_ret
          exact ⟨by rw [hR.out, H1.out, H2.out]; rfl, hB.out⟩
        | false => 
          have H2 := hid h2
          go_wp2
          go_ret
          exact ⟨by rw [hR.out, H1.out, H2.out]; rfl, hB.out⟩
      | false => 
        have H1 := hid h1
        go_wp2
        go_ret
        exact ⟨by rw [hR.out, H1.out]; rfl, hB.out⟩

def f2 (k : Nat) : ByteArray := if k = 0 then ⟨#[97]⟩ else if k = 1 then ⟨#[98]⟩ else ⟨#[99]⟩
theorem func2_any (k : Nat) (w : World) (hk : k < 3) : Calls Tryz.prog 43 #[.int .i64 (k : Int)] w fun e w' => e = .returned (.string (f2 k)) ∧ Below w.heap.size w w' := by
  have Hf := hid (Fb.new w #[.string ⟨#[97]⟩, .string ⟨#[98]⟩, .string ⟨#[99]⟩] 9)
  have hc : (w.alloc (.cells #[.string ⟨#[97]⟩, .string ⟨#[98]⟩, .string ⟨#[99]⟩] 9)).cell? ⟨w.heap.size, k, none⟩ = some (.string (f2 k)) := by
    rw [Hf.out.cell]
    rcases (by omega : k = 0 ∨ k = 1 ∨ k = 2) with rfl | rfl | rfl <;> rfl
  have hb := hid ((Below.refl w.heap.size w).alloc (Nat.le_refl _) (.cells #[.string ⟨#[97]⟩, .string ⟨#[98]⟩, .string ⟨#[99]⟩] 9))
  go_enter Tryz.func43, Tryz.ntmps43
  go_wp2
  go_ret
  exact ⟨rfl, hb.out⟩

def nameCells : Array Value := #[.string ⟨#[120]⟩, .string ⟨#[121]⟩, .string ⟨#[122]⟩, .string ⟨#[119]⟩]
theorem nameCells_all : ∀ u ∈ nameCells.toList, ∃ x : ByteArray, u = .string x ∧ x.size ≤ 1 := by
  intro u hu
  simp [nameCells] at hu
  rcases hu with rfl | rfl | rfl | rfl <;> exact ⟨_, rfl, by decide⟩
theorem name_any (w0 : World) (T : Nat) (w : World) (h : Going w0 T w) : Calls Tryz.prog 44 #[.pointer (some ⟨T, 0, none⟩)] w fun e w' => ∃ x : ByteArray, e = .returned (.string x) ∧ x.size ≤ 1 ∧ Going w0 T w' ∧ w.grownBy w' (some T) := by
  have Hfb := hid (Fb.new w nameCells 9)
  have H3 := hid (h.alloc (.cells nameCells 9))
  have hne := hid (show w.heap.size ≠ T by have := h.lt; omega)
  have hgr := hid (show w.grownBy (w.alloc (.cells nameCells 9)) (some T) from grown_of_below ((Below.refl _ _).alloc (Nat.le_refl _) _) _)
  clear h
  go_enter Tryz.func44, Tryz.ntmps44
  go_wp2_with fail
  refine (next_any T 4 _ H3.out.1 (by omega)).mono ?_
  rintro e w3 ⟨r, rfl, hr0, hr1, ht3, hg3, -⟩
  obtain ⟨y, hy, hyb⟩ := pickS Hfb.out hg3 hne.out nameCells_all (by rfl) hr0 hr1 (by omega)
  have hr12 : r < 4 := by omega
  have H4 := hid (H3.out.step ht3 hg3)
  have hg4 := hid (grown_trans hgr.out hg3)
  clear ht3 hg3 Hfb H3 hne
  go_wp2
  go_ret
  exact ⟨y, rfl, hyb, H4.out, hg4.out⟩
end Go.Proofs.YtfapgnbnfhpicaaGreatDoor
