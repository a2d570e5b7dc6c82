/- The walk of LexerScans: it returns true for every list of choices and every string, and writes new memory only. -/
import Derived.Test.YtnbbpcfhofmmfaaSrc
import Derived.Test.YtnbbpcfhofmmfaaDBytes
import Derived.Test.YtnbbpcfhofmmfaaScn2
import Derived.Laws.IdiomStrings
import Derived.Lib.ConvBytes
import Derived.Lib.AtoiErrMem
namespace Go.Proofs.Ytnbbpcfhofmmfaa
set_option maxRecDepth 20000
set_option linter.unusedVariables false
open Go.ChangeShapes Go.WideShapes Go.ChangeAt Go.RowKit

theorem size_ofL (l : List UInt8) : (⟨l.toArray⟩ : ByteArray).size = l.length := by simp [ByteArray.size]
theorem bytes_atL (w : World) (tx : List UInt8) : At (Lib.bytesWorld w 5 ⟨tx.toArray⟩) (Lib.bytesWorld w 5 ⟨tx.toArray⟩).heap.size (some ⟨w.heap.size, 0, none⟩) (bys tx) := by
  refine .inr ⟨_, rfl, by rw [Lib.bytesWorld_size]; show w.heap.size < _; omega, fun j u hu => ?_⟩
  have hj : j < (bys tx).length := (List.getElem?_eq_some_iff.1 hu).1
  rw [bys_len] at hj
  rw [add_of, Lib.bytesWorld_cell w 5 ⟨tx.toArray⟩ j (by rw [size_ofL]; exact hj), ← hu, bys_get hj]
theorem back_anyL (w : World) (base g n c : Nat) (l : List UInt8) (h : OwnB w base g n c l) : (convert 28 9 (.slice (some ⟨g, 0, none⟩) n c)).run Try.prog w = .ok (.string ⟨l.toArray⟩) w := by
  have hl := h.len
  subst hl
  refine run_convert_bytes_back w 28 9 5 ⟨g, 0, none⟩ c l Try.underlying28 Try.underlying5 Try.underlying9 fun j hj => ?_
  rw [add_of, World.ownsRow.cellAt h j (by omega), bys_get hj, List.getD_eq_getElem?_getD, List.getElem?_eq_getElem hj]
  rfl

set_option maxHeartbeats 1600000 in
theorem lawScans (At : Option Addr) (nt ct : Nat) (zs : List Int) (s : ByteArray) (w : World) (ht : IArg w At nt zs) (hnt : nt ≤ maxLen) (hs : s.size ≤ maxLen) :
    Calls Try.prog 3 #[.slice At nt ct, .string s] w fun e w' => e = .returned (.bool true) ∧ Below w.heap.size w w' := by
  have Hinv := hid (show Going w w.heap.size (w.alloc (.cells #[.slice At nt ct, .int .i64 0] 51)) from ⟨tape_new ht hnt, (Below.refl _ _).alloc (Nat.le_refl _) _, Nat.le_refl _⟩)
  clear ht
  go_enter Try.func3, Try.ntmps3
  go_wp2_with (go_at_call 7; refine (new_any At nt ct _).mono ?_; rintro e w1 ⟨rfl, rfl⟩)
  generalize w.alloc (.cells #[.slice At nt ct, .int .i64 0] 51) = w1 at *
  generalize hT : w.heap.size = T at *
  have HT := hid hT
  clear hT
  go_loopw [6] (fun i wr => ∃ k : Nat, k ≤ 6 ∧ i = .int .i64 k ∧ Hid (Going w T wr)) (fun i _ => 6 - (intOf i).toNat)
  case atStart => exact ⟨0, by omega, rfl, Hinv.out⟩
  case round =>
    clear Hinv
    obtain ⟨k, hk, rfl, hG⟩ := hrel
    by_cases hlt : k < 6
    · go_wp2_with fail
      refine (pieces_any w T _ hG.out).mono ?_
      rintro e w2 ⟨x, rfl, hx, hG2⟩
      have H2 := hid hG2
      clear hG2 hG
      go_wp2_with fail
      refine (scans_any x _ (by unfold maxLen; omega)).mono ?_
      rintro e w3 ⟨rfl, hb3⟩
      have H3 := hid (H2.out.below hb3)
      clear hb3 H2
      go_wp2
      go_roundw
      case rel => exact ⟨k + 1, by omega, by go_num, H3⟩
      case measure => simp [intOf]; omega
    · clear hk
      go_wp2_with fail
      refine (source_any w T _ hG.out).mono ?_
      rintro e w2 ⟨p, rfl, hp, hG2⟩
      have hps := src_small hp
      have H2 := hid hG2
      clear hG2 hG hp
      obtain ⟨tx, rfl⟩ : ∃ tx : List UInt8, p = ⟨tx.toArray⟩ := ⟨p.data.toList, by cases p; simp⟩
      rw [size_ofL] at hps
      have Hsz := hid (size_ofL tx)
      go_wp2_with fail
      refine (scans_any ⟨tx.toArray⟩ _ (by rw [Hsz.out]; unfold maxLen; omega)).mono ?_
      rintro e w5 ⟨rfl, hb5⟩
      have hG5 := hid (H2.out.below hb5)
      have hG6 := hid (hG5.out.below (Lib.bytesWorld_below w5 5 ⟨tx.toArray⟩))
      have hcv : (convert 9 28 (.string ⟨tx.toArray⟩)).run Try.prog w5 = .ok (.slice (some ⟨w5.heap.size, 0, none⟩) tx.length (grownCap w5 tx.length 0 5)) (Lib.bytesWorld w5 5 ⟨tx.toArray⟩) := by
        have h := Lib.run_convert_string_bytes (P := Try.prog) w5 9 28 5 ⟨tx.toArray⟩ Try.underlying9 Try.underlying28 Try.underlying5
        rw [size_ofL] at h
        exact h
      have Hby := hid (bytes_atL w5 tx)
      clear hb5 H2
      generalize Lib.bytesWorld w5 5 ⟨tx.toArray⟩ = w6 at *
      generalize grownCap w5 tx.length 0 5 = c6 at *
      go_wp2_with fail
      refine (bytes_any T ⟨w5.heap.size, 0, none⟩ tx.length c6 tx w6 hG6.out.1 Hby.out rfl hps.1 hps.2).mono ?_
      rintro e w7 ⟨g, m, c7, l7, rfl, hm, hbag⟩
      have hcv7 := back_anyL w7 w6.heap.size g m c7 l7 hbag.1
      have hG7 := hid (hG6.out.step hbag.2.1 hbag.2.2.1)
      have hl7 := hbag.1.len
      clear hcv Hby hbag hG6 hG5
      go_wp2_with fail
      refine (scans_any ⟨l7.toArray⟩ _ (by rw [size_ofL]; unfold maxLen; omega)).mono ?_
      rintro e w8 ⟨rfl, hb8⟩
      have hG8 := hid (hG7.out.below hb8)
      clear hb8 hcv7 hG7
      go_wp2_with fail
      refine (scans_any s _ hs).mono ?_
      rintro e w9 ⟨rfl, hb9⟩
      have hG9 := hid (hG8.out.below hb9)
      clear hb9 hG8
      go_wp2_with fail
      refine (sane_any _).mono ?_
      rintro e wa ⟨rfl, hba⟩
      have hGa := hid (hG9.out.below hba)
      clear hba hG9
      go_wp2
      go_ret
      exact ⟨rfl, hGa.out.2.1⟩
end Go.Proofs.Ytnbbpcfhofmmfaa
