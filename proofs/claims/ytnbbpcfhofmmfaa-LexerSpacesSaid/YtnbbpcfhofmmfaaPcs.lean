/- pieces: a text of typical pieces. -/
import Derived.Test.YtnbbpcfhofmmfaaLnm
namespace Go.Proofs.Ytnbbpcfhofmmfaa
set_option maxRecDepth 20000
set_option linter.unusedVariables false
open Go.ChangeShapes Go.WideShapes Go.ChangeAt Go.RowKit

def pcsCells : Array Value := #[.string ⟨#[120]⟩, .string ⟨#[102, 117, 110, 99]⟩, .string ⟨#[95, 97, 57]⟩, .string ⟨#[61]⟩, .string ⟨#[32]⟩, .string ⟨#[10]⟩, .string ⟨#[59]⟩, .string ⟨#[35]⟩, .string ⟨#[9]⟩, .string ⟨#[55]⟩, .string ⟨#[51, 120]⟩, .string ⟨#[115, 105, 120, 116, 101, 101, 110, 95, 98, 121, 116, 101, 115, 95, 49, 54]⟩, .string ⟨#[115, 101, 118, 101, 110, 116, 101, 101, 110, 95, 98, 121, 116, 101, 115, 49, 55]⟩, .string ⟨#[13]⟩, .string ⟨#[45]⟩, .string ⟨#[114, 101, 116, 117, 114, 110]⟩, .string ⟨#[35, 59, 10]⟩, .string ⟨#[32, 59, 32]⟩, .string ⟨#[255]⟩]
theorem pcsCells_all : ∀ u ∈ pcsCells.toList, ∃ x : ByteArray, u = .string x ∧ x.size ≤ 17 := by
  intro u hu
  simp [pcsCells] at hu
  rcases hu with rfl | rfl | rfl | rfl | rfl | rfl | rfl | rfl | rfl | rfl | rfl | rfl | rfl | rfl | rfl | rfl | rfl | rfl | rfl <;> exact ⟨_, rfl, by decide⟩

set_option maxHeartbeats 1000000 in
theorem pieces_any (w0 : World) (T : Nat) (w : World) (h : Going w0 T w) : Calls Try.prog 9 #[.pointer (some ⟨T, 0, none⟩)] w fun e w' => ∃ x : ByteArray, e = .returned (.string x) ∧ x.size ≤ 238 ∧ Going w0 T w' := by
  have H0 := hid h
  clear h
  go_enter Try.func9, Try.ntmps9
  go_wp2_with fail
  refine (next_any T 14 _ H0.out.1 (by omega)).mono ?_
  rintro e w2 ⟨m, rfl, hm0, hm1, ht2, hg2, -⟩
  have H2 := hid (H0.out.step ht2 hg2)
  obtain ⟨m, rfl⟩ := Int.eq_ofNat_of_zero_le hm0
  have hm4 : m ≤ 14 := by omega
  clear ht2 hg2 hm0 hm1 H0
  go_wp2_with fail
  go_loopw [3, 4] (fun v n wr => ∃ (m : Nat) (x : ByteArray), m ≤ 14 ∧ n = .int .i64 (m : Int) ∧ v = .string x ∧ x.size + 17 * m ≤ 238 ∧ Hid (Going w0 T wr)) (fun _ n _ => (intOf n).toNat)
  case atStart => exact ⟨m, _, hm4, rfl, rfl, by show ByteArray.size ⟨#[]⟩ + _ ≤ _; simp [ByteArray.size]; omega, H2.out⟩
  case round =>
    clear H2
    obtain ⟨m, x, hm, rfl, rfl, hx, hG⟩ := hrel
    by_cases hpos : 0 < m
    · have Hfb := hid (Fb.new wr pcsCells 9)
      have H3 := hid (hG.out.alloc (.cells pcsCells 9))
      have hne := hid (show wr.heap.size ≠ T by have := hG.out.lt; omega)
      go_wp2_with fail
      refine (next_any T 19 _ H3.out.1 (by omega)).mono ?_
      rintro e w3 ⟨r, rfl, hr0, hr1, ht3, hg3, -⟩
      obtain ⟨y, hy, hyb⟩ := pickS Hfb.out hg3 hne.out pcsCells_all (by rfl) hr0 hr1 (by omega)
      have hr12 : r < 19 := by omega
      have H4 := hid (H3.out.step ht3 hg3)
      have hsz : (x ++ y).size = x.size + y.size := ByteArray.size_append
      have Hsz := hid hsz
      have hsum : x.size + y.size ≤ 9223372036854775807 := by omega
      clear ht3 hg3 Hfb H3 hne hG hsz
      go_wp2
      go_roundw
      case rel => exact ⟨m - 1, x ++ y, by omega, by first | go_num | (congr 1; omega), rfl, by rw [Hsz.out]; omega, H4⟩
      case measure => simp [intOf]; omega
    · obtain rfl : m = 0 := by omega
      clear hpos
      go_wp2
      go_ret
      exact ⟨x, rfl, by omega, hG.out⟩
end Go.Proofs.Ytnbbpcfhofmmfaa
