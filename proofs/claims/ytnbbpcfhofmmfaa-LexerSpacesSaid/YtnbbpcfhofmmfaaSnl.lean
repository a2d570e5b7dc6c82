/- same: whether two lists of tokens are equal; and the sanity check. -/
import Derived.Test.YtnbbpcfhofmmfaaDsc
import Derived.Test.YtnbbpcfhofmmfaaKw
import Derived.Deep.Slices
namespace Go.Proofs.Ytnbbpcfhofmmfaa
set_option maxRecDepth 20000
set_option linter.unusedVariables false
open Go.ChangeShapes Go.WideShapes Go.ChangeAt Go.RowKit

theorem TArg.cell {w : World} {A : Option Addr} {n : Nat} {l : List Tok} (h : TArg w A n l) {i : Nat} (hi : i < l.length) :
    ∃ ad : Addr, A = some ad ∧ ad.block < w.heap.size ∧ (w.cell? (ad.add (i * 4)) = some (.int .i64 (l[i]).kind) ∧ w.cell? ⟨(ad.add (i * 4)).block, (ad.add (i * 4)).off + 1, none⟩ = some (.string (l[i]).text)) ∧
      (w.cell? ⟨(ad.add (i * 4)).block, (ad.add (i * 4)).off + 2, none⟩ = some (.int .i64 ((l[i]).line : Int)) ∧ w.cell? ⟨(ad.add (i * 4)).block, (ad.add (i * 4)).off + 3, none⟩ = some (.int .i64 ((l[i]).col : Int))) := by
  obtain ⟨g0, g1, g2, g3⟩ := tcells_get hi
  obtain ⟨ad, e, hb, hc⟩ := h.lies.cell g0
  obtain ⟨ad1, e1, _, hc1⟩ := h.lies.cell g1
  obtain ⟨ad2, e2, _, hc2⟩ := h.lies.cell g2
  obtain ⟨ad3, e3, _, hc3⟩ := h.lies.cell g3
  rw [e] at e1 e2 e3
  cases e1; cases e2; cases e3
  refine ⟨ad, e, hb, ⟨hc, ?_⟩, ?_, ?_⟩
  · rw [show (⟨(ad.add (i * 4)).block, (ad.add (i * 4)).off + 1, none⟩ : Addr) = (ad.add (i * 4)).add 1 from rfl, Go.Deep.add_add]; exact hc1
  · rw [show (⟨(ad.add (i * 4)).block, (ad.add (i * 4)).off + 2, none⟩ : Addr) = (ad.add (i * 4)).add 2 from rfl, Go.Deep.add_add]; exact hc2
  · rw [show (⟨(ad.add (i * 4)).block, (ad.add (i * 4)).off + 3, none⟩ : Addr) = (ad.add (i * 4)).add 3 from rfl, Go.Deep.add_add]; exact hc3

set_option maxHeartbeats 1600000 in
/-- Of equal lists it is true. -/
theorem same_yes (A B : Option Addr) (c d : Nat) (l : List Tok) (w : World) (hA : TArg w A l.length l) (hB : TArg w B l.length l) (hl : l.length ≤ 100000) :
    Calls Try.prog 20 #[.slice A l.length c, .slice B l.length d, .bool false] w fun e w' => e = .returned (.bool true) ∧ Below w.heap.size w w' := by
  have HA := hid hA; have HB := hid hB
  clear hA hB
  generalize hn : l.length = n at *
  have Hn := hid hn
  clear hn
  go_enter Try.func20, Try.ntmps20
  go_wp2_with fail
  go_loopw [7] (fun i wr => ∃ k : Nat, k ≤ n ∧ i = .int .i64 k ∧ Hid (Below w.heap.size w wr)) (fun i _ => n - (intOf i).toNat)
  case atStart => exact ⟨0, by omega, rfl, Below.refl _ _⟩
  case round =>
    obtain ⟨k, hk, rfl, hI⟩ := hrel
    by_cases hlt : k < n
    · have hkl : k < l.length := by rw [Hn.out]; exact hlt
      obtain ⟨a, rfl, ha, ⟨a0, a1⟩, a2, a3⟩ := (HA.out.below hI.out).cell hkl
      obtain ⟨b, rfl, hb, ⟨b0, b1⟩, b2, b3⟩ := (HB.out.below hI.out).cell hkl
      generalize (l[k]'hkl).kind = x0 at *
      generalize (l[k]'hkl).text = x1 at *
      generalize ((l[k]'hkl).line : Int) = x2 at *
      generalize ((l[k]'hkl).col : Int) = x3 at *
      have t0 : (x0 != x0) = false := by simp
      have t1 : (x1.toList != x1.toList) = false := by simp
      have t2 : (x2 != x2) = false := by simp
      have t3 : (x3 != x3) = false := by simp
      have hq : ∀ q, Below w.heap.size w (wr.drewN q) := fun q => below_drewN hI.out q
      have HQ := hid hq
      clear hq hkl
      go_wp2_with fail
      go_quiet (fail)
      go_wp2
      go_roundw
      case rel => exact ⟨k + 1, by omega, by go_num, HQ.out _⟩
      case measure => simp [intOf]; omega
    · go_wp2
      go_ret
      exact ⟨rfl, hI.out⟩

theorem scan1 : scanR ⟨#[120, 32, 61, 32, 121, 32, 59, 32, 114, 101, 116, 117, 114, 110]⟩ = ([⟨1, ⟨#[120]⟩, 1, 1⟩, ⟨2, ⟨#[61]⟩, 1, 3⟩, ⟨1, ⟨#[121]⟩, 1, 5⟩, ⟨3, ByteArray.empty, 1, 7⟩, ⟨1, ⟨#[114, 101, 116, 117, 114, 110]⟩, 1, 9⟩, ⟨3, ByteArray.empty, 1, 15⟩], 0, 0, 0) := by kernel_rfl
theorem scan2 : scanR ⟨#[120, 32, 61, 32, 49, 121]⟩ = ([], 1, 5, 4) := by kernel_rfl
theorem scan3 : scanR ⟨#[10, 32, 35, 32, 97, 59, 32, 98, 10, 10]⟩ = ([], 0, 0, 0) := by kernel_rfl

def scanOk : List Tok := [⟨1, ⟨#[120]⟩, 1, 1⟩, ⟨2, ⟨#[61]⟩, 1, 3⟩, ⟨1, ⟨#[121]⟩, 1, 5⟩, ⟨3, ByteArray.empty, 1, 7⟩, ⟨1, ⟨#[114, 101, 116, 117, 114, 110]⟩, 1, 9⟩, ⟨3, ByteArray.empty, 1, 15⟩]
theorem cells_ok {w' : World} {g : Nat} (h : Fb w' g (tcells scanOk).toArray 47) : TArg w' (some ⟨g, 0, none⟩) 6 scanOk :=
  ⟨.inr ⟨_, rfl, h.lt, fun j u hu => by rw [add_of, h.cell]; simpa using hu⟩, rfl⟩
set_option maxHeartbeats 1600000 in
theorem sane_any (w : World) : Calls Try.prog 12 #[] w fun e w' => e = .returned (.bool true) ∧ Below w.heap.size w w' := by
  go_enter Try.func12, Try.ntmps12
  go_wp2_with fail
  refine (devScan_any _ _ (by unfold maxLen; decide)).mono ?_
  rw [scan1]
  rintro e w1 ⟨A1, c1, rfl, ha1, hb1⟩
  have Ha1 := hid ha1; have Hb1 := hid hb1
  clear ha1 hb1
  go_wp2_with fail
  refine (devScan_any _ _ (by unfold maxLen; decide)).mono ?_
  rw [scan2]
  rintro e w2 ⟨A2, c2, rfl, ha2, hb2⟩
  have Ha2 := hid (Ha1.out.below hb2); have Hb2 := hid (below_step Hb1.out hb2)
  clear ha2 hb2 Ha1 Hb1
  go_wp2_with fail
  refine (devScan_any _ _ (by unfold maxLen; decide)).mono ?_
  rw [scan3]
  rintro e w3 ⟨A3, c3, rfl, ha3, hb3⟩
  have Ha3 := hid (Ha2.out.below hb3); have Hb3 := hid (below_step Hb2.out hb3)
  clear ha3 hb3 Ha2 Hb2
  have Hg := hid (cells_ok (Fb.new w3 (tcells scanOk).toArray 47))
  have Ha4 := hid (Ha3.out.alloc (.cells (tcells scanOk).toArray 47))
  have Hb4 := hid (Hb3.out.alloc Hb3.out.size (.cells (tcells scanOk).toArray 47))
  clear Ha3 Hb3
  go_wp2_with fail
  refine (same_yes A1 (some ⟨w3.heap.size, 0, none⟩) c1 6 scanOk _ Ha4.out Hg.out (by decide)).mono ?_
  rintro e w5 ⟨rfl, hb5⟩
  have Hb5 := hid (below_step Hb4.out hb5)
  clear hb5
  go_wp2
  go_ret
  exact ⟨rfl, Hb5.out⟩
end Go.Proofs.Ytnbbpcfhofmmfaa
