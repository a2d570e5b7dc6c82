/- The reference's words, namesOK, Line; the law file's func2 and name. -/
import Derived.Test.YtcgichfanfijjaaGreatDoorPcs
namespace Go.Proofs.YtcgichfanfijjaaGreatDoor
set_option maxRecDepth 20000
set_option linter.unusedVariables false
open Go.ChangeShapes Go.WideShapes Go.ChangeAt Go.RowKit

/-- A list of strings, as it lies: few and small. -/
structure SArg (w : World) (A : Option Addr) (n : Nat) (l : List ByteArray) : Prop where
  lies : At w w.heap.size A (l.map Value.string)
  len : l.length = n
  few : n ≤ 100000
  small : ∀ x ∈ l, x.size ≤ 100000
theorem SArg.below {w w' : World} {A : Option Addr} {n : Nat} {l : List ByteArray} (h : SArg w A n l) (hb : Below w.heap.size w w') : SArg w' A n l := ⟨h.lies.below hb hb.size, h.len, h.few, h.small⟩
theorem SArg.cell {w : World} {A : Option Addr} {n : Nat} {l : List ByteArray} (h : SArg w A n l) {i : Nat} (hi : i < n) :
    ∃ ad : Addr, A = some ad ∧ ad.block < w.heap.size ∧ w.cell? (ad.add i) = some (.string (l.getD i ByteArray.empty)) ∧ (l.getD i ByteArray.empty).size ≤ 100000 := by
  have hl : i < l.length := by rw [h.len]; exact hi
  have hg : (l.map Value.string)[i]? = some (.string (l.getD i ByteArray.empty)) := by
    rw [List.getElem?_map, List.getElem?_eq_getElem hl, List.getD_eq_getElem?_getD, List.getElem?_eq_getElem hl]; rfl
  obtain ⟨ad, e, hb, hc⟩ := h.lies.cell hg
  refine ⟨ad, e, hb, hc, ?_⟩
  rw [List.getD_eq_getElem?_getD, List.getElem?_eq_getElem hl]
  exact h.small _ (List.getElem_mem hl)

def wordsP : List ByteArray → ByteArray := fun l => l.foldl (fun s x => s ++ (⟨#[32]⟩ ++ x)) ⟨#[]⟩
theorem wordsP_snoc (l : List ByteArray) {k : Nat} (h : k < l.length) : wordsP (l.take (k + 1)) = wordsP (l.take k) ++ (⟨#[32]⟩ ++ l.getD k ByteArray.empty) := by
  unfold wordsP
  rw [List.take_add_one, List.foldl_append, List.getD_eq_getElem?_getD, List.getElem?_eq_getElem h]
  rfl
theorem wordsP_size (l : List ByteArray) (k b : Nat) (hk : k ≤ l.length) (hs : ∀ x ∈ l, x.size ≤ b) : (wordsP (l.take k)).size ≤ k * (b + 1) := by
  induction k with
  | zero => simp [wordsP]; rfl
  | succ k ih =>
    have h1 := ih (by omega)
    have hx : (l.getD k ByteArray.empty).size ≤ b := by rw [List.getD_eq_getElem?_getD, List.getElem?_eq_getElem (by omega)]; exact hs _ (List.getElem_mem _)
    rw [wordsP_snoc l (by omega), ByteArray.size_append, ByteArray.size_append]
    have : (⟨#[32]⟩ : ByteArray).size = 1 := rfl
    rw [this, Nat.succ_mul]
    omega

set_option maxHeartbeats 800000 in
theorem words_any (A : Option Addr) (n c : Nat) (l : List ByteArray) (w : World) (hA : SArg w A n l) :
    Calls Tryz.prog 94 #[.slice A n c] w fun e w' => e = .returned (.string (wordsP l)) ∧ w = w' := by
  have HA := hid hA
  have hn := hA.few
  have HL := hid hA.len
  clear hA
  go_enter Tryz.func94, Tryz.ntmps94
  go_wp2_with fail
  go_loop [3, 4] (fun sv iv => ∃ (k : Nat) (x : ByteArray), k ≤ n ∧ iv = .int .i64 k ∧ sv = .string x ∧ x.size ≤ k * 100001 ∧ Hid (x = wordsP (l.take k))) (fun _ iv => n - (intOf iv).toNat)
  case atStart => exact ⟨0, _, by omega, rfl, rfl, by show ByteArray.size ⟨#[]⟩ ≤ _; simp [ByteArray.size], hid rfl⟩
  case round =>
    obtain ⟨k, x, hk, rfl, rfl, hx, hX⟩ := hrel
    by_cases hlt : k < n
    · obtain ⟨ad, rfl, hb, hc, hs⟩ := HA.out.cell hlt
      have hnew := hid (show x ++ (⟨#[32]⟩ ++ l.getD k ByteArray.empty) = wordsP (l.take (k + 1)) by rw [wordsP_snoc l (by rw [HL.out]; exact hlt), hX.out])
      generalize l.getD k ByteArray.empty = y at *
      have hz : ((⟨#[32]⟩ : ByteArray) ++ y).size = 1 + y.size := ByteArray.size_append
      have hsum1 : (⟨#[32]⟩ : ByteArray).size + y.size ≤ 9223372036854775807 := by show 1 + y.size ≤ _; omega
      have hsum : x.size + ((⟨#[32]⟩ : ByteArray) ++ y).size ≤ 9223372036854775807 := by rw [hz]; omega
      have Hz := hid (show (x ++ ((⟨#[32]⟩ : ByteArray) ++ y)).size = x.size + (1 + y.size) by rw [ByteArray.size_append, hz])
      clear hz
      go_wp2
      go_round
      case rel => exact ⟨k + 1, _, by omega, by go_num, rfl, by rw [Hz.out, Nat.succ_mul]; omega, hnew⟩
      case measure => simp [intOf]; omega
    · obtain rfl : k = n := by omega
      have hR := hid (show wordsP l = x by rw [hX.out, ← HL.out, List.take_length])
      go_wp2
      go_ret
      exact ⟨by rw [hR.out]; rfl, rfl⟩
end Go.Proofs.YtcgichfanfijjaaGreatDoor
