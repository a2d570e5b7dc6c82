/- The reference's Line and stmtOK. -/
import Derived.Test.YtcgichfanfijjaaGreatDoorNok
namespace Go.Proofs.YtcgichfanfijjaaGreatDoor
set_option maxRecDepth 20000
set_option linter.unusedVariables false
open Go.ChangeShapes Go.WideShapes Go.ChangeAt Go.RowKit

/-- A statement. -/
structure Stm where
  op : Int
  d : ByteArray
  us : List ByteArray
  ts : List ByteArray
/-- A statement, as an argument. -/
structure StArg (w : World) (o : Int) (d : ByteArray) (A : Option Addr) (n : Nat) (B : Option Addr) (m : Nat) (t : Stm) : Prop where
  uses : SArg w A n t.us
  targets : SArg w B m t.ts
  op : o = t.op
  df : d = t.d
  small : d.size ≤ 100000
theorem SArg.words_le {w : World} {A : Option Addr} {n : Nat} {l : List ByteArray} (h : SArg w A n l) : (wordsP l).size ≤ 10000100000 := by
  have h1 := wordsP_size l l.length 100000 (Nat.le_refl _) h.small
  rw [List.take_length, h.len] at h1
  have h2 : n * (100000 + 1) ≤ 100000 * (100000 + 1) := Nat.mul_le_mul_right _ h.few
  omega
def lineP (t : Stm) : ByteArray :=
  if t.op = 1 then (t.d ++ ⟨#[32, 61]⟩) ++ wordsP t.us
  else if t.op = 2 then ⟨#[117, 115, 101]⟩ ++ wordsP t.us
  else if t.op = 3 then ⟨#[99, 97, 108, 108]⟩ ++ wordsP t.ts
  else if t.op = 4 then ⟨#[115, 111, 117, 114, 99, 101, 32]⟩ ++ t.d
  else if t.op = 5 then ⟨#[115, 105, 110, 107]⟩ ++ wordsP t.us
  else if t.op = 6 then ⟨#[115, 97, 110, 105, 116, 105, 122, 101, 32]⟩ ++ t.d
  else if t.op = 7 then ⟨#[103, 111, 116, 111]⟩ ++ wordsP t.ts
  else if t.op = 8 then (⟨#[98, 114, 97, 110, 99, 104]⟩ ++ wordsP t.us) ++ wordsP t.ts
  else ⟨#[114, 101, 116, 117, 114, 110]⟩

theorem sum_le {x y : ByteArray} (h : x.size + y.size ≤ 100000000000) : x.size + y.size ≤ 9223372036854775807 := by omega
set_option maxHeartbeats 1600000 in
theorem line_any (o : Int) (d : ByteArray) (A : Option Addr) (n c : Nat) (B : Option Addr) (m c2 : Nat) (t : Stm) (w : World) (h : StArg w o d A n B m t) :
    Calls Tryz.prog 65 #[.agg #[.int .i64 o, .string d, .slice A n c, .slice B m c2]] w fun e w' => e = .returned (.string (lineP t)) ∧ Below w.heap.size w w' := by
  obtain ⟨hU, hT, rfl, rfl, hd⟩ := h
  obtain ⟨o, d, us, ts⟩ := t
  have HU := hid (fun c w' (hb : Below w.heap.size w w') => words_any A n c us w' (hU.below hb))
  have HT := hid (fun c w' (hb : Below w.heap.size w w') => words_any B m c ts w' (hT.below hb))
  have HB := hid (fun o => (Below.refl w.heap.size w).alloc (Nat.le_refl _) o)
  have HQ := hid (fun o q => below_drewN (HB.out o) q)
  have hu := hU.words_le
  have ht := hT.words_le
  simp only at *
  clear hU hT
  have hs1 : d.size + (⟨#[32, 61]⟩ : ByteArray).size ≤ 9223372036854775807 := by show d.size + 2 ≤ _; omega
  have hs2 : (d ++ (⟨#[32, 61]⟩ : ByteArray)).size + (wordsP us).size ≤ 9223372036854775807 := by rw [ByteArray.size_append]; show d.size + 2 + _ ≤ _; omega
  have hs3 : (⟨#[117, 115, 101]⟩ : ByteArray).size + (wordsP us).size ≤ 9223372036854775807 := by show 3 + _ ≤ _; omega
  have hs4 : (⟨#[99, 97, 108, 108]⟩ : ByteArray).size + (wordsP ts).size ≤ 9223372036854775807 := by show 4 + _ ≤ _; omega
  have hs5 : (⟨#[115, 111, 117, 114, 99, 101, 32]⟩ : ByteArray).size + d.size ≤ 9223372036854775807 := by show 7 + _ ≤ _; omega
  have hs6 : (⟨#[115, 105, 110, 107]⟩ : ByteArray).size + (wordsP us).size ≤ 9223372036854775807 := by show 4 + _ ≤ _; omega
  have hs7 : (⟨#[115, 97, 110, 105, 116, 105, 122, 101, 32]⟩ : ByteArray).size + d.size ≤ 9223372036854775807 := by show 9 + _ ≤ _; omega
  have hs8 : (⟨#[103, 111, 116, 111]⟩ : ByteArray).size + (wordsP ts).size ≤ 9223372036854775807 := by show 4 + _ ≤ _; omega
  have hs9 : (⟨#[98, 114, 97, 110, 99, 104]⟩ : ByteArray).size + (wordsP us).size ≤ 9223372036854775807 := by show 6 + _ ≤ _; omega
  have hs10 : ((⟨#[98, 114, 97, 110, 99, 104]⟩ : ByteArray) ++ wordsP us).size + (wordsP ts).size ≤ 9223372036854775807 := by rw [ByteArray.size_append]; show 6 + _ + _ ≤ _; omega
  generalize hl : lineP ⟨o, d, us, ts⟩ = L
  unfold lineP at hl
  simp only at hl
  generalize wordsP us = zu at *
  generalize wordsP ts = zt at *
  have HL := hid hl
  clear hl
  by_cases h1 : o = 1
  · subst h1
    go_enter Tryz.func65, Tryz.ntmps65
    go_wp2_with fail
    go_quiet ((go_at_call 94; exact quiet_same (HU.out _ _ (HQ.out _ _))))
    go_wp2
    go_ret
    exact ⟨by rw [← HL.out]; rfl, HQ.out _ _⟩
  by_cases h2 : o = 2
  · subst h2
    go_enter Tryz.func65, Tryz.ntmps65
    go_wp2_with (go_at_call 94; refine (HU.out _ _ (HB.out _)).mono ?_; rintro e w' ⟨rfl, rfl⟩)
    go_ret
    exact ⟨by rw [← HL.out]; rfl, HB.out _⟩
  by_cases h3 : o = 3
  · subst h3
    go_enter Tryz.func65, Tryz.ntmps65
    go_wp2_with (go_at_call 94; refine (HT.out _ _ (HB.out _)).mono ?_; rintro e w' ⟨rfl, rfl⟩)
    go_ret
    exact ⟨by rw [← HL.out]; rfl, HB.out _⟩
  by_cases h4 : o = 4
  · subst h4
    go_enter Tryz.func65, Tryz.ntmps65
    go_wp2
    go_ret
    exact ⟨by rw [← HL.out]; rfl, HB.out _⟩
  by_cases h5 : o = 5
  · subst h5
    go_enter Tryz.func65, Tryz.ntmps65
    go_wp2_with (go_at_call 94; refine (HU.out _ _ (HB.out _)).mono ?_; rintro e w' ⟨rfl, rfl⟩)
    go_ret
    exact ⟨by rw [← HL.out]; rfl, HB.out _⟩
  by_cases h6 : o = 6
  · subst h6
    go_enter Tryz.func65, Tryz.ntmps65
    go_wp2
    go_ret
    exact ⟨by rw [← HL.out]; rfl, HB.out _⟩
  by_cases h7 : o = 7
  · subst h7
    go_enter Tryz.func65, Tryz.ntmps65
    go_wp2_with (go_at_call 94; refine (HT.out _ _ (HB.out _)).mono ?_; rintro e w' ⟨rfl, rfl⟩)
    go_ret
    exact ⟨by rw [← HL.out]; rfl, HB.out _⟩
  by_cases h8 : o = 8
  · subst h8
    go_enter Tryz.func65, Tryz.ntmps65
    go_wp2_with fail
    go_quiet ((go_at_call 94; first | with_reducible exact quiet_same (HU.out c _ (HQ.out _ _)) | with_reducible exact quiet_same (HT.out c2 _ (HQ.out _ _))))
    go_wp2
    go_ret
    exact ⟨by rw [← HL.out]; rfl, HQ.out _ _⟩
  · have t1 : (o == 1) = false := by simp [h1]
    have t2 : (o == 2) = false := by simp [h2]
    have t3 : (o == 3) = false := by simp [h3]
    have t4 : (o == 4) = false := by simp [h4]
    have t5 : (o == 5) = false := by simp [h5]
    have t6 : (o == 6) = false := by simp [h6]
    have t7 : (o == 7) = false := by simp [h7]
    have t8 : (o == 8) = false := by simp [h8]
    have HR := hid (show L = ⟨#[114, 101, 116, 117, 114, 110]⟩ by rw [← HL.out]; simp [h1, h2, h3, h4, h5, h6, h7, h8])
    clear h1 h2 h3 h4 h5 h6 h7 h8
    go_enter Tryz.func65, Tryz.ntmps65
    go_wp2
    go_ret
    exact ⟨by rw [HR.out]; rfl, HB.out _⟩
end Go.Proofs.YtcgichfanfijjaaGreatDoor
