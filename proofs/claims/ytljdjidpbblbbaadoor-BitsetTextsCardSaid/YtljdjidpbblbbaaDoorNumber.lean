/- The reference's Number reads decimal digits at an offset. -/
import Derived.Test.YtljdjidpbblbbaaDoorText
namespace Go.Proofs.YtljdjidpbblbbaaDoor
set_option maxRecDepth 10000
open Go.ChangeShapes Go.WideShapes Go.ChangeAt Go.RowKit

def dig (c : UInt8) : Bool := decide (48 ≤ c.toNat) && decide (c.toNat ≤ 57)
/-- The number of the k digits from offset p on. -/
def numTo (l : List UInt8) (p : Nat) : Nat → Nat
  | 0 => 0
  | k + 1 => 10 * numTo l p k + ((l.getD (p + k) 0).toNat - 48)
theorem numTo_lt (l : List UInt8) (p : Nat) (k : Nat) (h : ∀ j, j < k → dig (l.getD (p + j) 0) = true) : numTo l p k < 10 ^ k := by
  induction k with
  | zero => simp [numTo]
  | succ k ih =>
    have h1 := ih (fun j hj => h j (by omega))
    have h2 := h k (by omega)
    unfold dig at h2; simp at h2
    unfold numTo; rw [Nat.pow_succ]; simp; omega
theorem byte_getD (s : ByteArray) (i : Nat) (h : i < s.size) : s.data.toList.getD i 0 = s[i] := by
  rw [List.getD_eq_getElem?_getD, List.getElem?_eq_getElem (by simpa using h)]
  rfl

/-- What Number returns: k digits were read. -/
def NumRes (l : List UInt8) (p : Nat) (n i : Nat) (ok : Bool) : Prop :=
  ∃ k : Nat, k ≤ 9 ∧ p + k ≤ l.length ∧ (∀ j, j < k → dig (l.getD (p + j) 0) = true) ∧ (k = 9 ∨ p + k = l.length ∨ dig (l.getD (p + k) 0) = false) ∧
    ((n = numTo l p k ∧ i = p + k ∧ ok = true ∧ 0 < k ∧ (l.getD p 0 = 48 → k = 1) ∧ (p + k = l.length ∨ dig (l.getD (p + k) 0) = false)) ∨
     (n = 0 ∧ i = p ∧ ok = false ∧ (k = 0 ∨ (l.getD p 0 = 48 ∧ 1 < k) ∨ (p + k < l.length ∧ dig (l.getD (p + k) 0) = true))))

theorem dig_false (c : UInt8) (h : ¬ (48 ≤ (c.toNat : Int)) ∨ ¬ ((c.toNat : Int) ≤ 57)) : dig c = false := by
  unfold dig; rw [Bool.and_eq_false_iff]; simp; omega
theorem dig_true (c : UInt8) (h : 48 ≤ (c.toNat : Int)) (h2 : (c.toNat : Int) ≤ 57) : dig c = true := by
  unfold dig; rw [Bool.and_eq_true]; simp; omega
theorem u8_eq48 (c : UInt8) : c = 48 ↔ c.toNat = 48 := by
  constructor
  · rintro rfl; rfl
  · intro h; exact UInt8.toNat_inj.1 h

def NumAns (s : ByteArray) (p : Nat) (w : World) (e : Ending) (w' : World) : Prop :=
  ∃ (n i : Nat) (ok : Bool), e = .returned (.tuple #[.int .i64 n, .int .i64 i, .bool ok]) ∧ w = w' ∧ NumRes s.data.toList p n i ok
/-- What is known of k digits at p. -/
structure Run (s : ByteArray) (p k : Nat) : Prop where
  nine : k ≤ 9
  fits : p + k ≤ s.data.toList.length
  digs : ∀ j, j < k → dig (s.data.toList.getD (p + j) 0) = true
theorem numBad {s : ByteArray} {p k : Nat} {w : World} (h : Run s p k) (hs : k = 9 ∨ p + k = s.data.toList.length ∨ dig (s.data.toList.getD (p + k) 0) = false)
    (hb : k = 0 ∨ (s.data.toList.getD p 0 = 48 ∧ 1 < k) ∨ (p + k < s.data.toList.length ∧ dig (s.data.toList.getD (p + k) 0) = true)) :
    NumAns s p w (.returned (.tuple #[.int .i64 0, .int .i64 p, .bool false])) w :=
  ⟨0, p, false, rfl, rfl, k, h.nine, h.fits, h.digs, hs, .inr ⟨rfl, rfl, rfl, hb⟩⟩
theorem numGood {s : ByteArray} {p k : Nat} {w : World} {x y : Int} (h : Run s p k) (h0 : 0 < k) (h1 : s.data.toList.getD p 0 = 48 → k = 1)
    (hb : p + k = s.data.toList.length ∨ dig (s.data.toList.getD (p + k) 0) = false) (hx : x = numTo s.data.toList p k) (hy : y = p + k) :
    NumAns s p w (.returned (.tuple #[.int .i64 x, .int .i64 y, .bool true])) w := by
  subst hx hy
  exact ⟨_, p + k, true, by simp, rfl, k, h.nine, h.fits, h.digs, hb.elim (fun h => .inr (.inl h)) (fun h => .inr (.inr h)), .inl ⟨rfl, rfl, rfl, h0, h1, hb⟩⟩

set_option maxHeartbeats 1600000 in
theorem number_any (s : ByteArray) (p : Nat) (w : World) (hs : s.size ≤ 100000) (hp : p ≤ s.size) :
    Calls Tryd.prog 80 #[.string s, .int .i64 p] w (NumAns s p w) := by
  have hsl : s.data.toList.length = s.size := by rw [Array.length_toList]; rfl
  go_enter Tryd.func80, Tryd.ntmps80
  go_wp2_with fail
  go_loop [7, 8] (fun n i => ∃ k : Nat, k ≤ 9 ∧ p + k ≤ s.size ∧ (∀ j, j < k → dig (s.data.toList.getD (p + j) 0) = true) ∧ i = .int .i64 ((p + k : Nat) : Int) ∧ n = .int .i64 ((numTo s.data.toList p k : Nat) : Int)) (fun _ i => p + 9 - (intOf i).toNat)
  case atStart => exact ⟨0, by omega, by omega, by omega, rfl, rfl⟩
  case round =>
    obtain ⟨k, hk, hl, hD, rfl, rfl⟩ := hrel
    have hN := numTo_lt _ _ _ hD
    have hN9 : 10 ^ k ≤ 10 ^ 9 := Nat.pow_le_pow_right (by decide) hk
    have hnb : numTo s.data.toList p k < 1000000000 := Nat.lt_of_lt_of_le hN hN9
    have HR : Hid (Run s p k) := hid ⟨hk, by omega, hD⟩
    have HD := hid hD
    clear hN9 hD hN
    have Hsl := hid hsl
    clear hsl
    by_cases h1 : p + k < s.size
    · have hbd := byte_getD s (p + k) h1
      have Hbd := hid hbd
      clear hbd
      have h0 : p < s.size := by omega
      have Hb0 := hid (byte_getD s p h0)
      by_cases h3 : (48 ≤ ((s[p + k]'h1).toNat : Int))
      · have h3' : decide (48 ≤ ((s[p + k]'h1).toNat : Int)) = true := by simpa using h3
        by_cases h4 : (((s[p + k]'h1).toNat : Int) ≤ 57)
        · have h4' : decide (((s[p + k]'h1).toNat : Int) ≤ 57) = true := by simpa using h4
          have hdg := dig_true _ h3 h4
          rw [← Hbd.out] at hdg
          have Hdg := hid hdg
          clear hdg
          by_cases h2 : k < 9
          · have hn1 : numTo s.data.toList p (k + 1) = 10 * numTo s.data.toList p k + ((s[p + k]'h1).toNat - 48) := by rw [← Hbd.out]; rfl
            have Hn1 := hid hn1
            clear hn1
            generalize hN : numTo s.data.toList p k = N at *
            clear hN
            go_wp2_with fail
            refine ⟨⟨k + 1, by omega, by omega, ?_, by go_num, ?_⟩, by simp [intOf]; omega⟩
            · intro j hj
              by_cases hjk : j = k
              · rw [hjk]; exact Hdg.out
              · exact HD.out j (by omega)
            · rw [Hn1.out]; congr 1; omega
          · obtain rfl : k = 9 := by omega
            generalize hN : numTo s.data.toList p 9 = N at *
            have HN := hid hN
            clear hN
            have hfin : ∀ w, NumAns s p w (.returned (.tuple #[.int .i64 0, .int .i64 p, .bool false])) w := fun w => numBad HR.out (.inl rfl) (.inr (.inr ⟨by rw [Hsl.out]; exact h1, Hdg.out⟩))
            by_cases h5 : ((s[p]'h0).toNat : Int) = 48
            · have h5' : (((s[p]'h0).toNat : Int) == 48) = true := by simpa using h5
              go_wp2_with fail
              exact bodyPost_ret (v := .tuple #[.int .i64 0, .int .i64 p, .bool false]) (by simp [results, Tryd.results80, go_sem] <;> omega) rfl (hfin _)
            · have h5' : (((s[p]'h0).toNat : Int) == 48) = false := by simpa using h5
              go_wp2_with fail
              exact bodyPost_ret (v := .tuple #[.int .i64 0, .int .i64 p, .bool false]) (by simp [results, Tryd.results80, go_sem] <;> omega) rfl (hfin _)
        · have h4' : decide (((s[p + k]'h1).toNat : Int) ≤ 57) = false := by simpa using h4
          have hdg := dig_false _ (.inr h4)
          rw [← Hbd.out] at hdg
          have Hdg := hid hdg
          clear hdg
          have Hst := hid ((.inr Hdg.out : p + k = s.data.toList.length ∨ dig (s.data.toList.getD (p + k) 0) = false))
          generalize hN : numTo s.data.toList p k = N at *
          have HN := hid hN
          clear hN
          by_cases h2 : k < 9
          · skip
            by_cases hk0 : k = 0
            · have hfin : ∀ w, NumAns s p w (.returned (.tuple #[.int .i64 0, .int .i64 p, .bool false])) w := fun w => numBad HR.out (.inr Hst.out) (.inl hk0)
              have h3'z : decide (48 ≤ ((s[p]'(by omega)).toNat : Int)) = true := by subst hk0; exact h3'
              have h4'z : decide (((s[p]'(by omega)).toNat : Int) ≤ 57) = false := by subst hk0; exact h4'
              go_wp2_with fail
              exact bodyPost_ret (v := .tuple #[.int .i64 0, .int .i64 p, .bool false]) (by simp [results, Tryd.results80, go_sem] <;> omega) rfl (hfin _)
            · by_cases h5 : ((s[p]'h0).toNat : Int) = 48
              · have h5' : (((s[p]'h0).toNat : Int) == 48) = true := by simpa using h5
                by_cases hk1 : k = 1
                · have hfin : ∀ w, NumAns s p w (.returned (.tuple #[.int .i64 N, .int .i64 (p + k), .bool true])) w := fun w => numGood HR.out (by omega) (fun _ => hk1) Hst.out (by rw [HN.out]) rfl
                  have h3'z : decide (48 ≤ ((s[p + 1]'(by omega)).toNat : Int)) = true := by subst hk1; exact h3'
                  have h4'z : decide (((s[p + 1]'(by omega)).toNat : Int) ≤ 57) = false := by subst hk1; exact h4'
                  go_wp2_with fail
                  exact bodyPost_ret (v := .tuple #[.int .i64 N, .int .i64 (p + k), .bool true]) (by simp [results, Tryd.results80, go_sem] <;> omega) rfl (hfin _)
                · have hfin : ∀ w, NumAns s p w (.returned (.tuple #[.int .i64 0, .int .i64 p, .bool false])) w := fun w => numBad HR.out (.inr Hst.out) (.inr (.inl ⟨by rw [Hb0.out]; exact (u8_eq48 _).2 (by omega), by omega⟩))
                  go_wp2_with fail
                  exact bodyPost_ret (v := .tuple #[.int .i64 0, .int .i64 p, .bool false]) (by simp [results, Tryd.results80, go_sem] <;> omega) rfl (hfin _)
              · have h5' : (((s[p]'h0).toNat : Int) == 48) = false := by simpa using h5
                have hfin : ∀ w, NumAns s p w (.returned (.tuple #[.int .i64 N, .int .i64 (p + k), .bool true])) w := fun w => numGood HR.out (by omega) (fun h => absurd ((u8_eq48 _).1 (Hb0.out ▸ h)) (by omega)) Hst.out (by rw [HN.out]) rfl
                by_cases hk1 : k = 1
                · skip
                  have h3'z : decide (48 ≤ ((s[p + 1]'(by omega)).toNat : Int)) = true := by subst hk1; exact h3'
                  have h4'z : decide (((s[p + 1]'(by omega)).toNat : Int) ≤ 57) = false := by subst hk1; exact h4'
                  go_wp2_with fail
                  exact bodyPost_ret (v := .tuple #[.int .i64 N, .int .i64 (p + k), .bool true]) (by simp [results, Tryd.results80, go_sem] <;> omega) rfl (hfin _)
                · go_wp2_with fail
                  exact bodyPost_ret (v := .tuple #[.int .i64 N, .int .i64 (p + k), .bool true]) (by simp [results, Tryd.results80, go_sem] <;> omega) rfl (hfin _)
          · skip
            obtain rfl : k = 9 := by omega
            by_cases h5 : ((s[p]'h0).toNat : Int) = 48
            · have h5' : (((s[p]'h0).toNat : Int) == 48) = true := by simpa using h5
              have hfin : ∀ w, NumAns s p w (.returned (.tuple #[.int .i64 0, .int .i64 p, .bool false])) w := fun w => numBad HR.out (.inr Hst.out) (.inr (.inl ⟨by rw [Hb0.out]; exact (u8_eq48 _).2 (by omega), by omega⟩))
              go_wp2_with fail
              exact bodyPost_ret (v := .tuple #[.int .i64 0, .int .i64 p, .bool false]) (by simp [results, Tryd.results80, go_sem] <;> omega) rfl (hfin _)
            · have h5' : (((s[p]'h0).toNat : Int) == 48) = false := by simpa using h5
              have hfin : ∀ w, NumAns s p w (.returned (.tuple #[.int .i64 N, .int .i64 (p + (9 : Nat)), .bool true])) w := fun w => numGood HR.out (by omega) (fun h => absurd ((u8_eq48 _).1 (Hb0.out ▸ h)) (by omega)) Hst.out (by rw [HN.out]) rfl
              go_wp2_with fail
              exact bodyPost_ret (v := .tuple #[.int .i64 N, .int .i64 (p + (9 : Nat)), .bool true]) (by simp [results, Tryd.results80, go_sem] <;> omega) rfl (hfin _)
      · have h3' : decide (48 ≤ ((s[p + k]'h1).toNat : Int)) = false := by simpa using h3
        have hdg := dig_false _ (.inl h3)
        rw [← Hbd.out] at hdg
        have Hdg := hid hdg
        clear hdg
        have Hst := hid ((.inr Hdg.out : p + k = s.data.toList.length ∨ dig (s.data.toList.getD (p + k) 0) = false))
        generalize hN : numTo s.data.toList p k = N at *
        have HN := hid hN
        clear hN
        by_cases h2 : k < 9
        · skip
          by_cases hk0 : k = 0
          · have hfin : ∀ w, NumAns s p w (.returned (.tuple #[.int .i64 0, .int .i64 p, .bool false])) w := fun w => numBad HR.out (.inr Hst.out) (.inl hk0)
            have h3'z : decide (48 ≤ ((s[p]'(by omega)).toNat : Int)) = false := by subst hk0; exact h3'
            go_wp2_with fail
            exact bodyPost_ret (v := .tuple #[.int .i64 0, .int .i64 p, .bool false]) (by simp [results, Tryd.results80, go_sem] <;> omega) rfl (hfin _)
          · by_cases h5 : ((s[p]'h0).toNat : Int) = 48
            · have h5' : (((s[p]'h0).toNat : Int) == 48) = true := by simpa using h5
              by_cases hk1 : k = 1
              · have hfin : ∀ w, NumAns s p w (.returned (.tuple #[.int .i64 N, .int .i64 (p + k), .bool true])) w := fun w => numGood HR.out (by omega) (fun _ => hk1) Hst.out (by rw [HN.out]) rfl
                have h3'z : decide (48 ≤ ((s[p + 1]'(by omega)).toNat : Int)) = false := by subst hk1; exact h3'
                go_wp2_with fail
                exact bodyPost_ret (v := .tuple #[.int .i64 N, .int .i64 (p + k), .bool true]) (by simp [results, Tryd.results80, go_sem] <;> omega) rfl (hfin _)
              · have hfin : ∀ w, NumAns s p w (.returned (.tuple #[.int .i64 0, .int .i64 p, .bool false])) w := fun w => numBad HR.out (.inr Hst.out) (.inr (.inl ⟨by rw [Hb0.out]; exact (u8_eq48 _).2 (by omega), by omega⟩))
                go_wp2_with fail
                exact bodyPost_ret (v := .tuple #[.int .i64 0, .int .i64 p, .bool false]) (by simp [results, Tryd.results80, go_sem] <;> omega) rfl (hfin _)
            · have h5' : (((s[p]'h0).toNat : Int) == 48) = false := by simpa using h5
              have hfin : ∀ w, NumAns s p w (.returned (.tuple #[.int .i64 N, .int .i64 (p + k), .bool true])) w := fun w => numGood HR.out (by omega) (fun h => absurd ((u8_eq48 _).1 (Hb0.out ▸ h)) (by omega)) Hst.out (by rw [HN.out]) rfl
              by_cases hk1 : k = 1
              · skip
                have h3'z : decide (48 ≤ ((s[p + 1]'(by omega)).toNat : Int)) = false := by subst hk1; exact h3'
                go_wp2_with fail
                exact bodyPost_ret (v := .tuple #[.int .i64 N, .int .i64 (p + k), .bool true]) (by simp [results, Tryd.results80, go_sem] <;> omega) rfl (hfin _)
              · go_wp2_with fail
                exact bodyPost_ret (v := .tuple #[.int .i64 N, .int .i64 (p + k), .bool true]) (by simp [results, Tryd.results80, go_sem] <;> omega) rfl (hfin _)
        · skip
          obtain rfl : k = 9 := by omega
          by_cases h5 : ((s[p]'h0).toNat : Int) = 48
          · have h5' : (((s[p]'h0).toNat : Int) == 48) = true := by simpa using h5
            have hfin : ∀ w, NumAns s p w (.returned (.tuple #[.int .i64 0, .int .i64 p, .bool false])) w := fun w => numBad HR.out (.inr Hst.out) (.inr (.inl ⟨by rw [Hb0.out]; exact (u8_eq48 _).2 (by omega), by omega⟩))
            go_wp2_with fail
            exact bodyPost_ret (v := .tuple #[.int .i64 0, .int .i64 p, .bool false]) (by simp [results, Tryd.results80, go_sem] <;> omega) rfl (hfin _)
          · have h5' : (((s[p]'h0).toNat : Int) == 48) = false := by simpa using h5
            have hfin : ∀ w, NumAns s p w (.returned (.tuple #[.int .i64 N, .int .i64 (p + (9 : Nat)), .bool true])) w := fun w => numGood HR.out (by omega) (fun h => absurd ((u8_eq48 _).1 (Hb0.out ▸ h)) (by omega)) Hst.out (by rw [HN.out]) rfl
            go_wp2_with fail
            exact bodyPost_ret (v := .tuple #[.int .i64 N, .int .i64 (p + (9 : Nat)), .bool true]) (by simp [results, Tryd.results80, go_sem] <;> omega) rfl (hfin _)
    · have hend : p + k = s.size := by omega
      have Hst : Hid (p + k = s.data.toList.length ∨ dig (s.data.toList.getD (p + k) 0) = false) := hid (.inl (by rw [Hsl.out]; exact hend))
      generalize hN : numTo s.data.toList p k = N at *
      have HN := hid hN
      clear hN
      by_cases hk0 : k = 0
      · have hfin : ∀ w, NumAns s p w (.returned (.tuple #[.int .i64 0, .int .i64 p, .bool false])) w := fun w => numBad HR.out (.inr Hst.out) (.inl hk0)
        go_wp2_with fail
        exact bodyPost_ret (v := .tuple #[.int .i64 0, .int .i64 p, .bool false]) (by simp [results, Tryd.results80, go_sem] <;> omega) rfl (hfin _)
      · have h0 : p < s.size := by omega
        have Hb0 := hid (byte_getD s p h0)
        by_cases h5 : ((s[p]'h0).toNat : Int) = 48
        · have h5' : (((s[p]'h0).toNat : Int) == 48) = true := by simpa using h5
          by_cases hk1 : k = 1
          · have hfin : ∀ w, NumAns s p w (.returned (.tuple #[.int .i64 N, .int .i64 (p + k), .bool true])) w := fun w => numGood HR.out (by omega) (fun _ => hk1) Hst.out (by rw [HN.out]) rfl
            go_wp2_with fail
            exact bodyPost_ret (v := .tuple #[.int .i64 N, .int .i64 (p + k), .bool true]) (by simp [results, Tryd.results80, go_sem] <;> omega) rfl (hfin _)
          · have hfin : ∀ w, NumAns s p w (.returned (.tuple #[.int .i64 0, .int .i64 p, .bool false])) w := fun w => numBad HR.out (.inr Hst.out) (.inr (.inl ⟨by rw [Hb0.out]; exact (u8_eq48 _).2 (by omega), by omega⟩))
            go_wp2_with fail
            exact bodyPost_ret (v := .tuple #[.int .i64 0, .int .i64 p, .bool false]) (by simp [results, Tryd.results80, go_sem] <;> omega) rfl (hfin _)
        · have h5' : (((s[p]'h0).toNat : Int) == 48) = false := by simpa using h5
          have hfin : ∀ w, NumAns s p w (.returned (.tuple #[.int .i64 N, .int .i64 (p + k), .bool true])) w := fun w => numGood HR.out (by omega) (fun h => absurd ((u8_eq48 _).1 (Hb0.out ▸ h)) (by omega)) Hst.out (by rw [HN.out]) rfl
          by_cases hk1 : k = 1
          · skip
            go_wp2_with fail
            exact bodyPost_ret (v := .tuple #[.int .i64 N, .int .i64 (p + k), .bool true]) (by simp [results, Tryd.results80, go_sem] <;> omega) rfl (hfin _)
          · go_wp2_with fail
            exact bodyPost_ret (v := .tuple #[.int .i64 N, .int .i64 (p + k), .bool true]) (by simp [results, Tryd.results80, go_sem] <;> omega) rfl (hfin _)
end Go.Proofs.YtljdjidpbblbbaaDoor
