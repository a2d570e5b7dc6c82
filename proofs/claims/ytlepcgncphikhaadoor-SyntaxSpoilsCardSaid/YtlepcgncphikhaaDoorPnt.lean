/- The reference's Print and Inline. -/
import Derived.Test.YtlepcgncphikhaaDoorLns
import Derived.Test.YtlepcgncphikhaaDoorVld
namespace Go.Proofs.YtlepcgncphikhaaDoor
set_option maxRecDepth 20000
set_option linter.unusedVariables false
open Go.ChangeShapes Go.WideShapes Go.ChangeAt Go.RowKit

def printL (L : List ByteArray) : ByteArray := L.foldl (fun s x => s ++ (x ++ ⟨#[10]⟩)) ⟨#[]⟩
def sepL (L : List ByteArray) (s : ByteArray) : ByteArray := L.foldl (fun s x => (s ++ ⟨#[59, 32]⟩) ++ x) s
def inlineL : List ByteArray → ByteArray
  | [] => ⟨#[]⟩
  | x :: L => sepL L (⟨#[]⟩ ++ x)
/-- P5.3: the texts. -/
def printP (p : List Fnc) : ByteArray := if prgB p then printL (linesP p) else ⟨#[]⟩
def inlineP (p : List Fnc) : ByteArray := if prgB p then inlineL (linesP p) else ⟨#[]⟩
theorem get_snoc {α : Type} (l : List α) {k : Nat} {x : α} (hx : l[k]? = some x) : l.take (k + 1) = l.take k ++ [x] := by
  rw [List.take_add_one, hx]; rfl
theorem printL_snoc (L : List ByteArray) (x : ByteArray) : printL (L ++ [x]) = printL L ++ (x ++ ⟨#[10]⟩) := by unfold printL; rw [List.foldl_append]; rfl
theorem printL_size (L : List ByteArray) (h : ∀ x ∈ L, x.size ≤ 100000) : (printL L).size ≤ L.length * 100001 := by
  suffices H : ∀ (L : List ByteArray) (s : ByteArray), (∀ x ∈ L, x.size ≤ 100000) → (L.foldl (fun s x => s ++ (x ++ ⟨#[10]⟩)) s).size ≤ s.size + L.length * 100001 by
    have := H L ⟨#[]⟩ h
    have e : (⟨#[]⟩ : ByteArray).size = 0 := rfl
    unfold printL; omega
  intro L
  induction L with
  | nil => intro s _; simp
  | cons x L ih =>
    intro s h
    have h1 := ih (s ++ (x ++ ⟨#[10]⟩)) fun y hy => h y (by simp [hy])
    have h2 := h x (by simp)
    rw [List.foldl_cons, List.length_cons, Nat.succ_mul]
    have e : (s ++ (x ++ (⟨#[10]⟩ : ByteArray))).size = s.size + (x.size + 1) := by rw [ByteArray.size_append, ByteArray.size_append]; rfl
    omega
theorem inlineL_one (x : ByteArray) : inlineL [x] = ⟨#[]⟩ ++ x := rfl
theorem inlineL_snoc (L : List ByteArray) (x : ByteArray) (h : 0 < L.length) : inlineL (L ++ [x]) = (inlineL L ++ ⟨#[59, 32]⟩) ++ x := by
  cases L with
  | nil => simp at h
  | cons y L => show sepL (L ++ [x]) _ = _; unfold sepL; rw [List.foldl_append]; rfl
theorem inlineL_size (L : List ByteArray) (h : ∀ x ∈ L, x.size ≤ 100000) : (inlineL L).size ≤ L.length * 100002 := by
  have H : ∀ (L : List ByteArray) (s : ByteArray), (∀ x ∈ L, x.size ≤ 100000) → (sepL L s).size ≤ s.size + L.length * 100002 := by
    intro L
    induction L with
    | nil => intro s _; simp [sepL]
    | cons x L ih =>
      intro s h
      have h1 := ih ((s ++ ⟨#[59, 32]⟩) ++ x) fun y hy => h y (by simp [hy])
      have h2 := h x (by simp)
      have e0 : sepL (x :: L) s = sepL L ((s ++ ⟨#[59, 32]⟩) ++ x) := rfl
      rw [e0, List.length_cons, Nat.succ_mul]
      have e : ((s ++ (⟨#[59, 32]⟩ : ByteArray)) ++ x).size = s.size + 2 + x.size := by rw [ByteArray.size_append, ByteArray.size_append]; rfl
      omega
  cases L with
  | nil => simp [inlineL]; rfl
  | cons x L =>
    have h1 := H L (⟨#[]⟩ ++ x) fun y hy => h y (by simp [hy])
    have h2 := h x (by simp)
    have e : ((⟨#[]⟩ : ByteArray) ++ x).size = x.size := by rw [ByteArray.size_append]; show 0 + x.size = _; omega
    show (sepL L (⟨#[]⟩ ++ x)).size ≤ _
    rw [List.length_cons, Nat.succ_mul]; omega
theorem linesP_len {w : World} {ex : List (Option Nat)} {x : PH} (h : PHok w ex x) : (linesP x.p).length ≤ 65680 := by
  have h1 := fncL_len x.l h.all
  have h2 := h.len; have h3 := h.few
  have e : linesP x.p = x.l.flatMap fun y => fncL y.f := by unfold linesP PH.p; rw [List.flatMap_map]
  rw [e]
  have : x.l.length * 1642 ≤ 40 * 1642 := Nat.mul_le_mul_right _ (by omega)
  omega

set_option maxHeartbeats 1600000 in
theorem print_any (x : PH) (ex : List (Option Nat)) (w : World) (h : PHok w ex x) :
    Calls Tryd.prog 43 #[.agg #[.slice x.A x.n x.c]] w fun e w' => e = .returned (.string (printP x.p)) ∧ Below w.heap.size w w' := by
  have HP := hid (h.below ((Below.refl w.heap.size w).alloc (Nat.le_refl _) (.cells #[.slice x.A x.n x.c] 34)))
  have hll := linesP_len h
  have HF := hid (Fb.new w #[.slice x.A x.n x.c] 34)
  have HB := hid ((Below.refl w.heap.size w).alloc (Nat.le_refl _) (.cells #[.slice x.A x.n x.c] 34))
  have HV := hid (fun w' (hb : Below (w.alloc (.cells #[.slice x.A x.n x.c] 34)).heap.size (w.alloc (.cells #[.slice x.A x.n x.c] 34)) w') => valid_any x ex w' (HP.out.below hb))
  have HL := hid (fun w' (hb : Below (w.alloc (.cells #[.slice x.A x.n x.c] 34)).heap.size (w.alloc (.cells #[.slice x.A x.n x.c] 34)) w') => lines_any x ex w' (HP.out.below hb))
  have c0 := HF.out.onec
  clear h
  cases hv : prgB x.p with
  | false =>
    have HX := hid (show printP x.p = ⟨#[]⟩ by unfold printP; rw [hv]; rfl)
    have Hv := hid hv
    clear hv
    go_enter Tryd.func43, Tryd.ntmps43
    go_wp2_with fail
    refine (HV.out _ (Below.refl _ _)).mono ?_
    rw [Hv.out]
    rintro e w1 ⟨rfl, hb1⟩
    have HB1 := hid (below_step HB.out hb1)
    clear hb1
    go_wp2
    go_ret
    exact ⟨by rw [HX.out]; rfl, HB1.out⟩
  | true =>
    have HX := hid (show printP x.p = printL (linesP x.p) by unfold printP; rw [hv]; rfl)
    have Hv := hid hv
    clear hv
    generalize linesP x.p = L at *
    generalize printP x.p = R at *
    go_enter Tryd.func43, Tryd.ntmps43
    go_wp2_with fail
    refine (HV.out _ (Below.refl _ _)).mono ?_
    rw [Hv.out]
    rintro e w1 ⟨rfl, hb1⟩
    have HB1 := hid (below_step HB.out hb1)
    have HF1 := hid (HF.out.below hb1 HF.out.lt)
    have Hb1 := hid hb1
    clear hb1 c0
    have c0 := HF1.out.onec
    go_wp2_with fail
    refine (HL.out _ Hb1.out).mono ?_
    rintro e w2 ⟨A2, c2, rfl, hs2, hb2⟩
    have HB2 := hid (below_step HB1.out hb2)
    have HS2 := hid hs2
    clear hb2 hs2 c0 HV HL HP HF HF1
    go_wp2_with fail
    go_loop [3, 5] (fun sv iv => ∃ (k : Nat) (z : ByteArray), k ≤ L.length ∧ iv = .int .i64 k ∧ sv = .string z ∧ z.size ≤ k * 100001 ∧ Hid (z = printL (L.take k))) (fun _ iv => L.length - (intOf iv).toNat)
    case atStart => exact ⟨0, _, by omega, rfl, rfl, by show ByteArray.size ⟨#[]⟩ ≤ _; simp [ByteArray.size], hid rfl⟩
    case round =>
      obtain ⟨k, z, hk, rfl, rfl, hz, hX⟩ := hrel
      by_cases hlt : k < L.length
      · obtain ⟨ad, rfl, hb, hc, hs⟩ := HS2.out.cell hlt
        have hget : L[k]? = some (L.getD k ByteArray.empty) := by rw [List.getD_eq_getElem?_getD, List.getElem?_eq_getElem hlt]; rfl
        have Hs := hid (HS2.out.small _ (List.mem_of_getElem? hget))
        have hnew := hid (show z ++ (L.getD k ByteArray.empty ++ ⟨#[10]⟩) = printL (L.take (k + 1)) by rw [get_snoc L hget, printL_snoc, hX.out])
        generalize L.getD k ByteArray.empty = y at *
        have hzz : (y ++ (⟨#[10]⟩ : ByteArray)).size = y.size + 1 := ByteArray.size_append
        have hsum1 : y.size + (⟨#[10]⟩ : ByteArray).size ≤ 9223372036854775807 := by show y.size + 1 ≤ _; omega
        have hsum : z.size + (y ++ (⟨#[10]⟩ : ByteArray)).size ≤ 9223372036854775807 := by rw [hzz]; omega
        have Hz := hid (show (z ++ (y ++ (⟨#[10]⟩ : ByteArray))).size = z.size + (y.size + 1) by rw [ByteArray.size_append, hzz])
        clear hzz hget
        go_wp2
        go_round
        case rel => exact ⟨k + 1, _, by omega, by go_num, rfl, by rw [Hz.out, Nat.succ_mul]; omega, hnew⟩
        case measure => simp [intOf]; omega
      · obtain rfl : k = L.length := by omega
        have hR := hid (show R = z by rw [hX.out, HX.out, List.take_length])
        go_wp2
        go_ret
        exact ⟨by rw [hR.out]; rfl, HB2.out⟩

set_option maxHeartbeats 1600000 in
theorem inline_any (x : PH) (ex : List (Option Nat)) (w : World) (h : PHok w ex x) :
    Calls Tryd.prog 42 #[.agg #[.slice x.A x.n x.c]] w fun e w' => e = .returned (.string (inlineP x.p)) ∧ Below w.heap.size w w' := by
  have HP := hid (h.below ((Below.refl w.heap.size w).alloc (Nat.le_refl _) (.cells #[.slice x.A x.n x.c] 34)))
  have hll := linesP_len h
  have HF := hid (Fb.new w #[.slice x.A x.n x.c] 34)
  have HB := hid ((Below.refl w.heap.size w).alloc (Nat.le_refl _) (.cells #[.slice x.A x.n x.c] 34))
  have HV := hid (fun w' (hb : Below (w.alloc (.cells #[.slice x.A x.n x.c] 34)).heap.size (w.alloc (.cells #[.slice x.A x.n x.c] 34)) w') => valid_any x ex w' (HP.out.below hb))
  have HL := hid (fun w' (hb : Below (w.alloc (.cells #[.slice x.A x.n x.c] 34)).heap.size (w.alloc (.cells #[.slice x.A x.n x.c] 34)) w') => lines_any x ex w' (HP.out.below hb))
  have c0 := HF.out.onec
  clear h
  cases hv : prgB x.p with
  | false =>
    have HX := hid (show inlineP x.p = ⟨#[]⟩ by unfold inlineP; rw [hv]; rfl)
    have Hv := hid hv
    clear hv
    go_enter Tryd.func42, Tryd.ntmps42
    go_wp2_with fail
    refine (HV.out _ (Below.refl _ _)).mono ?_
    rw [Hv.out]
    rintro e w1 ⟨rfl, hb1⟩
    have HB1 := hid (below_step HB.out hb1)
    clear hb1
    go_wp2
    go_ret
    exact ⟨by rw [HX.out]; rfl, HB1.out⟩
  | true =>
    have HX := hid (show inlineP x.p = inlineL (linesP x.p) by unfold inlineP; rw [hv]; rfl)
    have Hv := hid hv
    clear hv
    generalize linesP x.p = L at *
    generalize inlineP x.p = R at *
    go_enter Tryd.func42, Tryd.ntmps42
    go_wp2_with fail
    refine (HV.out _ (Below.refl _ _)).mono ?_
    rw [Hv.out]
    rintro e w1 ⟨rfl, hb1⟩
    have HB1 := hid (below_step HB.out hb1)
    have HF1 := hid (HF.out.below hb1 HF.out.lt)
    have Hb1 := hid hb1
    clear hb1 c0
    have c0 := HF1.out.onec
    go_wp2_with fail
    refine (HL.out _ Hb1.out).mono ?_
    rintro e w2 ⟨A2, c2, rfl, hs2, hb2⟩
    have HB2 := hid (below_step HB1.out hb2)
    have HS2 := hid hs2
    clear hb2 hs2 c0 HV HL HP HF HF1
    go_wp2_with fail
    go_loop [3, 5] (fun sv iv => ∃ (k : Nat) (z : ByteArray), k ≤ L.length ∧ iv = .int .i64 k ∧ sv = .string z ∧ z.size ≤ k * 100002 ∧ Hid (z = inlineL (L.take k))) (fun _ iv => L.length - (intOf iv).toNat)
    case atStart => exact ⟨0, _, by omega, rfl, rfl, by show ByteArray.size ⟨#[]⟩ ≤ _; simp [ByteArray.size], hid rfl⟩
    case round =>
      obtain ⟨k, z, hk, rfl, rfl, hz, hX⟩ := hrel
      by_cases hlt : k < L.length
      · obtain ⟨ad, rfl, hb, hc, hs⟩ := HS2.out.cell hlt
        have hget : L[k]? = some (L.getD k ByteArray.empty) := by rw [List.getD_eq_getElem?_getD, List.getElem?_eq_getElem hlt]; rfl
        have Hs := hid (HS2.out.small _ (List.mem_of_getElem? hget))
        by_cases h0 : k = 0
        · obtain rfl : z = ⟨#[]⟩ := by rw [hX.out, h0]; rfl
          have t0 : decide (0 < k) = false := by simp [h0]
          have hnew := hid (show (⟨#[]⟩ : ByteArray) ++ L.getD k ByteArray.empty = inlineL (L.take (k + 1)) by rw [get_snoc L hget, h0]; rfl)
          generalize L.getD k ByteArray.empty = y at *
          have hsum : (⟨#[]⟩ : ByteArray).size + y.size ≤ 9223372036854775807 := by show 0 + y.size ≤ _; omega
          have Hz := hid (show ((⟨#[]⟩ : ByteArray) ++ y).size = y.size by rw [ByteArray.size_append]; show 0 + y.size = _; omega)
          clear hget h0 hz
          go_wp2
          go_round
          case rel => exact ⟨k + 1, _, by omega, by go_num, rfl, by rw [Hz.out, Nat.succ_mul]; omega, hnew⟩
          case measure => simp [intOf]; omega
        · have hpos : 0 < k := by omega
          have hnew := hid (show (z ++ ⟨#[59, 32]⟩) ++ L.getD k ByteArray.empty = inlineL (L.take (k + 1)) by rw [get_snoc L hget, inlineL_snoc _ _ (by rw [List.length_take]; omega), hX.out])
          generalize L.getD k ByteArray.empty = y at *
          have hzz : (z ++ (⟨#[59, 32]⟩ : ByteArray)).size = z.size + 2 := ByteArray.size_append
          have hsum1 : z.size + (⟨#[59, 32]⟩ : ByteArray).size ≤ 9223372036854775807 := by show z.size + 2 ≤ _; omega
          have hsum : (z ++ (⟨#[59, 32]⟩ : ByteArray)).size + y.size ≤ 9223372036854775807 := by rw [hzz]; omega
          have Hz := hid (show ((z ++ (⟨#[59, 32]⟩ : ByteArray)) ++ y).size = z.size + 2 + y.size by rw [ByteArray.size_append, hzz])
          clear hzz hget h0
          go_wp2
          go_round
          case rel => exact ⟨k + 1, _, by omega, by go_num, rfl, by rw [Hz.out, Nat.succ_mul]; omega, hnew⟩
          case measure => simp [intOf]; omega
      · obtain rfl : k = L.length := by omega
        have hR := hid (show R = z by rw [hX.out, HX.out, List.take_length])
        go_wp2
        go_ret
        exact ⟨by rw [hR.out]; rfl, HB2.out⟩
end Go.Proofs.YtlepcgncphikhaaDoor
