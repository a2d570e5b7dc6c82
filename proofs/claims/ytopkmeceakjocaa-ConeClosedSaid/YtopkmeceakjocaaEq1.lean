/- The package equations: count, linked, transferFits. -/
import Derived.Test.YtopkmeceakjocaaSym
import Derived.Test.YtopkmeceakjocaaDvT
namespace Go.Proofs.Ytopkmeceakjocaa
set_option maxRecDepth 20000
set_option linter.unusedVariables false
set_option linter.unusedSimpArgs false
open Go.ChangeShapes Go.WideShapes Go.ChangeAt Go.RowKit

theorem ret_b {a b : Bool} (h : a = b) : Ending.returned (.bool b) = Ending.returned (.bool a) := by rw [h]
theorem ret_i {a b : Int} (h : a = b) : Ending.returned (.int .i64 b) = Ending.returned (.int .i64 a) := by rw [h]
theorem ascG_cons (N : Nat) (p a : Int) (l : List Int) : ascG N p (a :: l) = if a ≤ p then false else if (N : Int) ≤ a then false else ascG N a l := rfl
theorem drop_at {α : Type} {l : List α} {k : Nat} {a : α} (h : l[k]? = some a) : l.drop k = a :: l.drop (k + 1) := by
  obtain ⟨h1, h2⟩ := List.getElem?_eq_some_iff.1 h
  rw [List.drop_eq_getElem_cons h1, h2]
theorem tot_take {S : List (List Int)} {k : Nat} {l : List Int} (h : S[k]? = some l) : tot (S.take (k + 1)) = tot (S.take k) + l.length := by
  unfold tot; rw [List.take_add_one, h, List.map_append, List.sum_append]; simp
set_option maxHeartbeats 1600000 in
theorem count_any (x : LH) (ex : List (Option Nat)) (w : World) (h : LHok w ex x) (hN : x.n ≤ 100000) (hr : ∀ y ∈ x.l, y.n ≤ 100000) :
    Calls Try.prog 85 #[.slice x.A x.n x.c] w fun e w' => e = .returned (.int .i64 (tot x.v : Nat)) ∧ w = w' := by
  have HX := hid h
  have HR := hid hr
  have HL := hid h.len
  have Hat := hid (fun (k : Nat) (y : RH) (hy : x.l[k]? = some y) => LH.at hy)
  have Hvl := hid (LH.vlen x)
  clear h hr
  generalize hv : LH.v x = v at *
  clear hv
  obtain ⟨A, n, c, l⟩ := x
  simp only at *
  go_enter Try.func85, Try.ntmps85
  go_wp2_with fail
  go_loop [3, 5, 8] (fun sv _ iv => ∃ (k t : Nat), k ≤ n ∧ iv = .int .i64 k ∧ sv = .int .i64 t ∧ t ≤ k * 100000 ∧ Hid (t = tot (v.take k))) (fun _ _ iv => n - (intOf iv).toNat)
  case atStart => exact ⟨0, 0, by omega, rfl, rfl, by omega, hid rfl⟩
  case round =>
    obtain ⟨k, t, hk, rfl, rfl, ht, hE⟩ := hrel
    by_cases hlt : k < n
    · obtain ⟨y, hy, hym⟩ := get_at HL.out hlt
      obtain ⟨ad, hA, had, hc⟩ := HX.out.cell hy
      simp only at hA
      subst hA
      have hyn := HR.out y hym
      have Ht := hid (show t + y.n = tot (v.take (k + 1)) by rw [tot_take (Hat.out k y hy), ← hE.out, (HX.out.all y hym).len])
      clear hy hym
      obtain ⟨yA, yn, yc, yl⟩ := y
      simp only at *
      go_wp2_with fail
      go_round
      case rel => exact ⟨k + 1, t + yn, by omega, by go_num, by go_num, by omega, Ht⟩
      case measure => simp [intOf]; omega
    · obtain rfl : k = n := by omega
      have Ht := hid (show t = tot v by rw [hE.out, List.take_of_length_le (by rw [Hvl.out, HL.out]; omega)])
      go_wp2_with fail
      go_ret
      exact ⟨ret_i (by rw [Ht.out]), rfl⟩
/-- The lists of dependencies are permitted. -/
def linkB (S : List (List Int)) : Bool := decide (1 ≤ S.length) && decide (S.length ≤ 256) && S.all (risB S.length) && decide (tot S ≤ 1024)
theorem ascG_len {N : Nat} {l : List Int} {p : Int} (h0 : -1 ≤ p) (h1 : p < N) (h : ascG N p l = true) : (l.length : Int) ≤ N - 1 - p := by
  induction l generalizing p with
  | nil => simp; omega
  | cons a l ih =>
    rw [ascG_cons] at h
    split at h
    · cases h
    · split at h
      · cases h
      · have := ih (p := a) (by omega) (by omega) h
        simp only [List.length_cons]
        omega
theorem risB_len {N : Nat} {l : List Int} (h : risB N l = true) : l.length ≤ N := by
  have := ascG_len (N := N) (by omega) (by omega) h
  omega
set_option maxHeartbeats 3200000 in
theorem linked_any (x : LH) (ex : List (Option Nat)) (w : World) (h : LHok w ex x) :
    Calls Try.prog 65 #[.slice x.A x.n x.c] w fun e w' => e = .returned (.bool (linkB x.v)) ∧ w = w' := by
  have HX := hid h
  have HL := hid h.len
  have hfew := h.few
  have Hat := hid (fun (k : Nat) (y : RH) (hy : x.l[k]? = some y) => LH.at hy)
  have Hvl := hid (LH.vlen x)
  have HC := hid (fun (hn : x.n ≤ 100000) (hr : ∀ y ∈ x.l, y.n ≤ 100000) => count_any x ex w h hn hr)
  clear h
  generalize hv : LH.v x = v at *
  have Hv := hid hv
  clear hv
  obtain ⟨A, n, c, l⟩ := x
  simp only at *
  have Hn := hid (show v.length = n by rw [Hvl.out, HL.out])
  go_enter Try.func65, Try.ntmps65
  by_cases h1 : n < 1 ∨ 256 < n
  · have Hr := hid (show linkB v = false by
      unfold linkB
      rw [Hn.out]
      rcases h1 with h1 | h1
      · simp [show ¬ 1 ≤ n by omega]
      · simp [show ¬ n ≤ 256 by omega])
    by_cases h2 : n < 1
    · go_wp2_with fail
      go_ret
      exact ⟨ret_b Hr.out, rfl⟩
    · have h3 : 256 < n := by omega
      clear h1
      go_wp2_with fail
      go_ret
      exact ⟨ret_b Hr.out, rfl⟩
  · have h2 : 1 ≤ n := by omega
    have h3 : n ≤ 256 := by omega
    clear h1
    go_wp2_with fail
    go_loop [4, 5, 7, 18] (fun _ _ _ iv => ∃ k : Nat, k ≤ n ∧ iv = .int .i64 k ∧ Hid (∀ y ∈ v.take k, risB n y = true)) (fun _ _ _ iv => n - (intOf iv).toNat)
    case atStart => exact ⟨0, by omega, rfl, hid (by simp)⟩
    case round =>
      obtain ⟨k, hk, rfl, hE⟩ := hrel
      by_cases hlt : k < n
      · obtain ⟨y, hy, hym⟩ := get_at HL.out hlt
        obtain ⟨ad, hA, had, hc⟩ := HX.out.cell hy
        simp only at hA
        subst hA
        have Hy := hid (Hat.out k y hy)
        have HY := hid (HX.out.all y hym)
        clear hy hym
        obtain ⟨yA, yn, yc, yl⟩ := y
        simp only at *
        have hyf := HY.out.few
        simp only at hyf
        go_wp2_with fail
        go_loop [5, 7, 24] (fun pv _ jv => ∃ (j : Nat) (p : Int), j ≤ yn ∧ jv = .int .i64 j ∧ pv = .int .i64 p ∧ Hid (risB n yl = ascG n p (yl.drop j))) (fun _ _ jv => yn - (intOf jv).toNat)
        case atStart => exact ⟨0, -1, by omega, rfl, rfl, hid rfl⟩
        case round =>
          obtain ⟨j, p, hj, rfl, rfl, hP⟩ := hrel
          by_cases hlj : j < yn
          · obtain ⟨a, ha, -⟩ := get_at HY.out.len hlj
            obtain ⟨ad2, hA2, had2, hc2⟩ := HY.out.cell ha
            simp only at hA2
            subst hA2
            have Hd := hid (drop_at ha)
            clear ha
            by_cases h4 : a ≤ p
            · have Hr0 := hid (show risB n yl = false by rw [hP.out, Hd.out, ascG_cons, if_pos h4])
              have Hr := hid (show linkB v = false by
                unfold linkB
                rw [Hn.out, show v.all (risB n) = false from List.all_eq_false.2 ⟨_, List.mem_of_getElem? Hy.out, by rw [Hr0.out]; decide⟩]
                simp)
              go_wp2_with fail
              go_ret
              exact ⟨ret_b Hr.out, rfl⟩
            · by_cases h5 : (n : Int) ≤ a
              · have Hr0 := hid (show risB n yl = false by rw [hP.out, Hd.out, ascG_cons, if_neg h4, if_pos h5])
                have Hr := hid (show linkB v = false by
                  unfold linkB
                  rw [Hn.out, show v.all (risB n) = false from List.all_eq_false.2 ⟨_, List.mem_of_getElem? Hy.out, by rw [Hr0.out]; decide⟩]
                  simp)
                go_wp2_with fail
                go_ret
                exact ⟨ret_b Hr.out, rfl⟩
              · have Hr := hid (show risB n yl = ascG n a (yl.drop (j + 1)) by rw [hP.out, Hd.out, ascG_cons, if_neg h4, if_neg h5])
                go_wp2_with fail
                go_round
                case rel => exact ⟨j + 1, a, by omega, by go_num, rfl, Hr⟩
                case measure => simp [intOf]; omega
          · have Hr0 := hid (show risB n yl = true by rw [hP.out, List.drop_of_length_le (by have e := HY.out.len; simp only at e; omega)]; rfl)
            have Hr := hid (show ∀ y ∈ v.take (k + 1), risB n y = true from fun y hy => by
              rw [List.take_add_one, Hy.out] at hy
              rcases List.mem_append.1 hy with hy | hy
              · exact hE.out y hy
              · simp at hy; subst hy; exact Hr0.out)
            go_wp2_with fail
            go_round
            case rel => exact ⟨k + 1, by omega, by go_num, Hr⟩
            case measure => simp [intOf]; omega
      · obtain rfl : k = n := by omega
        have Hall := hid (show ∀ y ∈ v, risB k y = true from fun y hy => hE.out y (by rw [List.take_of_length_le (by rw [Hn.out]; omega)]; exact hy))
        have Hr := hid (show linkB v = decide (tot v ≤ 1024) by
          unfold linkB
          rw [Hn.out, List.all_eq_true.2 Hall.out]
          simp [h2, h3])
        have HC2 := hid (HC.out (by omega) (fun y hy => by
          have h6 := Hall.out y.l (by rw [← Hv.out]; exact List.mem_map.2 ⟨y, hy, rfl⟩)
          have h7 := risB_len h6
          rw [(HX.out.all y hy).len] at h7
          omega))
        clear HC
        go_wp2_with fail
        refine HC2.out.mono ?_
        rintro e w1 ⟨rfl, rfl⟩
        go_wp2_with fail
        go_ret
        refine ⟨ret_b ?_, rfl⟩
        rw [Hr.out]
        apply Bool.eq_iff_iff.2
        simp only [decide_eq_true_eq]
        omega
set_option maxHeartbeats 1600000 in
theorem fits_any (x : FH) (W : Int) (ex : List (Option Nat)) (w : World) (h : FHok w ex x) :
    Calls Try.prog 67 #[x.a, .int .i64 W] w fun e w' => e = .returned (.bool (x.vB && decide (x.G.W = W))) ∧ Below w.heap.size w w' := by
  have HA := hid h.arg
  clear h
  obtain ⟨⟨V0, A, n, c, gs⟩, ⟨V, B, m, d, ks⟩, C, k, q, cs⟩ := x
  unfold FH.a FH.vB at *
  simp only at *
  have Hb0 := hid ((Below.refl w.heap.size w).alloc (Nat.le_refl _) (.cells #[.int .i64 V0, .slice A n c, .int .i64 V, .slice B m d, .slice C k q] 61))
  have HF := hid (Fb.new w #[.int .i64 V0, .slice A n c, .int .i64 V, .slice B m d, .slice C k q] 61)
  have HA1 := hid (HA.out.below Hb0.out)
  go_enter Try.func67, Try.ntmps67
  go_wp2_with fail
  refine (devValidT_any V0 V A B C n c m d k q gs ks cs _ HA1.out.gen HA1.out.kill HA1.out.cops).mono ?_
  generalize w.alloc (.cells #[.int .i64 V0, .slice A n c, .int .i64 V, .slice B m d, .slice C k q] 61) = w0 at *
  cases hv : validT V0 gs V ks cs with
  | false =>
    rintro e w1 ⟨rfl, hb1⟩
    have Hb := hid (Hb0.out.trans (hb1.mono Hb0.out.size))
    have Hr := hid (show (validT V0 gs V ks cs && decide (V0 = W)) = false by rw [hv]; rfl)
    clear hv hb1
    go_wp2_with fail
    go_ret
    exact ⟨ret_b Hr.out, Hb.out⟩
  | true =>
    rintro e w1 ⟨rfl, hb1⟩
    have Hb := hid (Hb0.out.trans (hb1.mono Hb0.out.size))
    obtain ⟨c0, c1, c2, c3, c4⟩ := (HF.out.below hb1 HF.out.lt).five
    have Hr := hid (show (validT V0 gs V ks cs && decide (V0 = W)) = (V0 == W) by rw [hv]; rfl)
    clear hv hb1 c1 c2 c3 c4
    go_wp2_with fail
    go_ret
    exact ⟨ret_b Hr.out, Hb.out⟩
end Go.Proofs.Ytopkmeceakjocaa
