/- The reference's IsName. -/
import Derived.Test.YtmbelhdkaepohaaGreatDoorKw
namespace Go.Proofs.YtmbelhdkaepohaaGreatDoor
set_option maxRecDepth 20000
set_option linter.unusedVariables false
set_option linter.unusedSimpArgs false
open Go.ChangeShapes Go.WideShapes Go.ChangeAt Go.RowKit

theorem wrd_ofn (c : Int) : wrdB c = (lttB c || digB c) := by unfold wrdB lttB; cases letB c <;> cases digB c <;> simp
def kwb : List ByteArray := kws.map fun l => ⟨l.toArray⟩
theorem kwB_eq (s : ByteArray) : kwB s = kwb.any fun k => k.toList == s.toList := by
  unfold kwB kwb
  rw [List.any_map]
  congr 1
  funext l
  show _ = ((⟨l.toArray⟩ : ByteArray).toList == s.toList)
  rw [show (⟨l.toArray⟩ : ByteArray).toList = l from toList_data _, Bool.beq_comm]
def kwc : Array Value := (kwb.map .string).toArray
theorem keywords_any (w : World) : Calls Tryz.prog 111 #[] w fun e w' => e = .returned (.slice (some ⟨w.heap.size, 0, none⟩) 11 11) ∧ w.alloc (.cells kwc 9) = w' := by
  go_enter Tryz.func111, Tryz.ntmps111
  go_wp2
  go_ret
  exact ⟨rfl, rfl⟩
theorem kwb_len : kwb.length = 11 := rfl
theorem kwc_get {k : Nat} (h : k < kwb.length) : kwc[k]? = some (.string kwb[k]) := by
  unfold kwc
  simp [List.getElem?_eq_getElem h]

set_option maxHeartbeats 1600000 in
theorem refIsName_any (s : ByteArray) (w : World) (hs : s.size ≤ maxLen) : Calls Tryz.prog 93 #[.string s] w fun e w' => e = .returned (.bool (nameB s)) ∧ Below w.heap.size w w' := by
  unfold maxLen at hs
  by_cases h0 : s.size = 0
  · have Hn := hid (show nameB s = false by unfold nameB; rw [h0]; rfl)
    have t : ((s.size : Int) == 0) = true := by rw [h0]; rfl
    clear h0
    go_enter Tryz.func93, Tryz.ntmps93
    go_wp2_with fail
    go_ret
    exact ⟨by rw [Hn.out]; rfl, Below.refl _ _⟩
  by_cases h16 : ¬ s.size ≤ 16
  · have Hn := hid (show nameB s = false by unfold nameB; simp [h16])
    have t : ((s.size : Int) == 0) = false := by rw [beq_eq_false_iff_ne]; omega
    have t2 : decide ((16 : Int) < (s.size : Int)) = true := by simp; omega
    clear h0
    go_enter Tryz.func93, Tryz.ntmps93
    go_wp2_with fail
    go_ret
    exact ⟨by rw [Hn.out]; rfl, Below.refl _ _⟩
  have hs16 : s.size ≤ 16 := by omega
  have h1 : 0 < s.size := by omega
  have t : ((s.size : Int) == 0) = false := by rw [beq_eq_false_iff_ne]; omega
  clear h0 h16
  have hb := byt_at s 0 h1
  cases hx : lttB (byt s 0) with
  | false =>
    have HX := hid hx
    have Hn := hid (show nameB s = false by
      unfold lttB at hx
      rw [Bool.or_eq_false_iff] at hx
      unfold nameB; rw [hx.1]; simp)
    clear hx
    go_enter Tryz.func93, Tryz.ntmps93
    go_wp2_with (go_at_call 48; refine (refLetter_any _ _).mono ?_; rw [HX.out]; rintro e w' ⟨rfl, rfl⟩)
    go_ret
    exact ⟨by rw [Hn.out]; rfl, Below.refl _ _⟩
  | true =>
    have HX := hid hx
    cases hu : (byt s 0 == 95) with
    | true =>
      have Hn := hid (show nameB s = false by
        have e : byt s 0 = 95 := by simpa using hu
        unfold nameB; rw [e]; simp [letB])
      clear hx
      go_enter Tryz.func93, Tryz.ntmps93
      go_wp2_with (go_at_call 48; refine (refLetter_any _ _).mono ?_; rw [HX.out]; rintro e w' ⟨rfl, rfl⟩)
      go_ret
      exact ⟨by rw [Hn.out]; rfl, Below.refl _ _⟩
    | false =>
      have HL := hid (show letB (byt s 0) = true by
        unfold lttB at hx
        have : ¬ byt s 0 = 95 := by simpa using hu
        simpa [this] using hx)
      clear hx
      go_enter Tryz.func93, Tryz.ntmps93
      go_wp2_with (go_at_call 48; refine (refLetter_any _ _).mono ?_; rw [HX.out]; rintro e w' ⟨rfl, rfl⟩)
      go_loop [3] (fun i => ∃ k : Nat, k ≤ s.size ∧ i = .int .i64 k ∧ Hid (runL wrdB s 0 = k + runL wrdB s k)) (fun i => s.size - (intOf i).toNat)
      case atStart => exact ⟨0, by omega, rfl, hid (by omega)⟩
      case round =>
        obtain ⟨k, hk, rfl, hR⟩ := hrel
        by_cases hlt : k < s.size
        · have hkb := byt_at s k hlt
          cases hl : lttB (byt s k) with
          | true =>
            have HK := hid hl
            have hn := hid (show runL wrdB s 0 = (k + 1) + runL wrdB s (k + 1) by rw [hR.out, runL_yes hlt (by rw [wrd_ofn, hl]; rfl)]; omega)
            clear hl
            go_wp2_with (go_at_call 48; refine (refLetter_any _ _).mono ?_; rw [HK.out]; rintro e w' ⟨rfl, rfl⟩)
            go_round
            case rel => exact ⟨k + 1, by omega, by go_num, hn⟩
            case measure => simp [intOf]; omega
          | false =>
            have HK := hid hl
            cases hd : digB (byt s k) with
            | true =>
              have HD := hid hd
              have hn := hid (show runL wrdB s 0 = (k + 1) + runL wrdB s (k + 1) by rw [hR.out, runL_yes hlt (by rw [wrd_ofn, hl, hd]; rfl)]; omega)
              clear hl hd
              go_wp2_with (first | (go_at_call 48; refine (refLetter_any _ _).mono ?_; rw [HK.out]; rintro e w' ⟨rfl, rfl⟩) | (go_at_call 49; refine (refDigit_any _ _).mono ?_; rw [HD.out]; rintro e w' ⟨rfl, rfl⟩))
              go_round
              case rel => exact ⟨k + 1, by omega, by go_num, hn⟩
              case measure => simp [intOf]; omega
            | false =>
              have HD := hid hd
              have hne : ¬ runL wrdB s 0 = s.size := by rw [hR.out, runL_no (by rw [wrd_ofn, hl, hd]; rfl)]; omega
              have Hn := hid (show nameB s = false by unfold nameB; simp [hne])
              clear hl hd hne
              go_wp2_with (first | (go_at_call 48; refine (refLetter_any _ _).mono ?_; rw [HK.out]; rintro e w' ⟨rfl, rfl⟩) | (go_at_call 49; refine (refDigit_any _ _).mono ?_; rw [HD.out]; rintro e w' ⟨rfl, rfl⟩))
              go_ret
              exact ⟨by rw [Hn.out]; rfl, Below.refl _ _⟩
        · have hsz : k = s.size := by omega
          have Hall := hid (show runL wrdB s 0 = s.size by rw [hR.out, runL_end (by omega)]; omega)
          have Hkw := hid (show nameB s = !kwB s by unfold nameB; rw [HL.out, Hall.out]; simp [h1, hs16])
          clear hsz hR
          go_wp2_with (go_at_call 111; refine (keywords_any _).mono ?_; rintro e w1 ⟨rfl, rfl⟩)
          have hfb := Fb.new w kwc 9
          have hbl := (Below.refl w.heap.size w).alloc (Nat.le_refl _) (.cells kwc 9)
          generalize w.alloc (.cells kwc 9) = w1 at *
          generalize hg : w.heap.size = g at *
          have Hg := hid hg
          clear hg
          have Hfb := hid hfb; have Hbl := hid hbl
          clear hfb hbl
          go_loop [5] (fun i => ∃ k : Nat, k ≤ 11 ∧ i = .int .i64 k ∧ Hid (∀ j x, kwb[j]? = some x → j < k → (x.toList == s.toList) = false)) (fun i => 11 - (intOf i).toNat)
          case atStart => exact ⟨0, by omega, rfl, hid (fun j x _ h => by omega)⟩
          case round =>
            obtain ⟨j, hj, rfl, hJ⟩ := hrel
            by_cases hlj : j < 11
            · have hc : w1.cell? ⟨g, j, none⟩ = some (.string (kwb[j]'(by rw [kwb_len]; exact hlj))) := by rw [Hfb.out.cell]; exact kwc_get _
              have hgt : kwb[j]? = some (kwb[j]'(by rw [kwb_len]; exact hlj)) := List.getElem?_eq_getElem _
              have hmem : (kwb[j]'(by rw [kwb_len]; exact hlj)) ∈ kwb := List.getElem_mem _
              generalize (kwb[j]'(by rw [kwb_len]; exact hlj)) = x at hc hgt hmem
              have Hgt := hid hgt; have Hmem := hid hmem
              clear hgt hmem
              cases he : (x.toList == s.toList) with
              | true =>
                have Hn := hid (show nameB s = false by
                  rw [Hkw.out, kwB_eq, Bool.not_eq_false', List.any_eq_true]
                  exact ⟨x, Hmem.out, he⟩)
                go_wp2_with fail
                go_ret
                exact ⟨by rw [Hn.out]; rfl, by rw [Hg.out]; exact Hbl.out⟩
              | false =>
                have hJ2 := hid (show ∀ j' x', kwb[j']? = some x' → j' < j + 1 → (x'.toList == s.toList) = false from fun j' x' h1 h2 => by
                  by_cases e : j' = j
                  · subst e; rw [Hgt.out] at h1; cases h1; exact he
                  · exact hJ.out j' x' h1 (by omega))
                go_wp2_with fail
                go_round
                case rel => exact ⟨j + 1, by omega, by go_num, hJ2⟩
                case measure => simp [intOf]; omega
            · have Hn := hid (show nameB s = true by
                rw [Hkw.out, kwB_eq, Bool.not_eq_true', List.any_eq_false]
                intro x hx
                obtain ⟨j', hj', he⟩ := List.getElem_of_mem hx
                rw [hJ.out j' x (by rw [List.getElem?_eq_getElem hj', he]) (by rw [kwb_len] at hj'; omega)]; simp)
              go_wp2_with fail
              go_ret
              exact ⟨by rw [Hn.out]; rfl, by rw [Hg.out]; exact Hbl.out⟩
end Go.Proofs.YtmbelhdkaepohaaGreatDoor
