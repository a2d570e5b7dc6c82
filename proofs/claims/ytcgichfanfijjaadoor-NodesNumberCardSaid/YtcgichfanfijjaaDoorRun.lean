/- The scanner's run. -/
import Derived.Test.YtcgichfanfijjaaDoorStp
import Derived.Test.YtcgichfanfijjaaDoorScp
namespace Go.Proofs.YtcgichfanfijjaaDoor
set_option maxRecDepth 20000
set_option linter.unusedVariables false
open Go.ChangeShapes Go.WideShapes Go.ChangeAt Go.RowKit

set_option maxHeartbeats 3200000 in
theorem run_any (S : Nat) (s : ByteArray) (w0 w : World) (hS : Scn w0 S s 0 1 0 (.slice none 0 0) [] w) (hs : s.size ≤ 4096) :
    Calls Tryd.prog 98 #[.pointer (some ⟨S, 0, none⟩)] w (RunP w0 S s) := by
  have H0 := hid (show Sca w0 S s 0 1 1 (.slice none 0 0) [] w from ⟨hS, Fine.start s, rfl⟩)
  clear hS
  go_enter Tryd.func98, Tryd.ntmps98
  go_wp2_with fail
  go_loopw [] (fun wr => ∃ (i line col : Nat) (v : Value) (l : List Tok), Hid (Sca w0 S s i line col v l wr)) (fun wr => s.size - atOf S wr)
  case atStart => exact ⟨_, _, _, _, _, H0.out⟩
  case round =>
    clear H0
    obtain ⟨i, line, col, v, l, H⟩ := hrel
    obtain ⟨⟨c0, c1, c2, c3, c4⟩, f0, f1, f2, f3, f4⟩ := Fb.five H.out.1.1
    have hle := H.out.2.1.le
    by_cases hlt : i < s.size
    · have hb := byt_at s i hlt
      have hw1 := wl_le s hlt
      have hw2 := cl_le s hlt
      have hfew := H.out.2.1.few
      have hcol1 := H.out.2.1.col1
      have hcol2 := H.out.2.1.col2
      have hline := H.out.2.1.line2
      cases hw : wrdB (byt s i) with
      | true =>
        have HW := hid hw
        have hwp := wl_pos hlt hw
        have hrl : runL wrdB (s.extract i s.size) 0 = wl s i := runL_ext wrdB s i hle
        have hrb : byt (s.extract i s.size) 0 = byt s i := byt_ext s i 0 (by omega)
        have hrs : (s.extract i s.size).size = s.size - i := by simp [ByteArray.size_extract]
        have hE : wordE (s.extract i s.size) = if digB (byt s i) then 4 else if 16 < wl s i then 7 else 0 := by unfold wordE; rw [hrl, hrb]
        have HRL := hid hrl; have HRS := hid hrs
        clear hw hrl hrb hrs
        cases hd : digB (byt s i) with
        | true =>
          rw [hd] at hE
          have HE := hid (show wordE (s.extract i s.size) = 4 from hE)
          have Hst := hid (stp_digit (l := l) (line := line) (col := col) HW.out hd)
          clear hd hE
          go_wp2_with fail
          go_quiet (fail)
          go_wp2_with fail
          refine wp_scope_to 0 (by rfl) ?_
          intro K hK
          go_wp2_with fail
          go_quiet (fail)
          go_wp2_with (go_at_call 133; refine (isInWord_any _ _).mono ?_; rw [HW.out]; rintro e w' ⟨rfl, rfl⟩)
          go_step3
          refine onlyTo_goto (hK _ _ ?_)
          generalize hX : wr.drewN _ = w1
          have H1 : Hid (Sca w0 S s i line col v l w1) := by rw [← hX]; exact H.out.drewN _
          clear hX c0 c1 c2 c3 c4 f0 f1 f2 f3 f4 H
          go_wp2_with fail
          refine (rest_any S s i line _ v _ H1.out.1.1 hle (by unfold maxLen; omega)).mono ?_
          rintro e w2 ⟨rfl, q2, rfl⟩
          go_wp2_with fail
          refine (checkWord_any _ _ (by rw [HRS.out]; unfold maxLen; omega) (by rw [HRS.out]; omega)).mono ?_
          rw [HE.out]
          rintro e w2 ⟨rfl, rfl⟩
          go_wp2
          try rw [Exit.noGoto_ret]
          go_ret
          exact H1.out.stop hlt Hst.out (by decide) _
        | false =>
          rw [hd] at hE
          by_cases hl : 16 < wl s i
          · rw [if_pos hl] at hE
            have HE := hid (show wordE (s.extract i s.size) = 7 from hE)
            have Hst := hid (stp_long (l := l) (line := line) (col := col) HW.out hd hl)
            clear hd hE hl
            go_wp2_with fail
            go_quiet (fail)
            go_wp2_with fail
            refine wp_scope_to 0 (by rfl) ?_
            intro K hK
            go_wp2_with fail
            go_quiet (fail)
            go_wp2_with (go_at_call 133; refine (isInWord_any _ _).mono ?_; rw [HW.out]; rintro e w' ⟨rfl, rfl⟩)
            go_step3
            refine onlyTo_goto (hK _ _ ?_)
            generalize hX : wr.drewN _ = w1
            have H1 : Hid (Sca w0 S s i line col v l w1) := by rw [← hX]; exact H.out.drewN _
            clear hX c0 c1 c2 c3 c4 f0 f1 f2 f3 f4 H
            go_wp2_with fail
            refine (rest_any S s i line _ v _ H1.out.1.1 hle (by unfold maxLen; omega)).mono ?_
            rintro e w2 ⟨rfl, q2, rfl⟩
            go_wp2_with fail
            refine (checkWord_any _ _ (by rw [HRS.out]; unfold maxLen; omega) (by rw [HRS.out]; omega)).mono ?_
            rw [HE.out]
            rintro e w2 ⟨rfl, rfl⟩
            go_wp2
            try rw [Exit.noGoto_ret]
            go_ret
            exact H1.out.stop hlt Hst.out (by decide) _
          · rw [if_neg hl] at hE
            have HE := hid (show wordE (s.extract i s.size) = 0 from hE)
            have Hst := hid (stp_word (l := l) (line := line) (col := col) HW.out hd hl)
            clear hd hE hl
            have Hwr := hid (show Sca w0 S s i line col v l wr from H.out)
            go_wp2_with fail
            go_quiet (fail)
            go_wp2_with fail
            refine wp_scope_to 0 (by rfl) ?_
            intro K hK
            go_wp2_with fail
            go_quiet (fail)
            go_wp2_with (go_at_call 133; refine (isInWord_any _ _).mono ?_; rw [HW.out]; rintro e w' ⟨rfl, rfl⟩)
            go_step3
            refine onlyTo_goto (hK _ _ ?_)
            generalize hX : wr.drewN _ = w1
            have H1 : Hid (Sca w0 S s i line col v l w1) := by rw [← hX]; exact H.out.drewN _
            clear hX c0 c1 c2 c3 c4 f0 f1 f2 f3 f4 H
            go_wp2_with fail
            refine (rest_any S s i line _ v _ H1.out.1.1 hle (by unfold maxLen; omega)).mono ?_
            rintro e w2 ⟨rfl, q2, rfl⟩
            go_wp2_with fail
            refine (checkWord_any _ _ (by rw [HRS.out]; unfold maxLen; omega) (by rw [HRS.out]; omega)).mono ?_
            rw [HE.out]
            rintro e w2 ⟨rfl, rfl⟩
            go_wp2_with fail
            refine (rest_any S s i line _ v _ (H1.out.1.drewN _).1 hle (by unfold maxLen; omega)).mono ?_
            rintro e w2 ⟨rfl, q3, rfl⟩
            go_wp2_with fail
            refine (wordLength_any _ _ (by rw [HRS.out]; unfold maxLen; omega)).mono ?_
            rw [HRL.out]
            rintro e w2 ⟨rfl, rfl⟩
            go_wp2_with fail
            refine (add_any 1 (wl s i) S s i line (i + 1 - col) v l w0 _ (H1.out.1.drewN _) hs hw1 (by omega) (by omega)).mono ?_
            rw [show i + 1 - (i + 1 - col) = col by omega]
            rintro e w4 ⟨rfl, v4, h4⟩
            rw [show i + 1 - col = (i + wl s i) + 1 - (col + wl s i) by omega] at h4
            have H4 := hid (Hwr.out.step hlt Hst.out h4)
            clear h4
            go_wp2
            go_roundw
            case rel => first | exact ⟨_, _, _, _, _, H4⟩ | ((repeat apply Exists.intro); exact ⟨⟨_, _, _, _, _, H4⟩, rfl⟩)
            case measure => exact Hwr.out.less H4.out (by omega) hlt
      | false =>
        have HW := hid hw
        clear hw
        have Hwr := hid (show Sca w0 S s i line col v l wr from H.out)
        cases h1 : (byt s i == 61) with
        | true =>
          have Hst := hid (stp_equal (l := l) (line := line) (col := col) HW.out h1)
          have Hone := hid (ext_one hlt (c := 61) (by decide) (by simpa using h1))
          go_wp2_with fail
          go_quiet (fail)
          go_wp2_with fail
          refine wp_scope_to 1 (by rfl) ?_
          intro K hK
          go_wp2_with fail
          go_quiet (fail)
          go_wp2_with (go_at_call 133; refine (isInWord_any _ _).mono ?_; rw [HW.out]; rintro e w' ⟨rfl, rfl⟩)
          go_step3
          refine onlyTo_goto (hK _ _ ?_)
          generalize hX : wr.drewN _ = w1
          have H1 : Hid (Sca w0 S s i line col v l w1) := by rw [← hX]; exact H.out.drewN _
          clear hX c0 c1 c2 c3 c4 f0 f1 f2 f3 f4 H
          go_wp2_with fail
          refine (add_any 2 1 S s i line (i + 1 - col) v l w0 _ H1.out.1 hs (by omega) (by omega) (by omega)).mono ?_
          rw [show i + 1 - (i + 1 - col) = col by omega]
          rintro e w4 ⟨rfl, v4, h4⟩
          rw [show i + 1 - col = (i + 1) + 1 - (col + 1) by omega, Hone.out] at h4
          have H4 := hid (Hwr.out.step hlt Hst.out h4)
          clear h4
          go_wp2
          go_roundw
          case rel => first | exact ⟨_, _, _, _, _, H4⟩ | ((repeat apply Exists.intro); exact ⟨⟨_, _, _, _, _, H4⟩, rfl⟩)
          case measure => exact Hwr.out.less (H4).out (by omega) hlt
        | false =>
          cases h2 : (byt s i == 35) with
          | true =>
            have Hst := hid (stp_comment (l := l) (line := line) (col := col) HW.out h1 h2)
            have hcp := cl_pos hlt (by have : byt s i = 35 := by simpa using h2
                                       rw [this]; rfl)
            have hrl : runL notFeed (s.extract i s.size) 0 = cl s i := runL_ext notFeed s i hle
            have hrs : (s.extract i s.size).size = s.size - i := by simp [ByteArray.size_extract]
            have HRL := hid hrl; have HRS := hid hrs
            clear hrl hrs
            go_wp2_with fail
            go_quiet (fail)
            go_wp2_with fail
            refine wp_scope_to 2 (by rfl) ?_
            intro K hK
            go_wp2_with fail
            go_quiet (fail)
            go_wp2_with (go_at_call 133; refine (isInWord_any _ _).mono ?_; rw [HW.out]; rintro e w' ⟨rfl, rfl⟩)
            go_step3
            refine onlyTo_goto (hK _ _ ?_)
            generalize hX : wr.drewN _ = w1
            have H1 : Hid (Sca w0 S s i line col v l w1) := by rw [← hX]; exact H.out.drewN _
            clear hX c0 c1 c2 c3 c4 f0 f1 f2 f3 f4 H
            go_wp2_with fail
            refine (endLine_any S s i line (i + 1 - col) v l w0 _ H1.out.1 hs hle (by omega) (by omega)).mono ?_
            rw [show i + 1 - (i + 1 - col) = col by omega]
            rintro e w3 ⟨rfl, v3, h3⟩
            have H3 := hid h3
            obtain ⟨⟨c0, c1, c2, c3, c4⟩, f0, f1, f2, f3, f4⟩ := Fb.five h3.1
            clear h3 H1
            have Hrest := hid (fun q => rest_any S s i line _ v3 (w3.drewN q) (H3.out.drewN q).1 hle (by unfold maxLen; omega))
            have Hlen := hid (fun q => commentLength_any (s.extract i s.size) (w3.drewN q) (by rw [HRS.out]; unfold maxLen; omega))
            rw [HRL.out] at Hlen
            have H4 := fun q => hid (Hwr.out.step hlt Hst.out ((H3.out.drewN q).move (by omega) (cl s i) ((i : Int) + (cl s i : Nat)) rfl))
            have H4 := hid H4
            have ew : IntKind.i64.wrap ((i : Int) + (cl s i : Nat)) = (i : Int) + (cl s i : Nat) := IntWalk.i64_in _ (by omega)
            go_wp2_with fail
            go_region_law (first
              | (go_simp
                 go_at_call 135
                 go_must (
                 refine (Hrest.out _).mono ?_
                 rintro e w5 ⟨rfl, q5, rfl⟩))
              | (go_simp
                 go_at_call 139
                 go_must (
                 refine (Hlen.out _).mono ?_
                 rintro e w6 ⟨rfl, rfl⟩)))
            all_goals
              clear ew
              go_wp2
              go_roundw
              case rel => first | exact ⟨_, _, _, _, _, H4.out _⟩ | ((repeat apply Exists.intro); exact ⟨⟨_, _, _, _, _, H4.out _⟩, rfl⟩)
              case measure => exact Hwr.out.less (H4.out _).out (by omega) hlt
          | false =>
            cases h3 : (byt s i == 10) with
            | true =>
              have Hst := hid (stp_feed (l := l) (line := line) (col := col) HW.out h1 h2 h3)
              go_wp2_with fail
              go_quiet (fail)
              go_wp2_with fail
              refine wp_scope_to 3 (by rfl) ?_
              intro K hK
              go_wp2_with fail
              go_quiet (fail)
              go_wp2_with (go_at_call 133; refine (isInWord_any _ _).mono ?_; rw [HW.out]; rintro e w' ⟨rfl, rfl⟩)
              go_step3
              refine onlyTo_goto (hK _ _ ?_)
              generalize hX : wr.drewN _ = w1
              have H1 : Hid (Sca w0 S s i line col v l w1) := by rw [← hX]; exact H.out.drewN _
              clear hX c0 c1 c2 c3 c4 f0 f1 f2 f3 f4 H
              go_wp2_with fail
              refine (endLine_any S s i line (i + 1 - col) v l w0 _ H1.out.1 hs hle (by omega) (by omega)).mono ?_
              rw [show i + 1 - (i + 1 - col) = col by omega]
              rintro e w3 ⟨rfl, v3, h3⟩
              have H3 := hid h3
              obtain ⟨⟨c0, c1, c2, c3, c4⟩, f0, f1, f2, f3, f4⟩ := Fb.five h3.1
              clear h3 H1
              go_wp2
              have H4 := hid (Hwr.out.step hlt Hst.out (H3.out.feed ((i : Int) + 1) ((line : Int) + 1) ((i : Int) + 1) rfl rfl rfl))
              go_roundw
              case rel => first | exact ⟨_, _, _, _, _, H4⟩ | ((repeat apply Exists.intro); exact ⟨⟨_, _, _, _, _, H4⟩, rfl⟩)
              case measure => exact Hwr.out.less (H4).out (by omega) hlt
            | false =>
              cases h4 : (byt s i == 59) with
              | true =>
                have Hst := hid (stp_semi (l := l) (line := line) (col := col) HW.out h1 h2 h3 h4)
                go_wp2_with fail
                go_quiet (fail)
                go_wp2_with fail
                refine wp_scope_to 4 (by rfl) ?_
                intro K hK
                go_wp2_with fail
                go_quiet (fail)
                go_wp2_with (go_at_call 133; refine (isInWord_any _ _).mono ?_; rw [HW.out]; rintro e w' ⟨rfl, rfl⟩)
                go_step3
                refine onlyTo_goto (hK _ _ ?_)
                generalize hX : wr.drewN _ = w1
                have H1 : Hid (Sca w0 S s i line col v l w1) := by rw [← hX]; exact H.out.drewN _
                clear hX c0 c1 c2 c3 c4 f0 f1 f2 f3 f4 H
                go_wp2_with fail
                refine (endLine_any S s i line (i + 1 - col) v l w0 _ H1.out.1 hs hle (by omega) (by omega)).mono ?_
                rw [show i + 1 - (i + 1 - col) = col by omega]
                rintro e w3 ⟨rfl, v3, h3⟩
                have H3 := hid h3
                obtain ⟨⟨c0, c1, c2, c3, c4⟩, f0, f1, f2, f3, f4⟩ := Fb.five h3.1
                clear h3 H1
                go_wp2_with fail
                try go_step3
                go_wp2
                have H4 := hid (Hwr.out.step hlt Hst.out (H3.out.move (by omega) 1 ((i : Int) + 1) rfl))
                go_roundw
                case rel => first | exact ⟨_, _, _, _, _, H4⟩ | ((repeat apply Exists.intro); exact ⟨⟨_, _, _, _, _, H4⟩, rfl⟩)
                case measure => exact Hwr.out.less (H4).out (by omega) hlt
              | false =>
                cases h5 : (byt s i == 32 || byt s i == 9) with
                | true =>
                  have Hst := hid (stp_blank (l := l) (line := line) (col := col) HW.out h1 h2 h3 h4 h5)
                  have hor : (byt s i == 32) = true ∨ ((byt s i == 32) = false ∧ (byt s i == 9) = true) := by
                    cases h : (byt s i == 32) with
                    | true => exact .inl rfl
                    | false => rw [h] at h5; exact .inr ⟨rfl, by simpa using h5⟩
                  clear h5
                  rcases hor with h5 | ⟨h5, h6⟩
                  all_goals
                    go_wp2_with fail
                    go_quiet (fail)
                    go_wp2_with fail
                    refine wp_scope_to 5 (by rfl) ?_
                    intro K hK
                    go_wp2_with fail
                    go_quiet (fail)
                    go_wp2_with (go_at_call 133; refine (isInWord_any _ _).mono ?_; rw [HW.out]; rintro e w' ⟨rfl, rfl⟩)
                    go_step3
                    refine onlyTo_goto (hK _ _ ?_)
                    generalize hX : wr.drewN _ = w1
                    have H1 : Hid (Sca w0 S s i line col v l w1) := by rw [← hX]; exact H.out.drewN _
                    clear hX c0 c1 c2 c3 c4 f0 f1 f2 f3 f4 H
                    obtain ⟨⟨c0, c1, c2, c3, c4⟩, f0, f1, f2, f3, f4⟩ := Fb.five H1.out.1.1
                    go_wp2
                    have H4 := hid (Hwr.out.step hlt Hst.out (H1.out.1.move (by omega) 1 ((i : Int) + 1) rfl))
                    go_roundw
                    case rel => first | exact ⟨_, _, _, _, _, H4⟩ | ((repeat apply Exists.intro); exact ⟨⟨_, _, _, _, _, H4⟩, rfl⟩)
                    case measure => exact Hwr.out.less (H4).out (by omega) hlt
                | false =>
                  have Hst := hid (stp_bad (l := l) (line := line) (col := col) HW.out h1 h2 h3 h4 h5)
                  simp only [Bool.or_eq_false_iff] at h5
                  obtain ⟨h5, h6⟩ := h5
                  go_wp2_with fail
                  go_quiet (fail)
                  go_wp2_with fail
                  go_step3
                  go_wp2_with fail
                  go_quiet (fail)
                  go_wp2_with (go_at_call 133; refine (isInWord_any _ _).mono ?_; rw [HW.out]; rintro e w' ⟨rfl, rfl⟩)
                  try rw [Exit.noGoto_ret]
                  go_ret
                  exact Hwr.out.stop hlt Hst.out (by decide) _
    · have hfew := H.out.2.1.few
      have hcol1 := H.out.2.1.col1
      have hcol2 := H.out.2.1.col2
      go_wp2_with fail
      go_quiet (fail)
      go_wp2_with fail
      refine (endLine_any S s i line (i + 1 - col) v l w0 _ (H.out.1.drewN _) hs hle (by omega) (by omega)).mono ?_
      rw [show i + 1 - (i + 1 - col) = col by omega]
      rintro e w3 ⟨rfl, v3, h3⟩
      have H3 := hid (H.out.done (by omega) h3)
      clear h3
      go_wp2
      go_ret
      exact H3.out
end Go.Proofs.YtcgichfanfijjaaDoor
