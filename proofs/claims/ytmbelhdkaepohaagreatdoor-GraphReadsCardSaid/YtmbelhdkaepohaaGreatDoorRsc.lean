/- The reference's Scan returns the same. -/
import Derived.Test.YtmbelhdkaepohaaGreatDoorDsc
namespace Go.Proofs.YtmbelhdkaepohaaGreatDoor
set_option maxRecDepth 20000
set_option linter.unusedVariables false
open Go.ChangeShapes Go.WideShapes Go.ChangeAt Go.RowKit

/-- A row of tokens of the call's own. -/
def Own (w0 : World) (v : Value) (l : List Tok) (w : World) : Prop := w.ownsRow w0.heap.size 78 4 v l.length (tcells l) ∧ Below w0.heap.size w0 w
theorem Own.push {w0 w w' : World} {v : Value} {l : List Tok} {t : Tok} {g cap : Nat} (h : Own w0 v l w) (o : Obj) (hown : w'.ownsRow w0.heap.size 78 4 (.slice (some ⟨g, 0, none⟩) (l.length + 1) cap) (l.length + 1) (tcells l ++ tcell t)) (hg : (w.alloc o).grownBy w' v.ownBlock) :
    Own w0 (.slice (some ⟨g, 0, none⟩) (l.length + 1) cap) (l ++ [t]) w' := by
  refine ⟨by rw [tcells_snoc, List.length_append]; exact hown, ?_⟩
  exact (h.2.alloc h.2.size o).grown hg (by have := h.2.size; simp; omega) (fun k hk => by have := (h.1.lt k hk).1; omega)
/-- While it runs. -/
def Rca (w0 : World) (s : ByteArray) (i line col : Nat) (v : Value) (l : List Tok) (w : World) : Prop := Own w0 v l w ∧ Fine s i line col l ∧ scanL s 0 1 1 [] = scanL s i line col l
section
variable {w0 w w' : World} {s : ByteArray} {i line col : Nat} {v v' : Value} {l : List Tok}
theorem Rca.step {i' line' col' : Nat} {l' : List Tok} (h : Rca w0 s i line col v l w) (hlt : i < s.size) (e : stp s i line col l = .go i' line' col' l') (h' : Own w0 v' l' w') : Rca w0 s i' line' col' v' l' w' :=
  ⟨h', h.2.1.go hlt e, h.2.2.trans (scanL_go hlt e)⟩
theorem Rca.stop {er : Int} {r : Res} (h : Rca w0 s i line col v l w) (hr : r = scanL s 0 1 1 []) (hlt : i < s.size) (e : stp s i line col l = .stop line col er) : RetScan r w0 (.returned (.tuple #[.slice none 0 0, .int .i64 (line : Int), .int .i64 (col : Int), .int .i64 er])) w := by
  rw [hr, h.2.2, scanL_stop hlt e]
  exact ⟨none, 0, rfl, TArg.nil _, h.1.2⟩
theorem Rca.done {A : Option Addr} {c : Nat} {r : Res} (h : Rca w0 s i line col v l w) (hr : r = scanL s 0 1 1 []) (hlt : s.size ≤ i) (h' : Own w0 (.slice A (endT line col l).length c) (endT line col l) w') : RetScan r w0 (.returned (.tuple #[.slice A (endT line col l).length c, .int .i64 0, .int .i64 0, .int .i64 0])) w' := by
  rw [hr, h.2.2, scanL_end hlt]
  exact ⟨A, c, rfl, ⟨own_at h'.1, rfl⟩, h'.2⟩
end
theorem not_word {c : Int} (h : wrdB c = true) : ((c == 32) = false ∧ (c == 9) = false) ∧ ((c == 10) = false ∧ (c == 59) = false ∧ (c == 35) = false) ∧ (c == 61) = false := by
  unfold wrdB letB digB at h
  simp at h ⊢
  omega
theorem wrd_of (c : Int) : wrdB c = (lttB c || digB c) := by unfold wrdB lttB; cases letB c <;> cases digB c <;> simp

set_option maxHeartbeats 6400000 in
theorem refScan_any (s : ByteArray) (w : World) (hs : s.size ≤ maxLen) : Calls Tryz.prog 36 #[.string s] w (RetScan (scanR s) w) := by
  by_cases hlt0 : s.size ≤ 4096
  · have HR := hid (show scanR s = scanL s 0 1 1 [] by unfold scanR; rw [if_pos hlt0])
    have h0 := hid (show Rca w s 0 1 1 (.slice none 0 0) [] w from ⟨⟨World.ownsRow_nil _ _ _ _, Below.refl _ _⟩, Fine.start s, rfl⟩)
    obtain ⟨i0, hi, hz0, hz1, hz2⟩ := info_parts info47
    have Hi := hid hi; have Hz0 := hid hz0; have Hz1 := hid hz1; have Hz2 := hid hz2
    clear hi hz0 hz1 hz2
    unfold maxLen at hs
    go_enter Tryz.func36, Tryz.ntmps36
    go_wp2_with fail
    go_loopw [6, 7, 8, 9, 10] (fun v ln cn op ix wr => ∃ (i line col : Nat) (l : List Tok), i ≤ s.size ∧ ix = .int .i64 i ∧ ln = .int .i64 line ∧ cn = .int .i64 col ∧ op = .bool (opn l) ∧ Hid (Rca w s i line col v l wr)) (fun _ _ _ _ ix _ => s.size - (intOf ix).toNat)
    case atStart => exact ⟨0, 1, 1, [], by omega, rfl, rfl, rfl, rfl, h0.out⟩
    case round =>
      clear h0
      obtain ⟨i, line, col, l, hle, rfl, rfl, rfl, rfl, H⟩ := hrel
      have hfew := H.out.2.1.few
      have hcol1 := H.out.2.1.col1
      have hcol2 := H.out.2.1.col2
      have hline1 := H.out.2.1.line1
      have hline := H.out.2.1.line2
      have hbase := H.out.1.2.size
      have Hown := hid H.out.1.1
      by_cases hlt : i < s.size
      · have hb := byt_at s i hlt
        have hw1 := wl_le s hlt
        have hw2 := cl_le s hlt
        cases hw : wrdB (byt s i) with
        | true =>
          obtain ⟨⟨n1, n2⟩, ⟨n3, n4, n5⟩, n6⟩ := not_word hw
          have HW := hid hw
          have hor := wrd_of (byt s i)
          rw [hw] at hor
          have hfirst : lttB (byt s i) = true ∨ lttB (byt s i) = false ∧ digB (byt s i) = true := by
            cases h : lttB (byt s i) with
            | true => exact .inl rfl
            | false => rw [h] at hor; exact .inr ⟨rfl, by simpa using hor.symm⟩
          clear hw hor
          rcases hfirst with hl1 | ⟨hl1, hl2⟩
          · have HL1 := hid hl1
            clear hl1
            go_wp2_with ((go_at_call 48; refine (refLetter_any _ _).mono ?_; rw [HL1.out]; rintro e w' ⟨rfl, rfl⟩))
            go_loop [12] (fun x => ∃ k : Nat, k ≤ wl s i ∧ x = .int .i64 k) (fun x => wl s i - (intOf x).toNat)
            case atStart => exact ⟨0, by omega, rfl⟩
            case round =>
              obtain ⟨k, hk, rfl⟩ := hrel
              by_cases hkw : k < wl s i
              · have hkb := byt_at s (i + k) (by omega)
                have hm : wrdB (byt s (i + k)) = true := runL_mem wrdB s i k hkw
                rw [wrd_of] at hm
                cases hx : lttB (byt s (i + k)) with
                | true =>
                  as_aux_lemma =>
                    have HX := hid hx
                    clear hx hm
                    go_wp2_with (go_at_call 48; refine (refLetter_any _ _).mono ?_; rw [HX.out]; rintro e w' ⟨rfl, rfl⟩)
                    go_round
                    case rel => exact ⟨k + 1, by omega, by go_num⟩
                    case measure => simp [intOf]; omega
                | false =>
                  as_aux_lemma =>
                    rw [hx] at hm
                    have HX := hid hx
                    have HM := hid (show digB (byt s (i + k)) = true by simpa using hm)
                    clear hx hm
                    go_wp2_with (first | (go_at_call 48; refine (refLetter_any _ _).mono ?_; rw [HX.out]; rintro e w' ⟨rfl, rfl⟩) | (go_at_call 49; refine (refDigit_any _ _).mono ?_; rw [HM.out]; rintro e w' ⟨rfl, rfl⟩))
                    go_round
                    case rel => exact ⟨k + 1, by omega, by go_num⟩
                    case measure => simp [intOf]; omega
              · obtain rfl : k = wl s i := by omega
                clear hkw hk
                by_cases hin : i + wl s i < s.size
                · have hkb := byt_at s (i + wl s i) hin
                  have hm : wrdB (byt s (i + wl s i)) = false := runL_stop wrdB s i hin
                  rw [wrd_of, Bool.or_eq_false_iff] at hm
                  have HX := hid hm.1
                  have HM := hid hm.2
                  clear hm
                  cases hd : digB (byt s i) with
                  | true =>
                    as_aux_lemma =>
                      have HD := hid hd
                      have Hst := hid (stp_digit (l := l) (line := line) (col := col) HW.out hd)
                      clear hd
                      go_wp2_with (first | (go_at_call 48; refine (refLetter_any _ _).mono ?_; rw [HX.out]; rintro e w' ⟨rfl, rfl⟩) | (go_at_call 49; refine (refDigit_any _ _).mono ?_; first | (rw [HM.out]; rintro e w' ⟨rfl, rfl⟩) | (rw [HD.out]; rintro e w' ⟨rfl, rfl⟩)))
                      refine bodyPost_ret (v := .tuple #[.slice none 0 0, .int .i64 (line : Int), .int .i64 (col : Int), .int .i64 4]) (by simp [results, Tryz.results36, go_sem]) rfl ?_
                      exact H.out.stop HR.out hlt Hst.out
                  | false =>
                    have HD := hid hd
                    by_cases hl : 16 < wl s i
                    · as_aux_lemma =>
                        have Hst := hid (stp_long (l := l) (line := line) (col := col) HW.out hd hl)
                        clear hd
                        go_wp2_with (first | (go_at_call 48; refine (refLetter_any _ _).mono ?_; rw [HX.out]; rintro e w' ⟨rfl, rfl⟩) | (go_at_call 49; refine (refDigit_any _ _).mono ?_; first | (rw [HM.out]; rintro e w' ⟨rfl, rfl⟩) | (rw [HD.out]; rintro e w' ⟨rfl, rfl⟩)))
                        refine bodyPost_ret (v := .tuple #[.slice none 0 0, .int .i64 (line : Int), .int .i64 (col : Int), .int .i64 7]) (by simp [results, Tryz.results36, go_sem]) rfl ?_
                        exact H.out.stop HR.out hlt Hst.out
                    · as_aux_lemma =>
                        have Hst := hid (stp_word (l := l) (line := line) (col := col) HW.out hd hl)
                        have hwp := wl_pos hlt HW.out
                        clear hd
                        go_wp2_with (first | (go_at_call 48; refine (refLetter_any _ _).mono ?_; rw [HX.out]; rintro e w' ⟨rfl, rfl⟩) | (go_at_call 49; refine (refDigit_any _ _).mono ?_; first | (rw [HM.out]; rintro e w' ⟨rfl, rfl⟩) | (rw [HD.out]; rintro e w' ⟨rfl, rfl⟩)) | (
                          at_builtin
                          refine wpList_append_lies _ rfl _ _ 65 rfl w.heap.size 78 i0 _ 4 40 Tryz.underlying65 Hi.out Hz0.out Hz1.out Hz2.out rfl (by decide) u6 l.length (tcells l) rfl (World.ownsRow.alloc Hown.out _) ⟨wr.heap.size, 0, none⟩ 1 1 (tcell ⟨1, s.extract i (i + wl s i), line, col⟩) rfl rfl (four_new _ _ _ _ _ _) (one_tok ⟨1, s.extract i (i + wl s i), line, col⟩) (by omega) (by unfold maxLen; omega) (by omega) (by rw [World.size_alloc]; omega) _ rfl ?_
                          intro g5 cap5 w5 hown5 hgr5 hat5 hlt5
                          have H5 := hid (H.out.step hlt Hst.out (Own.push (t := ⟨1, s.extract i (i + wl s i), line, col⟩) H.out.1 _ hown5 hgr5))
                          clear hown5 hgr5 hat5 hlt5))
                        go_roundw
                        case rel => exact ⟨_, _, _, _, hw1, by go_num, rfl, by go_num, by rw [opn_snoc]; rfl, H5⟩
                        case measure => simp [intOf]; omega
                · cases hd : digB (byt s i) with
                  | true =>
                    as_aux_lemma =>
                      have HD := hid hd
                      have Hst := hid (stp_digit (l := l) (line := line) (col := col) HW.out hd)
                      clear hd
                      go_wp2_with (first | (go_at_call 49; refine (refDigit_any _ _).mono ?_; rw [HD.out]; rintro e w' ⟨rfl, rfl⟩))
                      refine bodyPost_ret (v := .tuple #[.slice none 0 0, .int .i64 (line : Int), .int .i64 (col : Int), .int .i64 4]) (by simp [results, Tryz.results36, go_sem]) rfl ?_
                      exact H.out.stop HR.out hlt Hst.out
                  | false =>
                    have HD := hid hd
                    by_cases hl : 16 < wl s i
                    · as_aux_lemma =>
                        have Hst := hid (stp_long (l := l) (line := line) (col := col) HW.out hd hl)
                        clear hd
                        go_wp2_with (first | (go_at_call 49; refine (refDigit_any _ _).mono ?_; rw [HD.out]; rintro e w' ⟨rfl, rfl⟩))
                        refine bodyPost_ret (v := .tuple #[.slice none 0 0, .int .i64 (line : Int), .int .i64 (col : Int), .int .i64 7]) (by simp [results, Tryz.results36, go_sem]) rfl ?_
                        exact H.out.stop HR.out hlt Hst.out
                    · as_aux_lemma =>
                        have Hst := hid (stp_word (l := l) (line := line) (col := col) HW.out hd hl)
                        have hwp := wl_pos hlt HW.out
                        clear hd
                        go_wp2_with (first | (go_at_call 49; refine (refDigit_any _ _).mono ?_; rw [HD.out]; rintro e w' ⟨rfl, rfl⟩) | (
                          at_builtin
                          refine wpList_append_lies _ rfl _ _ 65 rfl w.heap.size 78 i0 _ 4 40 Tryz.underlying65 Hi.out Hz0.out Hz1.out Hz2.out rfl (by decide) u6 l.length (tcells l) rfl (World.ownsRow.alloc Hown.out _) ⟨wr.heap.size, 0, none⟩ 1 1 (tcell ⟨1, s.extract i (i + wl s i), line, col⟩) rfl rfl (four_new _ _ _ _ _ _) (one_tok ⟨1, s.extract i (i + wl s i), line, col⟩) (by omega) (by unfold maxLen; omega) (by omega) (by rw [World.size_alloc]; omega) _ rfl ?_
                          intro g5 cap5 w5 hown5 hgr5 hat5 hlt5
                          have H5 := hid (H.out.step hlt Hst.out (Own.push (t := ⟨1, s.extract i (i + wl s i), line, col⟩) H.out.1 _ hown5 hgr5))
                          clear hown5 hgr5 hat5 hlt5))
                        go_roundw
                        case rel => exact ⟨_, _, _, _, hw1, by go_num, rfl, by go_num, by rw [opn_snoc]; rfl, H5⟩
                        case measure => simp [intOf]; omega
          · have HL1 := hid hl1
            have HL2 := hid hl2
            clear hl1 hl2
            go_wp2_with (first | (go_at_call 48; refine (refLetter_any _ _).mono ?_; rw [HL1.out]; rintro e w' ⟨rfl, rfl⟩) | (go_at_call 49; refine (refDigit_any _ _).mono ?_; rw [HL2.out]; rintro e w' ⟨rfl, rfl⟩))
            go_loop [12] (fun x => ∃ k : Nat, k ≤ wl s i ∧ x = .int .i64 k) (fun x => wl s i - (intOf x).toNat)
            case atStart => exact ⟨0, by omega, rfl⟩
            case round =>
              obtain ⟨k, hk, rfl⟩ := hrel
              by_cases hkw : k < wl s i
              · have hkb := byt_at s (i + k) (by omega)
                have hm : wrdB (byt s (i + k)) = true := runL_mem wrdB s i k hkw
                rw [wrd_of] at hm
                cases hx : lttB (byt s (i + k)) with
                | true =>
                  as_aux_lemma =>
                    have HX := hid hx
                    clear hx hm
                    go_wp2_with (go_at_call 48; refine (refLetter_any _ _).mono ?_; rw [HX.out]; rintro e w' ⟨rfl, rfl⟩)
                    go_round
                    case rel => exact ⟨k + 1, by omega, by go_num⟩
                    case measure => simp [intOf]; omega
                | false =>
                  as_aux_lemma =>
                    rw [hx] at hm
                    have HX := hid hx
                    have HM := hid (show digB (byt s (i + k)) = true by simpa using hm)
                    clear hx hm
                    go_wp2_with (first | (go_at_call 48; refine (refLetter_any _ _).mono ?_; rw [HX.out]; rintro e w' ⟨rfl, rfl⟩) | (go_at_call 49; refine (refDigit_any _ _).mono ?_; rw [HM.out]; rintro e w' ⟨rfl, rfl⟩))
                    go_round
                    case rel => exact ⟨k + 1, by omega, by go_num⟩
                    case measure => simp [intOf]; omega
              · obtain rfl : k = wl s i := by omega
                clear hkw hk
                by_cases hin : i + wl s i < s.size
                · have hkb := byt_at s (i + wl s i) hin
                  have hm : wrdB (byt s (i + wl s i)) = false := runL_stop wrdB s i hin
                  rw [wrd_of, Bool.or_eq_false_iff] at hm
                  have HX := hid hm.1
                  have HM := hid hm.2
                  clear hm
                  cases hd : digB (byt s i) with
                  | true =>
                    as_aux_lemma =>
                      have HD := hid hd
                      have Hst := hid (stp_digit (l := l) (line := line) (col := col) HW.out hd)
                      clear hd
                      go_wp2_with (first | (go_at_call 48; refine (refLetter_any _ _).mono ?_; rw [HX.out]; rintro e w' ⟨rfl, rfl⟩) | (go_at_call 49; refine (refDigit_any _ _).mono ?_; first | (rw [HM.out]; rintro e w' ⟨rfl, rfl⟩) | (rw [HD.out]; rintro e w' ⟨rfl, rfl⟩)))
                      refine bodyPost_ret (v := .tuple #[.slice none 0 0, .int .i64 (line : Int), .int .i64 (col : Int), .int .i64 4]) (by simp [results, Tryz.results36, go_sem]) rfl ?_
                      exact H.out.stop HR.out hlt Hst.out
                  | false =>
                    have HD := hid hd
                    by_cases hl : 16 < wl s i
                    · as_aux_lemma =>
                        have Hst := hid (stp_long (l := l) (line := line) (col := col) HW.out hd hl)
                        clear hd
                        go_wp2_with (first | (go_at_call 48; refine (refLetter_any _ _).mono ?_; rw [HX.out]; rintro e w' ⟨rfl, rfl⟩) | (go_at_call 49; refine (refDigit_any _ _).mono ?_; first | (rw [HM.out]; rintro e w' ⟨rfl, rfl⟩) | (rw [HD.out]; rintro e w' ⟨rfl, rfl⟩)))
                        refine bodyPost_ret (v := .tuple #[.slice none 0 0, .int .i64 (line : Int), .int .i64 (col : Int), .int .i64 7]) (by simp [results, Tryz.results36, go_sem]) rfl ?_
                        exact H.out.stop HR.out hlt Hst.out
                    · as_aux_lemma =>
                        have Hst := hid (stp_word (l := l) (line := line) (col := col) HW.out hd hl)
                        have hwp := wl_pos hlt HW.out
                        clear hd
                        go_wp2_with (first | (go_at_call 48; refine (refLetter_any _ _).mono ?_; rw [HX.out]; rintro e w' ⟨rfl, rfl⟩) | (go_at_call 49; refine (refDigit_any _ _).mono ?_; first | (rw [HM.out]; rintro e w' ⟨rfl, rfl⟩) | (rw [HD.out]; rintro e w' ⟨rfl, rfl⟩)) | (
                          at_builtin
                          refine wpList_append_lies _ rfl _ _ 65 rfl w.heap.size 78 i0 _ 4 40 Tryz.underlying65 Hi.out Hz0.out Hz1.out Hz2.out rfl (by decide) u6 l.length (tcells l) rfl (World.ownsRow.alloc Hown.out _) ⟨wr.heap.size, 0, none⟩ 1 1 (tcell ⟨1, s.extract i (i + wl s i), line, col⟩) rfl rfl (four_new _ _ _ _ _ _) (one_tok ⟨1, s.extract i (i + wl s i), line, col⟩) (by omega) (by unfold maxLen; omega) (by omega) (by rw [World.size_alloc]; omega) _ rfl ?_
                          intro g5 cap5 w5 hown5 hgr5 hat5 hlt5
                          have H5 := hid (H.out.step hlt Hst.out (Own.push (t := ⟨1, s.extract i (i + wl s i), line, col⟩) H.out.1 _ hown5 hgr5))
                          clear hown5 hgr5 hat5 hlt5))
                        go_roundw
                        case rel => exact ⟨_, _, _, _, hw1, by go_num, rfl, by go_num, by rw [opn_snoc]; rfl, H5⟩
                        case measure => simp [intOf]; omega
                · cases hd : digB (byt s i) with
                  | true =>
                    as_aux_lemma =>
                      have HD := hid hd
                      have Hst := hid (stp_digit (l := l) (line := line) (col := col) HW.out hd)
                      clear hd
                      go_wp2_with (first | (go_at_call 49; refine (refDigit_any _ _).mono ?_; rw [HD.out]; rintro e w' ⟨rfl, rfl⟩))
                      refine bodyPost_ret (v := .tuple #[.slice none 0 0, .int .i64 (line : Int), .int .i64 (col : Int), .int .i64 4]) (by simp [results, Tryz.results36, go_sem]) rfl ?_
                      exact H.out.stop HR.out hlt Hst.out
                  | false =>
                    have HD := hid hd
                    by_cases hl : 16 < wl s i
                    · as_aux_lemma =>
                        have Hst := hid (stp_long (l := l) (line := line) (col := col) HW.out hd hl)
                        clear hd
                        go_wp2_with (first | (go_at_call 49; refine (refDigit_any _ _).mono ?_; rw [HD.out]; rintro e w' ⟨rfl, rfl⟩))
                        refine bodyPost_ret (v := .tuple #[.slice none 0 0, .int .i64 (line : Int), .int .i64 (col : Int), .int .i64 7]) (by simp [results, Tryz.results36, go_sem]) rfl ?_
                        exact H.out.stop HR.out hlt Hst.out
                    · as_aux_lemma =>
                        have Hst := hid (stp_word (l := l) (line := line) (col := col) HW.out hd hl)
                        have hwp := wl_pos hlt HW.out
                        clear hd
                        go_wp2_with (first | (go_at_call 49; refine (refDigit_any _ _).mono ?_; rw [HD.out]; rintro e w' ⟨rfl, rfl⟩) | (
                          at_builtin
                          refine wpList_append_lies _ rfl _ _ 65 rfl w.heap.size 78 i0 _ 4 40 Tryz.underlying65 Hi.out Hz0.out Hz1.out Hz2.out rfl (by decide) u6 l.length (tcells l) rfl (World.ownsRow.alloc Hown.out _) ⟨wr.heap.size, 0, none⟩ 1 1 (tcell ⟨1, s.extract i (i + wl s i), line, col⟩) rfl rfl (four_new _ _ _ _ _ _) (one_tok ⟨1, s.extract i (i + wl s i), line, col⟩) (by omega) (by unfold maxLen; omega) (by omega) (by rw [World.size_alloc]; omega) _ rfl ?_
                          intro g5 cap5 w5 hown5 hgr5 hat5 hlt5
                          have H5 := hid (H.out.step hlt Hst.out (Own.push (t := ⟨1, s.extract i (i + wl s i), line, col⟩) H.out.1 _ hown5 hgr5))
                          clear hown5 hgr5 hat5 hlt5))
                        go_roundw
                        case rel => exact ⟨_, _, _, _, hw1, by go_num, rfl, by go_num, by rw [opn_snoc]; rfl, H5⟩
                        case measure => simp [intOf]; omega
        | false =>
          have HW := hid hw
          have hnl := hw
          rw [wrd_of, Bool.or_eq_false_iff] at hnl
          have HNL := hid hnl.1
          have HND := hid hnl.2
          clear hw hnl
          cases h1 : (byt s i == 61) with
          | true =>
            as_aux_lemma =>
              have e61 : byt s i = 61 := by simpa using h1
              have m1 : (byt s i == 32) = false := by rw [e61]; rfl
              have m2 : (byt s i == 9) = false := by rw [e61]; rfl
              have m3 : (byt s i == 10) = false := by rw [e61]; rfl
              have m4 : (byt s i == 59) = false := by rw [e61]; rfl
              have m5 : (byt s i == 35) = false := by rw [e61]; rfl
              have Hst := hid (stp_equal (l := l) (line := line) (col := col) HW.out h1)
              clear e61
              go_wp2_with ((
                at_builtin
                refine wpList_append_lies _ rfl _ _ 65 rfl w.heap.size 78 i0 _ 4 40 Tryz.underlying65 Hi.out Hz0.out Hz1.out Hz2.out rfl (by decide) u6 l.length (tcells l) rfl (World.ownsRow.alloc Hown.out _) ⟨wr.heap.size, 0, none⟩ 1 1 (tcell ⟨2, ⟨#[61]⟩, line, col⟩) rfl rfl (four_new _ _ _ _ _ _) (one_tok ⟨2, ⟨#[61]⟩, line, col⟩) (by omega) (by unfold maxLen; omega) (by omega) (by rw [World.size_alloc]; omega) _ rfl ?_
                intro g5 cap5 w5 hown5 hgr5 hat5 hlt5
                have H5 := hid (H.out.step hlt Hst.out (Own.push (t := ⟨2, ⟨#[61]⟩, line, col⟩) H.out.1 _ hown5 hgr5))
                clear hown5 hgr5 hat5 hlt5))
              go_roundw
              case rel => exact ⟨_, _, _, _, by omega, by go_num, rfl, by go_num, by rw [opn_snoc]; rfl, H5⟩
              case measure => simp [intOf]; omega
          | false =>
            cases h2 : (byt s i == 35) with
            | true =>
              have hx := h2
              clear h2
              have ec : byt s i = 35 := by simpa using hx
              have m0 : (byt s i == 32) = false := by rw [ec]; rfl
              have m1 : (byt s i == 9) = false := by rw [ec]; rfl
              have m2 : (byt s i == 61) = false := by rw [ec]; rfl
              have m3 : (byt s i == 10) = false := by rw [ec]; rfl
              have m4 : (byt s i == 59) = false := by rw [ec]; rfl
              have q10 : (byt s i != 10) = true := by rw [ec]; rfl
              have q59 : (byt s i != 59) = true := by rw [ec]; rfl
              have q35 : (byt s i != 35) = false := by rw [ec]; rfl
              have Hst := hid (stp_comment (l := l) (line := line) (col := col) HW.out h1 hx)
              have Hec := hid ec
              clear ec
              cases ho : opn l with
              | true =>
                have HO := hid ho
                have HE := hid (endT_yes (line := line) (col := col) ho)
                clear ho
                go_wp2_with ((
                  at_builtin
                  refine wpList_append_lies _ rfl _ _ 65 rfl w.heap.size 78 i0 _ 4 40 Tryz.underlying65 Hi.out Hz0.out Hz1.out Hz2.out rfl (by decide) u6 l.length (tcells l) rfl (World.ownsRow.alloc Hown.out _) ⟨wr.heap.size, 0, none⟩ 1 1 (tcell ⟨3, ByteArray.empty, line, col⟩) rfl rfl (four_new _ _ _ _ _ _) (one_tok ⟨3, ByteArray.empty, line, col⟩) (by omega) (by unfold maxLen; omega) (by omega) (by rw [World.size_alloc]; omega) _ rfl ?_
                  intro g5 cap5 w5 hown5 hgr5 hat5 hlt5
                  have H4 := hid (show Own w (.slice (some ⟨g5, 0, none⟩) (l.length + 1) cap5) (endT line col l) w5 from by rw [HE.out]; exact Own.push (t := ⟨3, ByteArray.empty, line, col⟩) H.out.1 _ hown5 hgr5)
                  clear hown5 hgr5 hat5 hlt5))
                have H5 := hid (H.out.step hlt Hst.out H4.out)
                have hcp := cl_pos hlt (by rw [Hec.out]; rfl)
                go_loop [8, 10] (fun cn x => ∃ k : Nat, k ≤ cl s i ∧ x = .int .i64 ((i + k : Nat) : Int) ∧ cn = .int .i64 ((col + k : Nat) : Int)) (fun _ x => i + cl s i - (intOf x).toNat)
                case atStart => exact ⟨0, by omega, rfl, rfl⟩
                case round =>
                  obtain ⟨k, hk, rfl, rfl⟩ := hrel
                  by_cases hkw : k < cl s i
                  · as_aux_lemma =>
                      have hkb := byt_at s (i + k) (by omega)
                      have hm : notFeed (byt s (i + k)) = true := runL_mem notFeed s i k hkw
                      have t10 : (byt s (i + k) != 10) = true := by unfold notFeed at hm; exact hm
                      clear hm
                      go_wp2
                      go_round
                      case rel => exact ⟨k + 1, by omega, by go_num, by go_num⟩
                      case measure => simp [intOf]; omega
                  · obtain rfl : k = cl s i := by omega
                    clear hkw hk
                    by_cases hin : i + cl s i < s.size
                    · as_aux_lemma =>
                        have hkb := byt_at s (i + cl s i) hin
                        have hm : notFeed (byt s (i + cl s i)) = false := runL_stop notFeed s i hin
                        have t10 : (byt s (i + cl s i) != 10) = false := by unfold notFeed at hm; exact hm
                        have t11 : (byt s (i + cl s i) == 10) = true := by simpa using t10
                        have e10 : byt s (i + cl s i) = 10 := by simpa using t11
                        have H6 := hid (H5.out.step hin (stp_feed (l := endT line col l) (line := line) (col := col + cl s i) (by rw [e10]; rfl) (by rw [e10]; rfl) (by rw [e10]; rfl) t11) (v' := (.slice (some ⟨g5, 0, none⟩) (l.length + 1) cap5)) (w' := w5) (by rw [endT_no (opn_endT _ _ _)]; exact H4.out))
                        have HO6 := hid (show opn (endT line (col + cl s i) (endT line col l)) = false from opn_endT _ _ _)
                        clear hm e10
                        go_wp2
                        go_roundw
                        case rel => exact ⟨_, _, _, _, by omega, by go_num, by go_num, rfl, by rw [HO6.out], H6⟩
                        case measure => simp [intOf]; omega
                    · as_aux_lemma =>
                        have HO5 := hid (show opn (endT line col l) = false from opn_endT _ _ _)
                        go_wp2
                        go_roundw
                        case rel => exact ⟨_, _, _, _, by omega, by go_num, by go_num, rfl, by rw [HO5.out], H5⟩
                        case measure => simp [intOf]; omega
              | false =>
                have HO := hid ho
                have H4 := hid (show Own w u6 (endT line col l) wr from by rw [endT_no ho]; exact H.out.1)
                clear ho
                go_wp2_with fail
                have H5 := hid (H.out.step hlt Hst.out H4.out)
                have hcp := cl_pos hlt (by rw [Hec.out]; rfl)
                go_loop [8, 10] (fun cn x => ∃ k : Nat, k ≤ cl s i ∧ x = .int .i64 ((i + k : Nat) : Int) ∧ cn = .int .i64 ((col + k : Nat) : Int)) (fun _ x => i + cl s i - (intOf x).toNat)
                case atStart => exact ⟨0, by omega, rfl, rfl⟩
                case round =>
                  obtain ⟨k, hk, rfl, rfl⟩ := hrel
                  by_cases hkw : k < cl s i
                  · as_aux_lemma =>
                      have hkb := byt_at s (i + k) (by omega)
                      have hm : notFeed (byt s (i + k)) = true := runL_mem notFeed s i k hkw
                      have t10 : (byt s (i + k) != 10) = true := by unfold notFeed at hm; exact hm
                      clear hm
                      go_wp2
                      go_round
                      case rel => exact ⟨k + 1, by omega, by go_num, by go_num⟩
                      case measure => simp [intOf]; omega
                  · obtain rfl : k = cl s i := by omega
                    clear hkw hk
                    by_cases hin : i + cl s i < s.size
                    · as_aux_lemma =>
                        have hkb := byt_at s (i + cl s i) hin
                        have hm : notFeed (byt s (i + cl s i)) = false := runL_stop notFeed s i hin
                        have t10 : (byt s (i + cl s i) != 10) = false := by unfold notFeed at hm; exact hm
                        have t11 : (byt s (i + cl s i) == 10) = true := by simpa using t10
                        have e10 : byt s (i + cl s i) = 10 := by simpa using t11
                        have H6 := hid (H5.out.step hin (stp_feed (l := endT line col l) (line := line) (col := col + cl s i) (by rw [e10]; rfl) (by rw [e10]; rfl) (by rw [e10]; rfl) t11) (v' := u6) (w' := wr) (by rw [endT_no (opn_endT _ _ _)]; exact H4.out))
                        have HO6 := hid (show opn (endT line (col + cl s i) (endT line col l)) = false from opn_endT _ _ _)
                        clear hm e10
                        go_wp2
                        go_roundw
                        case rel => exact ⟨_, _, _, _, by omega, by go_num, by go_num, rfl, by rw [HO6.out], H6⟩
                        case measure => simp [intOf]; omega
                    · as_aux_lemma =>
                        have HO5 := hid (show opn (endT line col l) = false from opn_endT _ _ _)
                        go_wp2
                        go_roundw
                        case rel => exact ⟨_, _, _, _, by omega, by go_num, by go_num, rfl, by rw [HO5.out], H5⟩
                        case measure => simp [intOf]; omega
            | false =>
              cases h3 : (byt s i == 10) with
              | true =>
                have hx := h3
                clear h3
                have ec : byt s i = 10 := by simpa using hx
                have m0 : (byt s i == 32) = false := by rw [ec]; rfl
                have m1 : (byt s i == 9) = false := by rw [ec]; rfl
                have m2 : (byt s i == 61) = false := by rw [ec]; rfl
                have m3 : (byt s i == 59) = false := by rw [ec]; rfl
                have m4 : (byt s i == 35) = false := by rw [ec]; rfl
                have q10 : (byt s i != 10) = false := by rw [ec]; rfl
                have q59 : (byt s i != 59) = true := by rw [ec]; rfl
                have q35 : (byt s i != 35) = true := by rw [ec]; rfl
                have Hst := hid (stp_feed (l := l) (line := line) (col := col) HW.out h1 h2 hx)
                have Hec := hid ec
                clear ec
                cases ho : opn l with
                | true =>
                  have HO := hid ho
                  have HE := hid (endT_yes (line := line) (col := col) ho)
                  clear ho
                  go_wp2_with ((
                    at_builtin
                    refine wpList_append_lies _ rfl _ _ 65 rfl w.heap.size 78 i0 _ 4 40 Tryz.underlying65 Hi.out Hz0.out Hz1.out Hz2.out rfl (by decide) u6 l.length (tcells l) rfl (World.ownsRow.alloc Hown.out _) ⟨wr.heap.size, 0, none⟩ 1 1 (tcell ⟨3, ByteArray.empty, line, col⟩) rfl rfl (four_new _ _ _ _ _ _) (one_tok ⟨3, ByteArray.empty, line, col⟩) (by omega) (by unfold maxLen; omega) (by omega) (by rw [World.size_alloc]; omega) _ rfl ?_
                    intro g5 cap5 w5 hown5 hgr5 hat5 hlt5
                    have H4 := hid (show Own w (.slice (some ⟨g5, 0, none⟩) (l.length + 1) cap5) (endT line col l) w5 from by rw [HE.out]; exact Own.push (t := ⟨3, ByteArray.empty, line, col⟩) H.out.1 _ hown5 hgr5)
                    clear hown5 hgr5 hat5 hlt5))
                  have H5 := hid (H.out.step hlt Hst.out H4.out)
                  have HO5 := hid (show opn (endT line col l) = false from opn_endT _ _ _)
                  go_loop [8, 10] (fun cn x => x = .int .i64 (i : Int) ∧ cn = .int .i64 (col : Int)) (fun _ _ => 0)
                  case atStart => exact ⟨rfl, rfl⟩
                  case round =>
                    as_aux_lemma =>
                      obtain ⟨rfl, rfl⟩ := hrel
                      go_wp2
                      go_roundw
                      case rel => exact ⟨_, _, _, _, by omega, by go_num, by go_num, rfl, by rw [HO5.out], H5⟩
                      case measure => simp [intOf]; omega
                | false =>
                  have HO := hid ho
                  have H4 := hid (show Own w u6 (endT line col l) wr from by rw [endT_no ho]; exact H.out.1)
                  clear ho
                  go_wp2_with fail
                  have H5 := hid (H.out.step hlt Hst.out H4.out)
                  have HO5 := hid (show opn (endT line col l) = false from opn_endT _ _ _)
                  go_loop [8, 10] (fun cn x => x = .int .i64 (i : Int) ∧ cn = .int .i64 (col : Int)) (fun _ _ => 0)
                  case atStart => exact ⟨rfl, rfl⟩
                  case round =>
                    as_aux_lemma =>
                      obtain ⟨rfl, rfl⟩ := hrel
                      go_wp2
                      go_roundw
                      case rel => exact ⟨_, _, _, _, by omega, by go_num, by go_num, rfl, by rw [HO5.out], H5⟩
                      case measure => simp [intOf]; omega
              | false =>
                cases h4 : (byt s i == 59) with
                | true =>
                  have hx := h4
                  clear h4
                  have ec : byt s i = 59 := by simpa using hx
                  have m0 : (byt s i == 32) = false := by rw [ec]; rfl
                  have m1 : (byt s i == 9) = false := by rw [ec]; rfl
                  have m2 : (byt s i == 61) = false := by rw [ec]; rfl
                  have m3 : (byt s i == 10) = false := by rw [ec]; rfl
                  have m4 : (byt s i == 35) = false := by rw [ec]; rfl
                  have q10 : (byt s i != 10) = true := by rw [ec]; rfl
                  have q59 : (byt s i != 59) = false := by rw [ec]; rfl
                  have q35 : (byt s i != 35) = true := by rw [ec]; rfl
                  have Hst := hid (stp_semi (l := l) (line := line) (col := col) HW.out h1 h2 h3 hx)
                  have Hec := hid ec
                  clear ec
                  cases ho : opn l with
                  | true =>
                    have HO := hid ho
                    have HE := hid (endT_yes (line := line) (col := col) ho)
                    clear ho
                    go_wp2_with ((
                      at_builtin
                      refine wpList_append_lies _ rfl _ _ 65 rfl w.heap.size 78 i0 _ 4 40 Tryz.underlying65 Hi.out Hz0.out Hz1.out Hz2.out rfl (by decide) u6 l.length (tcells l) rfl (World.ownsRow.alloc Hown.out _) ⟨wr.heap.size, 0, none⟩ 1 1 (tcell ⟨3, ByteArray.empty, line, col⟩) rfl rfl (four_new _ _ _ _ _ _) (one_tok ⟨3, ByteArray.empty, line, col⟩) (by omega) (by unfold maxLen; omega) (by omega) (by rw [World.size_alloc]; omega) _ rfl ?_
                      intro g5 cap5 w5 hown5 hgr5 hat5 hlt5
                      have H4 := hid (show Own w (.slice (some ⟨g5, 0, none⟩) (l.length + 1) cap5) (endT line col l) w5 from by rw [HE.out]; exact Own.push (t := ⟨3, ByteArray.empty, line, col⟩) H.out.1 _ hown5 hgr5)
                      clear hown5 hgr5 hat5 hlt5))
                    have H5 := hid (H.out.step hlt Hst.out H4.out)
                    have HO5 := hid (show opn (endT line col l) = false from opn_endT _ _ _)
                    go_loop [8, 10] (fun cn x => x = .int .i64 (i : Int) ∧ cn = .int .i64 (col : Int)) (fun _ _ => 0)
                    case atStart => exact ⟨rfl, rfl⟩
                    case round =>
                      obtain ⟨rfl, rfl⟩ := hrel
                      by_cases hin : i + 1 < s.size
                      · have hkb := byt_at s (i + 1) hin
                        cases h9 : (byt s (i + 1) == 10)
                        all_goals
                          as_aux_lemma =>
                            go_wp2
                            go_roundw
                            case rel => exact ⟨_, _, _, _, by omega, by go_num, rfl, by go_num, by rw [HO5.out], H5⟩
                            case measure => simp [intOf]; omega
                      · as_aux_lemma =>
                          go_wp2
                          go_roundw
                          case rel => exact ⟨_, _, _, _, by omega, by go_num, rfl, by go_num, by rw [HO5.out], H5⟩
                          case measure => simp [intOf]; omega
                  | false =>
                    have HO := hid ho
                    have H4 := hid (show Own w u6 (endT line col l) wr from by rw [endT_no ho]; exact H.out.1)
                    clear ho
                    go_wp2_with fail
                    have H5 := hid (H.out.step hlt Hst.out H4.out)
                    have HO5 := hid (show opn (endT line col l) = false from opn_endT _ _ _)
                    go_loop [8, 10] (fun cn x => x = .int .i64 (i : Int) ∧ cn = .int .i64 (col : Int)) (fun _ _ => 0)
                    case atStart => exact ⟨rfl, rfl⟩
                    case round =>
                      obtain ⟨rfl, rfl⟩ := hrel
                      by_cases hin : i + 1 < s.size
                      · have hkb := byt_at s (i + 1) hin
                        cases h9 : (byt s (i + 1) == 10)
                        all_goals
                          as_aux_lemma =>
                            go_wp2
                            go_roundw
                            case rel => exact ⟨_, _, _, _, by omega, by go_num, rfl, by go_num, by rw [HO5.out], H5⟩
                            case measure => simp [intOf]; omega
                      · as_aux_lemma =>
                          go_wp2
                          go_roundw
                          case rel => exact ⟨_, _, _, _, by omega, by go_num, rfl, by go_num, by rw [HO5.out], H5⟩
                          case measure => simp [intOf]; omega
                | false =>
                  cases h5 : (byt s i == 32 || byt s i == 9) with
                  | true =>
                    have Hst := hid (stp_blank (l := l) (line := line) (col := col) HW.out h1 h2 h3 h4 h5)
                    have H5 := hid (H.out.step hlt Hst.out H.out.1)
                    have hor : (byt s i == 32) = true ∨ ((byt s i == 32) = false ∧ (byt s i == 9) = true) := by
                      cases h : (byt s i == 32) with
                      | true => exact .inl rfl
                      | false => rw [h] at h5; exact .inr ⟨rfl, by simpa using h5⟩
                    clear h5
                    rcases hor with h5 | ⟨h5, h6⟩
                    all_goals
                      as_aux_lemma =>
                        go_wp2
                        go_roundw
                        case rel => exact ⟨_, _, _, _, by omega, by go_num, rfl, by go_num, rfl, H5⟩
                        case measure => simp [intOf]; omega
                  | false =>
                    as_aux_lemma =>
                      have Hst := hid (stp_bad (l := l) (line := line) (col := col) HW.out h1 h2 h3 h4 h5)
                      simp only [Bool.or_eq_false_iff] at h5
                      obtain ⟨h5, h6⟩ := h5
                      go_wp2_with (first | (go_at_call 48; refine (refLetter_any _ _).mono ?_; rw [HNL.out]; rintro e w' ⟨rfl, rfl⟩) | (go_at_call 49; refine (refDigit_any _ _).mono ?_; rw [HND.out]; rintro e w' ⟨rfl, rfl⟩))
                      refine bodyPost_ret (v := .tuple #[.slice none 0 0, .int .i64 (line : Int), .int .i64 (col : Int), .int .i64 4]) (by simp [results, Tryz.results36, go_sem]) rfl ?_
                      exact H.out.stop HR.out hlt Hst.out
      · cases ho : opn l with
        | true =>
          as_aux_lemma =>
            have HE := hid (endT_yes (line := line) (col := col) ho)
            clear ho
            go_wp2_with ((
              at_builtin
              refine wpList_append_lies _ rfl _ _ 65 rfl w.heap.size 78 i0 _ 4 40 Tryz.underlying65 Hi.out Hz0.out Hz1.out Hz2.out rfl (by decide) u6 l.length (tcells l) rfl (World.ownsRow.alloc Hown.out _) ⟨wr.heap.size, 0, none⟩ 1 1 (tcell ⟨3, ByteArray.empty, line, col⟩) rfl rfl (four_new _ _ _ _ _ _) (one_tok ⟨3, ByteArray.empty, line, col⟩) (by omega) (by unfold maxLen; omega) (by omega) (by rw [World.size_alloc]; omega) _ rfl ?_
              intro g5 cap5 w5 hown5 hgr5 hat5 hlt5
              have H4 := hid (show Own w (.slice (some ⟨g5, 0, none⟩) (l.length + 1) cap5) (endT line col l) w5 from by rw [HE.out]; exact Own.push (t := ⟨3, ByteArray.empty, line, col⟩) H.out.1 _ hown5 hgr5)
              clear hown5 hgr5 hat5 hlt5))
            have hlen := hid (show l.length + 1 = (endT line col l).length by rw [HE.out]; simp)
            refine bodyPost_ret (v := .tuple #[.slice (some ⟨g5, 0, none⟩) (l.length + 1) cap5, .int .i64 0, .int .i64 0, .int .i64 0]) (by simp [results, Tryz.results36, go_sem]) rfl ?_
            have h4 := H4.out
            rw [hlen.out] at h4 ⊢
            exact H.out.done HR.out (by omega) h4
        | false =>
          as_aux_lemma =>
            have HE := hid (endT_no (line := line) (col := col) ho)
            clear ho
            obtain ⟨A, c, hv⟩ := own_any_slice H.out.1.1
            subst hv
            go_wp2_with fail
            refine bodyPost_ret (v := .tuple #[.slice A l.length c, .int .i64 0, .int .i64 0, .int .i64 0]) (by simp [results, Tryz.results36, go_sem]) rfl ?_
            have h5 := Rca.done (A := A) (c := c) H.out HR.out (by omega) (by rw [HE.out]; exact H.out.1)
            rw [HE.out] at h5
            exact h5
  · as_aux_lemma =>
      have hR : scanR s = ([], 0, 0, 7) := by unfold scanR; rw [if_neg hlt0]
      have HR := hid hR
      clear hR
      unfold maxLen at hs
      go_enter Tryz.func36, Tryz.ntmps36
      go_wp2_with fail
      refine bodyPost_ret (v := .tuple #[.slice none 0 0, .int .i64 0, .int .i64 0, .int .i64 7]) (by simp [results, Tryz.results36, go_sem]) rfl ?_
      rw [HR.out]
      exact ⟨none, 0, rfl, TArg.nil _, Below.refl _ _⟩
end Go.Proofs.YtmbelhdkaepohaaGreatDoor
