/- The reference's Valid. -/
import Derived.Test.YtfapgnbnfhpicaaGreatDoorVlp
namespace Go.Proofs.YtfapgnbnfhpicaaGreatDoor
set_option maxRecDepth 20000
set_option linter.unusedVariables false
open Go.ChangeShapes Go.WideShapes Go.ChangeAt Go.RowKit

set_option maxHeartbeats 40000000 in
theorem valid_any (x : PH) (ex : List (Option Nat)) (w : World) (h : PHok w ex x) :
    Calls Tryz.prog 62 #[.agg #[.slice x.A x.n x.c]] w fun e w' => e = .returned (.bool (prgB x.p)) ∧ Below w.heap.size w w' := by
  obtain ⟨A, n, c, l⟩ := x
  have HP := hid h
  have hlen : l.length = n := h.len
  have hn40 : n ≤ 40 := h.few
  have Hlen := hid hlen
  have Hpl := hid (show (PH.p ⟨A, n, c, l⟩).length = n by simp [PH.p, hlen])
  have HF0 := hid (Fb.new w #[.slice A n c] 44)
  have HB0 := hid ((Below.refl w.heap.size w).alloc (Nat.le_refl _) (.cells #[.slice A n c] 44))
  have c0 := HF0.out.onec
  clear h hlen
  by_cases h1 : n < 1
  · obtain rfl : n = 0 := by omega
    have HR := hid (show prgB (PH.p ⟨A, 0, c, l⟩) = false by unfold prgB; rw [Hpl.out]; rfl)
    go_enter Tryz.func62, Tryz.ntmps62
    go_wp2
    go_ret
    exact ⟨by rw [HR.out]; rfl, HB0.out⟩
  by_cases h8 : 8 < n
  · have HR := hid (show prgB (PH.p ⟨A, n, c, l⟩) = false by
      unfold prgB; rw [Hpl.out, show decide (n ≤ 8) = false by simp; omega]; simp)
    have t1 : decide ((n : Int) < 1) = false := by simp; omega
    have t2 : decide ((8 : Int) < (n : Int)) = true := by simp; omega
    go_enter Tryz.func62, Tryz.ntmps62
    go_wp2
    go_ret
    exact ⟨by rw [HR.out]; rfl, HB0.out⟩
  have t1 : decide ((n : Int) < 1) = false := by simp; omega
  have t2 : decide ((8 : Int) < (n : Int)) = false := by simp; omega
  have Hok := hid (show prgB (PH.p ⟨A, n, c, l⟩) = l.all fun y => fncB y.f by
    unfold prgB
    rw [Hpl.out, show decide (n ≤ 8) = true by simp; omega, show decide (1 ≤ n) = true by simp; omega]
    simp [PH.p, List.all_map, Function.comp_def])
  go_enter Tryz.func62, Tryz.ntmps62
  go_wp2_with fail
  generalize hw0 : w.alloc (.cells #[.slice A n c] 44) = w1 at *
  clear hw0
  go_loopw [3, 4, 5, 6, 7] (fun iv _ _ _ _ wr => ∃ k : Nat, k ≤ n ∧ iv = .int .i64 k ∧ Hid ((l.take k).all (fun y => fncB y.f) = true) ∧ Hid (Below w.heap.size w wr) ∧ Hid (Fb wr w.heap.size #[.slice A n c] 44)) (fun iv _ _ _ _ _ => n - (intOf iv).toNat)
  case atStart => exact ⟨0, by omega, rfl, hid rfl, HB0.out, HF0.out⟩
  case round =>
    clear c0 HB0 HF0
    obtain ⟨k, hk, rfl, hX, hB, hF⟩ := hrel
    have c0 := hF.out.onec
    by_cases hlt : k < n
    · obtain ⟨y, hy, hym⟩ := get_at Hlen.out hlt
      have HPr := hid (HP.out.below hB.out)
      obtain ⟨ad, hA, had, hc1, hc2⟩ := FH.cells HPr.out.lies hy
      have Hy := hid (HPr.out.all y hym)
      have Hget := hid hy
      simp only at hA
      subst hA
      clear hy hym
      obtain ⟨nm, A1, n1, c1, l1⟩ := y
      simp only at hc1 hc2
      have hnm := hid (show nm.size ≤ maxLen by have := Hy.out.small; simp only at this; unfold maxLen; omega)
      have hn1 : n1 ≤ 40 := Hy.out.few
      have Hl1 := hid (show l1.length = n1 from Hy.out.len)
      have HF1 := hid (Fb.new wr #[.string nm, .slice A1 n1 c1] 62)
      have HB1 := hid (hB.out.alloc hB.out.size (.cells #[.string nm, .slice A1 n1 c1] 62))
      have HF0 := hid (hF.out.alloc (.cells #[.string nm, .slice A1 n1 c1] 62))
      have Hno := hid (fun h => Hok.out.trans (all_no (p := fun y => fncB y.f) Hget.out h))
      have Hf := hid (show fncB (FH.f ⟨nm, A1, n1, c1, l1⟩) = (nameB nm && decide (1 ≤ n1) && decide (n1 ≤ 16) && l1.all fun y => blkB y.b) by
        unfold fncB; simp [FH.f, Hl1.out, List.all_map, Function.comp_def])
      have hg1 := HF1.out.lt
      go_wp2_with fail
      refine (refIsName_any nm _ hnm.out).mono ?_
      rintro e w2 ⟨rfl, hb2⟩
      have HB2 := hid (below_step HB1.out hb2)
      have HF12 := hid (HF1.out.below hb2 HF1.out.lt)
      have HF02 := hid (HF0.out.below hb2 HF0.out.lt)
      obtain ⟨d0, d1⟩ := HF12.out.twoc
      have hg2 := HF12.out.lt
      clear hb2 HB1 HF1 HF0 c0 hc1 hc2 hB hF HPr
      cases hnb : nameB nm with
      | false =>
        as_aux_lemma =>
          have Hr := hid (Hno.out (by rw [Hf.out, hnb]; rfl))
          clear hnb
          go_wp2
          go_ret
          exact ⟨by rw [Hr.out]; rfl, HB2.out⟩
      | true =>
        have Hnb := hid hnb
        clear hnb
        by_cases g1 : n1 < 1
        · as_aux_lemma =>
            obtain rfl : n1 = 0 := by omega
            have Hr := hid (Hno.out (by rw [Hf.out]; simp))
            go_wp2
            go_ret
            exact ⟨by rw [Hr.out]; rfl, HB2.out⟩
        by_cases g16 : 16 < n1
        · as_aux_lemma =>
            have Hr := hid (Hno.out (by rw [Hf.out, show decide (n1 ≤ 16) = false by simp; omega]; simp))
            have u1 : decide ((n1 : Int) < 1) = false := by simp; omega
            have u2 : decide ((16 : Int) < (n1 : Int)) = true := by simp; omega
            go_wp2
            go_ret
            exact ⟨by rw [Hr.out]; rfl, HB2.out⟩
        have u1 : decide ((n1 : Int) < 1) = false := by simp; omega
        have u2 : decide ((16 : Int) < (n1 : Int)) = false := by simp; omega
        have Hf2 := hid (show fncB (FH.f ⟨nm, A1, n1, c1, l1⟩) = l1.all fun y => blkB y.b by
          rw [Hf.out, Hnb.out, show decide (n1 ≤ 16) = true by simp; omega, show decide (1 ≤ n1) = true by simp; omega]; rfl)
        clear Hf Hnb g1 g16
        go_wp2_with fail
        clear d0 d1
        generalize wr.heap.size = G1 at *
        go_loopw [5, 6, 7] (fun iv _ _ wr => ∃ k : Nat, k ≤ n1 ∧ iv = .int .i64 k ∧ Hid ((l1.take k).all (fun y => blkB y.b) = true) ∧ Hid (Below w.heap.size w wr) ∧ Hid (Fb wr w.heap.size #[.slice (some ad) n c] 44) ∧ Hid (Fb wr G1 #[.string nm, .slice A1 n1 c1] 62)) (fun iv _ _ _ => n1 - (intOf iv).toNat)
        case atStart => exact ⟨0, by omega, rfl, hid rfl, HB2.out, HF02.out, HF12.out⟩
        case round =>
          clear HB2 HF02 HF12
          obtain ⟨k1, hk1, rfl, hX1, hB, hF, hF1⟩ := hrel
          have c0 := hF.out.onec
          obtain ⟨d0, d1⟩ := hF1.out.twoc
          by_cases hlt1 : k1 < n1
          · obtain ⟨y, hy, hym⟩ := get_at Hl1.out hlt1
            have HPr := hid ((HP.out.below hB.out).all _ (List.mem_of_getElem? Hget.out))
            obtain ⟨ad1, hA, had1, hc1, hc2⟩ := BH.cells HPr.out.lies hy
            have Hy1 := hid (HPr.out.all y hym)
            have Hget1 := hid hy
            simp only at hA
            subst hA
            clear hy hym
            obtain ⟨nm2, A2, n2, c2, l2⟩ := y
            simp only at hc1 hc2
            have hnm2 := hid (show nm2.size ≤ maxLen by have := Hy1.out.small; simp only at this; unfold maxLen; omega)
            have hn2 : n2 ≤ 40 := Hy1.out.few
            have Hl2 := hid (show l2.length = n2 from Hy1.out.len)
            have HF2 := hid (Fb.new wr #[.string nm2, .slice A2 n2 c2] 65)
            have HB2 := hid (hB.out.alloc hB.out.size (.cells #[.string nm2, .slice A2 n2 c2] 65))
            have HF0 := hid (hF.out.alloc (.cells #[.string nm2, .slice A2 n2 c2] 65))
            have HF1 := hid (hF1.out.alloc (.cells #[.string nm2, .slice A2 n2 c2] 65))
            have Hno1 := hid (fun h => Hno.out (Hf2.out.trans (all_no (p := fun y => blkB y.b) Hget1.out h)))
            have Hb := hid (show blkB (BH.b ⟨nm2, A2, n2, c2, l2⟩) = (nameB nm2 && decide (1 ≤ n2) && decide (n2 ≤ 32) && l2.all fun y => stmB y.t) by
              unfold blkB; simp [BH.b, Hl2.out, List.all_map, Function.comp_def])
            have hg3 := HF2.out.lt
            go_wp2_with fail
            refine (refIsName_any nm2 _ hnm2.out).mono ?_
            rintro e w3 ⟨rfl, hb3⟩
            have HB3 := hid (below_step HB2.out hb3)
            have HF23 := hid (HF2.out.below hb3 HF2.out.lt)
            have HF03 := hid (HF0.out.below hb3 HF0.out.lt)
            have HF13 := hid (HF1.out.below hb3 HF1.out.lt)
            obtain ⟨b0, b1⟩ := HF23.out.twoc
            have hg4 := HF23.out.lt
            clear hb3 HB2 HF2 HF0 HF1 c0 hc1 hc2 hB hF hF1 HPr d0 d1
            cases hnb : nameB nm2 with
            | false =>
              as_aux_lemma =>
                have Hr := hid (Hno1.out (by rw [Hb.out, hnb]; rfl))
                clear hnb
                go_wp2
                go_ret
                exact ⟨by rw [Hr.out]; rfl, HB3.out⟩
            | true =>
              have Hnb := hid hnb
              clear hnb
              by_cases g1 : n2 < 1
              · as_aux_lemma =>
                  obtain rfl : n2 = 0 := by omega
                  have Hr := hid (Hno1.out (by rw [Hb.out]; simp))
                  go_wp2
                  go_ret
                  exact ⟨by rw [Hr.out]; rfl, HB3.out⟩
              by_cases g32 : 32 < n2
              · as_aux_lemma =>
                  have Hr := hid (Hno1.out (by rw [Hb.out, show decide (n2 ≤ 32) = false by simp; omega]; simp))
                  have u3 : decide ((n2 : Int) < 1) = false := by simp; omega
                  have u4 : decide ((32 : Int) < (n2 : Int)) = true := by simp; omega
                  go_wp2
                  go_ret
                  exact ⟨by rw [Hr.out]; rfl, HB3.out⟩
              have u3 : decide ((n2 : Int) < 1) = false := by simp; omega
              have u4 : decide ((32 : Int) < (n2 : Int)) = false := by simp; omega
              have Hb2 := hid (show blkB (BH.b ⟨nm2, A2, n2, c2, l2⟩) = l2.all fun y => stmB y.t by
                rw [Hb.out, Hnb.out, show decide (n2 ≤ 32) = true by simp; omega, show decide (1 ≤ n2) = true by simp; omega]; rfl)
              clear Hb Hnb g1 g32
              go_wp2_with fail
              clear b0 b1
              generalize wr.heap.size = G2 at *
              go_loopw [7] (fun iv wr => ∃ k : Nat, k ≤ n2 ∧ iv = .int .i64 k ∧ Hid ((l2.take k).all (fun y => stmB y.t) = true) ∧ Hid (Below w.heap.size w wr) ∧ Hid (Fb wr w.heap.size #[.slice (some ad) n c] 44) ∧ Hid (Fb wr G1 #[.string nm, .slice (some ad1) n1 c1] 62) ∧ Hid (Fb wr G2 #[.string nm2, .slice A2 n2 c2] 65)) (fun iv _ => n2 - (intOf iv).toNat)
              case atStart => exact ⟨0, by omega, rfl, hid rfl, HB3.out, HF03.out, HF13.out, HF23.out⟩
              case round =>
                clear HB3 HF03 HF13 HF23
                obtain ⟨k2, hk2, rfl, hX2, hB, hF, hF1, hF2⟩ := hrel
                obtain ⟨b0, b1⟩ := hF2.out.twoc
                by_cases hlt2 : k2 < n2
                · obtain ⟨y, hy, hym⟩ := get_at Hl2.out hlt2
                  have HPr := hid (((HP.out.below hB.out).all _ (List.mem_of_getElem? Hget.out)).all _ (List.mem_of_getElem? Hget1.out))
                  obtain ⟨ad2, hA, had2, hc1, hc2, hc3, hc4⟩ := SH.cells HPr.out.lies hy
                  have Hy2 := hid (HPr.out.all y hym)
                  have Hno2 := hid (fun h => Hno1.out (Hb2.out.trans (all_no (p := fun y => stmB y.t) hy h)))
                  have Hyes2 := hid (fun h => take_all (p := fun y => stmB y.t) hX2.out hy h)
                  have HS := hid (stmtOK_any _ _ _ _ y.c _ _ y.c2 _ _ Hy2.out.arg)
                  simp only at hA
                  subst hA
                  clear hy hym HPr Hy2
                  obtain ⟨A3, n3, c3, B3, m3, c4, ⟨o3, d3, us3, ts3⟩⟩ := y
                  simp only at hc1 hc2 hc3 hc4 HS
                  generalize stmB ⟨o3, d3, us3, ts3⟩ = sb at *
                  go_wp2_with fail
                  refine HS.out.mono ?_
                  rintro e w4 ⟨rfl, hb4⟩
                  have HB4 := hid (below_step hB.out hb4)
                  have HF04 := hid (hF.out.below hb4 hF.out.lt)
                  have HF14 := hid (hF1.out.below hb4 hF1.out.lt)
                  have HF24 := hid (hF2.out.below hb4 hF2.out.lt)
                  clear hb4 hB hF hF1 hF2 HS
                  cases sb with
                  | false =>
                    as_aux_lemma =>
                      have Hr := hid (Hno2.out (by simp))
                      go_wp2
                      go_ret
                      exact ⟨by rw [Hr.out]; rfl, HB4.out⟩
                  | true =>
                    as_aux_lemma =>
                      go_wp2
                      go_roundw
                      case rel => exact ⟨k2 + 1, by omega, by go_num, Hyes2.out (by simp), HB4.out, HF04.out, HF14.out, HF24.out⟩
                      case measure => simp [intOf]; omega
                · as_aux_lemma =>
                    obtain rfl : k2 = n2 := by omega
                    have Hyes1 := hid (take_all (p := fun y => blkB y.b) hX1.out Hget1.out (by rw [Hb2.out, ← List.take_length (l := l2), Hl2.out]; exact hX2.out))
                    go_wp2
                    go_roundw
                    case rel => exact ⟨k1 + 1, by omega, by go_num, Hyes1.out, hB.out, hF.out, hF1.out⟩
                    case measure => simp [intOf]; omega
          · as_aux_lemma =>
              obtain rfl : k1 = n1 := by omega
              have Hyes := hid (take_all (p := fun y => fncB y.f) hX.out Hget.out (by rw [Hf2.out, ← List.take_length (l := l1), Hl1.out]; exact hX1.out))
              go_wp2
              go_roundw
              case rel => exact ⟨k + 1, by omega, by go_num, Hyes.out, hB.out, hF.out⟩
              case measure => simp [intOf]; omega
    · as_aux_lemma =>
        obtain rfl : k = n := by omega
        have Hr := hid (show prgB (PH.p ⟨A, k, c, l⟩) = true by rw [Hok.out, ← List.take_length (l := l), Hlen.out]; exact hX.out)
        go_wp2
        go_ret
        exact ⟨by rw [Hr.out]; rfl, hB.out⟩
end Go.Proofs.YtfapgnbnfhpicaaGreatDoor
