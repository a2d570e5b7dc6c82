/- The package's Valid: which functions are valid. -/
import Derived.Test.YtadkjnjibefocaaDc
import Derived.Test.YtadkjnjibefocaaTap
import Derived.Test.YtadkjnjibefocaaDValid
import Derived.Test.YtadkjnjibefocaaQb
namespace Go.Proofs.Ytadkjnjibefocaa
set_option maxRecDepth 20000
open Go.ChangeShapes Go.WideShapes Go.ChangeAt Go.RowKit

theorem below_step {W w' w'' : World} (h : Below W.heap.size W w') (h2 : Below w'.heap.size w' w'') : Below W.heap.size W w'' := h.trans (h2.mono h.size)
theorem cmpC_neg (p q : Int × Int) : decide (0 ≤ cmpC p q) = !beforeB p q := by
  unfold cmpC orI cmpI beforeB
  rcases Int.lt_trichotomy p.1 q.1 with h | h | h
  · simp [h]
  · rw [h]; simp
    rcases Int.lt_trichotomy p.2 q.2 with h2 | h2 | h2
    · simp [h2]
    · rw [h2]; simp
    · have := Int.not_lt.2 (Int.le_of_lt h2); simp [this, h2]
  · have h1 := Int.not_lt.2 (Int.le_of_lt h)
    have h3 : p.1 ≠ q.1 := by omega
    simp [h1, h, h3]
theorem okAt_split {W : Int} {cs : List (Int × Int)} {j : Nat} {p1 p2 : Int} (h : okAt W cs j = (inW W (p1, p2) && (decide (j = 0) || beforeB (cs.getD (j - 1) (0, 0)) (p1, p2)))) :
    okAt W cs j = (inB W p1 && inB W p2 && (decide (j = 0) || beforeB (cs.getD (j - 1) (0, 0)) (p1, p2))) := by
  rw [h]; unfold inW inB; simp [Bool.and_assoc]

set_option maxHeartbeats 1600000 in
theorem devValidT_any (W V : Int) (A B C : Option Addr) (n c m d k q : Nat) (gs ks : List Nat) (cs : List (Int × Int)) (w : World) (hA : Arg w A n gs) (hB : Arg w B m ks) (hC : ArgC w C k cs) :
    Calls Try.prog 47 #[.agg #[.int .i64 W, .slice A n c, .int .i64 V, .slice B m d, .slice C k q]] w fun e w' => e = .returned (.bool (validT W gs V ks cs)) ∧ Below w.heap.size w w' := by
  have HA := hid hA; have HB := hid hB; have HC := hid hC
  clear hA hB hC
  cases hv : Bs.validB W gs with
  | false =>
    have hres : validT W gs V ks cs = false := by unfold validT; simp [hv]
    have Hres := hid hres; have Hv := hid hv
    clear hres hv
    go_enter Try.func47, Try.ntmps47
    go_wp2_with fail
    refine (devValid_any W A n c gs _ (HA.out.alloc _)).mono ?_
    rw [Hv.out]
    rintro e w1 ⟨rfl, hb1⟩
    have Hb1 := hid (((Below.refl w.heap.size w).alloc (Nat.le_refl _) _).trans (hb1.mono (by simp)))
    clear hb1
    go_wp2
    go_ret
    exact ⟨ret_bool Hres.out.symm, Hb1.out⟩
  | true =>
    have Hv := hid hv
    go_enter Try.func47, Try.ntmps47
    go_wp2_with fail
    refine (devValid_any W A n c gs _ (HA.out.alloc _)).mono ?_
    rw [Hv.out]
    rintro e w1 ⟨rfl, hb1⟩
    have hF := hid ((Fb.new w #[.int .i64 W, .slice A n c, .int .i64 V, .slice B m d, .slice C k q] 51).below hb1 (by simp))
    have Hb1 := hid (((Below.refl w.heap.size w).alloc (Nat.le_refl _) _).trans (hb1.mono (by simp)))
    clear hb1
    obtain ⟨c0, c1, c2, c3, c4⟩ := hF.out.five
    go_wp2_with fail
    refine (devValid_any V B m d ks _ (HB.out.below Hb1.out)).mono ?_
    cases hk : Bs.validB V ks with
    | false =>
      have hres : validT W gs V ks cs = false := by unfold validT; simp [hk]
      have Hres := hid hres
      clear hres hk hv
      rintro e w2 ⟨rfl, hb2⟩
      have hF2 := hid (hF.out.below hb2 hF.out.lt)
      have Hb2 := hid (Hb1.out.trans (hb2.mono Hb1.out.size))
      clear hb2 c0 c1 c2 c3 c4
      go_wp2
      go_ret
      exact ⟨ret_bool Hres.out.symm, Hb2.out⟩
    | true =>
      have Hk := hid hk
      clear hk hv
      rintro e w2 ⟨rfl, hb2⟩
      have hF2 := hid (hF.out.below hb2 hF.out.lt)
      have Hb2 := hid (Hb1.out.trans (hb2.mono Hb1.out.size))
      clear hb2 c0 c1 c2 c3 c4
      obtain ⟨c0, c1, c2, c3, c4⟩ := hF2.out.five
      by_cases hWV : W = V
      · have t1 : (W != V) = false := by simp [hWV]
        have HWV := hid hWV
        clear hWV
        by_cases hle : k ≤ 64
        · have hsp : validT W gs V ks cs = (List.range cs.length).all (okAt W cs) := by
            unfold validT; rw [Hv.out, Hk.out, HC.out.len]; simp [HWV.out, hle]
          have Hsp := hid hsp
          clear hsp
          go_wp2_with fail
          clear t1 c0 c1 c2 c3 c4
          go_loopw [3, 4, 33] (fun _ _ i wr => ∃ j : Nat, j ≤ k ∧ i = .int .i64 j ∧ Hid (∀ x, x < j → okAt W cs x = true) ∧ Hid (Fb wr w.heap.size #[.int .i64 W, .slice A n c, .int .i64 V, .slice B m d, .slice C k q] 51 ∧ Below w.heap.size w wr)) (fun _ _ i _ => k - (intOf i).toNat)
          case atStart => exact ⟨0, by omega, rfl, fun x h => by omega, hF2.out, Hb2.out⟩
          case round =>
            obtain ⟨j, hj, rfl, hb, hI⟩ := hrel
            obtain ⟨c0, c1, c2, c3, c4⟩ := hI.out.1.five
            by_cases hlt : j < k
            · have hget : cs[j]? = some (cs[j]'(by rw [HC.out.len]; exact hlt)) := List.getElem?_eq_getElem _
              have hok : okAt W cs j = (inW W (cs[j]'(by rw [HC.out.len]; exact hlt)) && (decide (j = 0) || beforeB (cs.getD (j - 1) (0, 0)) (cs[j]'(by rw [HC.out.len]; exact hlt)))) := by
                unfold okAt; rw [List.getD_eq_getElem?_getD (i := j), hget]; rfl
              generalize (cs[j]'(by rw [HC.out.len]; exact hlt)) = p at hget hok
              obtain ⟨p1, p2⟩ := p
              obtain ⟨ad, rfl, had, h1, h2⟩ := HC.out.cell hget
              have Hok := hid (okAt_split hok)
              clear hget hok
              have g1 : wr.cell? (ad.add (j * 2)) = some (.int .i64 p1) := (hI.out.2.cell (by rw [add_block]; exact had)).trans h1
              have g2 : wr.cell? ⟨(ad.add (j * 2)).block, (ad.add (j * 2)).off + 1, none⟩ = some (.int .i64 p2) := (hI.out.2.cell (by simp only [add_block]; exact had)).trans h2
              clear h1 h2
              have hF3 := hid ((hI.out.1.alloc (.cells #[.int .i64 p1, .int .i64 p2] 62)))
              have hB3 := hid ((hI.out.2.alloc hI.out.2.size (.cells #[.int .i64 p1, .int .i64 p2] 62)))
              have Hbx := hid (Fb.new wr #[.int .i64 p1, .int .i64 p2] 62)
              go_wp2_with fail
              clear c0 c1 c2 c3 c4 g1 g2
              generalize wr.alloc (.cells #[.int .i64 p1, .int .i64 p2] 62) = wv at *
              generalize wr.heap.size = gv at *
              have hz1 : w.heap.size < wv.heap.size := hF3.out.lt
              have hz2 : gv < wv.heap.size := Hbx.out.lt
              obtain ⟨c0, c1, c2, c3, c4⟩ := hF3.out.five
              obtain ⟨d0, d1⟩ := Hbx.out.two
              have l0 := Later.cell hz1 c0
              have l1 := Later.cell hz1 c1
              have l2 := Later.cell hz1 c2
              have l3 := Later.cell hz1 c3
              have l4 := Later.cell hz1 c4
              have b0 := Later.cell hz2 d0
              have b1 := Later.cell hz2 d1
              clear c0 c1 c2 c3 c4 d0 d1
              by_cases i1 : inB W p1 = false
              · have I1 := hid i1
                have E := hid (show validT W gs V ks cs = false by
                      rw [Hsp.out]
                      refine Bool.eq_false_iff.2 fun hall => ?_
                      have := List.all_eq_true.1 hall j (List.mem_range.2 (by rw [HC.out.len]; exact hlt))
                      rw [Hok.out, i1] at this
                      simp at this)
                clear i1
                refine wp_region_below (by kernel_rfl) (by kernel_rfl) ?_
                repeat (go_big_quiet_step ((first
                 | (go_at_call_of 50 p1; exact Later.call (by have h := tin_any W V A B (some ad) n c m d k q p1 ‹Later wv›.wd; rw [I1.out] at h; exact h)))))
                refine wpQuiet_nil ?_
                rintro _ ⟨pq, rfl⟩
                have Hcur := hid pq.keeps
                generalize pq.wd = wq at *
                clear pq l0 l1 l2 l3 l4 b0 b1
                go_wp2
                go_ret
                exact ⟨ret_bool E.out.symm, hB3.out.trans (Hcur.out.mono hB3.out.size)⟩
              · have i1' := (show inB W p1 = true by simpa using i1)
                have I1 := hid i1'
                clear i1
                by_cases i2 : inB W p2 = false
                · have I2 := hid i2
                  have E := hid (show validT W gs V ks cs = false by
                      rw [Hsp.out]
                      refine Bool.eq_false_iff.2 fun hall => ?_
                      have := List.all_eq_true.1 hall j (List.mem_range.2 (by rw [HC.out.len]; exact hlt))
                      rw [Hok.out, i1', i2] at this
                      simp at this)
                  clear i1' i2
                  refine wp_region_below (by kernel_rfl) (by kernel_rfl) ?_
                  repeat (go_big_quiet_step ((first
                   | (go_at_call_of 50 p1; exact Later.call (by have h := tin_any W V A B (some ad) n c m d k q p1 ‹Later wv›.wd; rw [I1.out] at h; exact h))
                   | (go_at_call_of 50 p2; exact Later.call (by have h := tin_any W V A B (some ad) n c m d k q p2 ‹Later wv›.wd; rw [I2.out] at h; exact h)))))
                  refine wpQuiet_nil ?_
                  rintro _ ⟨pq, rfl⟩
                  have Hcur := hid pq.keeps
                  generalize pq.wd = wq at *
                  clear pq l0 l1 l2 l3 l4 b0 b1
                  go_wp2
                  go_ret
                  exact ⟨ret_bool E.out.symm, hB3.out.trans (Hcur.out.mono hB3.out.size)⟩
                · have i2' := (show inB W p2 = true by simpa using i2)
                  have I2 := hid i2'
                  clear i2
                  by_cases j0 : j = 0
                  · have E := hid (show okAt W cs j = true by rw [Hok.out, i1', i2']; simp [j0])
                    have tj : decide (0 < (j : Int)) = false := by simp [j0]
                    have tj2 : decide (0 < j) = false := by simp [j0]
                    clear j0 i1' i2'
                    refine wp_region_below (by kernel_rfl) (by kernel_rfl) ?_
                    repeat (go_big_quiet_step ((first
                     | (go_at_call_of 50 p1; exact Later.call (by have h := tin_any W V A B (some ad) n c m d k q p1 ‹Later wv›.wd; rw [I1.out] at h; exact h))
                     | (go_at_call_of 50 p2; exact Later.call (by have h := tin_any W V A B (some ad) n c m d k q p2 ‹Later wv›.wd; rw [I2.out] at h; exact h)))))
                    refine wpQuiet_nil ?_
                    rintro _ ⟨pq, rfl⟩
                    have Hcur := hid pq.keeps
                    generalize pq.wd = wq at *
                    clear pq l0 l1 l2 l3 l4 b0 b1
                    clear tj tj2
                    go_wp2
                    go_roundw
                    case rel =>
                      refine ⟨j + 1, by omega, by go_num, fun x hx => ?_, hF3.out.below Hcur.out hF3.out.lt, hB3.out.trans (Hcur.out.mono hB3.out.size)⟩
                      by_cases e : x = j
                      · rw [e]; exact E.out
                      · exact hb.out x (by omega)
                    case measure => simp [intOf]; omega
                  · have hget : cs[j - 1]? = some (cs[j - 1]'(by rw [HC.out.len]; omega)) := List.getElem?_eq_getElem _
                    have hok := Hok.out
                    rw [List.getD_eq_getElem?_getD (i := j - 1), hget] at hok
                    generalize (cs[j - 1]'(by rw [HC.out.len]; omega)) = p at hget hok
                    obtain ⟨q1, q2⟩ := p
                    obtain ⟨ad', e', _, h1, h2⟩ := HC.out.cell hget
                    cases e'
                    have hok2 : okAt W cs j = beforeB (q1, q2) (p1, p2) := by
                      rw [hok, i1', i2']; simp [j0]
                    have Hok2 := hid hok2
                    clear hget hok hok2
                    have r3 := (hB3.out.cell (p := ad.add ((j - 1) * 2)) (by rw [add_block]; exact had)).trans h1
                    have r4 := (hB3.out.cell (p := ⟨(ad.add ((j - 1) * 2)).block, (ad.add ((j - 1) * 2)).off + 1, none⟩) (by simp only [add_block]; exact had)).trans h2
                    have l5 := Later.cell (w := wv) (by rw [add_block]; omega) r3
                    have l6 := Later.cell (w := wv) (by simp only [add_block]; omega) r4
                    clear h1 h2 i1' i2' r3 r4
                    have tj : decide (0 < (j : Int)) = true := by simp; omega
                    have tj2 : decide (0 < j) = true := by simp; omega
                    have s1 : IntKind.i64.wrap ((j : Int) - 1) = (j : Int) - 1 := IntWalk.i64_in _ (by omega)
                    have s2 : (1 : Int) ≤ (j : Int) := by omega
                    have s3 : ((j : Int) - 1) < (k : Int) := by omega
                    have s4 : ((j : Int) - 1).toNat = j - 1 := by omega
                    refine wp_region_below (by kernel_rfl) (by kernel_rfl) ?_
                    repeat (go_big_quiet_step ((first
                     | (go_at_call_of 50 p1; exact Later.call (by have h := tin_any W V A B (some ad) n c m d k q p1 ‹Later wv›.wd; rw [I1.out] at h; exact h))
                     | (go_at_call_of 50 p2; exact Later.call (by have h := tin_any W V A B (some ad) n c m d k q p2 ‹Later wv›.wd; rw [I2.out] at h; exact h))
                     | (go_at_call 51; exact Later.call ((compare_any q1 q2 p1 p2 _).mono (fun _ _ h => ⟨h.1, h.2.2⟩))))))
                    refine wpQuiet_nil ?_
                    rintro _ ⟨pq, rfl⟩
                    have Hcur := hid pq.keeps
                    generalize pq.wd = wq at *
                    clear pq l0 l1 l2 l3 l4 b0 b1 l5 l6
                    clear s1 s2 s3 s4 tj tj2
                    cases hbf : beforeB (q1, q2) (p1, p2) with
                    | true =>
                      have E := hid (show okAt W cs j = true by rw [Hok2.out]; exact hbf)
                      have hq := cmpC_neg (q1, q2) (p1, p2)
                      rw [hbf] at hq
                      generalize cmpC (q1, q2) (p1, p2) = z at *
                      simp at hq
                      go_wp2
                      go_roundw
                      case rel =>
                        refine ⟨j + 1, by omega, by go_num, fun x hx => ?_, hF3.out.below Hcur.out hF3.out.lt, hB3.out.trans (Hcur.out.mono hB3.out.size)⟩
                        by_cases e : x = j
                        · rw [e]; exact E.out
                        · exact hb.out x (by omega)
                      case measure => simp [intOf]; omega
                    | false =>
                      have E := hid (show validT W gs V ks cs = false by
                        rw [Hsp.out]
                        refine Bool.eq_false_iff.2 fun hall => ?_
                        have := List.all_eq_true.1 hall j (List.mem_range.2 (by rw [HC.out.len]; exact hlt))
                        rw [Hok2.out, hbf] at this
                        exact absurd this (by simp))
                      have hq := cmpC_neg (q1, q2) (p1, p2)
                      rw [hbf] at hq
                      generalize cmpC (q1, q2) (p1, p2) = z at *
                      simp at hq
                      go_wp2
                      go_ret
                      exact ⟨ret_bool E.out.symm, hB3.out.trans (Hcur.out.mono hB3.out.size)⟩
            · have hjk : j = k := by omega
              have E := hid (show validT W gs V ks cs = true by
                rw [Hsp.out]
                refine List.all_eq_true.2 fun x hx => hb.out x ?_
                have := List.mem_range.1 hx
                rw [HC.out.len] at this
                omega)
              have Hw := hid hI.out.2
              clear hjk c0 c1 c2 c3 c4
              go_wp2
              go_ret
              exact ⟨ret_bool E.out.symm, Hw.out⟩
        · have E := hid (show validT W gs V ks cs = false by unfold validT; rw [HC.out.len]; simp [hle])
          have Hw := hid Hb2.out
          go_wp2
          go_ret
          exact ⟨ret_bool E.out.symm, Hw.out⟩
      · have t1 : (W != V) = true := by simp [hWV]
        have E := hid (show validT W gs V ks cs = false by unfold validT; simp [hWV])
        have Hw := hid Hb2.out
        go_wp2
        go_ret
        exact ⟨ret_bool E.out.symm, Hw.out⟩
end Go.Proofs.Ytadkjnjibefocaa
