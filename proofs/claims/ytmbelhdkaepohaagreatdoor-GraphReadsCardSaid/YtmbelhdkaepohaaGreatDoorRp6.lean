/- The reference's parser: statements that begin with branch, or a name; all statements. -/
import Derived.Test.YtmbelhdkaepohaaGreatDoorRp5
namespace Go.Proofs.YtmbelhdkaepohaaGreatDoor
set_option maxRecDepth 20000
set_option linter.unusedVariables false
set_option linter.unusedSimpArgs false
open Go.ChangeShapes Go.WideShapes Go.ChangeAt Go.RowKit
attribute [local go_sem ↓] Go.wp_at_zero Go.wp_at_succ

set_option maxHeartbeats 3200000 in
theorem refStmt_branch (b : Nat) (A : Option Addr) (c : Nat) (L : List Tok) (σ : Rs) (w : World) (h : Rst w b A c L σ) (hs : Short L) (hn : isN σ = false) (hk : isK kwBranch σ = true) :
    Calls Tryz.prog 74 #[.pointer (some ⟨b, 0, none⟩)] w (RetT w b A c L (stmtR σ)) := by
  have Hne := hid (isK_l hk)
  obtain ⟨l, er⟩ := σ
  have hR := (stmtR_kw hn hk).trans (opR_branch _)
  have ht : (nxt l).text = kwBranch := isK_text hk
  have t0 : ((nxt l).text.toList == [117, 115, 101]) = false := by rw [ht, toList_data]; decide
  have t1 : ((nxt l).text.toList == [99, 97, 108, 108]) = false := by rw [ht, toList_data]; decide
  have t2 : ((nxt l).text.toList == [115, 111, 117, 114, 99, 101]) = false := by rw [ht, toList_data]; decide
  have t3 : ((nxt l).text.toList == [115, 105, 110, 107]) = false := by rw [ht, toList_data]; decide
  have t4 : ((nxt l).text.toList == [115, 97, 110, 105, 116, 105, 122, 101]) = false := by rw [ht, toList_data]; decide
  have t5 : ((nxt l).text.toList == [103, 111, 116, 111]) = false := by rw [ht, toList_data]; decide
  have t6 : ((nxt l).text.toList == [98, 114, 97, 110, 99, 104]) = true := by rw [ht, toList_data]; decide
  have HN := hid hn; have HS := hid hs
  have h0 : Hid (Sg w b A c L ⟨l, er⟩ zSH ((w.alloc (.cells #[.int .i64 0, .string ⟨#[]⟩, .slice none 0 0, .slice none 0 0] 101)).alloc (.cells #[.int .i64 0, .string ⟨#[]⟩, .slice none 0 0, .slice none 0 0] 101))) := hid (Sg.start h)
  have HR := hid hR
  clear h hs hn hk ht hR
  go_enter Tryz.func74, Tryz.ntmps74
  go_wp2_with fail
  refine (refIsName2_any b A c L ⟨l, er⟩ _ h0.out.st HS.out).mono ?_
  rw [HN.out]
  rintro e w1 ⟨rfl, hb1⟩
  have h1 := hid (h0.out.below hb1)
  clear hb1 h0
  obtain ⟨k, a, hkl, hl, hf, rfl, ha, a0, a1⟩ := h1.out.st.next Hne.out
  have hlt := h1.out.st.lt
  have hfew := h1.out.st.few
  obtain ⟨⟨c0, c1, c2⟩, ⟨f0, f1, f2⟩⟩ := hf.three
  have Hst := hid (fun q => (h1.out.drewN q).call ((h1.out.st.drewN q).step hkl hl (hf.drewN q)))
  have hab : (a.add (k * 4)).block < w1.heap.size := by rw [add_block]; omega
  generalize (nxt l).text = tx at *
  clear hf hl a0
  go_wp2_with fail
  go_quiet (fail)
  clear h1 a1 hab
  go_wp2_with fail
  refine (refName_any b (some a) c L ⟨l.tail, er⟩ _ (Hst.out nq).st HS.out).mono ?_
  rintro e w3 ⟨rfl, h3⟩
  have H3 := hid ((Hst.out nq).call h3)
  have H16y := hid ((Hst.out nq).st.name16 HS.out)
  clear h3
  generalize (nameR ⟨l.tail, er⟩).1 = y at *
  generalize (nameR ⟨l.tail, er⟩).2 = σ2 at *
  obtain ⟨⟨q0, q1, q2, q3⟩, ⟨r0, r1, r2, r3⟩, -, -, hz⟩ := H3.out.cells
  have H4 := hid (H3.out.putOU 8 y H16y.out)
  have HFu := hid (show Fb _ _ (strC [y]) 9 from Fb.new ((w3.setCell ⟨w.heap.size + 1, 0, none⟩ (.int .i64 8)).setCell ⟨w.heap.size + 1, 2, none⟩ (.slice (some ⟨w3.heap.size, 0, none⟩) 1 1)) #[.string y] 9)
  rw [size_set2] at HFu
  have hgu := H3.out.size
  have Hol := H3.out.old
  clear Hst c0 c1 c2 f0 f1 f2
  go_wp2_with fail
  generalize (((w3.setCell ⟨w.heap.size + 1, 0, none⟩ (.int .i64 8)).setCell ⟨w.heap.size + 1, 2, none⟩ (.slice (some ⟨w3.heap.size, 0, none⟩) 1 1)).alloc (.cells #[.string y] 9)) = w4 at *
  generalize w3.heap.size = gu at *
  clear q0 q1 q2 q3 r0 r1 r2 r3 hz H3
  refine (refName_any b (some a) c L σ2 _ H4.out.st HS.out).mono ?_
  rintro e w5 ⟨rfl, h5⟩
  have H5 := hid (H4.out.call h5)
  have H16y2 := hid (H4.out.st.name16 HS.out)
  have HFu5 := hid (HFu.out.grown h5.2 (by simp; omega))
  have hgt := HFu5.out.lt
  clear h5
  generalize (nameR σ2).1 = y2 at *
  generalize (nameR σ2).2 = σ3 at *
  obtain ⟨⟨q0, q1, q2, q3⟩, ⟨r0, r1, r2, r3⟩, -, -, hz⟩ := H5.out.cells
  have H6 := hid (H5.out.putT1 y2 H16y2.out)
  have Hown := hid (own_lit1 (w := w5.setCell ⟨w.heap.size + 1, 3, none⟩ (.slice (some ⟨w5.heap.size, 0, none⟩) 1 1)) (base := w.heap.size + 2) (g := w5.heap.size) (y := y2) (by rw [size_set1]; exact H5.out.size) (size_set1 ..))
  have HFu6 := hid ((HFu5.out.far (p := ⟨w.heap.size + 1, 3, none⟩) (by show gu ≠ w.heap.size + 1; omega) (.slice (some ⟨w5.heap.size, 0, none⟩) 1 1)).alloc (.cells #[.string y2] 9))
  have hsz5 := H5.out.size
  go_wp2_with fail
  generalize (w5.setCell ⟨w.heap.size + 1, 3, none⟩ (.slice (some ⟨w5.heap.size, 0, none⟩) 1 1)).alloc (.cells #[.string y2] 9) = w6 at *
  generalize w5.heap.size = gt at *
  clear q0 q1 q2 q3 r0 r1 r2 r3 hz H5 HFu5 HFu
  have H6d : Hid (Sg w b (some a) c L σ3 ⟨some ⟨gu, 0, none⟩, 1, 1, some ⟨gt, 0, none⟩, 1, 1, ⟨8, ⟨#[]⟩, [y], [y2]⟩⟩ w6.drew) := hid (H6.out.drewN 1)
  have HM := hid (fun w' h' => refName_any b (some a) c L σ3 w' h' HS.out)
  have H16y3 := hid (H6.out.st.name16 HS.out)
  generalize (nameR σ3).1 = y3 at *
  generalize (nameR σ3).2 = σ4 at *
  obtain ⟨⟨q0, q1, q2, q3⟩, ⟨r0, r1, r2, r3⟩, -, -, hz⟩ := H6.out.cells
  obtain ⟨vt, hvt⟩ : ∃ v, v = Value.slice (some ⟨gt, 0, none⟩) 1 1 := ⟨_, rfl⟩
  have Hvt := hid hvt
  clear hvt
  rw [← Hvt.out] at q3
  obtain ⟨i0, hi, hz0, hz1, hz2⟩ := info_parts info9
  have Hi := hid hi; have Hz0 := hid hz0; have Hz1 := hid hz1; have Hz2 := hid hz2
  clear hi hz0 hz1 hz2
  go_region_law (first
    | (go_simp
       go_at_call 51
       go_must (
       refine (HM.out _ H6d.out.st).mono ?_
       rintro e w7 ⟨rfl, h7⟩
       have H7 := hid (H6d.out.call h7)
       have Hown7 := hid (RTo.own (w := w6.drew) Hown.out.drew h7 (by omega))
       have HFu7 := hid ((HFu6.out.drewN 1).grown h7.2 (by simp; omega))
       obtain ⟨⟨q0, q1, q2, q3⟩, ⟨r0, r1, r2, r3⟩, -, -, hz⟩ := H7.out.cells
       rw [← Hvt.out] at q3
       clear h7))
    | ((refine step_append_lies _ (by rfl) _ _ 99 (by rfl) (w.heap.size + 2) 9 i0 _ 1 16 Tryz.underlying99 Hi.out Hz0.out Hz1.out Hz2.out (by rfl) (by decide) vt 1 [.string y2] (by rfl) (by rw [Hvt.out]; exact Hown7.out.alloc _)
          ⟨_, 0, none⟩ 1 1 [.string y3] (by rfl) rfl (by exact one_str _ _ _) (one_strc _) (by decide) (by unfold maxLen; omega) (by omega) (by have := H7.out.size; rw [World.size_alloc]; omega) _ rfl ?_)
       intro g9 cap9 w9 hown9 hgr9 hat9 hlt9
       rw [Hvt.out] at hgr9
       have Hown9 := hid hown9
       have Hgr9 := hid hgr9
       have k3 := hgr9.cell ((World.cell?_alloc_lt _ _ ⟨w.heap.size + 1, 3, none⟩ hz).trans (q3.trans (by rw [Hvt.out]))) (by show some _ ≠ some gt; simp; omega)
       have j3 := (hgr9.frozen_far ⟨w.heap.size + 1, 3, none⟩ (by rw [World.size_alloc]; show w.heap.size + 1 < _; omega) (by show some _ ≠ some gt; simp; omega)).trans ((World.frozen?_alloc_old _ _ ⟨w.heap.size + 1, 3, none⟩ (Nat.ne_of_lt hz)).trans r3)
       have hz9 : w.heap.size + 1 < w9.heap.size := Nat.lt_of_lt_of_le hz (Nat.le_trans (by rw [World.size_alloc]; omega) hgr9.size)
       clear hown9 hgr9 hat9 hlt9))
  all_goals
    have HFu9 := hid ((HFu7.out.alloc (.cells #[.string y3] 9)).grown Hgr9.out (by show some gu ≠ some gt; simp; omega))
    have H8 := hid (Sg.row H7.out ((Below.refl _ _).alloc (Nat.le_refl _) (.cells #[.string y3] 9)) Hgr9.out (by omega) 3 (.slice (some ⟨g9, 0, none⟩) (1 + 1) cap9) ⟨some ⟨gu, 0, none⟩, 1, 1, some ⟨g9, 0, none⟩, 1 + 1, cap9, ⟨8, ⟨#[]⟩, [y], [y2, y3]⟩⟩ rfl
      (fun ex he => ⟨SSafe.new (l := [y]) (m := 1) HFu9.out (fun hin => by have := he _ hin; omega) (by simp) (by simp) (by have := H16y.out; simp; omega), frs_own2 Hown9.out rfl rfl (Nat.le_refl _) (by simp) (fun x hx => by
        have h1 := H16y2.out; have h2 := H16y3.out
        simp at hx; rcases hx with rfl | rfl <;> omega) ex he, by show (0 : Nat) ≤ 1000; omega⟩))
    clear q0 q1 q2 q3 r0 r1 r2 r3 hz
    go_wp2_with fail
    clear k3 j3 hz9
    refine (refEnd_any b (some a) c L σ4 _ H8.out.st).mono ?_
    rintro e wz ⟨rfl, hz0⟩
    have HZ := hid (H8.out.call hz0)
    clear hz0
    obtain ⟨⟨p0, p1, p2, p3⟩, ⟨-, -, -, -⟩, ⟨v0, v1, v2, v3⟩, ⟨s0, s1, s2, s3⟩, hsz⟩ := HZ.out.cells
    have hsz2 : w.heap.size < wz.heap.size := by omega
    go_wp2_with fail
    refine bodyPost_ret (v := agS ⟨some ⟨gu, 0, none⟩, 1, 1, some ⟨g9, 0, none⟩, 1 + 1, cap9, ⟨8, ⟨#[]⟩, [y], [y2, y3]⟩⟩) (by simp [results, Tryz.results74, go_sem, p0, p1, p2, p3, s0, s1, s2, s3, v0, v1, v2, v3, hsz, hsz2, agS]) rfl ?_
    exact HZ.out.done _ _ _ _ HR.out
set_option maxHeartbeats 3200000 in
theorem refStmt_name (b : Nat) (A : Option Addr) (c : Nat) (L : List Tok) (σ : Rs) (w : World) (h : Rst w b A c L σ) (hs : Short L) (hn : isN σ = true) :
    Calls Tryz.prog 74 #[.pointer (some ⟨b, 0, none⟩)] w (RetT w b A c L (stmtR σ)) := by
  have hR : stmtR σ = opR noB σ := by unfold stmtR; rw [hn]; rfl
  rw [opR_no] at hR
  have HN := hid hn; have HS := hid hs
  have h0 : Hid (Sg w b A c L σ zSH ((w.alloc (.cells #[.int .i64 0, .string ⟨#[]⟩, .slice none 0 0, .slice none 0 0] 101)).alloc (.cells #[.int .i64 0, .string ⟨#[]⟩, .slice none 0 0, .slice none 0 0] 101))) := hid (Sg.start h)
  have HR := hid hR
  clear h hs hn hR
  go_enter Tryz.func74, Tryz.ntmps74
  go_wp2_with fail
  refine (refIsName2_any b A c L σ _ h0.out.st HS.out).mono ?_
  rw [HN.out]
  rintro e w1 ⟨rfl, hb1⟩
  have h1 := hid (h0.out.below hb1)
  clear hb1 h0
  go_wp2_with fail
  refine (refName_any b A c L σ _ h1.out.st HS.out).mono ?_
  rintro e w3 ⟨rfl, h3⟩
  have H3 := hid (h1.out.call h3)
  have H16y := hid (h1.out.st.name16 HS.out)
  clear h3
  generalize (nameR σ).1 = y at *
  generalize (nameR σ).2 = σ2 at *
  obtain ⟨⟨q0, q1, q2, q3⟩, ⟨r0, r1, r2, r3⟩, -, -, hz⟩ := H3.out.cells
  have H4 := hid ((H3.out.putO 1).putD y H16y.out)
  clear h1
  go_wp2_with fail
  generalize ((w3.setCell ⟨w.heap.size + 1, 0, none⟩ (.int .i64 1)).setCell ⟨w.heap.size + 1, 1, none⟩ (.string y)) = w4 at *
  clear q0 q1 q2 q3 r0 r1 r2 r3 hz
  cases hd : isD 2 σ2 with
  | false =>
    have HD := hid hd
    rw [hd] at HR
    clear hd
    refine (refIsKind_any b A c L σ2 2 (by omega) _ H4.out.st).mono ?_
    rw [HD.out]
    rintro e w5 ⟨rfl, hb5⟩
    have H5 := hid (H4.out.below hb5)
    clear hb5
    go_wp2_with fail
    refine (refFail_any b A c L σ2 4 _ H5.out.st).mono ?_
    rintro e wz ⟨rfl, hz0⟩
    have HZ := hid (H5.out.call hz0)
    clear hz0
    obtain ⟨⟨p0, p1, p2, p3⟩, ⟨-, -, -, -⟩, ⟨v0, v1, v2, v3⟩, ⟨s0, s1, s2, s3⟩, hsz⟩ := HZ.out.cells
    have hsz2 : w.heap.size < wz.heap.size := by omega
    go_wp2_with fail
    refine bodyPost_ret (v := agS ⟨none, 0, 0, none, 0, 0, ⟨1, y, [], []⟩⟩) (by simp [results, Tryz.results74, go_sem, p0, p1, p2, p3, s0, s1, s2, s3, v0, v1, v2, v3, hsz, hsz2, agS]) rfl ?_
    exact HZ.out.done _ _ _ _ HR.out
  | true =>
    have HD := hid hd
    rw [hd] at HR
    have Hne := hid (isD_l (by omega) hd)
    clear hd
    refine (refIsKind_any b A c L σ2 2 (by omega) _ H4.out.st).mono ?_
    rw [HD.out]
    rintro e w5 ⟨rfl, hb5⟩
    have H5 := hid (H4.out.below hb5)
    clear hb5
    obtain ⟨l, er⟩ := σ2
    obtain ⟨k, a, hkl, hl, hf, rfl, ha, a0, a1⟩ := H5.out.st.next Hne.out
    have hlt := H5.out.st.lt
    have hfew := H5.out.st.few
    obtain ⟨⟨c0, c1, c2⟩, ⟨f0, f1, f2⟩⟩ := hf.three
    have Hst := hid (H5.out.call (H5.out.st.step hkl hl hf))
    clear hf hl a0 a1
    have HR2 : Hid (stmtR σ = (⟨1, y, (namesR 4 ⟨l.tail, er⟩).1, []⟩, endR (namesR 4 ⟨l.tail, er⟩).2)) := HR
    clear HR
    go_wp2_with fail
    refine (refNames_any b (some a) c L ⟨l.tail, er⟩ _ Hst.out.st HS.out).mono ?_
    rintro e w6 ⟨B, d, rfl, hown6, hsm6, -, h6⟩
    have H6 := hid (Hst.out.call h6)
    have hr4 := namesR_len 4 ⟨l.tail, er⟩
    have Hfr := hid (frs_own (N := w.heap.size + 2) hown6 (Hst.out.size) (by omega) (fun x hx => by have := hsm6 x hx; omega))
    clear h6 hown6 hsm6
    generalize (namesR 4 ⟨l.tail, er⟩).1 = r at *
    generalize (namesR 4 ⟨l.tail, er⟩).2 = σ4 at *
    generalize hm : r.length = m at *
    have Hm := hid hm
    clear hm hr4
    obtain ⟨⟨q0, q1, q2, q3⟩, ⟨r0, r1, r2, r3⟩, -, -, hz⟩ := H6.out.cells
    have H7 := hid (H6.out.putU (c2 := d) Hfr.out)
    go_wp2_with fail
    clear q0 q1 q2 q3 r0 r1 r2 r3 hz
    refine (refEnd_any b (some a) c L σ4 _ H7.out.st).mono ?_
    rintro e wz ⟨rfl, hz0⟩
    have HZ := hid (H7.out.call hz0)
    clear hz0
    obtain ⟨⟨p0, p1, p2, p3⟩, ⟨-, -, -, -⟩, ⟨v0, v1, v2, v3⟩, ⟨s0, s1, s2, s3⟩, hsz⟩ := HZ.out.cells
    have hsz2 : w.heap.size < wz.heap.size := by omega
    go_wp2_with fail
    refine bodyPost_ret (v := agS ⟨B, m, d, none, 0, 0, ⟨1, y, r, []⟩⟩) (by simp [results, Tryz.results74, go_sem, p0, p1, p2, p3, s0, s1, s2, s3, v0, v1, v2, v3, hsz, hsz2, agS]) rfl ?_
    exact HZ.out.done _ _ _ _ HR2.out
theorem refStmt_any (b : Nat) (A : Option Addr) (c : Nat) (L : List Tok) (σ : Rs) (w : World) (h : Rst w b A c L σ) (hs : Short L) (hb : begR σ = true) :
    Calls Tryz.prog 74 #[.pointer (some ⟨b, 0, none⟩)] w (RetT w b A c L (stmtR σ)) := by
  cases hn : isN σ with
  | true => exact refStmt_name b A c L σ w h hs hn
  | false =>
    unfold begR at hb
    rw [hn] at hb
    simp only [Bool.or_false, Bool.or_eq_true] at hb
    rcases hb with ((((((hb | hb) | hb) | hb) | hb) | hb) | hb) | hb
    · exact refStmt_use b A c L σ w h hs hn hb
    · exact refStmt_call b A c L σ w h hs hn hb
    · exact refStmt_source b A c L σ w h hs hn hb
    · exact refStmt_sink b A c L σ w h hs hn hb
    · exact refStmt_sanitize b A c L σ w h hs hn hb
    · exact refStmt_goto b A c L σ w h hs hn hb
    · exact refStmt_branch b A c L σ w h hs hn hb
    · exact refStmt_return b A c L σ w h hs hn hb
end Go.Proofs.YtmbelhdkaepohaaGreatDoor
