/- The package's parser: the statements with lists; all statements. -/
import Derived.Test.YtcgichfanfijjaaDoorDp5
namespace Go.Proofs.YtcgichfanfijjaaDoor
set_option maxRecDepth 20000
set_option linter.unusedVariables false
set_option linter.unusedSimpArgs false
open Go.ChangeShapes Go.WideShapes Go.ChangeAt Go.RowKit
attribute [local go_sem] fieldTok0 fieldTok1 fieldTok2 fieldTok3
attribute [local go_sem ↓] Go.wp_at_zero Go.wp_at_succ

theorem Sd.startD {w0 w : World} {b : Nat} {σ : Ds} (h : DTo w0 b σ w) (ho : b < w0.heap.size) (hf : Fb w w0.heap.size #[.int .i64 0, .string ⟨#[]⟩, .slice none 0 0, .slice none 0 0] 57) (o : Int) (y : ByteArray) (hy : y.size ≤ 16) :
    Sd w0 b w.heap.size σ ⟨none, 0, 0, none, 0, 0, ⟨o, y, [], []⟩⟩ (w.alloc (.cells #[.int .i64 o, .string y, .slice none 0 0, .slice none 0 0] 57)) :=
  ⟨h.belowr ((Below.refl _ _).alloc (Nat.le_refl _) _), ho, hf.lt, hf.alloc _, Fb.new w _ _, fun ex _ => ⟨SSafe.nil _ _ _, SSafe.nil _ _ _, by show y.size ≤ 1000; omega⟩⟩
theorem listS_len {α : Type} (bb : ByteArray → Bool) (part : Ds → α × Ds) (N : Nat) : ∀ σ, (listS bb part N σ).1.length ≤ N := by
  induction N with
  | zero => intro σ; unfold listS; split <;> simp
  | succ n ih =>
    intro σ
    unfold listS
    split
    · have := ih (part σ).2; simp; omega
    · simp
set_option maxHeartbeats 3200000 in
theorem devStmt1 (b : Nat) (σ : Ds) (w : World) (h : Dst w b σ) (ho : opW (takeS (begS (nxt σ.l).text) σ).1 = 1) :
    Calls Tryd.prog 177 #[.pointer (some ⟨b, 0, none⟩)] w (RetDs w b (stmtS σ)) := by
  have H := hid h
  have Hlt := hid h.lt
  have H16 := hid (h.take16 (begS (nxt σ.l).text))
  have hR : stmtS σ = ((opS (opW (takeS (begS (nxt σ.l).text) σ).1) (takeS (begS (nxt σ.l).text) σ).1 (takeS (begS (nxt σ.l).text) σ).2).1, endS (opS (opW (takeS (begS (nxt σ.l).text) σ).1) (takeS (begS (nxt σ.l).text) σ).1 (takeS (begS (nxt σ.l).text) σ).2).2) := rfl
  rw [ho, opS1] at hR
  have HR := hid hR
  have Ho := hid ho
  have Hne := hid (@begS_ne σ.l)
  have h0 := hid (show Dst (w.alloc (.cells #[.int .i64 0, .string ⟨#[]⟩, .slice none 0 0, .slice none 0 0] 57)) b σ from h.below ((Below.refl _ _).alloc (Nat.le_refl _) _) h.lt)
  have hf0 := hid (Fb.new w #[.int .i64 0, .string ⟨#[]⟩, .slice none 0 0, .slice none 0 0] 57)
  have hb0 := hid ((Below.refl w.heap.size w).alloc (Nat.le_refl _) (.cells #[.int .i64 0, .string ⟨#[]⟩, .slice none 0 0, .slice none 0 0] 57))
  clear h hR ho
  go_enter Tryd.func177, Tryd.ntmps177
  go_wp2_with fail
  generalize w.alloc (.cells #[.int .i64 0, .string ⟨#[]⟩, .slice none 0 0, .slice none 0 0] 57) = wa at *
  refine (devNext_any b σ _ h0.out).mono ?_
  rintro e w1 ⟨rfl, hb1⟩
  have H1 := hid (h0.out.below hb1 h0.out.lt)
  have hf1 := hid (hf0.out.below hb1 hf0.out.lt)
  have hb2 := hid (below_step hb0.out hb1)
  clear hb1 h0 hf0 hb0
  unfold agT
  go_wp2_with fail
  refine (devBegS_any (nxt σ.l).text _ H1.out.text16 H1.out.tab).mono ?_
  rintro e w' ⟨rfl, rfl⟩
  generalize begS (nxt σ.l).text = bb at *
  go_wp2_with fail
  refine (devTake_any b σ bb _ H1.out Hne.out).mono ?_
  rintro e w2 ⟨rfl, h2⟩
  have H2 := hid (DTo.belowl hb2.out h2)
  have hf2 := hid (hf1.out.grown h2.2 (by have := Hlt.out; simp; omega))
  clear h2 H1 hf1 hb2 Hne
  generalize (takeS bb σ).1 = y at *
  generalize (takeS bb σ).2 = σ1 at *
  go_wp2_with fail
  refine (devOperation_any y _ H16.out H2.out.1.tab).mono ?_
  rw [Ho.out]
  rintro e w' ⟨rfl, rfl⟩
  have H3 := hid (Sd.startD H2.out Hlt.out hf2.out 1 y H16.out)
  clear H2 hf2
  go_wp2_with fail
  generalize w2.alloc (.cells #[.int .i64 1, .string y, .slice none 0 0, .slice none 0 0] 57) = w3 at *
  generalize w2.heap.size = g at *
  refine (devWord_any b σ1 kwEq (ne_of_data (by decide)) _ H3.out.st.1).mono ?_
  rintro e w4 ⟨rfl, h4⟩
  have H4 := hid (H3.out.call h4)
  clear h4 H3
  generalize wordS kwEq σ1 = σ2 at *
  go_wp2_with fail
  refine (devList_str b σ2 _ H4.out.st.1).mono ?_
  rintro e w5 ⟨B, d, l, rfl, hl, hown, hfr, h5⟩
  have H5 := hid (H4.out.call h5)
  have hl' : l = (listS nameB nameS 4 σ2).1 := by rw [← hl]; simp
  have hl4 : l.length ≤ 40 := by rw [hl']; have := listS_len nameB nameS 4 σ2; omega
  have Hsp := hid (frs_own2 (N := g + 1) (l := l) hown (flat_str l) rfl (by have := H4.out.size; omega) hl4 (fun x hx => by have : x.size ≤ 16 := hfr x hx [] (by simp); omega))
  rw [← hl'] at HR
  clear hl hl' hown hfr h5 hl4
  generalize (listS nameB nameS 4 σ2).2 = σ3 at *
  generalize hm : l.length = m at *
  have Hm := hid hm
  clear hm
  obtain ⟨⟨q0, q1, q2, q3⟩, ⟨r0, r1, r2, r3⟩, -, -, hz, -, -⟩ := H5.out.cells
  have H6 := hid (H5.out.putU (c2 := d) Hsp.out)
  go_wp2_with fail
  clear q0 q1 q2 q3 r0 r1 r2 r3 hz
  refine (devEnd_any b σ3 _ H6.out.st.1).mono ?_
  rintro e wz ⟨rfl, hz0⟩
  have HZ := hid (H6.out.call hz0)
  clear hz0
  obtain ⟨⟨p0, p1, p2, p3⟩, -, ⟨v0, v1, v2, v3⟩, ⟨s0, s1, s2, s3⟩, hsz, hsz2, hsz3⟩ := HZ.out.cells
  go_wp2_with fail
  refine bodyPost_ret (v := agS ⟨B, m, d, none, 0, 0, ⟨1, y, l, []⟩⟩) (by simp [results, Tryd.results177, go_sem, p0, p1, p2, p3, s0, s1, s2, s3, v0, v1, v2, v3, hsz, hsz2, agS]) rfl ?_
  exact HZ.out.done _ _ _ _ HR.out
set_option maxHeartbeats 3200000 in
theorem devStmt2 (b : Nat) (σ : Ds) (w : World) (h : Dst w b σ) (ho : opW (takeS (begS (nxt σ.l).text) σ).1 = 2) :
    Calls Tryd.prog 177 #[.pointer (some ⟨b, 0, none⟩)] w (RetDs w b (stmtS σ)) := by
  have H := hid h
  have Hlt := hid h.lt
  have H16 := hid (h.take16 (begS (nxt σ.l).text))
  have hR : stmtS σ = ((opS (opW (takeS (begS (nxt σ.l).text) σ).1) (takeS (begS (nxt σ.l).text) σ).1 (takeS (begS (nxt σ.l).text) σ).2).1, endS (opS (opW (takeS (begS (nxt σ.l).text) σ).1) (takeS (begS (nxt σ.l).text) σ).1 (takeS (begS (nxt σ.l).text) σ).2).2) := rfl
  rw [ho, opS2] at hR
  have HR := hid hR
  have Ho := hid ho
  have Hne := hid (@begS_ne σ.l)
  have h0 := hid (show Dst (w.alloc (.cells #[.int .i64 0, .string ⟨#[]⟩, .slice none 0 0, .slice none 0 0] 57)) b σ from h.below ((Below.refl _ _).alloc (Nat.le_refl _) _) h.lt)
  have hf0 := hid (Fb.new w #[.int .i64 0, .string ⟨#[]⟩, .slice none 0 0, .slice none 0 0] 57)
  have hb0 := hid ((Below.refl w.heap.size w).alloc (Nat.le_refl _) (.cells #[.int .i64 0, .string ⟨#[]⟩, .slice none 0 0, .slice none 0 0] 57))
  clear h hR ho
  go_enter Tryd.func177, Tryd.ntmps177
  go_wp2_with fail
  generalize w.alloc (.cells #[.int .i64 0, .string ⟨#[]⟩, .slice none 0 0, .slice none 0 0] 57) = wa at *
  refine (devNext_any b σ _ h0.out).mono ?_
  rintro e w1 ⟨rfl, hb1⟩
  have H1 := hid (h0.out.below hb1 h0.out.lt)
  have hf1 := hid (hf0.out.below hb1 hf0.out.lt)
  have hb2 := hid (below_step hb0.out hb1)
  clear hb1 h0 hf0 hb0
  unfold agT
  go_wp2_with fail
  refine (devBegS_any (nxt σ.l).text _ H1.out.text16 H1.out.tab).mono ?_
  rintro e w' ⟨rfl, rfl⟩
  generalize begS (nxt σ.l).text = bb at *
  go_wp2_with fail
  refine (devTake_any b σ bb _ H1.out Hne.out).mono ?_
  rintro e w2 ⟨rfl, h2⟩
  have H2 := hid (DTo.belowl hb2.out h2)
  have hf2 := hid (hf1.out.grown h2.2 (by have := Hlt.out; simp; omega))
  clear h2 H1 hf1 hb2 Hne
  generalize (takeS bb σ).1 = y at *
  generalize (takeS bb σ).2 = σ1 at *
  go_wp2_with fail
  refine (devOperation_any y _ H16.out H2.out.1.tab).mono ?_
  rw [Ho.out]
  rintro e w' ⟨rfl, rfl⟩
  have H3 := hid (Sd.start H2.out Hlt.out hf2.out 2)
  clear H2 hf2
  go_wp2_with fail
  generalize w2.alloc (.cells #[.int .i64 2, .string ⟨#[]⟩, .slice none 0 0, .slice none 0 0] 57) = w3 at *
  generalize w2.heap.size = g at *
  refine (devSome_str b σ1 _ H3.out.st.1).mono ?_
  rintro e w5 ⟨B, d, l, rfl, hl, hown, hfr, h5⟩
  have H5 := hid (H3.out.call h5)
  have hl' : l = (someS nameB nameS 4 σ1).1 := by rw [← hl]; simp
  have hl4 : l.length ≤ 40 := by rw [hl']; have : (someS nameB nameS 4 σ1).1.length ≤ 4 := listS_len nameB nameS 4 σ1; omega
  have Hsp := hid (frs_own2 (N := g + 1) (l := l) hown (flat_str l) rfl (by have := H3.out.size; omega) hl4 (fun x hx => by have : x.size ≤ 16 := hfr x hx [] (by simp); omega))
  rw [← hl'] at HR
  clear hl hl' hown hfr h5 hl4
  generalize (someS nameB nameS 4 σ1).2 = σ3 at *
  generalize hm : l.length = m at *
  have Hm := hid hm
  clear hm
  obtain ⟨⟨q0, q1, q2, q3⟩, ⟨r0, r1, r2, r3⟩, -, -, hz, -, -⟩ := H5.out.cells
  have H6 := hid (H5.out.putU (c2 := d) Hsp.out)
  go_wp2_with fail
  clear q0 q1 q2 q3 r0 r1 r2 r3 hz
  refine (devEnd_any b σ3 _ H6.out.st.1).mono ?_
  rintro e wz ⟨rfl, hz0⟩
  have HZ := hid (H6.out.call hz0)
  clear hz0
  obtain ⟨⟨p0, p1, p2, p3⟩, -, ⟨v0, v1, v2, v3⟩, ⟨s0, s1, s2, s3⟩, hsz, hsz2, hsz3⟩ := HZ.out.cells
  go_wp2_with fail
  refine bodyPost_ret (v := agS ⟨B, m, d, none, 0, 0, ⟨2, ⟨#[]⟩, l, []⟩⟩) (by simp [results, Tryd.results177, go_sem, p0, p1, p2, p3, s0, s1, s2, s3, v0, v1, v2, v3, hsz, hsz2, agS]) rfl ?_
  exact HZ.out.done _ _ _ _ HR.out
set_option maxHeartbeats 3200000 in
theorem devStmt3 (b : Nat) (σ : Ds) (w : World) (h : Dst w b σ) (ho : opW (takeS (begS (nxt σ.l).text) σ).1 = 3) :
    Calls Tryd.prog 177 #[.pointer (some ⟨b, 0, none⟩)] w (RetDs w b (stmtS σ)) := by
  have H := hid h
  have Hlt := hid h.lt
  have H16 := hid (h.take16 (begS (nxt σ.l).text))
  have hR : stmtS σ = ((opS (opW (takeS (begS (nxt σ.l).text) σ).1) (takeS (begS (nxt σ.l).text) σ).1 (takeS (begS (nxt σ.l).text) σ).2).1, endS (opS (opW (takeS (begS (nxt σ.l).text) σ).1) (takeS (begS (nxt σ.l).text) σ).1 (takeS (begS (nxt σ.l).text) σ).2).2) := rfl
  rw [ho, opS3] at hR
  have HR := hid hR
  have Ho := hid ho
  have Hne := hid (@begS_ne σ.l)
  have h0 := hid (show Dst (w.alloc (.cells #[.int .i64 0, .string ⟨#[]⟩, .slice none 0 0, .slice none 0 0] 57)) b σ from h.below ((Below.refl _ _).alloc (Nat.le_refl _) _) h.lt)
  have hf0 := hid (Fb.new w #[.int .i64 0, .string ⟨#[]⟩, .slice none 0 0, .slice none 0 0] 57)
  have hb0 := hid ((Below.refl w.heap.size w).alloc (Nat.le_refl _) (.cells #[.int .i64 0, .string ⟨#[]⟩, .slice none 0 0, .slice none 0 0] 57))
  clear h hR ho
  go_enter Tryd.func177, Tryd.ntmps177
  go_wp2_with fail
  generalize w.alloc (.cells #[.int .i64 0, .string ⟨#[]⟩, .slice none 0 0, .slice none 0 0] 57) = wa at *
  refine (devNext_any b σ _ h0.out).mono ?_
  rintro e w1 ⟨rfl, hb1⟩
  have H1 := hid (h0.out.below hb1 h0.out.lt)
  have hf1 := hid (hf0.out.below hb1 hf0.out.lt)
  have hb2 := hid (below_step hb0.out hb1)
  clear hb1 h0 hf0 hb0
  unfold agT
  go_wp2_with fail
  refine (devBegS_any (nxt σ.l).text _ H1.out.text16 H1.out.tab).mono ?_
  rintro e w' ⟨rfl, rfl⟩
  generalize begS (nxt σ.l).text = bb at *
  go_wp2_with fail
  refine (devTake_any b σ bb _ H1.out Hne.out).mono ?_
  rintro e w2 ⟨rfl, h2⟩
  have H2 := hid (DTo.belowl hb2.out h2)
  have hf2 := hid (hf1.out.grown h2.2 (by have := Hlt.out; simp; omega))
  clear h2 H1 hf1 hb2 Hne
  generalize (takeS bb σ).1 = y at *
  generalize (takeS bb σ).2 = σ1 at *
  go_wp2_with fail
  refine (devOperation_any y _ H16.out H2.out.1.tab).mono ?_
  rw [Ho.out]
  rintro e w' ⟨rfl, rfl⟩
  have H3 := hid (Sd.start H2.out Hlt.out hf2.out 3)
  clear H2 hf2
  go_wp2_with fail
  generalize w2.alloc (.cells #[.int .i64 3, .string ⟨#[]⟩, .slice none 0 0, .slice none 0 0] 57) = w6 at *
  generalize w2.heap.size = g at *
  have H6d : Hid (Sd w b g σ1 ⟨none, 0, 0, none, 0, 0, ⟨3, ⟨#[]⟩, [], []⟩⟩ w6.drew) := hid (H3.out.drewN 1)
  have HM := hid (fun w' h' => devName_any b σ1 w' h')
  have H16n := hid (H3.out.st.1.name16)
  generalize (nameS σ1).1 = yn at *
  generalize (nameS σ1).2 = σn at *
  obtain ⟨⟨q0, q1, q2, q3⟩, ⟨r0, r1, r2, r3⟩, -, -, hz, -, -⟩ := H3.out.cells
  obtain ⟨vt, hvt⟩ : ∃ v, v = Value.slice none 0 0 := ⟨_, rfl⟩
  have Hvt := hid hvt
  clear hvt
  have hgb := hid (show ∀ k, vt.ownBlock = some k → g + 1 ≤ k from fun k hk => by rw [Hvt.out] at hk; cases hk)
  have hnb := hid (show ∀ i, i ≤ g → some i ≠ vt.ownBlock from fun i hi e => by have := hgb.out i e.symm; omega)
  rw [← Hvt.out] at q3
  have Hown := hid (show w6.ownsRow (g + 1) 9 1 vt 0 [] from by rw [Hvt.out]; exact World.ownsRow_nil _ _ _ _)
  have hob := H6d.out.old
  have hhi := H6d.out.hi
  obtain ⟨i0, hi, hz0, hz1, hz2⟩ := info_parts info9
  have Hi := hid hi; have Hz0 := hid hz0; have Hz1 := hid hz1; have Hz2 := hid hz2
  clear hi hz0 hz1 hz2
  go_region_law (first
    | (go_simp
       go_at_call 142
       go_must (
       refine (HM.out _ H6d.out.st.1).mono ?_
       rintro e w7 ⟨rfl, h7⟩
       have H7 := hid (H6d.out.call h7)
       have Hown7 := hid (DTo.own (w := w6.drew) Hown.out.drew h7 (by omega))
       obtain ⟨⟨q0, q1, q2, q3⟩, ⟨r0, r1, r2, r3⟩, -, -, hz, -, -⟩ := H7.out.cells
       rw [← Hvt.out] at q3
       clear h7))
    | ((refine step_append_lies _ (by rfl) _ _ 55 (by rfl) (g + 1) 9 i0 _ 1 16 Tryd.underlying55 Hi.out Hz0.out Hz1.out Hz2.out (by rfl) (by decide) vt 0 [] (by rfl) (by exact Hown7.out.alloc _)
          ⟨_, 0, none⟩ 1 1 [.string yn] (by rfl) rfl (by exact one_str _ _ _) (one_strc _) (by decide) (by unfold maxLen; omega) (by omega) (by have := H7.out.size; rw [World.size_alloc]; omega) _ rfl ?_)
       intro g9 cap9 w9 hown9 hgr9 hat9 hlt9
       have Hown9 := hid hown9
       have Hgr9 := hid hgr9
       have k3 := hgr9.cell ((World.cell?_alloc_lt _ _ ⟨g, 3, none⟩ hz).trans q3) (hnb.out g (Nat.le_refl _))
       have j3 := (hgr9.frozen_far ⟨g, 3, none⟩ (by rw [World.size_alloc]; show g < _; omega) (hnb.out g (Nat.le_refl _))).trans ((World.frozen?_alloc_old _ _ ⟨g, 3, none⟩ (Nat.ne_of_lt hz)).trans r3)
       have hz9 : g < w9.heap.size := Nat.lt_of_lt_of_le hz (Nat.le_trans (by rw [World.size_alloc]; omega) hgr9.size)
       clear hown9 hgr9 hat9 hlt9))
  all_goals
    have H8 := hid (Sd.row (k := 0) H7.out ((Below.refl _ _).alloc (Nat.le_refl _) (.cells #[.string yn] 9)) Hgr9.out hgb.out 3 (.slice (some ⟨g9, 0, none⟩) (0 + 1) cap9) ⟨none, 0, 0, some ⟨g9, 0, none⟩, 0 + 1, cap9, ⟨3, ⟨#[]⟩, [], [yn]⟩⟩ rfl
      (fun ex he => ⟨SSafe.nil _ _ _, frs_own2 Hown9.out rfl rfl (Nat.le_refl _) (by simp) (fun x hx => by
        have h2 := H16n.out
        simp at hx; subst hx; omega) ex he, by show (0 : Nat) ≤ 1000; omega⟩))
    clear q0 q1 q2 q3 r0 r1 r2 r3 hz
    go_wp2_with fail
    clear k3 j3 hz9
    refine (devEnd_any b σn _ H8.out.st.1).mono ?_
    rintro e wz ⟨rfl, hz0⟩
    have HZ := hid (H8.out.call hz0)
    clear hz0
    obtain ⟨⟨p0, p1, p2, p3⟩, -, ⟨v0, v1, v2, v3⟩, ⟨s0, s1, s2, s3⟩, hsz, hsz2, hsz3⟩ := HZ.out.cells
    go_wp2_with fail
    refine bodyPost_ret (v := agS ⟨none, 0, 0, some ⟨g9, 0, none⟩, 0 + 1, cap9, ⟨3, ⟨#[]⟩, [], [yn]⟩⟩) (by simp [results, Tryd.results177, go_sem, p0, p1, p2, p3, s0, s1, s2, s3, v0, v1, v2, v3, hsz, hsz2, agS]) rfl ?_
    exact HZ.out.done _ _ _ _ HR.out
set_option maxHeartbeats 3200000 in
theorem devStmt7 (b : Nat) (σ : Ds) (w : World) (h : Dst w b σ) (ho : opW (takeS (begS (nxt σ.l).text) σ).1 = 7) :
    Calls Tryd.prog 177 #[.pointer (some ⟨b, 0, none⟩)] w (RetDs w b (stmtS σ)) := by
  have H := hid h
  have Hlt := hid h.lt
  have H16 := hid (h.take16 (begS (nxt σ.l).text))
  have hR : stmtS σ = ((opS (opW (takeS (begS (nxt σ.l).text) σ).1) (takeS (begS (nxt σ.l).text) σ).1 (takeS (begS (nxt σ.l).text) σ).2).1, endS (opS (opW (takeS (begS (nxt σ.l).text) σ).1) (takeS (begS (nxt σ.l).text) σ).1 (takeS (begS (nxt σ.l).text) σ).2).2) := rfl
  rw [ho, opS7] at hR
  have HR := hid hR
  have Ho := hid ho
  have Hne := hid (@begS_ne σ.l)
  have h0 := hid (show Dst (w.alloc (.cells #[.int .i64 0, .string ⟨#[]⟩, .slice none 0 0, .slice none 0 0] 57)) b σ from h.below ((Below.refl _ _).alloc (Nat.le_refl _) _) h.lt)
  have hf0 := hid (Fb.new w #[.int .i64 0, .string ⟨#[]⟩, .slice none 0 0, .slice none 0 0] 57)
  have hb0 := hid ((Below.refl w.heap.size w).alloc (Nat.le_refl _) (.cells #[.int .i64 0, .string ⟨#[]⟩, .slice none 0 0, .slice none 0 0] 57))
  clear h hR ho
  go_enter Tryd.func177, Tryd.ntmps177
  go_wp2_with fail
  generalize w.alloc (.cells #[.int .i64 0, .string ⟨#[]⟩, .slice none 0 0, .slice none 0 0] 57) = wa at *
  refine (devNext_any b σ _ h0.out).mono ?_
  rintro e w1 ⟨rfl, hb1⟩
  have H1 := hid (h0.out.below hb1 h0.out.lt)
  have hf1 := hid (hf0.out.below hb1 hf0.out.lt)
  have hb2 := hid (below_step hb0.out hb1)
  clear hb1 h0 hf0 hb0
  unfold agT
  go_wp2_with fail
  refine (devBegS_any (nxt σ.l).text _ H1.out.text16 H1.out.tab).mono ?_
  rintro e w' ⟨rfl, rfl⟩
  generalize begS (nxt σ.l).text = bb at *
  go_wp2_with fail
  refine (devTake_any b σ bb _ H1.out Hne.out).mono ?_
  rintro e w2 ⟨rfl, h2⟩
  have H2 := hid (DTo.belowl hb2.out h2)
  have hf2 := hid (hf1.out.grown h2.2 (by have := Hlt.out; simp; omega))
  clear h2 H1 hf1 hb2 Hne
  generalize (takeS bb σ).1 = y at *
  generalize (takeS bb σ).2 = σ1 at *
  go_wp2_with fail
  refine (devOperation_any y _ H16.out H2.out.1.tab).mono ?_
  rw [Ho.out]
  rintro e w' ⟨rfl, rfl⟩
  have H3 := hid (Sd.start H2.out Hlt.out hf2.out 7)
  clear H2 hf2
  go_wp2_with fail
  generalize w2.alloc (.cells #[.int .i64 7, .string ⟨#[]⟩, .slice none 0 0, .slice none 0 0] 57) = w6 at *
  generalize w2.heap.size = g at *
  have H6d : Hid (Sd w b g σ1 ⟨none, 0, 0, none, 0, 0, ⟨7, ⟨#[]⟩, [], []⟩⟩ w6.drew) := hid (H3.out.drewN 1)
  have HM := hid (fun w' h' => devName_any b σ1 w' h')
  have H16n := hid (H3.out.st.1.name16)
  generalize (nameS σ1).1 = yn at *
  generalize (nameS σ1).2 = σn at *
  obtain ⟨⟨q0, q1, q2, q3⟩, ⟨r0, r1, r2, r3⟩, -, -, hz, -, -⟩ := H3.out.cells
  obtain ⟨vt, hvt⟩ : ∃ v, v = Value.slice none 0 0 := ⟨_, rfl⟩
  have Hvt := hid hvt
  clear hvt
  have hgb := hid (show ∀ k, vt.ownBlock = some k → g + 1 ≤ k from fun k hk => by rw [Hvt.out] at hk; cases hk)
  have hnb := hid (show ∀ i, i ≤ g → some i ≠ vt.ownBlock from fun i hi e => by have := hgb.out i e.symm; omega)
  rw [← Hvt.out] at q3
  have Hown := hid (show w6.ownsRow (g + 1) 9 1 vt 0 [] from by rw [Hvt.out]; exact World.ownsRow_nil _ _ _ _)
  have hob := H6d.out.old
  have hhi := H6d.out.hi
  obtain ⟨i0, hi, hz0, hz1, hz2⟩ := info_parts info9
  have Hi := hid hi; have Hz0 := hid hz0; have Hz1 := hid hz1; have Hz2 := hid hz2
  clear hi hz0 hz1 hz2
  go_region_law (first
    | (go_simp
       go_at_call 142
       go_must (
       refine (HM.out _ H6d.out.st.1).mono ?_
       rintro e w7 ⟨rfl, h7⟩
       have H7 := hid (H6d.out.call h7)
       have Hown7 := hid (DTo.own (w := w6.drew) Hown.out.drew h7 (by omega))
       obtain ⟨⟨q0, q1, q2, q3⟩, ⟨r0, r1, r2, r3⟩, -, -, hz, -, -⟩ := H7.out.cells
       rw [← Hvt.out] at q3
       clear h7))
    | ((refine step_append_lies _ (by rfl) _ _ 55 (by rfl) (g + 1) 9 i0 _ 1 16 Tryd.underlying55 Hi.out Hz0.out Hz1.out Hz2.out (by rfl) (by decide) vt 0 [] (by rfl) (by exact Hown7.out.alloc _)
          ⟨_, 0, none⟩ 1 1 [.string yn] (by rfl) rfl (by exact one_str _ _ _) (one_strc _) (by decide) (by unfold maxLen; omega) (by omega) (by have := H7.out.size; rw [World.size_alloc]; omega) _ rfl ?_)
       intro g9 cap9 w9 hown9 hgr9 hat9 hlt9
       have Hown9 := hid hown9
       have Hgr9 := hid hgr9
       have k3 := hgr9.cell ((World.cell?_alloc_lt _ _ ⟨g, 3, none⟩ hz).trans q3) (hnb.out g (Nat.le_refl _))
       have j3 := (hgr9.frozen_far ⟨g, 3, none⟩ (by rw [World.size_alloc]; show g < _; omega) (hnb.out g (Nat.le_refl _))).trans ((World.frozen?_alloc_old _ _ ⟨g, 3, none⟩ (Nat.ne_of_lt hz)).trans r3)
       have hz9 : g < w9.heap.size := Nat.lt_of_lt_of_le hz (Nat.le_trans (by rw [World.size_alloc]; omega) hgr9.size)
       clear hown9 hgr9 hat9 hlt9))
  all_goals
    have H8 := hid (Sd.row (k := 0) H7.out ((Below.refl _ _).alloc (Nat.le_refl _) (.cells #[.string yn] 9)) Hgr9.out hgb.out 3 (.slice (some ⟨g9, 0, none⟩) (0 + 1) cap9) ⟨none, 0, 0, some ⟨g9, 0, none⟩, 0 + 1, cap9, ⟨7, ⟨#[]⟩, [], [yn]⟩⟩ rfl
      (fun ex he => ⟨SSafe.nil _ _ _, frs_own2 Hown9.out rfl rfl (Nat.le_refl _) (by simp) (fun x hx => by
        have h2 := H16n.out
        simp at hx; subst hx; omega) ex he, by show (0 : Nat) ≤ 1000; omega⟩))
    clear q0 q1 q2 q3 r0 r1 r2 r3 hz
    go_wp2_with fail
    clear k3 j3 hz9
    refine (devEnd_any b σn _ H8.out.st.1).mono ?_
    rintro e wz ⟨rfl, hz0⟩
    have HZ := hid (H8.out.call hz0)
    clear hz0
    obtain ⟨⟨p0, p1, p2, p3⟩, -, ⟨v0, v1, v2, v3⟩, ⟨s0, s1, s2, s3⟩, hsz, hsz2, hsz3⟩ := HZ.out.cells
    go_wp2_with fail
    refine bodyPost_ret (v := agS ⟨none, 0, 0, some ⟨g9, 0, none⟩, 0 + 1, cap9, ⟨7, ⟨#[]⟩, [], [yn]⟩⟩) (by simp [results, Tryd.results177, go_sem, p0, p1, p2, p3, s0, s1, s2, s3, v0, v1, v2, v3, hsz, hsz2, agS]) rfl ?_
    exact HZ.out.done _ _ _ _ HR.out
set_option maxHeartbeats 3200000 in
theorem devStmt8 (b : Nat) (σ : Ds) (w : World) (h : Dst w b σ) (ho : opW (takeS (begS (nxt σ.l).text) σ).1 = 8) :
    Calls Tryd.prog 177 #[.pointer (some ⟨b, 0, none⟩)] w (RetDs w b (stmtS σ)) := by
  have H := hid h
  have Hlt := hid h.lt
  have H16 := hid (h.take16 (begS (nxt σ.l).text))
  have hR : stmtS σ = ((opS (opW (takeS (begS (nxt σ.l).text) σ).1) (takeS (begS (nxt σ.l).text) σ).1 (takeS (begS (nxt σ.l).text) σ).2).1, endS (opS (opW (takeS (begS (nxt σ.l).text) σ).1) (takeS (begS (nxt σ.l).text) σ).1 (takeS (begS (nxt σ.l).text) σ).2).2) := rfl
  rw [ho, opS8] at hR
  have HR := hid hR
  have Ho := hid ho
  have Hne := hid (@begS_ne σ.l)
  have h0 := hid (show Dst (w.alloc (.cells #[.int .i64 0, .string ⟨#[]⟩, .slice none 0 0, .slice none 0 0] 57)) b σ from h.below ((Below.refl _ _).alloc (Nat.le_refl _) _) h.lt)
  have hf0 := hid (Fb.new w #[.int .i64 0, .string ⟨#[]⟩, .slice none 0 0, .slice none 0 0] 57)
  have hb0 := hid ((Below.refl w.heap.size w).alloc (Nat.le_refl _) (.cells #[.int .i64 0, .string ⟨#[]⟩, .slice none 0 0, .slice none 0 0] 57))
  clear h hR ho
  go_enter Tryd.func177, Tryd.ntmps177
  go_wp2_with fail
  generalize w.alloc (.cells #[.int .i64 0, .string ⟨#[]⟩, .slice none 0 0, .slice none 0 0] 57) = wa at *
  refine (devNext_any b σ _ h0.out).mono ?_
  rintro e w1 ⟨rfl, hb1⟩
  have H1 := hid (h0.out.below hb1 h0.out.lt)
  have hf1 := hid (hf0.out.below hb1 hf0.out.lt)
  have hb2 := hid (below_step hb0.out hb1)
  clear hb1 h0 hf0 hb0
  unfold agT
  go_wp2_with fail
  refine (devBegS_any (nxt σ.l).text _ H1.out.text16 H1.out.tab).mono ?_
  rintro e w' ⟨rfl, rfl⟩
  generalize begS (nxt σ.l).text = bb at *
  go_wp2_with fail
  refine (devTake_any b σ bb _ H1.out Hne.out).mono ?_
  rintro e w2 ⟨rfl, h2⟩
  have H2 := hid (DTo.belowl hb2.out h2)
  have hf2 := hid (hf1.out.grown h2.2 (by have := Hlt.out; simp; omega))
  clear h2 H1 hf1 hb2 Hne
  generalize (takeS bb σ).1 = y at *
  generalize (takeS bb σ).2 = σ1 at *
  go_wp2_with fail
  refine (devOperation_any y _ H16.out H2.out.1.tab).mono ?_
  rw [Ho.out]
  rintro e w' ⟨rfl, rfl⟩
  have H3 := hid (Sd.start H2.out Hlt.out hf2.out 8)
  clear H2 hf2
  go_wp2_with fail
  generalize w2.alloc (.cells #[.int .i64 8, .string ⟨#[]⟩, .slice none 0 0, .slice none 0 0] 57) = w3 at *
  generalize w2.heap.size = g at *
  refine (devName_any b σ1 _ H3.out.st.1).mono ?_
  rintro e w4 ⟨rfl, h4⟩
  have H4 := hid (H3.out.call h4)
  have H16z := hid (H3.out.st.1.name16)
  clear h4
  generalize (nameS σ1).1 = z at *
  generalize (nameS σ1).2 = σ2 at *
  obtain ⟨⟨q0, q1, q2, q3⟩, ⟨r0, r1, r2, r3⟩, -, -, hz, -, -⟩ := H4.out.cells
  have H5 := hid (H4.out.putU1 z H16z.out)
  have HFu := hid (show Fb _ _ (strC [z]) 9 from Fb.new (w4.setCell ⟨g, 2, none⟩ (.slice (some ⟨w4.heap.size, 0, none⟩) 1 1)) #[.string z] 9)
  rw [size_set1] at HFu
  have hgu := H4.out.size
  have hhi0 := H4.out.hi
  have hol0 := H4.out.old
  go_wp2_with fail
  generalize (w4.setCell ⟨g, 2, none⟩ (.slice (some ⟨w4.heap.size, 0, none⟩) 1 1)).alloc (.cells #[.string z] 9) = w4b at *
  generalize w4.heap.size = gu at *
  clear q0 q1 q2 q3 r0 r1 r2 r3 hz H4
  refine (devName_any b σ2 _ H5.out.st.1).mono ?_
  rintro e w5 ⟨rfl, h5⟩
  have H6 := hid (H5.out.call h5)
  have H16z2 := hid (H5.out.st.1.name16)
  have HFu5 := hid (HFu.out.grown h5.2 (by simp; omega))
  have hgt := HFu5.out.lt
  clear h5 H5 HFu
  generalize (nameS σ2).1 = z2 at *
  generalize (nameS σ2).2 = σ3 at *
  obtain ⟨⟨q0, q1, q2, q3⟩, ⟨r0, r1, r2, r3⟩, -, -, hz, -, -⟩ := H6.out.cells
  have H7 := hid (H6.out.putT1 z2 H16z2.out)
  have Hlit := hid (own_lit1 (w := w5.setCell ⟨g, 3, none⟩ (.slice (some ⟨w5.heap.size, 0, none⟩) 1 1)) (base := g + 1) (g := w5.heap.size) (y := z2) (by rw [size_set1]; exact H6.out.size) (size_set1 ..))
  have HFu6 := hid ((HFu5.out.far (p := ⟨g, 3, none⟩) (by show gu ≠ g; omega) (.slice (some ⟨w5.heap.size, 0, none⟩) 1 1)).alloc (.cells #[.string z2] 9))
  have hsz5 := H6.out.size
  go_wp2_with fail
  generalize (w5.setCell ⟨g, 3, none⟩ (.slice (some ⟨w5.heap.size, 0, none⟩) 1 1)).alloc (.cells #[.string z2] 9) = w6 at *
  generalize w5.heap.size = gt at *
  clear q0 q1 q2 q3 r0 r1 r2 r3 hz H6 HFu5
  have H6d : Hid (Sd w b g σ3 ⟨some ⟨gu, 0, none⟩, 1, 1, some ⟨gt, 0, none⟩, 1, 1, ⟨8, ⟨#[]⟩, [z], [z2]⟩⟩ w6.drew) := hid (H7.out.drewN 1)
  have HM := hid (fun w' h' => devName_any b σ3 w' h')
  have H16n := hid (H7.out.st.1.name16)
  generalize (nameS σ3).1 = yn at *
  generalize (nameS σ3).2 = σn at *
  obtain ⟨⟨q0, q1, q2, q3⟩, ⟨r0, r1, r2, r3⟩, -, -, hz, -, -⟩ := H7.out.cells
  obtain ⟨vt, hvt⟩ : ∃ v, v = Value.slice (some ⟨gt, 0, none⟩) 1 1 := ⟨_, rfl⟩
  have Hvt := hid hvt
  clear hvt
  have hgb := hid (show ∀ k, vt.ownBlock = some k → g + 1 ≤ k from fun k hk => by rw [Hvt.out] at hk; have hk : some gt = some k := hk; injection hk with hk; omega)
  have hnb := hid (show ∀ i, i ≤ g → some i ≠ vt.ownBlock from fun i hi e => by have := hgb.out i e.symm; omega)
  rw [← Hvt.out] at q3
  have Hown := hid (show w6.ownsRow (g + 1) 9 1 vt 1 [.string z2] from by rw [Hvt.out]; exact Hlit.out)
  have hob := H6d.out.old
  have hhi := H6d.out.hi
  obtain ⟨i0, hi, hz0, hz1, hz2⟩ := info_parts info9
  have Hi := hid hi; have Hz0 := hid hz0; have Hz1 := hid hz1; have Hz2 := hid hz2
  clear hi hz0 hz1 hz2
  go_region_law (first
    | (go_simp
       go_at_call 142
       go_must (
       refine (HM.out _ H6d.out.st.1).mono ?_
       rintro e w7 ⟨rfl, h7⟩
       have H7 := hid (H6d.out.call h7)
       have Hown7 := hid (DTo.own (w := w6.drew) Hown.out.drew h7 (by omega))
       have HFu7 := hid ((HFu6.out.drewN 1).grown h7.2 (by simp; omega))
       obtain ⟨⟨q0, q1, q2, q3⟩, ⟨r0, r1, r2, r3⟩, -, -, hz, -, -⟩ := H7.out.cells
       rw [← Hvt.out] at q3
       clear h7))
    | ((refine step_append_lies _ (by rfl) _ _ 55 (by rfl) (g + 1) 9 i0 _ 1 16 Tryd.underlying55 Hi.out Hz0.out Hz1.out Hz2.out (by rfl) (by decide) vt 1 [.string z2] (by rfl) (by exact Hown7.out.alloc _)
          ⟨_, 0, none⟩ 1 1 [.string yn] (by rfl) rfl (by exact one_str _ _ _) (one_strc _) (by decide) (by unfold maxLen; omega) (by omega) (by have := H7.out.size; rw [World.size_alloc]; omega) _ rfl ?_)
       intro g9 cap9 w9 hown9 hgr9 hat9 hlt9
       have Hown9 := hid hown9
       have Hgr9 := hid hgr9
       have k3 := hgr9.cell ((World.cell?_alloc_lt _ _ ⟨g, 3, none⟩ hz).trans q3) (hnb.out g (Nat.le_refl _))
       have j3 := (hgr9.frozen_far ⟨g, 3, none⟩ (by rw [World.size_alloc]; show g < _; omega) (hnb.out g (Nat.le_refl _))).trans ((World.frozen?_alloc_old _ _ ⟨g, 3, none⟩ (Nat.ne_of_lt hz)).trans r3)
       have hz9 : g < w9.heap.size := Nat.lt_of_lt_of_le hz (Nat.le_trans (by rw [World.size_alloc]; omega) hgr9.size)
       clear hown9 hgr9 hat9 hlt9))
  all_goals
    have HFu9 := hid ((HFu7.out.alloc (.cells #[.string yn] 9)).grown Hgr9.out (by rw [Hvt.out]; show some gu ≠ some gt; simp; omega))
    have H8 := hid (Sd.row (k := 0) H7.out ((Below.refl _ _).alloc (Nat.le_refl _) (.cells #[.string yn] 9)) Hgr9.out hgb.out 3 (.slice (some ⟨g9, 0, none⟩) (1 + 1) cap9) ⟨some ⟨gu, 0, none⟩, 1, 1, some ⟨g9, 0, none⟩, 1 + 1, cap9, ⟨8, ⟨#[]⟩, [z], [z2, yn]⟩⟩ rfl
      (fun ex he => ⟨SSafe.new (l := [z]) (m := 1) HFu9.out (fun hin => by have := he _ hin; omega) (by simp) (by simp) (by have := H16z.out; simp; omega), frs_own2 Hown9.out rfl rfl (Nat.le_refl _) (by simp) (fun x hx => by
        have h2 := H16n.out
        have h1 := H16z2.out
        simp at hx; rcases hx with rfl | rfl <;> omega) ex he, by show (0 : Nat) ≤ 1000; omega⟩))
    clear q0 q1 q2 q3 r0 r1 r2 r3 hz
    go_wp2_with fail
    clear k3 j3 hz9
    refine (devEnd_any b σn _ H8.out.st.1).mono ?_
    rintro e wz ⟨rfl, hz0⟩
    have HZ := hid (H8.out.call hz0)
    clear hz0
    obtain ⟨⟨p0, p1, p2, p3⟩, -, ⟨v0, v1, v2, v3⟩, ⟨s0, s1, s2, s3⟩, hsz, hsz2, hsz3⟩ := HZ.out.cells
    go_wp2_with fail
    refine bodyPost_ret (v := agS ⟨some ⟨gu, 0, none⟩, 1, 1, some ⟨g9, 0, none⟩, 1 + 1, cap9, ⟨8, ⟨#[]⟩, [z], [z2, yn]⟩⟩) (by simp [results, Tryd.results177, go_sem, p0, p1, p2, p3, s0, s1, s2, s3, v0, v1, v2, v3, hsz, hsz2, agS]) rfl ?_
    exact HZ.out.done _ _ _ _ HR.out
theorem devStmt_any (b : Nat) (σ : Ds) (w : World) (h : Dst w b σ) : Calls Tryd.prog 177 #[.pointer (some ⟨b, 0, none⟩)] w (RetDs w b (stmtS σ)) := by
  rcases opW_range (takeS (begS (nxt σ.l).text) σ).1 with ho | ho | ho | ho | ho | ho | ho | ho | ho | ho
  · exact devStmt0 b σ w h ho
  · exact devStmt1 b σ w h ho
  · exact devStmt2 b σ w h ho
  · exact devStmt3 b σ w h ho
  · exact devStmt4 b σ w h ho
  · exact devStmt5 b σ w h ho
  · exact devStmt6 b σ w h ho
  · exact devStmt7 b σ w h ho
  · exact devStmt8 b σ w h ho
  · exact devStmt9 b σ w h ho
end Go.Proofs.YtcgichfanfijjaaDoor
