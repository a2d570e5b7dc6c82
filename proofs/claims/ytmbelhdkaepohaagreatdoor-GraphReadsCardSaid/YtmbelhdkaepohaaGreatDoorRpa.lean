/- The reference's Parse: the walk. -/
import Derived.Test.YtmbelhdkaepohaaGreatDoorRp9
import Derived.Test.YtmbelhdkaepohaaGreatDoorScF
import Derived.Deep.RegionLaw
import Derived.Deep.DrawnRows
import Derived.StillTailTactics
import Derived.Deep.RegionHeld3
import Derived.Deep.DeepCutAuto
namespace Go.Proofs.YtmbelhdkaepohaaGreatDoor
set_option maxRecDepth 20000
set_option linter.unusedVariables false
set_option linter.unusedSimpArgs false
open Go.ChangeShapes Go.WideShapes Go.ChangeAt Go.RowKit
attribute [local go_sem ↓] Go.wp_at_zero Go.wp_at_succ

theorem progR_of {σ0 : Rs} {done : List Fnc} {le : List Tok} {ee : Int} (h : listR (isK kwFunc) funcR 8 (needR (isK kwFunc) σ0) = (done, ⟨le, ee⟩)) :
    progR σ0 = (done, if ee == 0 && !le.isEmpty then failR 4 ⟨le, ee⟩ else ⟨le, ee⟩) := by
  unfold progR
  simp only
  rw [h]
theorem Po.pp {w0 w : World} {b c d : Nat} {A B : Option Addr} {L : List Tok} {σ : Rs} {l : List FH} (h : Po w0 b A c L σ (.slice B l.length d) l w) (hl : l.length ≤ 40) : Fr (w0.heap.size + 1) (PP ⟨B, l.length, d, l⟩) w :=
  pp_of h.own (fun x hx => (h.all x hx).fr) hl
theorem Po.grownw {w0 w : World} {b c : Nat} {A : Option Addr} {L : List Tok} {σ : Rs} {v : Value} {l : List FH} (h : Po w0 b A c L σ v l w) : w0.grownBy w (some b) := h.st.2
def parO (p : List Fnc × Rs) : Par := if p.2.e == 0 then (p.1, 0, 0, 0) else ([], (nxt p.2.l).line, (nxt p.2.l).col, p.2.e)
theorem parO_ok {P : List Fnc} {l : List Tok} {ee : Int} (h : (ee == 0) = true) : parO (P, ⟨l, ee⟩) = (P, 0, 0, 0) := by
  unfold parO
  exact if_pos h
theorem parO_bad {P : List Fnc} {l : List Tok} {ee : Int} (h : (ee == 0) = false) : parO (P, ⟨l, ee⟩) = ([], (nxt l).line, (nxt l).col, ee) := by
  unfold parO
  exact if_neg (by show ¬ ((ee == 0) = true); rw [h]; exact Bool.false_ne_true)
theorem par_more {s : ByteArray} {σ0 : Rs} {done : List Fnc} {le : List Tok} {ee : Int} (h2 : parseR s = parO (progR σ0)) (h : progR σ0 = (done, if ee == 0 && !le.isEmpty then failR 4 ⟨le, ee⟩ else ⟨le, ee⟩)) (he : (ee == 0) = true) (hn : le ≠ []) (hf : failR 4 ⟨le, ee⟩ = ⟨le, 4⟩) :
    parseR s = ([], (nxt le).line, (nxt le).col, 4) := by
  have hemp : le.isEmpty = false := by cases le with | nil => exact absurd rfl hn | cons => rfl
  rw [h2, h, hemp, he, hf]
  exact parO_bad rfl
theorem par_end {s : ByteArray} {σ0 : Rs} {done : List Fnc} {le : List Tok} {ee : Int} (h2 : parseR s = parO (progR σ0)) (h : progR σ0 = (done, if ee == 0 && !le.isEmpty then failR 4 ⟨le, ee⟩ else ⟨le, ee⟩)) (he : (ee == 0) = true) (hn : le = []) :
    parseR s = (done, 0, 0, 0) := by
  subst hn
  rw [h2, h]
  have h0 : (ee == 0 && !([] : List Tok).isEmpty) = false := by simp
  rw [h0]
  exact parO_ok he
theorem par_err {s : ByteArray} {σ0 : Rs} {done : List Fnc} {le : List Tok} {ee : Int} (h2 : parseR s = parO (progR σ0)) (h : progR σ0 = (done, if ee == 0 && !le.isEmpty then failR 4 ⟨le, ee⟩ else ⟨le, ee⟩)) (he : (ee == 0) = false) :
    parseR s = ([], (nxt le).line, (nxt le).col, ee) := by
  rw [h2, h, he]
  exact parO_bad he
set_option maxHeartbeats 20000000 in
theorem refParse_any (s : ByteArray) (w : World) (hs : s.size ≤ maxLen) : Calls Tryz.prog 21 #[.string s] w (RetParse (parseR s) w) := by
  have HC := hid (fun w => refScan_any s w hs)
  have HR : Hid (parseR s = (if (scanR s).2.2.2 == 0 then parO (progR ⟨(scanR s).1, 0⟩) else ([], (scanR s).2.1, (scanR s).2.2.1, (scanR s).2.2.2))) := hid rfl
  have HS := hid (show Short (scanR s).1 from fun t ht => tokOk_size (scan_tok s t ht))
  have Hfew := hid (scanR_few s)
  have hf0 := hid (Fb.new w #[.slice none 0 0] 49)
  have hb0 := hid ((Below.refl w.heap.size w).alloc (Nat.le_refl _) (.cells #[.slice none 0 0] 49))
  have hwa := hid (show (w.alloc (.cells #[.slice none 0 0] 49)).heap.size = w.heap.size + 1 by rw [World.size_alloc])
  clear hs
  generalize scanR s = r at *
  obtain ⟨L, line, col, er⟩ := r
  simp only at HR HS Hfew
  obtain ⟨i3, hi, hz0, hz1, hz2⟩ := info_parts info63
  have Hi := hid hi; have Hz0 := hid hz0; have Hz1 := hid hz1; have Hz2 := hid hz2
  clear hi hz0 hz1 hz2
  go_enter Tryz.func21, Tryz.ntmps21
  go_wp2_with fail
  generalize w.alloc (.cells #[.slice none 0 0] 49) = wa at *
  refine (HC.out _).mono ?_
  rintro e w1 ⟨A, c, rfl, ha, hb1⟩
  simp only at ha
  have hf1 := hid (hf0.out.below hb1 hf0.out.lt)
  have hB1 := hid (hb0.out.trans (hb1.mono hb0.out.size))
  have hsz1 := hid (show w.heap.size + 1 ≤ w1.heap.size by have := hb1.size; have := hwa.out; omega)
  cases he : (er == 0) with
  | false =>
    have hne : (er != 0) = true := by simpa using he
    have HR2 : Hid (parseR s = ([], line, col, er)) := hid (by rw [HR.out, he]; rfl)
    have HB : Hid (Below w.heap.size w (w1.setCell ⟨w.heap.size, 0, none⟩ (.slice none 0 0))) := hid (hB1.out.setCell (Nat.le_refl _) _)
    have v0 := hf1.out.cell 0
    have s0 := hf1.out.frozen 0
    have hsz := hf1.out.lt
    clear HR he ha hb1
    go_wp2_with fail
    refine bodyPost_ret (v := .tuple #[.agg #[.slice none 0 0], .int .i64 (line : Int), .int .i64 (col : Int), .int .i64 er]) (by simp [results, Tryz.results21, go_sem, v0, s0, hsz]) rfl ?_
    rw [HR2.out]
    exact ⟨⟨none, 0, 0, []⟩, rfl, rfl, pp_nil _ _, HB.out⟩
  | true =>
    have hne : (er != 0) = false := by simpa using he
    have HR2 : Hid (parseR s = parO (progR ⟨L, 0⟩)) := hid (by rw [HR.out, he]; rfl)
    have hst := hid (show Rst (w1.alloc (.cells #[.slice A L.length c, .int .i64 0, .int .i64 0] 70)) w1.heap.size A c L ⟨L, 0⟩ from ⟨⟨0, Nat.zero_le _, rfl, Fb.new w1 _ _⟩, ha.lies.alloc (Nat.le_refl _) _, Hfew.out⟩)
    have hB2 := hid (hB1.out.alloc (by have := hsz1.out; omega) (.cells #[.slice A L.length c, .int .i64 0, .int .i64 0] 70))
    have hf2 := hid ((hf1.out.alloc (.cells #[.slice A L.length c, .int .i64 0, .int .i64 0] 70)).alloc (.cells #[.slice none 0 0] 49))
    have hszp := hid (show (w1.alloc (.cells #[.slice A L.length c, .int .i64 0, .int .i64 0] 70)).heap.size = w1.heap.size + 1 by rw [World.size_alloc])
    have H0 := hid (Po.start hst.out)
    clear HR he ha hb1 hf0 hb0 hwa hf1 HC hst
    go_wp2_with fail
    generalize w1.alloc (.cells #[.slice A L.length c, .int .i64 0, .int .i64 0] 70) = wp at *
    generalize w1.heap.size = b at *
    have hszp2 := hszp.out
    have hszb := hsz1.out
    rw [show b + 1 = wp.heap.size from hszp2.symm]
    have hww : w.heap.size < wp.heap.size := by omega
    have hwb : w.heap.size < b := by omega
    have hbp : b < wp.heap.size := by omega
    clear hszp2 hszb
    generalize wp.alloc (.cells #[.slice none 0 0] 49) = w2 at *
    refine (refIs_any b A c L ⟨L, 0⟩ kwFunc _ H0.out.st.1).mono ?_
    rintro e w5 ⟨rfl, hb5⟩
    have H5 := hid (H0.out.below hb5)
    have hf5 := hid (hf2.out.below hb5 hf2.out.lt)
    clear hb5 H0 hf2
    cases hb0 : isK kwFunc ⟨L, 0⟩ with
    | true =>
      have hneed := hid (show needR (isK kwFunc) ⟨L, 0⟩ = ⟨L, 0⟩ by unfold needR; rw [hb0]; rfl)
      generalize hσ3 : (⟨L, 0⟩ : Rs) = σ3 at *
      clear hσ3 hb0
      go_wp2_with fail
      go_loopw [] (fun wr => ∃ (l : List FH) (n : Nat) (σ4 : Rs) (v : Value), Hid (Po wp b A c L σ4 v l wr) ∧ Hid (Lrel (isK kwFunc) funcR 8 σ3 (l.map FH.f) n σ4) ∧ Hid (Fb wr w.heap.size #[.slice none 0 0] 49)) (fun wr => 9 - lenAt0 wp.heap.size wr)
      case atStart => exact ⟨[], 8, σ3, _, H5.out, Lrel.start, hf5.out⟩
      case round =>
        clear H5 hf5
        obtain ⟨l, n, σ4, v, H, HL, hfR⟩ := hrel
        obtain ⟨B, d, hv⟩ := own_any_slice H.out.own
        subst hv
        have hlen : l.length + n = 8 := by have := HL.out.1; simpa using this
        have q0 := H.out.f3.cell 0
        have Hm := hid (lenAt0_of q0)
        clear q0
        cases hb : isK kwFunc σ4 with
        | false =>
          have HB0 := hid hb
          clear hb
          go_wp2_with fail
          refine (refIs_any b A c L σ4 kwFunc _ H.out.st.1).mono ?_
          rw [HB0.out]
          rintro e w7 ⟨rfl, hb7⟩
          have H7 := hid (H.out.below hb7)
          have hf7 := hid (hfR.out.below hb7 hfR.out.lt)
          clear hb7 H hfR
          obtain ⟨le, ee⟩ := σ4
          have HPg := hid (progR_of (σ0 := σ3) (done := l.map FH.f) (le := le) (ee := ee) (by rw [hneed.out]; exact HL.out.stop HB0.out))
          obtain ⟨k, hk, hl, hf⟩ := H7.out.st.1.at_
          simp only at hl hf
          cases hee : (ee == 0) with
          | true =>
            by_cases hkl : k < L.length
            · as_aux_lemma =>
              have HneL := hid (show le ≠ [] by
                  intro h0
                  rw [h0] at hl
                  have h1 := congrArg List.length hl
                  rw [List.length_drop] at h1
                  simp at h1
                  omega)
              have hfr := hid (show failR 4 ⟨le, ee⟩ = ⟨le, 4⟩ by unfold failR; simp [hee])
              have HPar : Hid (parseR s = ([], (nxt le).line, (nxt le).col, 4)) := hid (par_more HR2.out HPg.out hee HneL.out hfr.out)
              obtain ⟨⟨c0, c1, c2⟩, -⟩ := hf.three
              have hfew0 := H7.out.st.1.few
              clear hf hl HR2 HPg
              go_wp2_with fail
              refine (refFail_any b A c L ⟨le, ee⟩ 4 _ H7.out.st.1).mono ?_
              rintro e w8 ⟨rfl, h8⟩
              rw [hfr.out] at h8
              have H8 := hid (H7.out.call h8)
              have hf8 := hid (h8.kept hf7.out (by omega))
              clear h8 H7 hf7 c0 c1 c2 hfew0
              obtain ⟨k2, hk2, hl2, hfp⟩ := H8.out.st.1.at_
              simp only at hl2 hfp
              have hkl2 : k2 < L.length := by
                rcases Nat.lt_or_ge k2 L.length with h | h
                · exact h
                · exact absurd (by rw [← hl2, nxt_end h]) HneL.out
              obtain ⟨a, hAa, hab, -, a2, a3⟩ := H8.out.st.1.arg.cell hkl2
              subst hAa
              rw [← nxt_drop hkl2, hl2] at a2 a3
              obtain ⟨⟨c0, c1, c2⟩, -⟩ := hfp.three
              have hltb := H8.out.st.1.lt
              have hfew := H8.out.st.1.few
              have hna : a.block ≠ w.heap.size := by
                intro hq
                have h1 := a2
                rw [show (a.add (k2 * 4)).block = w.heap.size by rw [add_block]; exact hq] at h1
                rw [hf8.out.cell] at h1
                simp at h1
              have hna2 : w.heap.size ≠ a.block := fun h => hna h.symm
              have hab2 : (a.add (k2 * 4)).block < w8.heap.size := by rw [add_block]; exact hab
              have v0 := hf8.out.cell 0
              have s0 := hf8.out.frozen 0
              have hsz := hf8.out.lt
              have hBX := hid (hB2.out.grown H8.out.st.2 hB2.out.size (fun k hk => by injection hk with hk; omega))
              have HB : Hid (∀ q, Below w.heap.size w ((w8.drewN q).setCell ⟨w.heap.size, 0, none⟩ (.slice none 0 0))) := hid (fun q => (below_drewN hBX.out q).setCell (Nat.le_refl _) _)
              generalize (nxt le).line = ln at *
              generalize (nxt le).col = cl at *
              have hS0 : ((fun w' => Below w.heap.size w w' ∧ w'.cell? ⟨w.heap.size, 0, none⟩ = some (.slice none 0 0) ∧ w'.frozen? ⟨w.heap.size, 0, none⟩ = false ∧ w.heap.size < w'.heap.size ∧ w'.cell? ⟨b, 1, none⟩ = some (.int .i64 (k2 : Int)) ∧ w'.cell? ⟨b, 2, none⟩ = some (.int .i64 4) ∧ w'.cell? ⟨(a.add (k2 * 4)).block, (a.add (k2 * 4)).off + 2, none⟩ = some (.int .i64 (ln : Int)) ∧ w'.cell? ⟨(a.add (k2 * 4)).block, (a.add (k2 * 4)).off + 3, none⟩ = some (.int .i64 (cl : Int))) (w8.drew)) := ⟨below_drewN hBX.out 1, v0, s0, hsz, c1, c2, a2, a3⟩
              have HS0 := hid hS0
              have hSt : ∀ w', (fun w' => Below w.heap.size w w' ∧ w'.cell? ⟨w.heap.size, 0, none⟩ = some (.slice none 0 0) ∧ w'.frozen? ⟨w.heap.size, 0, none⟩ = false ∧ w.heap.size < w'.heap.size ∧ w'.cell? ⟨b, 1, none⟩ = some (.int .i64 (k2 : Int)) ∧ w'.cell? ⟨b, 2, none⟩ = some (.int .i64 4) ∧ w'.cell? ⟨(a.add (k2 * 4)).block, (a.add (k2 * 4)).off + 2, none⟩ = some (.int .i64 (ln : Int)) ∧ w'.cell? ⟨(a.add (k2 * 4)).block, (a.add (k2 * 4)).off + 3, none⟩ = some (.int .i64 (cl : Int))) w' → (fun w' => Below w.heap.size w w' ∧ w'.cell? ⟨w.heap.size, 0, none⟩ = some (.slice none 0 0) ∧ w'.frozen? ⟨w.heap.size, 0, none⟩ = false ∧ w.heap.size < w'.heap.size ∧ w'.cell? ⟨b, 1, none⟩ = some (.int .i64 (k2 : Int)) ∧ w'.cell? ⟨b, 2, none⟩ = some (.int .i64 4) ∧ w'.cell? ⟨(a.add (k2 * 4)).block, (a.add (k2 * 4)).off + 2, none⟩ = some (.int .i64 (ln : Int)) ∧ w'.cell? ⟨(a.add (k2 * 4)).block, (a.add (k2 * 4)).off + 3, none⟩ = some (.int .i64 (cl : Int))) (w'.setCell ⟨w.heap.size, 0, none⟩ (.slice none 0 0)) := by
                rintro w' ⟨h0, h1, h2, h3, h4, h5, h6, h7⟩
                refine ⟨h0.setCell (Nat.le_refl _) _, World.cell?_setCell_same (w := w') (a := ⟨w.heap.size, 0, none⟩) (v := .slice none 0 0) h1, by rw [World.frozen?_setCell]; exact h2, by rw [World.size_setCell]; exact h3, ?_, ?_, ?_, ?_⟩
                · exact (World.cell?_setCell_far _ _ _ _ (by show w.heap.size ≠ b; omega)).trans h4
                · exact (World.cell?_setCell_far _ _ _ _ (by show w.heap.size ≠ b; omega)).trans h5
                · exact (World.cell?_setCell_far _ _ _ _ (by show w.heap.size ≠ (a.add (k2 * 4)).block; rw [add_block]; exact hna2)).trans h6
                · exact (World.cell?_setCell_far _ _ _ _ (by show w.heap.size ≠ (a.add (k2 * 4)).block; rw [add_block]; exact hna2)).trans h7
              have HSt := hid hSt
              clear hl2 hfp hS0 hSt
              go_wp2_with fail
              clear c0 c1 c2 v0 s0 hsz a2 a3
              go_region_held3 (fun w' => Below w.heap.size w w' ∧ w'.cell? ⟨w.heap.size, 0, none⟩ = some (.slice none 0 0) ∧ w'.frozen? ⟨w.heap.size, 0, none⟩ = false ∧ w.heap.size < w'.heap.size ∧ w'.cell? ⟨b, 1, none⟩ = some (.int .i64 (k2 : Int)) ∧ w'.cell? ⟨b, 2, none⟩ = some (.int .i64 4) ∧ w'.cell? ⟨(a.add (k2 * 4)).block, (a.add (k2 * 4)).off + 2, none⟩ = some (.int .i64 (ln : Int)) ∧ w'.cell? ⟨(a.add (k2 * 4)).block, (a.add (k2 * 4)).off + 3, none⟩ = some (.int .i64 (cl : Int)))
                (first | exact HS0.out | exact HSt.out _ (by assumption) | assumption)
                (fail)
              go_wp2_with fail
              rename (Below _ _ _ ∧ _) => hh
              obtain ⟨hB9, v9, s9, hz9, -⟩ := hh
              refine bodyPost_ret (v := .tuple #[.agg #[.slice none 0 0], .int .i64 (ln : Int), .int .i64 (cl : Int), .int .i64 4]) (by simp [results, Tryz.results21, go_sem, v9, s9, hz9]) rfl ?_
              rw [HPar.out]
              exact ⟨⟨none, 0, 0, []⟩, rfl, rfl, pp_nil _ _, hB9⟩
            · as_aux_lemma =>
              have hle : le = [] := by rw [← hl, nxt_end (by omega)]
              have hkL : k = L.length := by omega
              have HPar : Hid (parseR s = (l.map FH.f, 0, 0, 0)) := hid (par_end HR2.out HPg.out hee hle)
              subst hkL
              clear hl HR2 HPg hkl
              obtain ⟨⟨c0, c1, c2⟩, -⟩ := hf.three
              have hltb := H7.out.st.1.lt
              have v0 := hf7.out.cell 0
              have s0 := hf7.out.frozen 0
              have hsz := hf7.out.lt
              have k0 := H7.out.f3.cell 0
              have hszX := H7.out.f3.lt
              have hBX := hid (hB2.out.grown H7.out.st.2 hB2.out.size (fun k hk => by injection hk with hk; omega))
              have HB : Hid (Below w.heap.size w (w7.setCell ⟨w.heap.size, 0, none⟩ (.slice B l.length d))) := hid (hBX.out.setCell (Nat.le_refl _) _)
              have Hpp := hid (show Fr w.heap.size (PP ⟨B, l.length, d, l⟩) (w7.setCell ⟨w.heap.size, 0, none⟩ (.slice B l.length d)) from Fr.less (M := w.heap.size) (Fr.grown (fun h hg => PP.go h hg) (H7.out.pp (by omega)) (setCell_grown w7 ⟨w.heap.size, 0, none⟩ _) (fun k hk => by injection hk with hk; have : w.heap.size = k := hk; omega)) (by omega))
              clear hf
              go_wp2_with fail
              refine bodyPost_ret (v := .tuple #[.agg #[.slice B l.length d], .int .i64 0, .int .i64 0, .int .i64 0]) (by simp [results, Tryz.results21, go_sem, v0, s0, hsz]) rfl ?_
              rw [HPar.out]
              exact ⟨⟨B, l.length, d, l⟩, rfl, rfl, Hpp.out, HB.out⟩
          | false =>
            have HPar0 : Hid (parseR s = ([], (nxt le).line, (nxt le).col, ee)) := hid (par_err HR2.out HPg.out hee)
            by_cases hkl : k < L.length
            · as_aux_lemma =>
              have HneL := hid (show le ≠ [] by
                  intro h0
                  rw [h0] at hl
                  have h1 := congrArg List.length hl
                  rw [List.length_drop] at h1
                  simp at h1
                  omega)
              have HPar := HPar0
              clear HPar0 hf hl HR2 HPg
              obtain ⟨k2, hk2, hl2, hfp⟩ := H7.out.st.1.at_
              simp only at hl2 hfp
              have hkl2 : k2 < L.length := by
                rcases Nat.lt_or_ge k2 L.length with h | h
                · exact h
                · exact absurd (by rw [← hl2, nxt_end h]) HneL.out
              obtain ⟨a, hAa, hab, -, a2, a3⟩ := H7.out.st.1.arg.cell hkl2
              subst hAa
              rw [← nxt_drop hkl2, hl2] at a2 a3
              obtain ⟨⟨c0, c1, c2⟩, -⟩ := hfp.three
              have hltb := H7.out.st.1.lt
              have hfew := H7.out.st.1.few
              have hna : a.block ≠ w.heap.size := by
                intro hq
                have h1 := a2
                rw [show (a.add (k2 * 4)).block = w.heap.size by rw [add_block]; exact hq] at h1
                rw [hf7.out.cell] at h1
                simp at h1
              have hna2 : w.heap.size ≠ a.block := fun h => hna h.symm
              have hab2 : (a.add (k2 * 4)).block < w7.heap.size := by rw [add_block]; exact hab
              have v0 := hf7.out.cell 0
              have s0 := hf7.out.frozen 0
              have hsz := hf7.out.lt
              have hBX := hid (hB2.out.grown H7.out.st.2 hB2.out.size (fun k hk => by injection hk with hk; omega))
              have HB : Hid (∀ q, Below w.heap.size w ((w7.drewN q).setCell ⟨w.heap.size, 0, none⟩ (.slice none 0 0))) := hid (fun q => (below_drewN hBX.out q).setCell (Nat.le_refl _) _)
              generalize (nxt le).line = ln at *
              generalize (nxt le).col = cl at *
              have hS0 : ((fun w' => Below w.heap.size w w' ∧ w'.cell? ⟨w.heap.size, 0, none⟩ = some (.slice none 0 0) ∧ w'.frozen? ⟨w.heap.size, 0, none⟩ = false ∧ w.heap.size < w'.heap.size ∧ w'.cell? ⟨b, 1, none⟩ = some (.int .i64 (k2 : Int)) ∧ w'.cell? ⟨b, 2, none⟩ = some (.int .i64 ee) ∧ w'.cell? ⟨(a.add (k2 * 4)).block, (a.add (k2 * 4)).off + 2, none⟩ = some (.int .i64 (ln : Int)) ∧ w'.cell? ⟨(a.add (k2 * 4)).block, (a.add (k2 * 4)).off + 3, none⟩ = some (.int .i64 (cl : Int))) (w7.drew)) := ⟨below_drewN hBX.out 1, v0, s0, hsz, c1, c2, a2, a3⟩
              have HS0 := hid hS0
              have hSt : ∀ w', (fun w' => Below w.heap.size w w' ∧ w'.cell? ⟨w.heap.size, 0, none⟩ = some (.slice none 0 0) ∧ w'.frozen? ⟨w.heap.size, 0, none⟩ = false ∧ w.heap.size < w'.heap.size ∧ w'.cell? ⟨b, 1, none⟩ = some (.int .i64 (k2 : Int)) ∧ w'.cell? ⟨b, 2, none⟩ = some (.int .i64 ee) ∧ w'.cell? ⟨(a.add (k2 * 4)).block, (a.add (k2 * 4)).off + 2, none⟩ = some (.int .i64 (ln : Int)) ∧ w'.cell? ⟨(a.add (k2 * 4)).block, (a.add (k2 * 4)).off + 3, none⟩ = some (.int .i64 (cl : Int))) w' → (fun w' => Below w.heap.size w w' ∧ w'.cell? ⟨w.heap.size, 0, none⟩ = some (.slice none 0 0) ∧ w'.frozen? ⟨w.heap.size, 0, none⟩ = false ∧ w.heap.size < w'.heap.size ∧ w'.cell? ⟨b, 1, none⟩ = some (.int .i64 (k2 : Int)) ∧ w'.cell? ⟨b, 2, none⟩ = some (.int .i64 ee) ∧ w'.cell? ⟨(a.add (k2 * 4)).block, (a.add (k2 * 4)).off + 2, none⟩ = some (.int .i64 (ln : Int)) ∧ w'.cell? ⟨(a.add (k2 * 4)).block, (a.add (k2 * 4)).off + 3, none⟩ = some (.int .i64 (cl : Int))) (w'.setCell ⟨w.heap.size, 0, none⟩ (.slice none 0 0)) := by
                rintro w' ⟨h0, h1, h2, h3, h4, h5, h6, h7⟩
                refine ⟨h0.setCell (Nat.le_refl _) _, World.cell?_setCell_same (w := w') (a := ⟨w.heap.size, 0, none⟩) (v := .slice none 0 0) h1, by rw [World.frozen?_setCell]; exact h2, by rw [World.size_setCell]; exact h3, ?_, ?_, ?_, ?_⟩
                · exact (World.cell?_setCell_far _ _ _ _ (by show w.heap.size ≠ b; omega)).trans h4
                · exact (World.cell?_setCell_far _ _ _ _ (by show w.heap.size ≠ b; omega)).trans h5
                · exact (World.cell?_setCell_far _ _ _ _ (by show w.heap.size ≠ (a.add (k2 * 4)).block; rw [add_block]; exact hna2)).trans h6
                · exact (World.cell?_setCell_far _ _ _ _ (by show w.heap.size ≠ (a.add (k2 * 4)).block; rw [add_block]; exact hna2)).trans h7
              have HSt := hid hSt
              clear hl2 hfp hS0 hSt
              go_wp2_with fail
              clear c0 c1 c2 v0 s0 hsz a2 a3
              go_region_held3 (fun w' => Below w.heap.size w w' ∧ w'.cell? ⟨w.heap.size, 0, none⟩ = some (.slice none 0 0) ∧ w'.frozen? ⟨w.heap.size, 0, none⟩ = false ∧ w.heap.size < w'.heap.size ∧ w'.cell? ⟨b, 1, none⟩ = some (.int .i64 (k2 : Int)) ∧ w'.cell? ⟨b, 2, none⟩ = some (.int .i64 ee) ∧ w'.cell? ⟨(a.add (k2 * 4)).block, (a.add (k2 * 4)).off + 2, none⟩ = some (.int .i64 (ln : Int)) ∧ w'.cell? ⟨(a.add (k2 * 4)).block, (a.add (k2 * 4)).off + 3, none⟩ = some (.int .i64 (cl : Int)))
                (first | exact HS0.out | exact HSt.out _ (by assumption) | assumption)
                (fail)
              go_wp2_with fail
              rename (Below _ _ _ ∧ _) => hh
              obtain ⟨hB9, v9, s9, hz9, -⟩ := hh
              refine bodyPost_ret (v := .tuple #[.agg #[.slice none 0 0], .int .i64 (ln : Int), .int .i64 (cl : Int), .int .i64 ee]) (by simp [results, Tryz.results21, go_sem, v9, s9, hz9]) rfl ?_
              rw [HPar.out]
              exact ⟨⟨none, 0, 0, []⟩, rfl, rfl, pp_nil _ _, hB9⟩
            · as_aux_lemma =>
              have hle : le = [] := by rw [← hl, nxt_end (by omega)]
              have hkL : k = L.length := by omega
              have HPar : Hid (parseR s = ([], 0, 0, ee)) := hid (by rw [HPar0.out, hle]; rfl)
              subst hkL
              clear HPar0 hl HR2 HPg hkl
              obtain ⟨⟨c0, c1, c2⟩, -⟩ := hf.three
              have hltb := H7.out.st.1.lt
              have v0 := hf7.out.cell 0
              have s0 := hf7.out.frozen 0
              have hsz := hf7.out.lt
              have hBX := hid (hB2.out.grown H7.out.st.2 hB2.out.size (fun k hk => by injection hk with hk; omega))
              have HB : Hid (∀ q, Below w.heap.size w ((w7.drewN q).setCell ⟨w.heap.size, 0, none⟩ (.slice none 0 0))) := hid (fun q => (below_drewN hBX.out q).setCell (Nat.le_refl _) _)
              clear hf
              go_wp2_with fail
              go_region_law (fail)
              all_goals
                go_wp2_with fail
                refine bodyPost_ret (v := .tuple #[.agg #[.slice none 0 0], .int .i64 0, .int .i64 0, .int .i64 ee]) (by simp [results, Tryz.results21, go_sem, v0, s0, hsz]) rfl ?_
                rw [HPar.out]
                exact ⟨⟨none, 0, 0, []⟩, rfl, rfl, pp_nil _ _, HB.out 1⟩
        | true =>
          have HB0 := hid hb
          clear hb
          cases n with
          | zero =>
            have hl8 : l.length = 8 := by omega
            go_wp2_with fail
            refine (refIs_any b A c L σ4 kwFunc _ H.out.st.1).mono ?_
            rw [HB0.out]
            rintro e w7 ⟨rfl, hb7⟩
            have H7 := hid (H.out.below hb7)
            have hf7 := hid (hfR.out.below hb7 hfR.out.lt)
            clear hb7 H hfR
            have q0 := H7.out.f3.cell 0
            have tl : ((l.length : Int) == 8) = true := by simp; omega
            go_wp2_with fail
            clear q0 tl
            refine (refFail_any b A c L σ4 7 _ H7.out.st.1).mono ?_
            rintro e w8 ⟨rfl, h8⟩
            obtain ⟨le, ee⟩ := σ4
            have hfr := hid (show failR 7 ⟨le, ee⟩ = ⟨le, 7⟩ by
              have h0 : ee = 0 := (isK_ne HB0.out).1
              unfold failR
              simp [h0])
            rw [hfr.out] at h8
            have HneL := hid (show le ≠ [] from isK_l HB0.out)
            have HPg := hid (progR_of (σ0 := σ3) (done := l.map FH.f) (le := le) (ee := 7) (by rw [hneed.out]; exact (HL.out.full HB0.out).trans (by rw [hfr.out])))
            have HPar : Hid (parseR s = ([], (nxt le).line, (nxt le).col, 7)) := hid (par_err HR2.out HPg.out rfl)
            have H8 := hid (H7.out.call h8)
            have hf8 := hid (h8.kept hf7.out (by omega))
            clear h8 H7 hf7 HR2 HPg
            obtain ⟨k2, hk2, hl2, hfp⟩ := H8.out.st.1.at_
            simp only at hl2 hfp
            have hkl2 : k2 < L.length := by
              rcases Nat.lt_or_ge k2 L.length with h | h
              · exact h
              · exact absurd (by rw [← hl2, nxt_end h]) HneL.out
            obtain ⟨a, hAa, hab, -, a2, a3⟩ := H8.out.st.1.arg.cell hkl2
            subst hAa
            rw [← nxt_drop hkl2, hl2] at a2 a3
            obtain ⟨⟨c0, c1, c2⟩, -⟩ := hfp.three
            have hltb := H8.out.st.1.lt
            have hfew := H8.out.st.1.few
            have hna : a.block ≠ w.heap.size := by
              intro hq
              have h1 := a2
              rw [show (a.add (k2 * 4)).block = w.heap.size by rw [add_block]; exact hq] at h1
              rw [hf8.out.cell] at h1
              simp at h1
            have hna2 : w.heap.size ≠ a.block := fun h => hna h.symm
            have hab2 : (a.add (k2 * 4)).block < w8.heap.size := by rw [add_block]; exact hab
            have v0 := hf8.out.cell 0
            have s0 := hf8.out.frozen 0
            have hsz := hf8.out.lt
            have hBX := hid (hB2.out.grown H8.out.st.2 hB2.out.size (fun k hk => by injection hk with hk; omega))
            have HB : Hid (∀ q, Below w.heap.size w ((w8.drewN q).setCell ⟨w.heap.size, 0, none⟩ (.slice none 0 0))) := hid (fun q => (below_drewN hBX.out q).setCell (Nat.le_refl _) _)
            generalize (nxt le).line = ln at *
            generalize (nxt le).col = cl at *
            have hS0 : ((fun w' => Below w.heap.size w w' ∧ w'.cell? ⟨w.heap.size, 0, none⟩ = some (.slice none 0 0) ∧ w'.frozen? ⟨w.heap.size, 0, none⟩ = false ∧ w.heap.size < w'.heap.size ∧ w'.cell? ⟨b, 1, none⟩ = some (.int .i64 (k2 : Int)) ∧ w'.cell? ⟨b, 2, none⟩ = some (.int .i64 7) ∧ w'.cell? ⟨(a.add (k2 * 4)).block, (a.add (k2 * 4)).off + 2, none⟩ = some (.int .i64 (ln : Int)) ∧ w'.cell? ⟨(a.add (k2 * 4)).block, (a.add (k2 * 4)).off + 3, none⟩ = some (.int .i64 (cl : Int))) (w8.drew)) := ⟨below_drewN hBX.out 1, v0, s0, hsz, c1, c2, a2, a3⟩
            have HS0 := hid hS0
            have hSt : ∀ w', (fun w' => Below w.heap.size w w' ∧ w'.cell? ⟨w.heap.size, 0, none⟩ = some (.slice none 0 0) ∧ w'.frozen? ⟨w.heap.size, 0, none⟩ = false ∧ w.heap.size < w'.heap.size ∧ w'.cell? ⟨b, 1, none⟩ = some (.int .i64 (k2 : Int)) ∧ w'.cell? ⟨b, 2, none⟩ = some (.int .i64 7) ∧ w'.cell? ⟨(a.add (k2 * 4)).block, (a.add (k2 * 4)).off + 2, none⟩ = some (.int .i64 (ln : Int)) ∧ w'.cell? ⟨(a.add (k2 * 4)).block, (a.add (k2 * 4)).off + 3, none⟩ = some (.int .i64 (cl : Int))) w' → (fun w' => Below w.heap.size w w' ∧ w'.cell? ⟨w.heap.size, 0, none⟩ = some (.slice none 0 0) ∧ w'.frozen? ⟨w.heap.size, 0, none⟩ = false ∧ w.heap.size < w'.heap.size ∧ w'.cell? ⟨b, 1, none⟩ = some (.int .i64 (k2 : Int)) ∧ w'.cell? ⟨b, 2, none⟩ = some (.int .i64 7) ∧ w'.cell? ⟨(a.add (k2 * 4)).block, (a.add (k2 * 4)).off + 2, none⟩ = some (.int .i64 (ln : Int)) ∧ w'.cell? ⟨(a.add (k2 * 4)).block, (a.add (k2 * 4)).off + 3, none⟩ = some (.int .i64 (cl : Int))) (w'.setCell ⟨w.heap.size, 0, none⟩ (.slice none 0 0)) := by
              rintro w' ⟨h0, h1, h2, h3, h4, h5, h6, h7⟩
              refine ⟨h0.setCell (Nat.le_refl _) _, World.cell?_setCell_same (w := w') (a := ⟨w.heap.size, 0, none⟩) (v := .slice none 0 0) h1, by rw [World.frozen?_setCell]; exact h2, by rw [World.size_setCell]; exact h3, ?_, ?_, ?_, ?_⟩
              · exact (World.cell?_setCell_far _ _ _ _ (by show w.heap.size ≠ b; omega)).trans h4
              · exact (World.cell?_setCell_far _ _ _ _ (by show w.heap.size ≠ b; omega)).trans h5
              · exact (World.cell?_setCell_far _ _ _ _ (by show w.heap.size ≠ (a.add (k2 * 4)).block; rw [add_block]; exact hna2)).trans h6
              · exact (World.cell?_setCell_far _ _ _ _ (by show w.heap.size ≠ (a.add (k2 * 4)).block; rw [add_block]; exact hna2)).trans h7
            have HSt := hid hSt
            clear hl2 hfp hS0 hSt
            go_wp2_with fail
            clear c0 c1 c2 v0 s0 hsz a2 a3
            go_region_held3 (fun w' => Below w.heap.size w w' ∧ w'.cell? ⟨w.heap.size, 0, none⟩ = some (.slice none 0 0) ∧ w'.frozen? ⟨w.heap.size, 0, none⟩ = false ∧ w.heap.size < w'.heap.size ∧ w'.cell? ⟨b, 1, none⟩ = some (.int .i64 (k2 : Int)) ∧ w'.cell? ⟨b, 2, none⟩ = some (.int .i64 7) ∧ w'.cell? ⟨(a.add (k2 * 4)).block, (a.add (k2 * 4)).off + 2, none⟩ = some (.int .i64 (ln : Int)) ∧ w'.cell? ⟨(a.add (k2 * 4)).block, (a.add (k2 * 4)).off + 3, none⟩ = some (.int .i64 (cl : Int)))
              (first | exact HS0.out | exact HSt.out _ (by assumption) | assumption)
              (fail)
            go_wp2_with fail
            rename (Below _ _ _ ∧ _) => hh
            obtain ⟨hB9, v9, s9, hz9, -⟩ := hh
            refine bodyPost_ret (v := .tuple #[.agg #[.slice none 0 0], .int .i64 (ln : Int), .int .i64 (cl : Int), .int .i64 7]) (by simp [results, Tryz.results21, go_sem, v9, s9, hz9]) rfl ?_
            rw [HPar.out]
            exact ⟨⟨none, 0, 0, []⟩, rfl, rfl, pp_nil _ _, hB9⟩
          | succ n =>
            have hl8 : l.length < 8 := by omega
            have tl : ((l.length : Int) == 8) = false := by simp; omega
            go_wp2_with fail
            refine (refIs_any b A c L σ4 kwFunc _ H.out.st.1).mono ?_
            rw [HB0.out]
            rintro e w7 ⟨rfl, hb7⟩
            have H7 := hid (H.out.below hb7)
            have hf7 := hid (hfR.out.below hb7 hfR.out.lt)
            clear hb7 H hfR
            have q0 := H7.out.f3.cell 0
            have hzq := H7.out.f3.lt
            go_wp2_with fail
            have H7d : Hid (Po wp b A c L σ4 (.slice B l.length d) l w7.drew) := hid (H7.out.drewN 1)
            have HCc := hid (fun w' (h' : Rst w' b A c L σ4) => refFunc_any b A c L σ4 w' h' HS.out)
            go_region_law (first
              | (go_simp
                 go_at_call 39
                 go_must (
                 refine (HCc.out _ H7d.out.st.1).mono ?_
                 rintro e w8 ⟨x, he, hxt, hfx, h8⟩
                 unfold agF at he
                 subst he
                 have H8 := hid (H7d.out.call h8)
                 have hf8 := hid (h8.kept (w := w7.drew) hf7.out (by omega))
                 have Hx := hid (FrV.fresh (N := wp.heap.size + 1) (v := .slice B l.length d) hfx H7d.out.size (fun k hk => (H7d.out.own.lt k hk).2))
                 have Hxt := hid hxt
                 have q0 := H8.out.f3.cell 0
                 have hzq := H8.out.f3.lt
                 clear hfx h8 hxt))
              | ((refine step_append_lies _ (by rfl) _ _ 47 (by rfl) (wp.heap.size + 1) 75 i3 _ 2 40 Tryz.underlying47 Hi.out Hz0.out Hz1.out Hz2.out (by rfl) (by decide) (.slice B l.length d) l.length (l.flatMap fhc) (by rfl) (by exact World.ownsRow.alloc H8.out.own _)
                    ⟨_, 0, none⟩ 1 1 (fhc x) (by rfl) rfl (by exact two_new _ _ _ _) (one_two _ _ _ _) (by decide) (by unfold maxLen; omega) (by omega) (by have := H8.out.size; rw [World.size_alloc]; omega) _ rfl ?_)
                 intro g9 cap9 w9 hown9 hgr9 hat9 hlt9
                 obtain ⟨⟨y0, y1, y2⟩, hT9⟩ := Po.push (x := x) H8.out ((Below.refl _ _).alloc (Nat.le_refl _) _) Hx.out hgr9 hown9 hat9
                 have H9 := hid hT9
                 have hne9 : ∀ k, (Value.slice B l.length d).ownBlock = some k → wp.heap.size + 1 ≤ k := fun k hk => (H8.out.own.lt k hk).1
                 have hf9 := hid (((hf8.out.alloc _).grown hgr9 (fun e => by have := hne9 _ e.symm; omega)).far (p := ⟨wp.heap.size, 0, none⟩) (by show w.heap.size ≠ wp.heap.size; omega) (.slice (some ⟨g9, 0, none⟩) (l.length + 1) cap9))
                 clear hown9 hgr9 hat9 hlt9 hT9 hne9))
            all_goals
              clear q0 hzq
              generalize w9.setCell ⟨wp.heap.size, 0, none⟩ (.slice (some ⟨g9, 0, none⟩) (l.length + 1) cap9) = w10 at *
              clear y0 y1 y2
              go_wp2_with fail
              go_roundw
              case rel => exact ⟨l ++ [x], n, (funcR σ4).2, _, H9.out, by have := HL.out.step HB0.out; rw [List.map_append]; rw [← Hxt.out] at this; exact this, hf9.out⟩
              case measure =>
                have q0 := H9.out.f3.cell 0
                rw [Hm.out, lenAt0_of q0]
                omega
    | false =>
      have hneed := hid (show needR (isK kwFunc) ⟨L, 0⟩ = failR 4 ⟨L, 0⟩ by unfold needR; rw [hb0]; rfl)
      clear hb0
      go_wp2_with fail
      refine (refFail_any b A c L ⟨L, 0⟩ 4 _ H5.out.st.1).mono ?_
      rintro e w6 ⟨rfl, h6⟩
      have H6 := hid (H5.out.call h6)
      have hf6 := hid (h6.kept hf5.out (by omega))
      clear h6 H5 hf5
      generalize failR 4 ⟨L, 0⟩ = σ3 at *
      generalize hσ0 : (⟨L, 0⟩ : Rs) = σ0 at *
      clear hσ0
      go_wp2_with fail
      go_loopw [] (fun wr => ∃ (l : List FH) (n : Nat) (σ4 : Rs) (v : Value), Hid (Po wp b A c L σ4 v l wr) ∧ Hid (Lrel (isK kwFunc) funcR 8 σ3 (l.map FH.f) n σ4) ∧ Hid (Fb wr w.heap.size #[.slice none 0 0] 49)) (fun wr => 9 - lenAt0 wp.heap.size wr)
      case atStart => exact ⟨[], 8, σ3, _, H6.out, Lrel.start, hf6.out⟩
      case round =>
        clear H6 hf6
        obtain ⟨l, n, σ4, v, H, HL, hfR⟩ := hrel
        obtain ⟨B, d, hv⟩ := own_any_slice H.out.own
        subst hv
        have hlen : l.length + n = 8 := by have := HL.out.1; simpa using this
        have q0 := H.out.f3.cell 0
        have Hm := hid (lenAt0_of q0)
        clear q0
        cases hb : isK kwFunc σ4 with
        | false =>
          have HB0 := hid hb
          clear hb
          go_wp2_with fail
          refine (refIs_any b A c L σ4 kwFunc _ H.out.st.1).mono ?_
          rw [HB0.out]
          rintro e w7 ⟨rfl, hb7⟩
          have H7 := hid (H.out.below hb7)
          have hf7 := hid (hfR.out.below hb7 hfR.out.lt)
          clear hb7 H hfR
          obtain ⟨le, ee⟩ := σ4
          have HPg := hid (progR_of (σ0 := σ0) (done := l.map FH.f) (le := le) (ee := ee) (by rw [hneed.out]; exact HL.out.stop HB0.out))
          obtain ⟨k, hk, hl, hf⟩ := H7.out.st.1.at_
          simp only at hl hf
          cases hee : (ee == 0) with
          | true =>
            by_cases hkl : k < L.length
            · as_aux_lemma =>
              have HneL := hid (show le ≠ [] by
                  intro h0
                  rw [h0] at hl
                  have h1 := congrArg List.length hl
                  rw [List.length_drop] at h1
                  simp at h1
                  omega)
              have hfr := hid (show failR 4 ⟨le, ee⟩ = ⟨le, 4⟩ by unfold failR; simp [hee])
              have HPar : Hid (parseR s = ([], (nxt le).line, (nxt le).col, 4)) := hid (par_more HR2.out HPg.out hee HneL.out hfr.out)
              obtain ⟨⟨c0, c1, c2⟩, -⟩ := hf.three
              have hfew0 := H7.out.st.1.few
              clear hf hl HR2 HPg
              go_wp2_with fail
              refine (refFail_any b A c L ⟨le, ee⟩ 4 _ H7.out.st.1).mono ?_
              rintro e w8 ⟨rfl, h8⟩
              rw [hfr.out] at h8
              have H8 := hid (H7.out.call h8)
              have hf8 := hid (h8.kept hf7.out (by omega))
              clear h8 H7 hf7 c0 c1 c2 hfew0
              obtain ⟨k2, hk2, hl2, hfp⟩ := H8.out.st.1.at_
              simp only at hl2 hfp
              have hkl2 : k2 < L.length := by
                rcases Nat.lt_or_ge k2 L.length with h | h
                · exact h
                · exact absurd (by rw [← hl2, nxt_end h]) HneL.out
              obtain ⟨a, hAa, hab, -, a2, a3⟩ := H8.out.st.1.arg.cell hkl2
              subst hAa
              rw [← nxt_drop hkl2, hl2] at a2 a3
              obtain ⟨⟨c0, c1, c2⟩, -⟩ := hfp.three
              have hltb := H8.out.st.1.lt
              have hfew := H8.out.st.1.few
              have hna : a.block ≠ w.heap.size := by
                intro hq
                have h1 := a2
                rw [show (a.add (k2 * 4)).block = w.heap.size by rw [add_block]; exact hq] at h1
                rw [hf8.out.cell] at h1
                simp at h1
              have hna2 : w.heap.size ≠ a.block := fun h => hna h.symm
              have hab2 : (a.add (k2 * 4)).block < w8.heap.size := by rw [add_block]; exact hab
              have v0 := hf8.out.cell 0
              have s0 := hf8.out.frozen 0
              have hsz := hf8.out.lt
              have hBX := hid (hB2.out.grown H8.out.st.2 hB2.out.size (fun k hk => by injection hk with hk; omega))
              have HB : Hid (∀ q, Below w.heap.size w ((w8.drewN q).setCell ⟨w.heap.size, 0, none⟩ (.slice none 0 0))) := hid (fun q => (below_drewN hBX.out q).setCell (Nat.le_refl _) _)
              generalize (nxt le).line = ln at *
              generalize (nxt le).col = cl at *
              have hS0 : ((fun w' => Below w.heap.size w w' ∧ w'.cell? ⟨w.heap.size, 0, none⟩ = some (.slice none 0 0) ∧ w'.frozen? ⟨w.heap.size, 0, none⟩ = false ∧ w.heap.size < w'.heap.size ∧ w'.cell? ⟨b, 1, none⟩ = some (.int .i64 (k2 : Int)) ∧ w'.cell? ⟨b, 2, none⟩ = some (.int .i64 4) ∧ w'.cell? ⟨(a.add (k2 * 4)).block, (a.add (k2 * 4)).off + 2, none⟩ = some (.int .i64 (ln : Int)) ∧ w'.cell? ⟨(a.add (k2 * 4)).block, (a.add (k2 * 4)).off + 3, none⟩ = some (.int .i64 (cl : Int))) (w8.drew)) := ⟨below_drewN hBX.out 1, v0, s0, hsz, c1, c2, a2, a3⟩
              have HS0 := hid hS0
              have hSt : ∀ w', (fun w' => Below w.heap.size w w' ∧ w'.cell? ⟨w.heap.size, 0, none⟩ = some (.slice none 0 0) ∧ w'.frozen? ⟨w.heap.size, 0, none⟩ = false ∧ w.heap.size < w'.heap.size ∧ w'.cell? ⟨b, 1, none⟩ = some (.int .i64 (k2 : Int)) ∧ w'.cell? ⟨b, 2, none⟩ = some (.int .i64 4) ∧ w'.cell? ⟨(a.add (k2 * 4)).block, (a.add (k2 * 4)).off + 2, none⟩ = some (.int .i64 (ln : Int)) ∧ w'.cell? ⟨(a.add (k2 * 4)).block, (a.add (k2 * 4)).off + 3, none⟩ = some (.int .i64 (cl : Int))) w' → (fun w' => Below w.heap.size w w' ∧ w'.cell? ⟨w.heap.size, 0, none⟩ = some (.slice none 0 0) ∧ w'.frozen? ⟨w.heap.size, 0, none⟩ = false ∧ w.heap.size < w'.heap.size ∧ w'.cell? ⟨b, 1, none⟩ = some (.int .i64 (k2 : Int)) ∧ w'.cell? ⟨b, 2, none⟩ = some (.int .i64 4) ∧ w'.cell? ⟨(a.add (k2 * 4)).block, (a.add (k2 * 4)).off + 2, none⟩ = some (.int .i64 (ln : Int)) ∧ w'.cell? ⟨(a.add (k2 * 4)).block, (a.add (k2 * 4)).off + 3, none⟩ = some (.int .i64 (cl : Int))) (w'.setCell ⟨w.heap.size, 0, none⟩ (.slice none 0 0)) := by
                rintro w' ⟨h0, h1, h2, h3, h4, h5, h6, h7⟩
                refine ⟨h0.setCell (Nat.le_refl _) _, World.cell?_setCell_same (w := w') (a := ⟨w.heap.size, 0, none⟩) (v := .slice none 0 0) h1, by rw [World.frozen?_setCell]; exact h2, by rw [World.size_setCell]; exact h3, ?_, ?_, ?_, ?_⟩
                · exact (World.cell?_setCell_far _ _ _ _ (by show w.heap.size ≠ b; omega)).trans h4
                · exact (World.cell?_setCell_far _ _ _ _ (by show w.heap.size ≠ b; omega)).trans h5
                · exact (World.cell?_setCell_far _ _ _ _ (by show w.heap.size ≠ (a.add (k2 * 4)).block; rw [add_block]; exact hna2)).trans h6
                · exact (World.cell?_setCell_far _ _ _ _ (by show w.heap.size ≠ (a.add (k2 * 4)).block; rw [add_block]; exact hna2)).trans h7
              have HSt := hid hSt
              clear hl2 hfp hS0 hSt
              go_wp2_with fail
              clear c0 c1 c2 v0 s0 hsz a2 a3
              go_region_held3 (fun w' => Below w.heap.size w w' ∧ w'.cell? ⟨w.heap.size, 0, none⟩ = some (.slice none 0 0) ∧ w'.frozen? ⟨w.heap.size, 0, none⟩ = false ∧ w.heap.size < w'.heap.size ∧ w'.cell? ⟨b, 1, none⟩ = some (.int .i64 (k2 : Int)) ∧ w'.cell? ⟨b, 2, none⟩ = some (.int .i64 4) ∧ w'.cell? ⟨(a.add (k2 * 4)).block, (a.add (k2 * 4)).off + 2, none⟩ = some (.int .i64 (ln : Int)) ∧ w'.cell? ⟨(a.add (k2 * 4)).block, (a.add (k2 * 4)).off + 3, none⟩ = some (.int .i64 (cl : Int)))
                (first | exact HS0.out | exact HSt.out _ (by assumption) | assumption)
                (fail)
              go_wp2_with fail
              rename (Below _ _ _ ∧ _) => hh
              obtain ⟨hB9, v9, s9, hz9, -⟩ := hh
              refine bodyPost_ret (v := .tuple #[.agg #[.slice none 0 0], .int .i64 (ln : Int), .int .i64 (cl : Int), .int .i64 4]) (by simp [results, Tryz.results21, go_sem, v9, s9, hz9]) rfl ?_
              rw [HPar.out]
              exact ⟨⟨none, 0, 0, []⟩, rfl, rfl, pp_nil _ _, hB9⟩
            · as_aux_lemma =>
              have hle : le = [] := by rw [← hl, nxt_end (by omega)]
              have hkL : k = L.length := by omega
              have HPar : Hid (parseR s = (l.map FH.f, 0, 0, 0)) := hid (par_end HR2.out HPg.out hee hle)
              subst hkL
              clear hl HR2 HPg hkl
              obtain ⟨⟨c0, c1, c2⟩, -⟩ := hf.three
              have hltb := H7.out.st.1.lt
              have v0 := hf7.out.cell 0
              have s0 := hf7.out.frozen 0
              have hsz := hf7.out.lt
              have k0 := H7.out.f3.cell 0
              have hszX := H7.out.f3.lt
              have hBX := hid (hB2.out.grown H7.out.st.2 hB2.out.size (fun k hk => by injection hk with hk; omega))
              have HB : Hid (Below w.heap.size w (w7.setCell ⟨w.heap.size, 0, none⟩ (.slice B l.length d))) := hid (hBX.out.setCell (Nat.le_refl _) _)
              have Hpp := hid (show Fr w.heap.size (PP ⟨B, l.length, d, l⟩) (w7.setCell ⟨w.heap.size, 0, none⟩ (.slice B l.length d)) from Fr.less (M := w.heap.size) (Fr.grown (fun h hg => PP.go h hg) (H7.out.pp (by omega)) (setCell_grown w7 ⟨w.heap.size, 0, none⟩ _) (fun k hk => by injection hk with hk; have : w.heap.size = k := hk; omega)) (by omega))
              clear hf
              go_wp2_with fail
              refine bodyPost_ret (v := .tuple #[.agg #[.slice B l.length d], .int .i64 0, .int .i64 0, .int .i64 0]) (by simp [results, Tryz.results21, go_sem, v0, s0, hsz]) rfl ?_
              rw [HPar.out]
              exact ⟨⟨B, l.length, d, l⟩, rfl, rfl, Hpp.out, HB.out⟩
          | false =>
            have HPar0 : Hid (parseR s = ([], (nxt le).line, (nxt le).col, ee)) := hid (par_err HR2.out HPg.out hee)
            by_cases hkl : k < L.length
            · as_aux_lemma =>
              have HneL := hid (show le ≠ [] by
                  intro h0
                  rw [h0] at hl
                  have h1 := congrArg List.length hl
                  rw [List.length_drop] at h1
                  simp at h1
                  omega)
              have HPar := HPar0
              clear HPar0 hf hl HR2 HPg
              obtain ⟨k2, hk2, hl2, hfp⟩ := H7.out.st.1.at_
              simp only at hl2 hfp
              have hkl2 : k2 < L.length := by
                rcases Nat.lt_or_ge k2 L.length with h | h
                · exact h
                · exact absurd (by rw [← hl2, nxt_end h]) HneL.out
              obtain ⟨a, hAa, hab, -, a2, a3⟩ := H7.out.st.1.arg.cell hkl2
              subst hAa
              rw [← nxt_drop hkl2, hl2] at a2 a3
              obtain ⟨⟨c0, c1, c2⟩, -⟩ := hfp.three
              have hltb := H7.out.st.1.lt
              have hfew := H7.out.st.1.few
              have hna : a.block ≠ w.heap.size := by
                intro hq
                have h1 := a2
                rw [show (a.add (k2 * 4)).block = w.heap.size by rw [add_block]; exact hq] at h1
                rw [hf7.out.cell] at h1
                simp at h1
              have hna2 : w.heap.size ≠ a.block := fun h => hna h.symm
              have hab2 : (a.add (k2 * 4)).block < w7.heap.size := by rw [add_block]; exact hab
              have v0 := hf7.out.cell 0
              have s0 := hf7.out.frozen 0
              have hsz := hf7.out.lt
              have hBX := hid (hB2.out.grown H7.out.st.2 hB2.out.size (fun k hk => by injection hk with hk; omega))
              have HB : Hid (∀ q, Below w.heap.size w ((w7.drewN q).setCell ⟨w.heap.size, 0, none⟩ (.slice none 0 0))) := hid (fun q => (below_drewN hBX.out q).setCell (Nat.le_refl _) _)
              generalize (nxt le).line = ln at *
              generalize (nxt le).col = cl at *
              have hS0 : ((fun w' => Below w.heap.size w w' ∧ w'.cell? ⟨w.heap.size, 0, none⟩ = some (.slice none 0 0) ∧ w'.frozen? ⟨w.heap.size, 0, none⟩ = false ∧ w.heap.size < w'.heap.size ∧ w'.cell? ⟨b, 1, none⟩ = some (.int .i64 (k2 : Int)) ∧ w'.cell? ⟨b, 2, none⟩ = some (.int .i64 ee) ∧ w'.cell? ⟨(a.add (k2 * 4)).block, (a.add (k2 * 4)).off + 2, none⟩ = some (.int .i64 (ln : Int)) ∧ w'.cell? ⟨(a.add (k2 * 4)).block, (a.add (k2 * 4)).off + 3, none⟩ = some (.int .i64 (cl : Int))) (w7.drew)) := ⟨below_drewN hBX.out 1, v0, s0, hsz, c1, c2, a2, a3⟩
              have HS0 := hid hS0
              have hSt : ∀ w', (fun w' => Below w.heap.size w w' ∧ w'.cell? ⟨w.heap.size, 0, none⟩ = some (.slice none 0 0) ∧ w'.frozen? ⟨w.heap.size, 0, none⟩ = false ∧ w.heap.size < w'.heap.size ∧ w'.cell? ⟨b, 1, none⟩ = some (.int .i64 (k2 : Int)) ∧ w'.cell? ⟨b, 2, none⟩ = some (.int .i64 ee) ∧ w'.cell? ⟨(a.add (k2 * 4)).block, (a.add (k2 * 4)).off + 2, none⟩ = some (.int .i64 (ln : Int)) ∧ w'.cell? ⟨(a.add (k2 * 4)).block, (a.add (k2 * 4)).off + 3, none⟩ = some (.int .i64 (cl : Int))) w' → (fun w' => Below w.heap.size w w' ∧ w'.cell? ⟨w.heap.size, 0, none⟩ = some (.slice none 0 0) ∧ w'.frozen? ⟨w.heap.size, 0, none⟩ = false ∧ w.heap.size < w'.heap.size ∧ w'.cell? ⟨b, 1, none⟩ = some (.int .i64 (k2 : Int)) ∧ w'.cell? ⟨b, 2, none⟩ = some (.int .i64 ee) ∧ w'.cell? ⟨(a.add (k2 * 4)).block, (a.add (k2 * 4)).off + 2, none⟩ = some (.int .i64 (ln : Int)) ∧ w'.cell? ⟨(a.add (k2 * 4)).block, (a.add (k2 * 4)).off + 3, none⟩ = some (.int .i64 (cl : Int))) (w'.setCell ⟨w.heap.size, 0, none⟩ (.slice none 0 0)) := by
                rintro w' ⟨h0, h1, h2, h3, h4, h5, h6, h7⟩
                refine ⟨h0.setCell (Nat.le_refl _) _, World.cell?_setCell_same (w := w') (a := ⟨w.heap.size, 0, none⟩) (v := .slice none 0 0) h1, by rw [World.frozen?_setCell]; exact h2, by rw [World.size_setCell]; exact h3, ?_, ?_, ?_, ?_⟩
                · exact (World.cell?_setCell_far _ _ _ _ (by show w.heap.size ≠ b; omega)).trans h4
                · exact (World.cell?_setCell_far _ _ _ _ (by show w.heap.size ≠ b; omega)).trans h5
                · exact (World.cell?_setCell_far _ _ _ _ (by show w.heap.size ≠ (a.add (k2 * 4)).block; rw [add_block]; exact hna2)).trans h6
                · exact (World.cell?_setCell_far _ _ _ _ (by show w.heap.size ≠ (a.add (k2 * 4)).block; rw [add_block]; exact hna2)).trans h7
              have HSt := hid hSt
              clear hl2 hfp hS0 hSt
              go_wp2_with fail
              clear c0 c1 c2 v0 s0 hsz a2 a3
              go_region_held3 (fun w' => Below w.heap.size w w' ∧ w'.cell? ⟨w.heap.size, 0, none⟩ = some (.slice none 0 0) ∧ w'.frozen? ⟨w.heap.size, 0, none⟩ = false ∧ w.heap.size < w'.heap.size ∧ w'.cell? ⟨b, 1, none⟩ = some (.int .i64 (k2 : Int)) ∧ w'.cell? ⟨b, 2, none⟩ = some (.int .i64 ee) ∧ w'.cell? ⟨(a.add (k2 * 4)).block, (a.add (k2 * 4)).off + 2, none⟩ = some (.int .i64 (ln : Int)) ∧ w'.cell? ⟨(a.add (k2 * 4)).block, (a.add (k2 * 4)).off + 3, none⟩ = some (.int .i64 (cl : Int)))
                (first | exact HS0.out | exact HSt.out _ (by assumption) | assumption)
                (fail)
              go_wp2_with fail
              rename (Below _ _ _ ∧ _) => hh
              obtain ⟨hB9, v9, s9, hz9, -⟩ := hh
              refine bodyPost_ret (v := .tuple #[.agg #[.slice none 0 0], .int .i64 (ln : Int), .int .i64 (cl : Int), .int .i64 ee]) (by simp [results, Tryz.results21, go_sem, v9, s9, hz9]) rfl ?_
              rw [HPar.out]
              exact ⟨⟨none, 0, 0, []⟩, rfl, rfl, pp_nil _ _, hB9⟩
            · as_aux_lemma =>
              have hle : le = [] := by rw [← hl, nxt_end (by omega)]
              have hkL : k = L.length := by omega
              have HPar : Hid (parseR s = ([], 0, 0, ee)) := hid (by rw [HPar0.out, hle]; rfl)
              subst hkL
              clear HPar0 hl HR2 HPg hkl
              obtain ⟨⟨c0, c1, c2⟩, -⟩ := hf.three
              have hltb := H7.out.st.1.lt
              have v0 := hf7.out.cell 0
              have s0 := hf7.out.frozen 0
              have hsz := hf7.out.lt
              have hBX := hid (hB2.out.grown H7.out.st.2 hB2.out.size (fun k hk => by injection hk with hk; omega))
              have HB : Hid (∀ q, Below w.heap.size w ((w7.drewN q).setCell ⟨w.heap.size, 0, none⟩ (.slice none 0 0))) := hid (fun q => (below_drewN hBX.out q).setCell (Nat.le_refl _) _)
              clear hf
              go_wp2_with fail
              go_region_law (fail)
              all_goals
                go_wp2_with fail
                refine bodyPost_ret (v := .tuple #[.agg #[.slice none 0 0], .int .i64 0, .int .i64 0, .int .i64 ee]) (by simp [results, Tryz.results21, go_sem, v0, s0, hsz]) rfl ?_
                rw [HPar.out]
                exact ⟨⟨none, 0, 0, []⟩, rfl, rfl, pp_nil _ _, HB.out 1⟩
        | true =>
          have HB0 := hid hb
          clear hb
          cases n with
          | zero =>
            have hl8 : l.length = 8 := by omega
            go_wp2_with fail
            refine (refIs_any b A c L σ4 kwFunc _ H.out.st.1).mono ?_
            rw [HB0.out]
            rintro e w7 ⟨rfl, hb7⟩
            have H7 := hid (H.out.below hb7)
            have hf7 := hid (hfR.out.below hb7 hfR.out.lt)
            clear hb7 H hfR
            have q0 := H7.out.f3.cell 0
            have tl : ((l.length : Int) == 8) = true := by simp; omega
            go_wp2_with fail
            clear q0 tl
            refine (refFail_any b A c L σ4 7 _ H7.out.st.1).mono ?_
            rintro e w8 ⟨rfl, h8⟩
            obtain ⟨le, ee⟩ := σ4
            have hfr := hid (show failR 7 ⟨le, ee⟩ = ⟨le, 7⟩ by
              have h0 : ee = 0 := (isK_ne HB0.out).1
              unfold failR
              simp [h0])
            rw [hfr.out] at h8
            have HneL := hid (show le ≠ [] from isK_l HB0.out)
            have HPg := hid (progR_of (σ0 := σ0) (done := l.map FH.f) (le := le) (ee := 7) (by rw [hneed.out]; exact (HL.out.full HB0.out).trans (by rw [hfr.out])))
            have HPar : Hid (parseR s = ([], (nxt le).line, (nxt le).col, 7)) := hid (par_err HR2.out HPg.out rfl)
            have H8 := hid (H7.out.call h8)
            have hf8 := hid (h8.kept hf7.out (by omega))
            clear h8 H7 hf7 HR2 HPg
            obtain ⟨k2, hk2, hl2, hfp⟩ := H8.out.st.1.at_
            simp only at hl2 hfp
            have hkl2 : k2 < L.length := by
              rcases Nat.lt_or_ge k2 L.length with h | h
              · exact h
              · exact absurd (by rw [← hl2, nxt_end h]) HneL.out
            obtain ⟨a, hAa, hab, -, a2, a3⟩ := H8.out.st.1.arg.cell hkl2
            subst hAa
            rw [← nxt_drop hkl2, hl2] at a2 a3
            obtain ⟨⟨c0, c1, c2⟩, -⟩ := hfp.three
            have hltb := H8.out.st.1.lt
            have hfew := H8.out.st.1.few
            have hna : a.block ≠ w.heap.size := by
              intro hq
              have h1 := a2
              rw [show (a.add (k2 * 4)).block = w.heap.size by rw [add_block]; exact hq] at h1
              rw [hf8.out.cell] at h1
              simp at h1
            have hna2 : w.heap.size ≠ a.block := fun h => hna h.symm
            have hab2 : (a.add (k2 * 4)).block < w8.heap.size := by rw [add_block]; exact hab
            have v0 := hf8.out.cell 0
            have s0 := hf8.out.frozen 0
            have hsz := hf8.out.lt
            have hBX := hid (hB2.out.grown H8.out.st.2 hB2.out.size (fun k hk => by injection hk with hk; omega))
            have HB : Hid (∀ q, Below w.heap.size w ((w8.drewN q).setCell ⟨w.heap.size, 0, none⟩ (.slice none 0 0))) := hid (fun q => (below_drewN hBX.out q).setCell (Nat.le_refl _) _)
            generalize (nxt le).line = ln at *
            generalize (nxt le).col = cl at *
            have hS0 : ((fun w' => Below w.heap.size w w' ∧ w'.cell? ⟨w.heap.size, 0, none⟩ = some (.slice none 0 0) ∧ w'.frozen? ⟨w.heap.size, 0, none⟩ = false ∧ w.heap.size < w'.heap.size ∧ w'.cell? ⟨b, 1, none⟩ = some (.int .i64 (k2 : Int)) ∧ w'.cell? ⟨b, 2, none⟩ = some (.int .i64 7) ∧ w'.cell? ⟨(a.add (k2 * 4)).block, (a.add (k2 * 4)).off + 2, none⟩ = some (.int .i64 (ln : Int)) ∧ w'.cell? ⟨(a.add (k2 * 4)).block, (a.add (k2 * 4)).off + 3, none⟩ = some (.int .i64 (cl : Int))) (w8.drew)) := ⟨below_drewN hBX.out 1, v0, s0, hsz, c1, c2, a2, a3⟩
            have HS0 := hid hS0
            have hSt : ∀ w', (fun w' => Below w.heap.size w w' ∧ w'.cell? ⟨w.heap.size, 0, none⟩ = some (.slice none 0 0) ∧ w'.frozen? ⟨w.heap.size, 0, none⟩ = false ∧ w.heap.size < w'.heap.size ∧ w'.cell? ⟨b, 1, none⟩ = some (.int .i64 (k2 : Int)) ∧ w'.cell? ⟨b, 2, none⟩ = some (.int .i64 7) ∧ w'.cell? ⟨(a.add (k2 * 4)).block, (a.add (k2 * 4)).off + 2, none⟩ = some (.int .i64 (ln : Int)) ∧ w'.cell? ⟨(a.add (k2 * 4)).block, (a.add (k2 * 4)).off + 3, none⟩ = some (.int .i64 (cl : Int))) w' → (fun w' => Below w.heap.size w w' ∧ w'.cell? ⟨w.heap.size, 0, none⟩ = some (.slice none 0 0) ∧ w'.frozen? ⟨w.heap.size, 0, none⟩ = false ∧ w.heap.size < w'.heap.size ∧ w'.cell? ⟨b, 1, none⟩ = some (.int .i64 (k2 : Int)) ∧ w'.cell? ⟨b, 2, none⟩ = some (.int .i64 7) ∧ w'.cell? ⟨(a.add (k2 * 4)).block, (a.add (k2 * 4)).off + 2, none⟩ = some (.int .i64 (ln : Int)) ∧ w'.cell? ⟨(a.add (k2 * 4)).block, (a.add (k2 * 4)).off + 3, none⟩ = some (.int .i64 (cl : Int))) (w'.setCell ⟨w.heap.size, 0, none⟩ (.slice none 0 0)) := by
              rintro w' ⟨h0, h1, h2, h3, h4, h5, h6, h7⟩
              refine ⟨h0.setCell (Nat.le_refl _) _, World.cell?_setCell_same (w := w') (a := ⟨w.heap.size, 0, none⟩) (v := .slice none 0 0) h1, by rw [World.frozen?_setCell]; exact h2, by rw [World.size_setCell]; exact h3, ?_, ?_, ?_, ?_⟩
              · exact (World.cell?_setCell_far _ _ _ _ (by show w.heap.size ≠ b; omega)).trans h4
              · exact (World.cell?_setCell_far _ _ _ _ (by show w.heap.size ≠ b; omega)).trans h5
              · exact (World.cell?_setCell_far _ _ _ _ (by show w.heap.size ≠ (a.add (k2 * 4)).block; rw [add_block]; exact hna2)).trans h6
              · exact (World.cell?_setCell_far _ _ _ _ (by show w.heap.size ≠ (a.add (k2 * 4)).block; rw [add_block]; exact hna2)).trans h7
            have HSt := hid hSt
            clear hl2 hfp hS0 hSt
            go_wp2_with fail
            clear c0 c1 c2 v0 s0 hsz a2 a3
            go_region_held3 (fun w' => Below w.heap.size w w' ∧ w'.cell? ⟨w.heap.size, 0, none⟩ = some (.slice none 0 0) ∧ w'.frozen? ⟨w.heap.size, 0, none⟩ = false ∧ w.heap.size < w'.heap.size ∧ w'.cell? ⟨b, 1, none⟩ = some (.int .i64 (k2 : Int)) ∧ w'.cell? ⟨b, 2, none⟩ = some (.int .i64 7) ∧ w'.cell? ⟨(a.add (k2 * 4)).block, (a.add (k2 * 4)).off + 2, none⟩ = some (.int .i64 (ln : Int)) ∧ w'.cell? ⟨(a.add (k2 * 4)).block, (a.add (k2 * 4)).off + 3, none⟩ = some (.int .i64 (cl : Int)))
              (first | exact HS0.out | exact HSt.out _ (by assumption) | assumption)
              (fail)
            go_wp2_with fail
            rename (Below _ _ _ ∧ _) => hh
            obtain ⟨hB9, v9, s9, hz9, -⟩ := hh
            refine bodyPost_ret (v := .tuple #[.agg #[.slice none 0 0], .int .i64 (ln : Int), .int .i64 (cl : Int), .int .i64 7]) (by simp [results, Tryz.results21, go_sem, v9, s9, hz9]) rfl ?_
            rw [HPar.out]
            exact ⟨⟨none, 0, 0, []⟩, rfl, rfl, pp_nil _ _, hB9⟩
          | succ n =>
            have hl8 : l.length < 8 := by omega
            have tl : ((l.length : Int) == 8) = false := by simp; omega
            go_wp2_with fail
            refine (refIs_any b A c L σ4 kwFunc _ H.out.st.1).mono ?_
            rw [HB0.out]
            rintro e w7 ⟨rfl, hb7⟩
            have H7 := hid (H.out.below hb7)
            have hf7 := hid (hfR.out.below hb7 hfR.out.lt)
            clear hb7 H hfR
            have q0 := H7.out.f3.cell 0
            have hzq := H7.out.f3.lt
            go_wp2_with fail
            have H7d : Hid (Po wp b A c L σ4 (.slice B l.length d) l w7.drew) := hid (H7.out.drewN 1)
            have HCc := hid (fun w' (h' : Rst w' b A c L σ4) => refFunc_any b A c L σ4 w' h' HS.out)
            go_region_law (first
              | (go_simp
                 go_at_call 39
                 go_must (
                 refine (HCc.out _ H7d.out.st.1).mono ?_
                 rintro e w8 ⟨x, he, hxt, hfx, h8⟩
                 unfold agF at he
                 subst he
                 have H8 := hid (H7d.out.call h8)
                 have hf8 := hid (h8.kept (w := w7.drew) hf7.out (by omega))
                 have Hx := hid (FrV.fresh (N := wp.heap.size + 1) (v := .slice B l.length d) hfx H7d.out.size (fun k hk => (H7d.out.own.lt k hk).2))
                 have Hxt := hid hxt
                 have q0 := H8.out.f3.cell 0
                 have hzq := H8.out.f3.lt
                 clear hfx h8 hxt))
              | ((refine step_append_lies _ (by rfl) _ _ 47 (by rfl) (wp.heap.size + 1) 75 i3 _ 2 40 Tryz.underlying47 Hi.out Hz0.out Hz1.out Hz2.out (by rfl) (by decide) (.slice B l.length d) l.length (l.flatMap fhc) (by rfl) (by exact World.ownsRow.alloc H8.out.own _)
                    ⟨_, 0, none⟩ 1 1 (fhc x) (by rfl) rfl (by exact two_new _ _ _ _) (one_two _ _ _ _) (by decide) (by unfold maxLen; omega) (by omega) (by have := H8.out.size; rw [World.size_alloc]; omega) _ rfl ?_)
                 intro g9 cap9 w9 hown9 hgr9 hat9 hlt9
                 obtain ⟨⟨y0, y1, y2⟩, hT9⟩ := Po.push (x := x) H8.out ((Below.refl _ _).alloc (Nat.le_refl _) _) Hx.out hgr9 hown9 hat9
                 have H9 := hid hT9
                 have hne9 : ∀ k, (Value.slice B l.length d).ownBlock = some k → wp.heap.size + 1 ≤ k := fun k hk => (H8.out.own.lt k hk).1
                 have hf9 := hid (((hf8.out.alloc _).grown hgr9 (fun e => by have := hne9 _ e.symm; omega)).far (p := ⟨wp.heap.size, 0, none⟩) (by show w.heap.size ≠ wp.heap.size; omega) (.slice (some ⟨g9, 0, none⟩) (l.length + 1) cap9))
                 clear hown9 hgr9 hat9 hlt9 hT9 hne9))
            all_goals
              clear q0 hzq
              generalize w9.setCell ⟨wp.heap.size, 0, none⟩ (.slice (some ⟨g9, 0, none⟩) (l.length + 1) cap9) = w10 at *
              clear y0 y1 y2
              go_wp2_with fail
              go_roundw
              case rel => exact ⟨l ++ [x], n, (funcR σ4).2, _, H9.out, by have := HL.out.step HB0.out; rw [List.map_append]; rw [← Hxt.out] at this; exact this, hf9.out⟩
              case measure =>
                have q0 := H9.out.f3.cell 0
                rw [Hm.out, lenAt0_of q0]
                omega
end Go.Proofs.YtmbelhdkaepohaaGreatDoor
