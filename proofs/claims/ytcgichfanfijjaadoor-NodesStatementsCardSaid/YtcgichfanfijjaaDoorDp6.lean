/- The package's parser: lists of statements. -/
import Derived.Test.YtcgichfanfijjaaDoorDpw
namespace Go.Proofs.YtcgichfanfijjaaDoor
set_option maxRecDepth 20000
set_option linter.unusedVariables false
set_option linter.unusedSimpArgs false
open Go.ChangeShapes Go.WideShapes Go.ChangeAt Go.RowKit
attribute [local go_sem] fieldTok0 fieldTok1 fieldTok2 fieldTok3

set_option maxHeartbeats 3200000 in
theorem devList_stmt (b : Nat) (σ : Ds) (w : World) (h : Dst w b σ) :
    Calls Tryd.prog 186 #[.pointer (some ⟨b, 0, none⟩), .int .i64 32, .func (Fn.func 176) #[] #[], .func (Fn.func 177) #[.pointer (some ⟨b, 0, none⟩)] #[]] w (RetLs KS SH.t w b (listS begS stmtS 32 σ)) := by
  have Hst := hid (Lg.start (K := KS) h)
  clear h
  obtain ⟨i0, hi, hz0, hz1, hz2⟩ := info_parts info68
  have Hi := hid hi; have Hz0 := hid hz0; have Hz1 := hid hz1; have Hz2 := hid hz2
  clear hi hz0 hz1 hz2
  go_enter Tryd.func186, Tryd.ntmps186
  go_wp2_with fail
  go_loopw [9] (fun v wr => ∃ (l : List SH) (n : Nat) (σ2 : Ds), Hid (Lg KS w b σ2 v l wr) ∧ Hid (Drel begS stmtS 32 σ (l.map SH.t) n σ2)) (fun v _ => 32 + 1 - (lenOf v))
  case atStart => exact ⟨[], 32, σ, Hst.out, Drel.start⟩
  case round =>
    clear Hst
    obtain ⟨l, n, σ2, H, HL⟩ := hrel
    obtain ⟨B, d, hv⟩ := own_any_slice H.out.own
    subst hv
    have hlen : l.length + n = 32 := by have := HL.out.1; simpa using this
    have Hm := hid (show lenOf (.slice B l.length d) = l.length from rfl)
    cases hb : begS (nxt σ2.l).text with
    | false =>
      have HB := hid hb
      clear hb
      go_wp2_with fail
      refine (devNext_any b σ2 _ H.out.st.1).mono ?_
      rintro e w1 ⟨rfl, hb1⟩
      have H1 := hid (H.out.below hb1)
      clear hb1
      unfold agT
      go_wp2_with fail
      refine (devBegS_any (nxt σ2.l).text _ H1.out.st.1.text16 H1.out.st.1.tab).mono ?_
      rw [HB.out]
      rintro e w' ⟨rfl, rfl⟩
      go_wp2
      go_ret
      exact H1.out.done (HL.out.stop HB.out)
    | true =>
      have HB := hid hb
      clear hb
      cases n with
      | zero =>
        have tl : ((l.length : Int) == 32) = true := by simp; omega
        have Htl := hid tl
        clear tl
        go_wp2_with fail
        refine (devNext_any b σ2 _ H.out.st.1).mono ?_
        rintro e w1 ⟨rfl, hb1⟩
        have H1 := hid (H.out.below hb1)
        clear hb1
        unfold agT
        go_wp2_with fail
        refine (devBegS_any (nxt σ2.l).text _ H1.out.st.1.text16 H1.out.st.1.tab).mono ?_
        rw [HB.out]
        rintro e w' ⟨rfl, rfl⟩
        generalize hn0 : l.length = n0 at *
        have Hn0 := hid hn0
        clear hn0
        have tl := Htl.out
        go_wp2_with fail
        refine (devFail_any b σ2 7 _ H1.out.st.1).mono ?_
        rintro e w2 ⟨rfl, h2⟩
        have H2 := hid (H1.out.call h2)
        clear h2
        go_wp2
        go_ret
        exact Lg.done2 H2.out Hn0.out.symm (by first | exact Hn0.out.symm | (have := Hn0.out; omega)) (HL.out.full HB.out)
      | succ n =>
        have tl : ((l.length : Int) == 32) = false := by simp; omega
        have hl32 : l.length < 32 := by omega
        go_wp2_with fail
        refine (devNext_any b σ2 _ H.out.st.1).mono ?_
        rintro e w1 ⟨rfl, hb1⟩
        have H1 := hid (H.out.below hb1)
        clear hb1
        unfold agT
        go_wp2_with fail
        refine (devBegS_any (nxt σ2.l).text _ H1.out.st.1.text16 H1.out.st.1.tab).mono ?_
        rw [HB.out]
        rintro e w' ⟨rfl, rfl⟩
        go_wp2_with fail
        refine (devStmt_any b σ2 _ H1.out.st.1).mono ?_
        rintro e w2 ⟨x, he, hxt, hfx, h2⟩
        unfold agS at he
        subst he
        have H2 := hid (H1.out.call h2)
        have HxV := hid (Lg.fresh H1.out hfx)
        have Hxt := hid hxt
        clear h2 hfx hxt
        have hbase := H2.out.st.2.size
        have Hp := hid (fun (g5 cap5 : Nat) (w5 : World) hown5 hgr5 hat5 => Lg.push (x := x) (g9 := g5) (cap9 := cap5) (w9 := w5) (o := .cells (shc x).toArray 57) H2.out HxV.out hgr5 hown5 hat5)
        go_wp2_with ((
          at_builtin
          refine wpList_append_lies _ rfl _ _ 52 rfl w.heap.size 57 i0 _ 4 72 Tryd.underlying52 Hi.out Hz0.out Hz1.out Hz2.out rfl (by decide) _ l.length (l.flatMap (Kind.f KS)) rfl (World.ownsRow.alloc H2.out.own _) ⟨w2.heap.size, 0, none⟩ 1 1 (shc x) rfl rfl (four_new _ _ _ _ _ _) (one_shc x) (by omega) (by unfold maxLen; omega) (by omega) (by rw [World.size_alloc]; omega) _ rfl ?_
          intro g5 cap5 w5 hown5 hgr5 hat5 hlt5
          have H5 := hid (Hp.out g5 cap5 w5 hown5 hgr5 hat5)
          clear hown5 hgr5 hat5 hlt5))
        go_roundw
        case rel => exact ⟨_, n, _, H5.out, HL.out.step_as HB.out (Hxt.out)⟩
        case measure => show 32 + 1 - (l.length + 1) < 32 + 1 - lenOf (.slice B l.length d); rw [Hm.out]; omega
set_option maxHeartbeats 1600000 in
theorem devSome_stmt (b : Nat) (σ : Ds) (w : World) (h : Dst w b σ) :
    Calls Tryd.prog 175 #[.pointer (some ⟨b, 0, none⟩), .int .i64 32, .func (Fn.func 176) #[] #[], .func (Fn.func 177) #[.pointer (some ⟨b, 0, none⟩)] #[]] w (RetLs KS SH.t w b (someS begS stmtS 32 σ)) := by
  have H := hid h
  clear h
  go_enter Tryd.func175, Tryd.ntmps175
  go_wp2_with fail
  refine (devList_stmt b σ _ H.out).mono ?_
  rintro e w1 ⟨B, d, l, rfl, hl, hown, hfr, h1⟩
  have hR : someS begS stmtS 32 σ = ((listS begS stmtS 32 σ).1, if (listS begS stmtS 32 σ).1.isEmpty then failS 4 (listS begS stmtS 32 σ).2 else (listS begS stmtS 32 σ).2) := rfl
  have HR := hid hR
  have Hl := hid hl; have Hown := hid hown; have Hfr := hid hfr; have H1 := hid h1
  have Hlt := hid H.out.lt
  clear hR hl hown hfr h1
  generalize listS begS stmtS 32 σ = r at *
  obtain ⟨r1, σ1⟩ := r
  cases l with
  | nil =>
    have hr : r1 = [] := Hl.out.symm
    subst hr
    go_wp2_with fail
    refine (devFail_any b σ1 4 _ H1.out.1).mono ?_
    rintro e w2 ⟨rfl, h2⟩
    have H2 := hid h2
    clear h2
    go_wp2
    go_ret
    rw [HR.out]
    exact ⟨B, d, [], rfl, rfl, DTo.own Hown.out H2.out Hlt.out, by simp, H1.out.trans H2.out⟩
  | cons x l =>
    have hr : r1.isEmpty = false := by have h1 : List.map SH.t (x :: l) = r1 := Hl.out; rw [← h1]; rfl
    rw [hr] at HR
    clear hr
    generalize hn0 : (x :: l).length = n0 at *
    have Hn0 := hid hn0
    have hpos : 0 < n0 := by rw [← hn0]; simp
    clear hn0
    go_wp2
    go_ret
    rw [HR.out]
    exact ⟨B, d, x :: l, by rw [Hn0.out]; rfl, Hl.out, by rw [Hn0.out]; exact Hown.out, Hfr.out, H1.out⟩
end Go.Proofs.YtcgichfanfijjaaDoor
