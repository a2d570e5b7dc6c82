/- The package's parser: lists of names. -/
import Derived.Test.YtcgichfanfijjaaDoorDp3
namespace Go.Proofs.YtcgichfanfijjaaDoor
set_option maxRecDepth 20000
set_option linter.unusedVariables false
set_option linter.unusedSimpArgs false
open Go.ChangeShapes Go.WideShapes Go.ChangeAt Go.RowKit
attribute [local go_sem] fieldTok0 fieldTok1 fieldTok2 fieldTok3

set_option maxHeartbeats 3200000 in
theorem devList_str (b : Nat) (σ : Ds) (w : World) (h : Dst w b σ) :
    Calls Tryd.prog 188 #[.pointer (some ⟨b, 0, none⟩), .int .i64 4, .func (Fn.func 127) #[] #[], .func (Fn.func 142) #[.pointer (some ⟨b, 0, none⟩)] #[]] w (RetLs KStr id w b (listS nameB nameS 4 σ)) := by
  have Hst := hid (Lg.start (K := KStr) h)
  clear h
  obtain ⟨i0, hi, hz0, hz1, hz2⟩ := info_parts info9
  have Hi := hid hi; have Hz0 := hid hz0; have Hz1 := hid hz1; have Hz2 := hid hz2
  clear hi hz0 hz1 hz2
  go_enter Tryd.func188, Tryd.ntmps188
  go_wp2_with fail
  go_loopw [9] (fun v wr => ∃ (l : List ByteArray) (n : Nat) (σ2 : Ds), Hid (Lg KStr w b σ2 v l wr) ∧ Hid (Drel nameB nameS 4 σ (l.map id) n σ2)) (fun v _ => 4 + 1 - (lenOf v))
  case atStart => exact ⟨[], 4, σ, Hst.out, Drel.start⟩
  case round =>
    clear Hst
    obtain ⟨l, n, σ2, H, HL⟩ := hrel
    obtain ⟨B, d, hv⟩ := own_any_slice H.out.own
    subst hv
    have hlen : l.length + n = 4 := by have := HL.out.1; simpa using this
    have Hm := hid (show lenOf (.slice B l.length d) = l.length from rfl)
    cases hb : nameB (nxt σ2.l).text with
    | false =>
      have HB := hid hb
      clear hb
      go_wp2_with fail
      refine (devNext_any b σ2 _ H.out.st.1).mono ?_
      rintro e w1 ⟨rfl, hb1⟩
      have H1 := hid (H.out.below hb1)
      clear hb1
      unfold agT
      go_wp2_with fail
      refine (devIsName_any (nxt σ2.l).text _ (by have := H1.out.st.1.text16; unfold maxLen; omega)).mono ?_
      rw [HB.out]
      rintro e w' ⟨rfl, rfl⟩
      go_wp2
      go_ret
      exact H1.out.done (HL.out.stop HB.out)
    | true =>
      have HB := hid hb
      clear hb
      cases n with
      | zero =>
        have tl : ((l.length : Int) == 4) = true := by simp; omega
        have Htl := hid tl
        clear tl
        go_wp2_with fail
        refine (devNext_any b σ2 _ H.out.st.1).mono ?_
        rintro e w1 ⟨rfl, hb1⟩
        have H1 := hid (H.out.below hb1)
        clear hb1
        unfold agT
        go_wp2_with fail
        refine (devIsName_any (nxt σ2.l).text _ (by have := H1.out.st.1.text16; unfold maxLen; omega)).mono ?_
        rw [HB.out]
        rintro e w' ⟨rfl, rfl⟩
        generalize hn0 : l.length = n0 at *
        have Hn0 := hid hn0
        clear hn0
        have tl := Htl.out
        go_wp2_with fail
        refine (devFail_any b σ2 7 _ H1.out.st.1).mono ?_
        rintro e w2 ⟨rfl, h2⟩
        have H2 := hid (H1.out.call h2)
        clear h2
        go_wp2
        go_ret
        exact Lg.done2 H2.out Hn0.out.symm (by first | exact Hn0.out.symm | (have := Hn0.out; omega)) (HL.out.full HB.out)
      | succ n =>
        have tl : ((l.length : Int) == 4) = false := by simp; omega
        have hl32 : l.length < 4 := by omega
        go_wp2_with fail
        refine (devNext_any b σ2 _ H.out.st.1).mono ?_
        rintro e w1 ⟨rfl, hb1⟩
        have H1 := hid (H.out.below hb1)
        clear hb1
        unfold agT
        go_wp2_with fail
        refine (devIsName_any (nxt σ2.l).text _ (by have := H1.out.st.1.text16; unfold maxLen; omega)).mono ?_
        rw [HB.out]
        rintro e w' ⟨rfl, rfl⟩
        go_wp2_with fail
        refine (devName_any b σ2 _ H1.out.st.1).mono ?_
        rintro e w2 ⟨rfl, h2⟩
        have H2 := hid (H1.out.call h2)
        have H16 := H1.out.st.1.name16
        clear h2
        have HxV := hid (show FrV w.heap.size (.slice B l.length d) (KStr.P (nameS σ2).1) w2 from fun ex he => H16)
        have Hxt := hid (rfl : (nameS σ2).1 = (nameS σ2).1)
        clear H16
        generalize hx : (nameS σ2).1 = x at *
        have Hx := hid hx
        clear hx
        have hbase := H2.out.st.2.size
        have Hp := hid (fun (g5 cap5 : Nat) (w5 : World) hown5 hgr5 hat5 => Lg.push (x := x) (g9 := g5) (cap9 := cap5) (w9 := w5) (o := .cells ([.string x]).toArray 9) H2.out HxV.out hgr5 hown5 hat5)
        go_wp2_with ((
          at_builtin
          refine wpList_append_lies _ rfl _ _ 55 rfl w.heap.size 9 i0 _ 1 16 Tryd.underlying55 Hi.out Hz0.out Hz1.out Hz2.out rfl (by decide) _ l.length (l.flatMap (Kind.f KStr)) rfl (World.ownsRow.alloc H2.out.own _) ⟨w2.heap.size, 0, none⟩ 1 1 ([.string x]) rfl rfl (one_str _ _ _) (one_strc _) (by omega) (by unfold maxLen; omega) (by omega) (by rw [World.size_alloc]; omega) _ rfl ?_
          intro g5 cap5 w5 hown5 hgr5 hat5 hlt5
          have H5 := hid (Hp.out g5 cap5 w5 hown5 hgr5 hat5)
          clear hown5 hgr5 hat5 hlt5))
        go_roundw
        case rel => exact ⟨_, n, _, H5.out, HL.out.step_as HB.out (Hx.out.symm)⟩
        case measure => show 4 + 1 - (l.length + 1) < 4 + 1 - lenOf (.slice B l.length d); rw [Hm.out]; omega
set_option maxHeartbeats 1600000 in
theorem devSome_str (b : Nat) (σ : Ds) (w : World) (h : Dst w b σ) :
    Calls Tryd.prog 189 #[.pointer (some ⟨b, 0, none⟩), .int .i64 4, .func (Fn.func 127) #[] #[], .func (Fn.func 142) #[.pointer (some ⟨b, 0, none⟩)] #[]] w (RetLs KStr id w b (someS nameB nameS 4 σ)) := by
  have H := hid h
  clear h
  go_enter Tryd.func189, Tryd.ntmps189
  go_wp2_with fail
  refine (devList_str b σ _ H.out).mono ?_
  rintro e w1 ⟨B, d, l, rfl, hl, hown, hfr, h1⟩
  have hR : someS nameB nameS 4 σ = ((listS nameB nameS 4 σ).1, if (listS nameB nameS 4 σ).1.isEmpty then failS 4 (listS nameB nameS 4 σ).2 else (listS nameB nameS 4 σ).2) := rfl
  have HR := hid hR
  have Hl := hid hl; have Hown := hid hown; have Hfr := hid hfr; have H1 := hid h1
  have Hlt := hid H.out.lt
  clear hR hl hown hfr h1
  generalize listS nameB nameS 4 σ = r at *
  obtain ⟨r1, σ1⟩ := r
  cases l with
  | nil =>
    have hr : r1 = [] := Hl.out.symm
    subst hr
    go_wp2_with fail
    refine (devFail_any b σ1 4 _ H1.out.1).mono ?_
    rintro e w2 ⟨rfl, h2⟩
    have H2 := hid h2
    clear h2
    go_wp2
    go_ret
    rw [HR.out]
    exact ⟨B, d, [], rfl, rfl, DTo.own Hown.out H2.out Hlt.out, by simp, H1.out.trans H2.out⟩
  | cons x l =>
    have hr : r1.isEmpty = false := by have h1 : List.map id (x :: l) = r1 := Hl.out; rw [← h1]; rfl
    rw [hr] at HR
    clear hr
    generalize hn0 : (x :: l).length = n0 at *
    have Hn0 := hid hn0
    have hpos : 0 < n0 := by rw [← hn0]; simp
    clear hn0
    go_wp2
    go_ret
    rw [HR.out]
    exact ⟨B, d, x :: l, by rw [Hn0.out]; rfl, Hl.out, by rw [Hn0.out]; exact Hown.out, Hfr.out, H1.out⟩
end Go.Proofs.YtcgichfanfijjaaDoor
