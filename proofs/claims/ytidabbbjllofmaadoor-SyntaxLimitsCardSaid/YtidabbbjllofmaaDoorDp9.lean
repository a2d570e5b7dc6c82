/- The package's parser: functions. -/
import Derived.Test.YtidabbbjllofmaaDoorDp8
namespace Go.Proofs.YtidabbbjllofmaaDoor
set_option maxRecDepth 20000
set_option linter.unusedVariables false
set_option linter.unusedSimpArgs false
open Go.ChangeShapes Go.WideShapes Go.ChangeAt Go.RowKit
attribute [local go_sem] fieldTok0 fieldTok1 fieldTok2 fieldTok3

set_option maxHeartbeats 3200000 in
theorem devFunc_any (b : Nat) (σ : Ds) (w : World) (h : Dst w b σ) : Calls Tryd.prog 68 #[.pointer (some ⟨b, 0, none⟩)] w (RetDf w b (funcS σ)) := by
  have HR : Hid (funcS σ = (⟨(nameS (wordS kwFunc σ)).1, (someS begB blockS 16 (endS (nameS (wordS kwFunc σ)).2)).1⟩, endS (wordS kwEnd (someS begB blockS 16 (endS (nameS (wordS kwFunc σ)).2)).2))) := hid rfl
  have Hlt := hid h.lt
  have h0 := hid (show Dst (w.alloc (.cells #[.string ⟨#[]⟩, .slice none 0 0] 59)) b σ from h.below ((Below.refl _ _).alloc (Nat.le_refl _) _) h.lt)
  have hf0 := hid (Fb.new w #[.string ⟨#[]⟩, .slice none 0 0] 59)
  have hb0 := hid ((Below.refl w.heap.size w).alloc (Nat.le_refl _) (.cells #[.string ⟨#[]⟩, .slice none 0 0] 59))
  clear h
  go_enter Tryd.func68, Tryd.ntmps68
  go_wp2_with fail
  generalize w.alloc (.cells #[.string ⟨#[]⟩, .slice none 0 0] 59) = wa at *
  refine (devWord_any b σ kwFunc kwf.2.1 _ h0.out).mono ?_
  rintro e w1 ⟨rfl, h1⟩
  have H1 := hid (DTo.belowl hb0.out h1)
  have hf1 := hid (hf0.out.grown h1.2 (by have := Hlt.out; simp; omega))
  clear h1 h0 hf0 hb0
  generalize wordS kwFunc σ = σ1 at *
  go_wp2_with fail
  refine (devName_any b σ1 _ H1.out.1).mono ?_
  rintro e w2 ⟨rfl, h2⟩
  have H2 := hid (H1.out.trans h2)
  have H16 := hid H1.out.1.name16
  have hf2 := hid (hf1.out.grown h2.2 (by have := Hlt.out; simp; omega))
  clear h2 H1 hf1
  generalize (nameS σ1).1 = y at *
  generalize (nameS σ1).2 = σ2 at *
  have H3 := hid (Bd.start (K := KB) H2.out Hlt.out hf2.out y)
  have H3' : Hid (Bd KB w b w2.heap.size σ2 y (.slice none 0 0) [] (w2.alloc (.cells #[.string y, .slice none 0 0] 59))) := H3
  clear H2 hf2 H3
  go_wp2_with fail
  generalize w2.alloc (.cells #[.string y, .slice none 0 0] 59) = w3 at *
  generalize w2.heap.size = g at *
  refine (devEnd_any b σ2 _ H3'.out.st.1).mono ?_
  rintro e w4 ⟨rfl, h4⟩
  have H4 := hid (H3'.out.call h4)
  clear h4 H3'
  generalize endS σ2 = σ3 at *
  go_wp2_with fail
  refine (devSome_block b σ3 _ H4.out.st.1).mono ?_
  rintro e w5 ⟨B, d, l, rfl, hl, hown, hfr, h5⟩
  have H5 := hid (H4.out.call h5)
  have hl2 : l.length ≤ 16 := by
    have h1 : (l.map BH.b).length = (someS begB blockS 16 σ3).1.length := by rw [hl]
    have h2 : (someS begB blockS 16 σ3).1.length ≤ 16 := listS_len begB blockS 16 σ3
    rw [List.length_map] at h1; omega
  rw [← hl] at HR
  obtain ⟨⟨q0, q1⟩, ⟨r0, r1⟩, -, -, hz, -, -⟩ := H5.out.cells
  have H6 := hid (H5.out.putL H4.out.size hown rfl hfr)
  clear hl hown hfr h5 H4 H5
  generalize (someS begB blockS 16 σ3).2 = σ4 at *
  generalize hm : l.length = m at *
  have Hm := hid hm
  clear hm
  go_wp2_with fail
  generalize w5.setCell ⟨g, 1, none⟩ (.slice B m d) = w6 at *
  clear q0 q1 r0 r1 hz
  refine (devWord_any b σ4 kwEnd kwen.2.1 _ H6.out.st.1).mono ?_
  rintro e w7 ⟨rfl, h7⟩
  have H7 := hid (H6.out.call h7)
  clear h7 H6
  generalize wordS kwEnd σ4 = σ5 at *
  go_wp2_with fail
  refine (devEnd_any b σ5 _ H7.out.st.1).mono ?_
  rintro e w8 ⟨rfl, h8⟩
  have H8 := hid (H7.out.call h8)
  clear h8 H7
  obtain ⟨⟨p0, p1⟩, -, ⟨v0, v1⟩, ⟨s0, s1⟩, hsz, hsz2, hsz3⟩ := H8.out.cells
  go_wp2_with fail
  refine bodyPost_ret (v := agF ⟨y, B, m, d, l⟩) (by simp [results, Tryd.results68, go_sem, p0, p1, s0, s1, v0, v1, hsz, hsz2, agF]) rfl ?_
  exact H8.out.doneF Hm.out (by omega) H16.out _ _ HR.out
end Go.Proofs.YtidabbbjllofmaaDoor
