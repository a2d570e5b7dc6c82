/- The generator's Source. -/
import Derived.Test.YtlepcgncphikhaaDoorGnp
namespace Go.Proofs.YtlepcgncphikhaaDoor
set_option maxRecDepth 20000
set_option linter.unusedVariables false
open Go.ChangeShapes Go.WideShapes Go.ChangeAt Go.RowKit

/-- The text of a program, on one line or on several. -/
def SrcP (s : ByteArray) : Prop := ∃ ls : List FH, genP ls ∧ (s = printP (ls.map FH.f) ∨ s = inlineP (ls.map FH.f))
theorem src_small {s : ByteArray} (h : SrcP s) : 0 < s.size ∧ s.size ≤ 100000 := by
  obtain ⟨ls, hg, rfl | rfl⟩ := h
  · exact print_small hg
  · exact inline_small hg
set_option maxHeartbeats 1600000 in
theorem source_any (w0 : World) (T : Nat) (w : World) (h : Going w0 T w) : Calls Tryd.prog 14 #[.pointer (some ⟨T, 0, none⟩)] w fun e w' => ∃ s : ByteArray, e = .returned (.string s) ∧ SrcP s ∧ Going w0 T w' ∧ w.grownBy w' (some T) := by
  have H0 := hid h
  clear h
  go_enter Tryd.func14, Tryd.ntmps14
  go_wp2_with fail
  refine (program_any [some T] w0 T _ H0.out (by intro k hk; simp at hk; subst hk; exact H0.out.lt)).mono ?_
  rintro e w1 ⟨x, rfl, hgp, hx, ht1, hgw1⟩
  have HW1 := hid (grown_trans hgw1 (grown_of_below ((Below.refl _ _).alloc (Nat.le_refl _) (.cells #[.slice x.A x.n x.c] 34)) _))
  have H1 := hid (ht1.alloc (.cells #[.slice x.A x.n x.c] 34))
  have Hx := hid (hx.below ((Below.refl _ _).alloc (Nat.le_refl _) (.cells #[.slice x.A x.n x.c] 34)))
  have HF := hid (Fb.new w1 #[.slice x.A x.n x.c] 34)
  have hne := hid (show w1.heap.size ≠ T by have := ht1.lt; omega)
  have Hgp := hid hgp
  clear hgp hx ht1 H0 hgw1
  go_wp2_with fail
  refine (next_any T 2 _ H1.out.1 (by omega)).mono ?_
  rintro e w2 ⟨r, rfl, hr0, hr1, ht2, hg2, -⟩
  have H2 := hid (H1.out.step ht2 hg2)
  have Hx2 := hid (Hx.out.go (Go2.same hg2 (.inr (by simp))))
  have HF2 := hid (HF.out.grown hg2 (by have := hne.out; simpa using this))
  have c0 := HF2.out.onec
  have HW2 := hid (grown_trans HW1.out hg2)
  clear ht2 hg2 H1 Hx HF HW1
  have hr2 : r = 0 ∨ r = 1 := by omega
  rcases hr2 with rfl | rfl
  · go_wp2_with fail
    refine (inline_any x [some T] _ Hx2.out).mono ?_
    rintro e w3 ⟨rfl, hb3⟩
    have H3 := hid (H2.out.below hb3)
    have HW3 := hid (grown_trans HW2.out (grown_of_below hb3 (some T)))
    clear hb3
    go_wp2
    go_ret
    exact ⟨_, rfl, ⟨x.l, Hgp.out, .inr rfl⟩, H3.out, HW3.out⟩
  · go_wp2_with fail
    refine (print_any x [some T] _ Hx2.out).mono ?_
    rintro e w3 ⟨rfl, hb3⟩
    have H3 := hid (H2.out.below hb3)
    have HW3 := hid (grown_trans HW2.out (grown_of_below hb3 (some T)))
    clear hb3
    go_wp2
    go_ret
    exact ⟨_, rfl, ⟨x.l, Hgp.out, .inl rfl⟩, H3.out, HW3.out⟩
end Go.Proofs.YtlepcgncphikhaaDoor
