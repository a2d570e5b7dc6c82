/- The value of a function by its bits. -/
import Derived.Test.YtopkmeceakjocaaTimg
namespace Go.Proofs.Ytopkmeceakjocaa
set_option maxRecDepth 20000
set_option linter.unusedVariables false

theorem bit_valR (gs ss : List Nat) (f : Int → Int → Bool) (W i : Nat) : Bs.bit (valR gs ss f W) i = (decide (i < W) && (Bs.bit gs i || (List.range W).any fun x => Bs.bit ss x && f x i)) := by
  unfold valR; rw [Bs.bit_ofP _ _ _ (Nat.le_refl _)]
theorem bit_valR_iff {gs ss : List Nat} {f : Int → Int → Bool} {W i : Nat} (hi : i < W) : Bs.bit (valR gs ss f W) i = true ↔ (Bs.bit gs i = true ∨ ∃ x, x < W ∧ Bs.bit ss x = true ∧ f x i = true) := by
  rw [bit_valR]
  simp only [hi, decide_true, Bool.true_and, Bool.or_eq_true, List.any_eq_true, List.mem_range, Bool.and_eq_true]
theorem bit_orR_iff {ws xs : List Nat} {W i : Nat} (hi : i < W) : Bs.bit (orR W ws xs) i = true ↔ (Bs.bit ws i = true ∨ Bs.bit xs i = true) := by
  unfold orR
  rw [Bs.bit_ofP _ _ _ (Nat.le_refl _)]
  simp only [hi, decide_true, Bool.true_and, Bool.or_eq_true]
theorem bit_orR {W i : Nat} {a b : List Nat} (hi : i < W) : Bs.bit (orR W a b) i = (Bs.bit a i || Bs.bit b i) := by
  unfold orR
  rw [Bs.bit_ofP _ _ _ (Nat.le_refl _)]
  simp [hi]
/-- The value of a function. -/
def vl (v : Nat) (gs ks : List Nat) (cs : List (Int × Int)) (ss : List Nat) : List Nat := valR gs ss (folB v ks cs) v
theorem fit_vl (v : Nat) (gs ks : List Nat) (cs : List (Int × Int)) (ss : List Nat) : Bs.Fit v (vl v gs ks cs ss) := fit_valR _ _ _ _
theorem vl_or {v : Nat} (gs ks : List Nat) (cs : List (Int × Int)) (a b : List Nat) : vl v gs ks cs (orR v a b) = orR v (vl v gs ks cs a) (vl v gs ks cs b) := by
  refine Bs.ext (fit_vl _ _ _ _ _) (fit_orR _ _ _) fun i hi => ?_
  unfold vl
  apply Bool.eq_iff_iff.2
  rw [bit_valR_iff hi, bit_orR_iff hi, bit_valR_iff hi, bit_valR_iff hi]
  constructor
  · rintro (h | ⟨x, hx, h1, h2⟩)
    · exact .inl (.inl h)
    · rcases (bit_orR_iff hx).1 h1 with h3 | h3
      · exact .inl (.inr ⟨x, hx, h3, h2⟩)
      · exact .inr (.inr ⟨x, hx, h3, h2⟩)
  · rintro ((h | ⟨x, hx, h1, h2⟩) | (h | ⟨x, hx, h1, h2⟩))
    · exact .inl h
    · exact .inr ⟨x, hx, (bit_orR_iff hx).2 (.inl h1), h2⟩
    · exact .inl h
    · exact .inr ⟨x, hx, (bit_orR_iff hx).2 (.inr h1), h2⟩
end Go.Proofs.Ytopkmeceakjocaa
