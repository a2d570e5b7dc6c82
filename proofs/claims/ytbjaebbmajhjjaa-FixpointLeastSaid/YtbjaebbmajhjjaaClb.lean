/- Values that are joined with their right sides, round by round: after as many rounds as bits, and one more, they contain them. -/
import Derived.Test.YtbjaebbmajhjjaaLf2
import Derived.Test.YtbjaebbmajhjjaaVls
namespace Go.Proofs.Ytbjaebbmajhjjaa
set_option linter.unusedVariables false

def PW.climb (w : PW) (x : List (List Nat)) : Nat → List (List Nat)
  | 0 => x
  | j + 1 => orV w.v w.n (w.climb x j) (w.rights (w.climb x j))
section
variable {w : PW} {x : List (List Nat)}
theorem PW.climb_vals (hx : w.Vals x) (j : Nat) : w.Vals (w.climb x j) := by
  cases j with
  | zero => exact hx
  | succ j => exact w.map_vals fun k hk => fit_orR _ _ _
theorem PW.climb_up (j : Nat) : LeV w (w.climb x j) (w.climb x (j + 1)) := fun k hk i hi hb => by
  show Bs.bit (at0 (orV w.v w.n _ _) k) i = true
  rw [orV, at0_map hk, bit_orR_iff hi]; exact .inl hb
theorem PW.climb_right (j : Nat) : LeV w (w.rights (w.climb x j)) (w.climb x (j + 1)) := fun k hk i hi hb => by
  show Bs.bit (at0 (orV w.v w.n _ _) k) i = true
  rw [orV, at0_map hk, bit_orR_iff hi]; exact .inr hb
theorem PW.climb_fixed {K : Nat} (h : w.climb x (K + 1) = w.climb x K) (j : Nat) : w.climb x (K + j) = w.climb x K := by
  induction j with
  | zero => rfl
  | succ j ih => show orV w.v w.n (w.climb x (K + j)) (w.rights (w.climb x (K + j))) = _; rw [ih]; exact h
theorem PW.left_le (w : PW) (a : List (List Nat)) : w.left a ≤ w.n * w.v := by
  unfold PW.left
  have : ∀ n, ((List.range n).map fun k => w.v - cntB w.v (at0 a k)).sum ≤ n * w.v := fun n => by
    induction n with
    | zero => simp
    | succ n ih =>
      simp only [List.range_succ, List.map_append, List.sum_append, List.map_cons, List.map_nil, List.sum_cons, List.sum_nil]
      rw [Nat.succ_mul]
      omega
  exact this _
theorem PW.climb_left (hx : w.Vals x) {K : Nat} (hb : ∀ k, k < K → w.climb x (k + 1) ≠ w.climb x k) : K + w.left (w.climb x K) ≤ w.n * w.v := by
  induction K with
  | zero => have := w.left_le (w.climb x 0); omega
  | succ K ih =>
    have h1 := ih fun k hk => hb k (by omega)
    obtain ⟨m, hm, hne⟩ := differ_at (PW.climb_vals hx K) (PW.climb_vals hx (K + 1)) (fun e => hb K (by omega) e.symm)
    have := PW.left_lt (PW.climb_vals hx K) (PW.climb_vals hx (K + 1)) (PW.climb_up K) hm hne
    omega
theorem PW.climb_above (hx : w.Vals x) : LeV w (w.rights (w.climb x (w.n * w.v + 1))) (w.climb x (w.n * w.v + 1)) := by
  by_cases h : ∃ K, K < w.n * w.v + 1 ∧ w.climb x (K + 1) = w.climb x K
  · obtain ⟨K, hK, he⟩ := h
    obtain ⟨j, hj⟩ : ∃ j, w.n * w.v + 1 = K + j := ⟨w.n * w.v + 1 - K, by omega⟩
    rw [hj, PW.climb_fixed he]
    have := PW.climb_right (w := w) (x := x) K
    rwa [he] at this
  · have := PW.climb_left hx (K := w.n * w.v + 1) fun k hk e => h ⟨k, hk, e⟩
    omega
theorem PW.climb_least (hw : w.In) (hx : w.Vals x) (K : Nat) : LeV w (w.round K) (w.climb x (w.n * w.v + 1)) := PW.round_least hw (PW.climb_above hx) K
end
end Go.Proofs.Ytbjaebbmajhjjaa
