/- The last round: it is one only, it comes soon, and it is the union of the last rounds where the sets are unions. -/
import Derived.Test.YtopkmeceakjocaaLfp
namespace Go.Proofs.Ytopkmeceakjocaa
set_option maxRecDepth 20000
set_option linter.unusedVariables false
set_option linter.unusedSimpArgs false

/-- K is the first round that equals the next one. -/
structure PW.Last (w : PW) (K : Nat) : Prop where
  fix : w.round (K + 1) = w.round K
  before : ∀ k, k < K → w.round (k + 1) ≠ w.round k
theorem PW.Last.unique {w : PW} {K J : Nat} (h : w.Last K) (h2 : w.Last J) : K = J := by
  rcases Nat.lt_trichotomy K J with h3 | h3 | h3
  · exact absurd h.fix (h2.before K h3)
  · exact h3
  · exact absurd h2.fix (h.before J h3)
theorem PW.fixed {w : PW} {K : Nat} (h : w.round (K + 1) = w.round K) (j : Nat) : w.round (K + j) = w.round K := by
  induction j with
  | zero => rfl
  | succ j ih => show w.rights (w.round (K + j)) = _; rw [ih]; exact h
theorem PW.Last.all {w : PW} {K : Nat} (h : w.Last K) {j : Nat} (hj : K ≤ j) : w.round j = w.round K := by
  have := PW.fixed h.fix (j - K)
  rwa [show K + (j - K) = j by omega] at this
theorem differ_at {w : PW} {a b : List (List Nat)} (ha : w.Vals a) (hb : w.Vals b) (h : a ≠ b) : ∃ m, m < w.n ∧ at0 a m ≠ at0 b m :=
  Classical.byContradiction fun hno => h (vals_ext ha.len hb.len fun k hk => Classical.byContradiction fun hne => hno ⟨k, hk, hne⟩)
theorem PW.left_round {w : PW} (h : w.Ok) (hw : w.In) {K : Nat} (hb : ∀ k, k < K → w.round (k + 1) ≠ w.round k) : K + w.left (w.round K) ≤ w.n * w.v := by
  induction K with
  | zero => have := w.left_empty; omega
  | succ K ih =>
    have h1 := ih fun k hk => hb k (by omega)
    obtain ⟨m, hm, hne⟩ := differ_at (PW.round_vals h K) (PW.round_vals h (K + 1)) (fun e => hb K (by omega) e.symm)
    have := PW.left_lt (PW.round_vals h K) (PW.round_vals h (K + 1)) (PW.round_up hw K) hm hne
    omega
theorem PW.Last.few {w : PW} (h : w.Ok) (hw : w.In) {K : Nat} (hK : w.Last K) : K ≤ w.n * w.v := by
  have := PW.left_round h hw hK.before; omega
theorem PW.last (w : PW) (h : w.Ok) (hw : w.In) : ∃ K, w.Last K := by
  refine Classical.byContradiction fun hno => ?_
  have key : ∀ K, ∀ k, k < K → w.round (k + 1) ≠ w.round k := by
    intro K
    induction K with
    | zero => intro k hk; omega
    | succ K ih =>
      intro k hk
      by_cases e : k = K
      · subst e; exact fun he => hno ⟨k, he, ih⟩
      · exact ih k (by omega)
  have := PW.left_round h hw (key (w.n * w.v + 1))
  omega
/-- The least solution is a solution, and contained in whatever contains its own right sides. -/
theorem PW.Last.sol {w : PW} {K : Nat} (h : w.Last K) : w.rights (w.round K) = w.round K := h.fix
theorem PW.Last.least {w : PW} (hw : w.In) {K : Nat} {b : List (List Nat)} (hb : LeV w (w.rights b) b) : LeV w (w.round K) b := PW.round_least hw hb K
/-- The union of values. -/
def orV (v n : Nat) (a b : List (List Nat)) : List (List Nat) := (List.range n).map fun k => orR v (at0 a k) (at0 b k)
theorem Pf.vl_or (f : Pf) (v : Nat) (a b : List Nat) : f.vl v (orR v a b) = orR v (f.vl v a) (f.vl v b) := Ytopkmeceakjocaa.vl_or _ _ _ _ _
theorem orR_four (v : Nat) (a b c d : List Nat) : orR v (orR v a b) (orR v c d) = orR v (orR v a c) (orR v b d) := by
  refine Bs.ext (fit_orR _ _ _) (fit_orR _ _ _) fun i hi => ?_
  rw [bit_orR hi, bit_orR hi, bit_orR hi, bit_orR hi, bit_orR hi, bit_orR hi]
  cases Bs.bit a i <;> cases Bs.bit b i <;> cases Bs.bit c i <;> cases Bs.bit d i <;> rfl
theorem side_or {v : Nat} {a b c : List (List Nat)} (l : List (Nat × Pf)) (s t : List Nat) (h : ∀ x ∈ l, at0 c x.1 = orR v (at0 a x.1) (at0 b x.1)) :
    side v c (orR v s t) l = orR v (side v a s l) (side v b t l) := by
  induction l generalizing s t with
  | nil => rfl
  | cons x l ih =>
    rw [side_cons, side_cons, side_cons, h x List.mem_cons_self, Pf.vl_or, orR_four]
    exact ih _ _ fun y hy => h y (List.mem_cons_of_mem _ hy)
theorem PW.round_or {w1 w2 w3 : PW} (hw : w1.In) (h2 : w2.arcs = w1.arcs) (h3 : w3.arcs = w1.arcs) (hv2 : w2.v = w1.v) (hv3 : w3.v = w1.v)
    (hb : ∀ k, k < w1.n → at0 w3.bd k = orR w1.v (at0 w1.bd k) (at0 w2.bd k)) (k : Nat) : w3.round k = orV w1.v w1.n (w1.round k) (w2.round k) := by
  have n2 : w2.n = w1.n := by unfold PW.n; rw [h2]
  have n3 : w3.n = w1.n := by unfold PW.n; rw [h3]
  induction k with
  | zero =>
    refine vals_ext (n := w1.n) (by simp [PW.round, n3]) (by simp [orV]) fun m hm => ?_
    rw [PW.round, at0_map (by rw [n3]; exact hm), orV, at0_map hm, PW.round, PW.round, at0_map hm, at0_map (by rw [n2]; exact hm), hv2, hv3]
    refine Bs.ext (Bs.fit_emp _) (fit_orR _ _ _) fun i hi => ?_
    rw [bit_orR hi, Bs.bit_emp]; rfl
  | succ k ih =>
    refine vals_ext (n := w1.n) (by simp [PW.round, PW.rights, n3]) (by simp [orV]) fun m hm => ?_
    rw [PW.round_at (by rw [n3]; exact hm), orV, at0_map hm, PW.round_at hm, PW.round_at (by rw [n2]; exact hm)]
    unfold PW.right
    rw [hv2, hv3, h2, h3, hb m hm]
    refine side_or _ _ _ fun x hx => ?_
    rw [ih, orV, at0_map (hw.at hx)]
theorem PW.last_or {w1 w2 w3 : PW} (hw : w1.In) (h2 : w2.arcs = w1.arcs) (h3 : w3.arcs = w1.arcs) (hv2 : w2.v = w1.v) (hv3 : w3.v = w1.v)
    (hb : ∀ k, k < w1.n → at0 w3.bd k = orR w1.v (at0 w1.bd k) (at0 w2.bd k)) {K1 K2 K3 : Nat} (l1 : w1.Last K1) (l2 : w2.Last K2) (l3 : w3.Last K3) :
    w3.round K3 = orV w1.v w1.n (w1.round K1) (w2.round K2) := by
  have := PW.round_or hw h2 h3 hv2 hv3 hb (K1 + K2 + K3)
  rwa [l1.all (by omega), l2.all (by omega), l3.all (by omega)] at this
end Go.Proofs.Ytopkmeceakjocaa
