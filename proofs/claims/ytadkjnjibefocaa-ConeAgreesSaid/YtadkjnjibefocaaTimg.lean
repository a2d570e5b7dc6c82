/- The reference's Join and image: the union of two sets of one width, and the value of a table. -/
import Derived.Test.YtadkjnjibefocaaTtab
import Derived.Test.YtadkjnjibefocaaThree
import Derived.StillTailTactics
namespace Go.Proofs.Ytadkjnjibefocaa
set_option maxRecDepth 20000
open Go.ChangeShapes Go.WideShapes Go.ChangeAt Go.RowKit

def orR (W : Nat) (ws xs : List Nat) : List Nat := Bs.ofP W (fun i => Bs.bit ws i || Bs.bit xs i) W
theorem fit_orR (W : Nat) (ws xs : List Nat) : Bs.Fit W (orR W ws xs) := Bs.fit_ofP _ _ _ (Nat.le_refl _)
theorem mixR_or {W : Nat} {ws xs : List Nat} (hW : W ≤ 256) (h1 : Bs.Fit W ws) (h2 : Bs.Fit W xs) : mixR (flag true true true) W ws W xs = ((W : Int), orR W ws xs, 0) := by
  unfold mixR orR
  rw [if_neg (by simp [Bs.valid_of_fit h1 hW, Bs.valid_of_fit h2 hW]), if_neg (by simp), Int.toNat_natCast]
  congr 2
  refine Bs.ofP_congr fun i _ => ?_
  unfold flag
  cases Bs.bit ws i <;> cases Bs.bit xs i <;> rfl

/-- A row of n sets, as an argument. -/
def ArgO (w : World) (W : Int) (A : Option Addr) (n : Nat) (one : Nat → List Nat) : Prop :=
  ∃ l : List (Option Addr × Nat × Nat), l.length = n ∧ At w w.heap.size A (setCells W l) ∧ ∀ i p, l[i]? = some p → Arg w p.1 p.2.1 (one i)
theorem ArgO.below {w w' : World} {W : Int} {A : Option Addr} {n : Nat} {one : Nat → List Nat} (h : ArgO w W A n one) (hb : Below w.heap.size w w') : ArgO w' W A n one := by
  obtain ⟨l, h1, h2, h3⟩ := h
  exact ⟨l, h1, h2.below hb hb.size, fun i p hp => (h3 i p hp).below hb⟩
theorem setCells_get {W : Int} {l : List (Option Addr × Nat × Nat)} {i : Nat} {p : Option Addr × Nat × Nat} (h : l[i]? = some p) :
    (setCells W l)[i * 2]? = some (.int .i64 W) ∧ (setCells W l)[i * 2 + 1]? = some (.slice p.1 p.2.1 p.2.2) := by
  induction l generalizing i with
  | nil => simp at h
  | cons q l ih =>
    have e : setCells W (q :: l) = .int .i64 W :: .slice q.1 q.2.1 q.2.2 :: setCells W l := by simp [setCells]
    cases i with
    | zero =>
      simp only [List.getElem?_cons_zero, Option.some.injEq] at h
      subst h; rw [e]; exact ⟨rfl, rfl⟩
    | succ i =>
      obtain ⟨h1, h2⟩ := ih (by simpa using h)
      rw [e, show (i + 1) * 2 = i * 2 + 1 + 1 from by omega]
      exact ⟨by simpa using h1, by simpa using h2⟩
theorem ArgO.cell {w : World} {W : Int} {A : Option Addr} {n : Nat} {one : Nat → List Nat} (h : ArgO w W A n one) {i : Nat} (hi : i < n) :
    ∃ (ad : Addr) (B : Option Addr) (m c : Nat), A = some ad ∧ ad.block < w.heap.size ∧ w.cell? (ad.add (i * 2)) = some (.int .i64 W) ∧ w.cell? ⟨(ad.add (i * 2)).block, (ad.add (i * 2)).off + 1, none⟩ = some (.slice B m c) ∧ Arg w B m (one i) := by
  obtain ⟨l, h1, h2, h3⟩ := h
  have hl : l[i]? = some (l[i]'(by omega)) := List.getElem?_eq_getElem _
  obtain ⟨g1, g2⟩ := setCells_get (W := W) hl
  obtain ⟨ad, e, hb, hc⟩ := h2.cell g1
  obtain ⟨ad2, e2, _, hc2⟩ := h2.cell g2
  rw [e] at e2; cases e2
  exact ⟨ad, _, _, _, e, hb, hc, by rw [show (⟨(ad.add (i * 2)).block, (ad.add (i * 2)).off + 1, none⟩ : Addr) = (ad.add (i * 2)).add 1 from rfl, Go.Deep.add_add]; exact hc2, h3 _ _ hl⟩
theorem own_at {w : World} {base : Nat} {ty : TypeId} {k : Nat} {A : Option Addr} {n c : Nat} {xs : List Value} (h : w.ownsRow base ty k (.slice A n c) n xs) : At w w.heap.size A xs := by
  have hl := h.1
  rcases h.2 with ⟨e, rfl⟩ | ⟨g, cap, cur, e, _, hg, _, _, _, hx⟩
  · exact .inl (List.eq_nil_of_length_eq_zero (by omega))
  · injection e with e1 _ e3
    subst e1
    refine .inr ⟨_, rfl, (Array.getElem?_eq_some_iff.1 hg).1, fun j u hu => ?_⟩
    rw [add_of]
    have hj : (cur.toList.take (n * k))[j]? = some u := by rw [hx]; exact hu
    rw [List.getElem?_take] at hj
    split at hj
    · simp only [World.cell?, hg]
      simpa using hj
    · cases hj
theorem Ones.argO {w : World} {base B0 : Nat} {W : Int} {A : Option Addr} {c : Nat} {one : Nat → List Nat} {n : Nat} (h : Ones w base B0 W (.slice A n c) one n) (hB : B0 ≤ w.heap.size) (hok : ∀ i, i < n → ∀ x ∈ one i, x < Bs.W64) : ArgO w W A n one := by
  obtain ⟨l, h1, h2, h3⟩ := h
  refine ⟨l, h1, own_at h2, fun i p hp => (h3 i p hp).1.arg hB (h3 i p hp).2.symm (hok i ?_)⟩
  have := (List.getElem?_eq_some_iff.1 hp).1
  omega

/-- The value of a table for a set, from its first k members. -/
def imTo (zero : List Nat) (one : Nat → List Nat) (ss : List Nat) (W k : Nat) : List Nat :=
  Bs.ofP W (fun i => Bs.bit zero i || (List.range k).any (fun b => Bs.bit ss b && Bs.bit (one b) i)) W
theorem fit_imTo (zero : List Nat) (one : Nat → List Nat) (ss : List Nat) (W k : Nat) : Bs.Fit W (imTo zero one ss W k) := Bs.fit_ofP _ _ _ (Nat.le_refl _)
theorem imTo_zero {zero : List Nat} (one : Nat → List Nat) (ss : List Nat) {W : Nat} (h : Bs.Fit W zero) : imTo zero one ss W 0 = zero := by
  unfold imTo
  exact (Bs.ofP_congr fun i _ => by simp).trans (Bs.ofP_bit h)
theorem imTo_no {zero : List Nat} {one : Nat → List Nat} {ss : List Nat} {W k : Nat} (h : Bs.bit ss k = false) : imTo zero one ss W (k + 1) = imTo zero one ss W k := by
  unfold imTo
  refine Bs.ofP_congr fun i _ => ?_
  rw [any_succ, h]; simp
theorem imTo_yes {zero : List Nat} {one : Nat → List Nat} {ss : List Nat} {W k : Nat} (h : Bs.bit ss k = true) : orR W (imTo zero one ss W k) (one k) = imTo zero one ss W (k + 1) := by
  unfold orR
  conv => rhs; unfold imTo
  refine Bs.ofP_congr fun i hi => ?_
  rw [any_succ, h]
  unfold imTo
  rw [Bs.bit_ofP _ _ _ (Nat.le_refl _)]
  simp [hi, Bool.or_assoc]

section
variable {w : World} {W : Nat} {Z A D : Option Addr} {n c m d x y : Nat} {zs zs' : List Nat} {wr w' : World}
end

end Go.Proofs.Ytadkjnjibefocaa
