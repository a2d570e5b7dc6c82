/- Copies in memory, and the reference's Before and follows: which bit follows from which. -/
import Derived.Test.YtadkjnjibefocaaHas
import Derived.StillTailTactics
import Derived.Deep.Slices
namespace Go.Proofs.Ytadkjnjibefocaa
open Go.ChangeShapes Go.WideShapes Go.ChangeAt Go.RowKit

/-- The cells of a row of copies. -/
def pairs (cs : List (Int × Int)) : List Value := cs.flatMap fun p => [.int .i64 p.1, .int .i64 p.2]
theorem pairs_length (cs : List (Int × Int)) : (pairs cs).length = 2 * cs.length := by
  unfold pairs
  induction cs with
  | nil => rfl
  | cons p cs ih => simp only [List.flatMap_cons, List.length_append, List.length_cons, List.length_nil, ih]; omega
theorem pairs_get {cs : List (Int × Int)} {i : Nat} {p : Int × Int} (h : cs[i]? = some p) :
    (pairs cs)[i * 2]? = some (.int .i64 p.1) ∧ (pairs cs)[i * 2 + 1]? = some (.int .i64 p.2) := by
  induction cs generalizing i with
  | nil => simp at h
  | cons q cs ih =>
    have e : pairs (q :: cs) = .int .i64 q.1 :: .int .i64 q.2 :: pairs cs := by simp [pairs]
    cases i with
    | zero =>
      simp only [List.getElem?_cons_zero, Option.some.injEq] at h
      subst h; rw [e]; exact ⟨rfl, rfl⟩
    | succ i =>
      obtain ⟨h1, h2⟩ := ih (by simpa using h)
      rw [e, show (i + 1) * 2 = i * 2 + 1 + 1 from by omega]
      exact ⟨by simpa using h1, by simpa using h2⟩

/-- Copies, as an argument: where they lie and how many they are. -/
structure ArgC (w : World) (A : Option Addr) (n : Nat) (cs : List (Int × Int)) : Prop where
  lies : At w w.heap.size A (pairs cs)
  len : cs.length = n
theorem ArgC.below {w w' : World} {A : Option Addr} {n : Nat} {cs : List (Int × Int)} (h : ArgC w A n cs) (hb : Below w.heap.size w w') : ArgC w' A n cs :=
  ⟨h.lies.below hb hb.size, h.len⟩
theorem ArgC.alloc {w : World} {A : Option Addr} {n : Nat} {cs : List (Int × Int)} (h : ArgC w A n cs) (o : Obj) : ArgC (w.alloc o) A n cs :=
  h.below ((Below.refl _ _).alloc (Nat.le_refl _) o)
theorem ArgC.cell {w : World} {A : Option Addr} {n : Nat} {cs : List (Int × Int)} (h : ArgC w A n cs) {i : Nat} {p : Int × Int} (hi : cs[i]? = some p) :
    ∃ ad, A = some ad ∧ ad.block < w.heap.size ∧ w.cell? (ad.add (i * 2)) = some (.int .i64 p.1) ∧ w.cell? ⟨(ad.add (i * 2)).block, (ad.add (i * 2)).off + 1, none⟩ = some (.int .i64 p.2) := by
  obtain ⟨h1, h2⟩ := pairs_get hi
  obtain ⟨ad, e, hb, hc⟩ := h.lies.cell h1
  obtain ⟨ad2, e2, _, hc2⟩ := h.lies.cell h2
  rw [e] at e2; cases e2
  exact ⟨ad, e, hb, hc, by rw [show (⟨(ad.add (i * 2)).block, (ad.add (i * 2)).off + 1, none⟩ : Addr) = (ad.add (i * 2)).add 1 from rfl, Go.Deep.add_add]; exact hc2⟩

def beforeB (p q : Int × Int) : Bool := decide (p.1 < q.1) || decide (p.1 = q.1) && decide (p.2 < q.2)
set_option linter.unusedSimpArgs false in
theorem refBefore_any (p1 p2 q1 q2 : Int) (w : World) :
    Calls Try.prog 40 #[.agg #[.int .i64 p1, .int .i64 p2], .agg #[.int .i64 q1, .int .i64 q2]] w fun e w' => e = .returned (.bool (beforeB (p1, p2) (q1, q2))) ∧ Below w.heap.size w w' := by
  have hx := ((Below.refl w.heap.size w).alloc (Nat.le_refl _) (.cells #[.int .i64 p1, .int .i64 p2] 62)).alloc (by simp) (.cells #[.int .i64 q1, .int .i64 q2] 62)
  have Hx := hid hx
  clear hx
  have e0 : beforeB (p1, p2) (q1, q2) = (decide (p1 < q1) || decide (p1 = q1) && decide (p2 < q2)) := rfl
  rw [e0]
  by_cases h1 : p1 < q1
  · go_enter Try.func40, Try.ntmps40
    go_wp2
    go_ret
    exact ⟨ret_bool (by simp [h1]), Hx.out⟩
  · by_cases h2 : p1 = q1
    · subst h2
      by_cases h3 : p2 < q2
      · go_enter Try.func40, Try.ntmps40
        go_wp2
        go_ret
        exact ⟨ret_bool (by simp [h3]), Hx.out⟩
      · go_enter Try.func40, Try.ntmps40
        go_wp2
        go_ret
        exact ⟨ret_bool (by simp [h3]), Hx.out⟩
    · go_enter Try.func40, Try.ntmps40
      go_wp2
      go_ret
      exact ⟨ret_bool (by simp [h1, h2]), Hx.out⟩

/-- P3.1: which bit follows from which. -/
def folB (V : Int) (ks : List Nat) (cs : List (Int × Int)) (a b : Int) : Bool := decide (a = b) && !Bs.hasB V ks a || decide ((a, b) ∈ cs)

end Go.Proofs.Ytadkjnjibefocaa
