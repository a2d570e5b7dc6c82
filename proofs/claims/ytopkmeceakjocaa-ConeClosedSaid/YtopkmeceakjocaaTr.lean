/- Copies in memory, and the reference's Before and follows: which bit follows from which. -/
import Derived.Test.YtopkmeceakjocaaHas
import Derived.StillTailTactics
import Derived.Deep.Slices
namespace Go.Proofs.Ytopkmeceakjocaa
open Go.ChangeShapes Go.WideShapes Go.ChangeAt Go.RowKit

/-- The cells of a row of copies. -/
def pairs (cs : List (Int × Int)) : List Value := cs.flatMap fun p => [.int .i64 p.1, .int .i64 p.2]
theorem pairs_length (cs : List (Int × Int)) : (pairs cs).length = 2 * cs.length := by
  unfold pairs
  induction cs with
  | nil => rfl
  | cons p cs ih => simp only [List.flatMap_cons, List.length_append, List.length_cons, List.length_nil, ih]; omega
theorem pairs_get {cs : List (Int × Int)} {i : Nat} {p : Int × Int} (h : cs[i]? = some p) :
    (pairs cs)[i * 2]? = some (.int .i64 p.1) ∧ (pairs cs)[i * 2 + 1]? = some (.int .i64 p.2) := by
  induction cs generalizing i with
  | nil => simp at h
  | cons q cs ih =>
    have e : pairs (q :: cs) = .int .i64 q.1 :: .int .i64 q.2 :: pairs cs := by simp [pairs]
    cases i with
    | zero =>
      simp only [List.getElem?_cons_zero, Option.some.injEq] at h
      subst h; rw [e]; exact ⟨rfl, rfl⟩
    | succ i =>
      obtain ⟨h1, h2⟩ := ih (by simpa using h)
      rw [e, show (i + 1) * 2 = i * 2 + 1 + 1 from by omega]
      exact ⟨by simpa using h1, by simpa using h2⟩

/-- Copies, as an argument: where they lie and how many they are. -/
structure ArgC (w : World) (A : Option Addr) (n : Nat) (cs : List (Int × Int)) : Prop where
  lies : At w w.heap.size A (pairs cs)
  len : cs.length = n
theorem ArgC.below {w w' : World} {A : Option Addr} {n : Nat} {cs : List (Int × Int)} (h : ArgC w A n cs) (hb : Below w.heap.size w w') : ArgC w' A n cs :=
  ⟨h.lies.below hb hb.size, h.len⟩
theorem ArgC.alloc {w : World} {A : Option Addr} {n : Nat} {cs : List (Int × Int)} (h : ArgC w A n cs) (o : Obj) : ArgC (w.alloc o) A n cs :=
  h.below ((Below.refl _ _).alloc (Nat.le_refl _) o)
theorem ArgC.cell {w : World} {A : Option Addr} {n : Nat} {cs : List (Int × Int)} (h : ArgC w A n cs) {i : Nat} {p : Int × Int} (hi : cs[i]? = some p) :
    ∃ ad, A = some ad ∧ ad.block < w.heap.size ∧ w.cell? (ad.add (i * 2)) = some (.int .i64 p.1) ∧ w.cell? ⟨(ad.add (i * 2)).block, (ad.add (i * 2)).off + 1, none⟩ = some (.int .i64 p.2) := by
  obtain ⟨h1, h2⟩ := pairs_get hi
  obtain ⟨ad, e, hb, hc⟩ := h.lies.cell h1
  obtain ⟨ad2, e2, _, hc2⟩ := h.lies.cell h2
  rw [e] at e2; cases e2
  exact ⟨ad, e, hb, hc, by rw [show (⟨(ad.add (i * 2)).block, (ad.add (i * 2)).off + 1, none⟩ : Addr) = (ad.add (i * 2)).add 1 from rfl, Go.Deep.add_add]; exact hc2⟩

def beforeB (p q : Int × Int) : Bool := decide (p.1 < q.1) || decide (p.1 = q.1) && decide (p.2 < q.2)
set_option linter.unusedSimpArgs false in
theorem refBefore_any (p1 p2 q1 q2 : Int) (w : World) :
    Calls Try.prog 84 #[.agg #[.int .i64 p1, .int .i64 p2], .agg #[.int .i64 q1, .int .i64 q2]] w fun e w' => e = .returned (.bool (beforeB (p1, p2) (q1, q2))) ∧ Below w.heap.size w w' := by
  have hx := ((Below.refl w.heap.size w).alloc (Nat.le_refl _) (.cells #[.int .i64 p1, .int .i64 p2] 89)).alloc (by simp) (.cells #[.int .i64 q1, .int .i64 q2] 89)
  have Hx := hid hx
  clear hx
  have e0 : beforeB (p1, p2) (q1, q2) = (decide (p1 < q1) || decide (p1 = q1) && decide (p2 < q2)) := rfl
  rw [e0]
  by_cases h1 : p1 < q1
  · go_enter Try.func84, Try.ntmps84
    go_wp2
    go_ret
    exact ⟨ret_bool (by simp [h1]), Hx.out⟩
  · by_cases h2 : p1 = q1
    · subst h2
      by_cases h3 : p2 < q2
      · go_enter Try.func84, Try.ntmps84
        go_wp2
        go_ret
        exact ⟨ret_bool (by simp [h3]), Hx.out⟩
      · go_enter Try.func84, Try.ntmps84
        go_wp2
        go_ret
        exact ⟨ret_bool (by simp [h3]), Hx.out⟩
    · go_enter Try.func84, Try.ntmps84
      go_wp2
      go_ret
      exact ⟨ret_bool (by simp [h1, h2]), Hx.out⟩

/-- P3.1: which bit follows from which. -/
def folB (V : Int) (ks : List Nat) (cs : List (Int × Int)) (a b : Int) : Bool := decide (a = b) && !Bs.hasB V ks a || decide ((a, b) ∈ cs)

set_option maxHeartbeats 800000 in
theorem refFollows_any (W V : Int) (A B C : Option Addr) (n c m d k q : Nat) (ks : List Nat) (cs : List (Int × Int)) (a b : Int) (w : World) (hB : Arg w B m ks) (hC : ArgC w C k cs) (hk : k ≤ maxLen) :
    Calls Try.prog 112 #[.agg #[.int .i64 W, .slice A n c, .int .i64 V, .slice B m d, .slice C k q], .int .i64 a, .int .i64 b] w fun e w' => e = .returned (.bool (folB V ks cs a b)) ∧ Below w.heap.size w w' := by
  unfold maxLen at hk
  have HB := hid hB; have HC := hid hC
  clear hB hC
  by_cases hab : a = b
  · subst hab
    go_enter Try.func112, Try.ntmps112
    go_wp2_with fail
    refine (refHas_any V B m d ks a _ (HB.out.alloc _)).mono ?_
    generalize hh : Bs.hasB V ks a = r
    rintro e w1 ⟨rfl, hb1⟩
    obtain ⟨hc, hf⟩ := bcell hb1
    have Hb1 := hid (((Below.refl w.heap.size w).alloc (Nat.le_refl _) _).trans (hb1.mono (by simp)))
    clear hb1
    cases r with
    | false =>
      have hres : folB V ks cs a a = true := by unfold folB; simp [hh]
      have Hres := hid hres
      clear hres hh
      go_wp2
      go_ret
      exact ⟨ret_bool Hres.out.symm, Hb1.out⟩
    | true =>
      have hres : folB V ks cs a a = decide ((a, a) ∈ cs) := by unfold folB; simp [hh]
      have Hres := hid hres
      clear hres hh
      go_wp2_with fail
      go_loopw [7] (fun i wr => ∃ j : Nat, j ≤ k ∧ i = .int .i64 j ∧ Hid (∀ x, x < j → cs[x]? ≠ some (a, a)) ∧ wr = w1) (fun i _ => k - (intOf i).toNat)
      case atStart => exact ⟨0, by omega, rfl, fun x h => by omega, rfl⟩
      case round =>
        obtain ⟨j, hj, rfl, hb, hw⟩ := hrel
        subst wr
        by_cases hlt : j < k
        · have hget : cs[j]? = some (cs[j]'(by rw [HC.out.len]; exact hlt)) := List.getElem?_eq_getElem _
          generalize (cs[j]'(by rw [HC.out.len]; exact hlt)) = p at hget
          obtain ⟨p1, p2⟩ := p
          obtain ⟨ad, rfl, had, h1, h2⟩ := HC.out.cell hget
          have Hget := hid hget
          clear hget
          have g1 : w1.cell? (ad.add (j * 2)) = some (.int .i64 p1) := (Hb1.out.cell (by rw [add_block]; exact had)).trans h1
          have g2 : w1.cell? ⟨(ad.add (j * 2)).block, (ad.add (j * 2)).off + 1, none⟩ = some (.int .i64 p2) := (Hb1.out.cell (by simp only [add_block]; exact had)).trans h2
          clear h1 h2
          have one : ∀ x, x < j + 1 → ¬(p1 = a ∧ p2 = a) → cs[x]? ≠ some (a, a) := by
            intro x hx hne he
            by_cases e : x = j
            · rw [e, Hget.out] at he; simp only [Option.some.injEq, Prod.mk.injEq] at he; exact hne he
            · exact hb.out x (by omega) he
          have One := hid one
          clear one
          by_cases e1 : p1 = a
          · have t1 : (p1 == a) = true := by simp [e1]
            by_cases e2 : p2 = a
            · have t2 : (p2 == a) = true := by simp [e2]
              have E := hid (show (a, a) ∈ cs by have q := List.mem_of_getElem? Hget.out; rw [e1, e2] at q; exact q)
              clear e1 e2
              go_wp2
              go_ret
              exact ⟨ret_bool (by rw [Hres.out]; simp [E.out]), Hb1.out⟩
            · have t2 : (p2 == a) = false := by simp [e2]
              have E := hid (show ¬(p1 = a ∧ p2 = a) by simp [e2])
              clear e1 e2
              go_wp2
              go_round
              case rel => exact ⟨j + 1, by omega, by go_num, fun x hx => One.out x hx E.out, trivial⟩
              case measure => simp [intOf]; omega
          · have t1 : (p1 == a) = false := by simp [e1]
            have E := hid (show ¬(p1 = a ∧ p2 = a) by simp [e1])
            clear e1
            go_wp2
            go_roundw
            case rel => exact ⟨j + 1, by omega, by go_num, fun x hx => One.out x hx E.out, trivial⟩
            case measure => simp [intOf]; omega
        · go_wp2
          go_ret
          refine ⟨ret_bool ?_, Hb1.out⟩
          have : (a, a) ∉ cs := by
            intro h
            obtain ⟨x, hx, e⟩ := List.getElem_of_mem h
            exact hb.out x (by rw [← HC.out.len] at hj; have := HC.out.len; omega) (by rw [List.getElem?_eq_getElem hx, e])
          rw [Hres.out]; simp [this]
  · have hres : folB V ks cs a b = decide ((a, b) ∈ cs) := by unfold folB; simp [hab]
    have Hres := hid hres
    clear hres
    go_enter Try.func112, Try.ntmps112
    go_wp2_with fail
    go_loopw [7] (fun i wr => ∃ j : Nat, j ≤ k ∧ i = .int .i64 j ∧ Hid (∀ x, x < j → cs[x]? ≠ some (a, b)) ∧ wr = w.alloc (Obj.cells #[Value.int IntKind.i64 W, Value.slice A n c, Value.int IntKind.i64 V, Value.slice B m d, Value.slice C k q] 61)) (fun i _ => k - (intOf i).toNat)
    case atStart => exact ⟨0, by omega, rfl, fun x h => by omega, rfl⟩
    case round =>
      obtain ⟨j, hj, rfl, hb, rfl⟩ := hrel
      by_cases hlt : j < k
      · have hget : cs[j]? = some (cs[j]'(by rw [HC.out.len]; exact hlt)) := List.getElem?_eq_getElem _
        generalize (cs[j]'(by rw [HC.out.len]; exact hlt)) = p at hget
        obtain ⟨p1, p2⟩ := p
        obtain ⟨ad, rfl, had, h1, h2⟩ := HC.out.cell hget
        have Hget := hid hget
        clear hget
        have g1 : (w.alloc (Obj.cells #[Value.int IntKind.i64 W, Value.slice A n c, Value.int IntKind.i64 V, Value.slice B m d, Value.slice (some ad) k q] 61)).cell? (ad.add (j * 2)) = some (.int .i64 p1) := by
          rw [World.cell?_alloc_lt _ _ _ (by rw [add_block]; exact had)]; exact h1
        have g2 : (w.alloc (Obj.cells #[Value.int IntKind.i64 W, Value.slice A n c, Value.int IntKind.i64 V, Value.slice B m d, Value.slice (some ad) k q] 61)).cell? ⟨(ad.add (j * 2)).block, (ad.add (j * 2)).off + 1, none⟩ = some (.int .i64 p2) := by
          rw [World.cell?_alloc_lt _ _ _ (by simp only [add_block]; exact had)]; exact h2
        clear h1 h2
        have one : ∀ x, x < j + 1 → ¬(p1 = a ∧ p2 = b) → cs[x]? ≠ some (a, b) := by
          intro x hx hne he
          by_cases e : x = j
          · rw [e, Hget.out] at he; simp only [Option.some.injEq, Prod.mk.injEq] at he; exact hne he
          · exact hb.out x (by omega) he
        have One := hid one
        clear one
        by_cases e1 : p1 = a
        · have t1 : (p1 == a) = true := by simp [e1]
          by_cases e2 : p2 = b
          · have t2 : (p2 == b) = true := by simp [e2]
            have E := hid (show (a, b) ∈ cs by rw [← e1, ← e2]; exact List.mem_of_getElem? Hget.out)
            clear e1 e2
            go_wp2
            go_ret
            exact ⟨ret_bool (by rw [Hres.out]; simp [E.out]), (Below.refl _ _).alloc (Nat.le_refl _) _⟩
          · have t2 : (p2 == b) = false := by simp [e2]
            have E := hid (show ¬(p1 = a ∧ p2 = b) by simp [e2])
            clear e1 e2
            go_wp2
            go_round
            case rel => exact ⟨j + 1, by omega, by go_num, fun x hx => One.out x hx E.out, trivial⟩
            case measure => simp [intOf]; omega
        · have t1 : (p1 == a) = false := by simp [e1]
          have E := hid (show ¬(p1 = a ∧ p2 = b) by simp [e1])
          clear e1
          go_wp2
          go_roundw
          case rel => exact ⟨j + 1, by omega, by go_num, fun x hx => One.out x hx E.out, trivial⟩
          case measure => simp [intOf]; omega
      · go_wp2
        go_ret
        refine ⟨ret_bool ?_, (Below.refl _ _).alloc (Nat.le_refl _) _⟩
        have : (a, b) ∉ cs := by
          intro h
          obtain ⟨x, hx, e⟩ := List.getElem_of_mem h
          exact hb.out x (by rw [← HC.out.len] at hj; have := HC.out.len; omega) (by rw [List.getElem?_eq_getElem hx, e])
        rw [Hres.out]; simp [this]
end Go.Proofs.Ytopkmeceakjocaa
