/- Sets of names as maps from strings to bools: made, asked, and a name put in; the first name that an earlier one is. -/
import Derived.Test.YtfapgnbnfhpicaaGreatDoorVlp
import Derived.Maps.OwnSet
import Derived.Maps.Keyed
namespace Go.Proofs.YtfapgnbnfhpicaaGreatDoor
set_option maxRecDepth 20000
set_option linter.unusedVariables false
set_option linter.unusedSimpArgs false
open Go.ChangeShapes Go.WideShapes Go.ChangeAt Go.RowKit

theorem plainElem_bool_inv {H : Type} {P : Program} {e : TypeId} (he : P.underlying e = some .bool) {v : Value} {z : DataW H × List MemPlace} (h : plainElem P e v = some z) : ∃ x, v = .bool x ∧ z = (.lit (.bool x), []) := by
  unfold plainElem at h
  rw [he] at h
  cases v <;> simp at h
  exact ⟨_, rfl, h.symm⟩
/-- A name is among the names. -/
def inB (k : ByteArray) (S : List ByteArray) : Bool := S.any fun x => decide (x = k)
theorem inB_iff {k : ByteArray} {S : List ByteArray} : inB k S = true ↔ k ∈ S := by unfold inB; simp
theorem inB_congr {k : ByteArray} {S S2 : List ByteArray} (h : k ∈ S ↔ k ∈ S2) : inB k S = inB k S2 := by rw [Bool.eq_iff_iff, inB_iff, inB_iff]; exact h
theorem inB_nil (k : ByteArray) : inB k [] = false := rfl
/-- Block b is a map that says true at the names of S and nothing elsewhere. -/
def NS (w : World) (b : Nat) (S : List ByteArray) : Prop :=
  ∃ (D : DataW Unit) (n : Nat), w.ownsMap Tryz.prog 9 (plainElem Tryz.prog 4) b n D ∧ n ≤ S.length ∧ Maps.IsMap D ∧ ∀ k : ByteArray, D.atKey (.string k.data.toList) (.lit (.bool false)) = .lit (.bool (inB k S))
section
variable {w w' : World} {b : Nat} {S : List ByteArray}
theorem NS.made (w : World) : NS (w.alloc (.map #[] 0)) w.heap.size [] :=
  ⟨.map [], 0, World.ownsMap_made w _ _ _, Nat.le_refl _, Maps.isMap_empty, fun k => by rw [inB_nil]; simp [DataW.atKey]⟩
theorem NS.lt (h : NS w b S) : b < w.heap.size := by obtain ⟨D, n, h, _⟩ := h; exact h.lt
theorem NS.kept {row : Option Nat} (h : NS w b S) (hg : w.grownBy w' row) (hne : some b ≠ row) : NS w' b S := by
  obtain ⟨D, n, h, r⟩ := h
  exact ⟨D, n, h.kept hg hne, r⟩
theorem NS.below (h : NS w b S) (hb : Below w.heap.size w w') : NS w' b S := h.kept (grown_of_below hb none) (by simp)
theorem NS.congr {S' : List ByteArray} (h : NS w b S) (hl : S.length ≤ S'.length) (hm : ∀ k, k ∈ S ↔ k ∈ S') : NS w b S' := by
  obtain ⟨D, n, h, hn, hi, hk⟩ := h
  exact ⟨D, n, h, Nat.le_trans hn hl, hi, fun k => by rw [hk k, inB_congr (hm k)]⟩
theorem NS.look (h : NS w b S) {k : ByteArray} (hk : k.size ≤ maxLen) : (Instr.lookup 159 (.map (some b)) (.string k) false).run Tryz.prog w = .ok (.bool (inB k S)) w := by
  obtain ⟨D, n, h, hn, hi, hD⟩ := h
  obtain ⟨v, ps, hrun, hv⟩ := h.lookup (t := 159) (e := 4) (Maps.string_keyed Tryz.underlying9) Tryz.underlying159 (z := .bool false) (by rfl) (plainElem_bool Tryz.underlying4 false) (WideMaps.keyOf_string_mk Tryz.underlying9 hk)
  rw [hD k] at hv
  obtain ⟨x, rfl, hx⟩ := plainElem_bool_inv Tryz.underlying4 hv
  simp only [Prod.mk.injEq, DataW.lit.injEq, Lit.bool.injEq] at hx
  rw [hrun, ← hx.1]
theorem list_ext2 {a c : ByteArray} (h : a.data.toList = c.data.toList) : a = c := by
  cases a; cases c
  simp at h
  rw [h]
theorem wp_put {ops : Array Oper} {rest : List Oper} {o : Oper} {a : Act} {Q : Exit → Act → World → Prop} (hg : o.guard = none) (m x v : Operand) (hop : o.op = Op.mapUpdate 159 m x v)
    (b : Nat) (S : List ByteArray) (hm : a.eval m = .map (some b)) (h : NS w b S) (hn : S.length < maxLen) (k : ByteArray) (hk : k.size ≤ maxLen) (hx : a.eval x = .string k) (hv : a.eval v = .bool true)
    (hK : ∀ w', NS w' b (k :: S) → w.grownBy w' (some b) → wpList Tryz.prog ops Q rest (a.put o.dst undef) w') : wpList Tryz.prog ops Q (o :: rest) a w := by
  obtain ⟨D, n, hO, hl, hi, hD⟩ := h
  refine wpList_mapUpdate_own w hg m x v 159 hop 9 4 (Maps.string_keyed Tryz.underlying9) Tryz.underlying159 (plainElem Tryz.prog 4) b n D hm hO (by omega) (.string k) (.bool true) (.string k.data.toList) hx hv (WideMaps.keyOf_string_mk Tryz.underlying9 hk) (.lit (.bool true)) [] (plainElem_bool Tryz.underlying4 true) fun w' hO' hg' => hK w' ⟨D.put (.string k.data.toList) (.lit (.bool true)), n + 1, hO', by simp; omega, hi.put _ _, fun k' => ?_⟩ hg'
  by_cases e : k' = k
  · subst e
    rw [Maps.atKey_put_same hi (by trivial), show inB k' (k' :: S) = true from inB_iff.2 (List.mem_cons_self ..)]
  · rw [Maps.atKey_put_other (fun h => e (list_ext2 (by injection h))), hD k', inB_congr (S := k :: S) (S2 := S) (by simp [e])]
end

/-- The first index of range n at which p holds. -/
theorem range_split {k n : Nat} (h : k < n) : ∃ l : List Nat, List.range n = List.range k ++ k :: l := by
  obtain ⟨m, rfl⟩ : ∃ m, n = (k + 1) + m := ⟨n - (k + 1), by omega⟩
  refine ⟨(List.range m).map (fun x => k + 1 + x), ?_⟩
  rw [List.range_add, List.range_succ, List.append_assoc]
  rfl
theorem some_step {α : Type} {f : Nat → Option α} {k : Nat} (h : (List.range k).findSome? f = none) (hk : f k = none) : (List.range (k + 1)).findSome? f = none := by
  rw [List.range_succ, List.findSome?_append, h]; simp [hk]
theorem some_hit {α : Type} {f : Nat → Option α} {k n : Nat} {r : α} (h : (List.range k).findSome? f = none) (hn : k < n) (hk : f k = some r) : (List.range n).findSome? f = some r := by
  obtain ⟨l, e⟩ := range_split hn
  rw [e, List.findSome?_append, h]; simp [hk]
/-- The first index whose name an earlier one is, or -1. -/
def dupAt (ns : List ByteArray) (i : Nat) : Option Int := match ns[i]? with | some x => if inB x (ns.take i) then some (i : Int) else none | none => none
def dupI (ns : List ByteArray) : Int := ((List.range ns.length).findSome? (dupAt ns)).getD (-1)
theorem dup_no {ns : List ByteArray} {i : Nat} {x : ByteArray} (h : ns[i]? = some x) (hx : inB x (ns.take i) = false) : dupAt ns i = none := by
  unfold dupAt; rw [h]; simp [hx]
theorem dup_yes {ns : List ByteArray} {i : Nat} {x : ByteArray} (h : ns[i]? = some x) (hx : inB x (ns.take i) = true) : dupAt ns i = some (i : Int) := by
  unfold dupAt; rw [h]; simp [hx]
theorem dup_hit {ns : List ByteArray} {k : Nat} {x : ByteArray} (h0 : (List.range k).findSome? (dupAt ns) = none) (hk : k < ns.length) (h : ns[k]? = some x) (hx : inB x (ns.take k) = true) : dupI ns = k := by
  unfold dupI; rw [some_hit h0 hk (dup_yes h hx)]; rfl
theorem dup_end {ns : List ByteArray} {k : Nat} (h0 : (List.range k).findSome? (dupAt ns) = none) (hk : k = ns.length) : dupI ns = -1 := by
  subst hk; unfold dupI; rw [h0]; rfl
theorem take_one {ns : List ByteArray} {k : Nat} {x : ByteArray} (h : ns[k]? = some x) : ns.take (k + 1) = ns.take k ++ [x] := by rw [List.take_add_one, h]; rfl
end Go.Proofs.YtfapgnbnfhpicaaGreatDoor
