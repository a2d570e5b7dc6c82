/- Part 1 of the texts that YtcgichfanfijjaaDoorNsAll leans on. -/
import Derived.Test.YtcgichfanfijjaaDoorVlp
import Derived.Maps.OwnSet
import Derived.Maps.Keyed
import Derived.Test.YtcgichfanfijjaaDoorDp1
import Derived.Test.YtcgichfanfijjaaDoorVdv
import Derived.Test.YtcgichfanfijjaaDoorPg1
import Derived.Deep.AppendLies
import Derived.Test.YtcgichfanfijjaaDoorLns
import Derived.Test.YtcgichfanfijjaaDoorKw
import Derived.Test.YtcgichfanfijjaaDoorLin
import Derived.Deep.DeepCutAuto
import Derived.BigRegion
import Derived.Deep.QuietTactic
import Derived.BigQuiet
import Derived.Test.YtcgichfanfijjaaDoorDp6
import Derived.Test.YtcgichfanfijjaaDoorScF
import Derived.Deep.RegionLaw
import Derived.Deep.DrawnRows
import Derived.Test.YtcgichfanfijjaaDoorRp8
import Derived.Test.YtcgichfanfijjaaDoorRsc
import Derived.StillTailTactics
import Derived.Deep.RegionHeld3
import Derived.Test.YtcgichfanfijjaaDoorPms
namespace Go.Proofs.YtcgichfanfijjaaDoor
set_option maxRecDepth 20000
set_option linter.unusedVariables false
set_option linter.unusedSimpArgs false
open Go.ChangeShapes Go.WideShapes Go.ChangeAt Go.RowKit

theorem plainElem_bool_inv {H : Type} {P : Program} {e : TypeId} (he : P.underlying e = some .bool) {v : Value} {z : DataW H × List MemPlace} (h : plainElem P e v = some z) : ∃ x, v = .bool x ∧ z = (.lit (.bool x), []) := by
  unfold plainElem at h
  rw [he] at h
  cases v <;> simp at h
  exact ⟨_, rfl, h.symm⟩
/-- A name is among the names. -/
def inB (k : ByteArray) (S : List ByteArray) : Bool := S.any fun x => decide (x = k)
theorem inB_iff {k : ByteArray} {S : List ByteArray} : inB k S = true ↔ k ∈ S := by unfold inB; simp
theorem inB_congr {k : ByteArray} {S S2 : List ByteArray} (h : k ∈ S ↔ k ∈ S2) : inB k S = inB k S2 := by rw [Bool.eq_iff_iff, inB_iff, inB_iff]; exact h
theorem inB_nil (k : ByteArray) : inB k [] = false := rfl
/-- Block b is a map that says true at the names of S and nothing elsewhere. -/
def NS (w : World) (b : Nat) (S : List ByteArray) : Prop :=
  ∃ (D : DataW Unit) (n : Nat), w.ownsMap Tryd.prog 9 (plainElem Tryd.prog 4) b n D ∧ n ≤ S.length ∧ Maps.IsMap D ∧ ∀ k : ByteArray, D.atKey (.string k.data.toList) (.lit (.bool false)) = .lit (.bool (inB k S))
section
variable {w w' : World} {b : Nat} {S : List ByteArray}
theorem NS.made (w : World) : NS (w.alloc (.map #[] 0)) w.heap.size [] :=
  ⟨.map [], 0, World.ownsMap_made w _ _ _, Nat.le_refl _, Maps.isMap_empty, fun k => by rw [inB_nil]; simp [DataW.atKey]⟩
theorem NS.lt (h : NS w b S) : b < w.heap.size := by obtain ⟨D, n, h, _⟩ := h; exact h.lt
theorem NS.kept {row : Option Nat} (h : NS w b S) (hg : w.grownBy w' row) (hne : some b ≠ row) : NS w' b S := by
  obtain ⟨D, n, h, r⟩ := h
  exact ⟨D, n, h.kept hg hne, r⟩
theorem NS.below (h : NS w b S) (hb : Below w.heap.size w w') : NS w' b S := h.kept (grown_of_below hb none) (by simp)
theorem NS.congr {S' : List ByteArray} (h : NS w b S) (hl : S.length ≤ S'.length) (hm : ∀ k, k ∈ S ↔ k ∈ S') : NS w b S' := by
  obtain ⟨D, n, h, hn, hi, hk⟩ := h
  exact ⟨D, n, h, Nat.le_trans hn hl, hi, fun k => by rw [hk k, inB_congr (hm k)]⟩
theorem NS.look (h : NS w b S) {k : ByteArray} (hk : k.size ≤ maxLen) : (Instr.lookup 105 (.map (some b)) (.string k) false).run Tryd.prog w = .ok (.bool (inB k S)) w := by
  obtain ⟨D, n, h, hn, hi, hD⟩ := h
  obtain ⟨v, ps, hrun, hv⟩ := h.lookup (t := 105) (e := 4) (Maps.string_keyed Tryd.underlying9) Tryd.underlying105 (z := .bool false) (by rfl) (plainElem_bool Tryd.underlying4 false) (WideMaps.keyOf_string_mk Tryd.underlying9 hk)
  rw [hD k] at hv
  obtain ⟨x, rfl, hx⟩ := plainElem_bool_inv Tryd.underlying4 hv
  simp only [Prod.mk.injEq, DataW.lit.injEq, Lit.bool.injEq] at hx
  rw [hrun, ← hx.1]
theorem list_ext2 {a c : ByteArray} (h : a.data.toList = c.data.toList) : a = c := by
  cases a; cases c
  simp at h
  rw [h]
theorem wp_put {ops : Array Oper} {rest : List Oper} {o : Oper} {a : Act} {Q : Exit → Act → World → Prop} (hg : o.guard = none) (m x v : Operand) (hop : o.op = Op.mapUpdate 105 m x v)
    (b : Nat) (S : List ByteArray) (hm : a.eval m = .map (some b)) (h : NS w b S) (hn : S.length < maxLen) (k : ByteArray) (hk : k.size ≤ maxLen) (hx : a.eval x = .string k) (hv : a.eval v = .bool true)
    (hK : ∀ w', NS w' b (k :: S) → w.grownBy w' (some b) → wpList Tryd.prog ops Q rest (a.put o.dst undef) w') : wpList Tryd.prog ops Q (o :: rest) a w := by
  obtain ⟨D, n, hO, hl, hi, hD⟩ := h
  refine wpList_mapUpdate_own w hg m x v 105 hop 9 4 (Maps.string_keyed Tryd.underlying9) Tryd.underlying105 (plainElem Tryd.prog 4) b n D hm hO (by omega) (.string k) (.bool true) (.string k.data.toList) hx hv (WideMaps.keyOf_string_mk Tryd.underlying9 hk) (.lit (.bool true)) [] (plainElem_bool Tryd.underlying4 true) fun w' hO' hg' => hK w' ⟨D.put (.string k.data.toList) (.lit (.bool true)), n + 1, hO', by simp; omega, hi.put _ _, fun k' => ?_⟩ hg'
  by_cases e : k' = k
  · subst e
    rw [Maps.atKey_put_same hi (by trivial), show inB k' (k' :: S) = true from inB_iff.2 (List.mem_cons_self ..)]
  · rw [Maps.atKey_put_other (fun h => e (list_ext2 (by injection h))), hD k', inB_congr (S := k :: S) (S2 := S) (by simp [e])]
end

/-- The first index of range n at which p holds. -/
theorem range_split {k n : Nat} (h : k < n) : ∃ l : List Nat, List.range n = List.range k ++ k :: l := by
  obtain ⟨m, rfl⟩ : ∃ m, n = (k + 1) + m := ⟨n - (k + 1), by omega⟩
  refine ⟨(List.range m).map (fun x => k + 1 + x), ?_⟩
  rw [List.range_add, List.range_succ, List.append_assoc]
  rfl
theorem some_step {α : Type} {f : Nat → Option α} {k : Nat} (h : (List.range k).findSome? f = none) (hk : f k = none) : (List.range (k + 1)).findSome? f = none := by
  rw [List.range_succ, List.findSome?_append, h]; simp [hk]
theorem some_hit {α : Type} {f : Nat → Option α} {k n : Nat} {r : α} (h : (List.range k).findSome? f = none) (hn : k < n) (hk : f k = some r) : (List.range n).findSome? f = some r := by
  obtain ⟨l, e⟩ := range_split hn
  rw [e, List.findSome?_append, h]; simp [hk]
/-- The first index whose name an earlier one is, or -1. -/
def dupAt (ns : List ByteArray) (i : Nat) : Option Int := match ns[i]? with | some x => if inB x (ns.take i) then some (i : Int) else none | none => none
def dupI (ns : List ByteArray) : Int := ((List.range ns.length).findSome? (dupAt ns)).getD (-1)
theorem dup_no {ns : List ByteArray} {i : Nat} {x : ByteArray} (h : ns[i]? = some x) (hx : inB x (ns.take i) = false) : dupAt ns i = none := by
  unfold dupAt; rw [h]; simp [hx]
theorem dup_yes {ns : List ByteArray} {i : Nat} {x : ByteArray} (h : ns[i]? = some x) (hx : inB x (ns.take i) = true) : dupAt ns i = some (i : Int) := by
  unfold dupAt; rw [h]; simp [hx]
theorem dup_hit {ns : List ByteArray} {k : Nat} {x : ByteArray} (h0 : (List.range k).findSome? (dupAt ns) = none) (hk : k < ns.length) (h : ns[k]? = some x) (hx : inB x (ns.take k) = true) : dupI ns = k := by
  unfold dupI; rw [some_hit h0 hk (dup_yes h hx)]; rfl
theorem dup_end {ns : List ByteArray} {k : Nat} (h0 : (List.range k).findSome? (dupAt ns) = none) (hk : k = ns.length) : dupI ns = -1 := by
  subst hk; unfold dupI; rw [h0]; rfl
theorem take_one {ns : List ByteArray} {k : Nat} {x : ByteArray} (h : ns[k]? = some x) : ns.take (k + 1) = ns.take k ++ [x] := by rw [List.take_add_one, h]; rfl
end Go.Proofs.YtcgichfanfijjaaDoor

namespace Go.Proofs.YtcgichfanfijjaaDoor
set_option maxRecDepth 20000
set_option linter.unusedVariables false
set_option linter.unusedSimpArgs false
open Go.ChangeShapes Go.WideShapes Go.ChangeAt Go.RowKit

def termB (o : Int) : Bool := o == 7 || (o == 8 || o == 9)
theorem term_any (o : Int) (w : World) : Calls Tryd.prog 171 #[.int .i64 o] w fun e w' => e = .returned (.bool (termB o)) ∧ w = w' := by
  unfold termB
  cases h1 : (o == 7) with
  | true =>
    go_enter Tryd.func171, Tryd.ntmps171
    go_wp2
    go_ret
    exact ⟨rfl, rfl⟩
  | false =>
    cases h2 : (o == 8) with
    | true =>
      go_enter Tryd.func171, Tryd.ntmps171
      go_wp2
      go_ret
      exact ⟨rfl, rfl⟩
    | false =>
      cases h3 : (o == 9) with
      | true =>
        go_enter Tryd.func171, Tryd.ntmps171
        go_wp2
        go_ret
        exact ⟨rfl, rfl⟩
      | false =>
        go_enter Tryd.func171, Tryd.ntmps171
        go_wp2
        go_ret
        exact ⟨rfl, rfl⟩
/-- The first error of a statement. -/
def stmtE (F B : List ByteArray) (last : Bool) (t : Stm) : Int :=
  if termB t.op != last then 4 else if t.ts.all (fun x => inB x (if t.op == 3 then F else B)) then 0 else 5
theorem stmtE_4 {F B : List ByteArray} {last : Bool} {t : Stm} (h : (termB t.op != last) = true) : stmtE F B last t = 4 := by unfold stmtE; rw [h]; rfl
theorem stmtE_0 {F B S : List ByteArray} {last : Bool} {t : Stm} (h : (termB t.op != last) = false) (hS : (if t.op == 3 then F else B) = S) (ha : t.ts.all (fun x => inB x S) = true) : stmtE F B last t = 0 := by unfold stmtE; rw [h, hS, ha]; rfl
theorem stmtE_5 {F B S : List ByteArray} {last : Bool} {t : Stm} (h : (termB t.op != last) = false) (hS : (if t.op == 3 then F else B) = S) (ha : t.ts.all (fun x => inB x S) = false) : stmtE F B last t = 5 := by unfold stmtE; rw [h, hS, ha]; rfl
theorem ret_i {a b : Int} (h : a = b) : Ending.returned (.int .i64 b) = Ending.returned (.int .i64 a) := by rw [h]
set_option maxHeartbeats 3200000 in
theorem chk_call (d : ByteArray) (A : Option Addr) (n c : Nat) (B : Option Addr) (m c2 : Nat) (us ts : List ByteArray) (last : Bool) (b1 b2 : Nat) (F Bn : List ByteArray) (w : World)
    (hT : SArg w B m ts) (h1 : NS w b1 Bn) (h2 : NS w b2 F) :
    Calls Tryd.prog 132 #[.agg #[.int .i64 3, .string d, .slice A n c, .slice B m c2], .bool last, .map (some b1), .map (some b2)] w fun e w' => e = .returned (.int .i64 (stmtE F Bn last ⟨3, d, us, ts⟩)) ∧ Below w.heap.size w w' := by
  have hb2 := (Below.refl w.heap.size w).alloc (Nat.le_refl _) (.cells #[.int .i64 3, .string d, .slice A n c, .slice B m c2] 57)
  have HB := hid hb2
  have Hf := hid (Fb.new w #[.int .i64 3, .string d, .slice A n c, .slice B m c2] 57)
  have HT := hid (hT.below hb2)
  have H := hid (h2.below hb2)
  have hm := hT.few
  have HL := hid hT.len
  
  clear hb2 hT h1 h2
  go_enter Tryd.func132, Tryd.ntmps132
  go_wp2_with fail
  refine (term_any _ _).mono ?_
  rintro e w2 ⟨rfl, rfl⟩
  cases ht : (termB 3 == last) with
  | false =>
    as_aux_lemma =>
      have Hr := hid (show stmtE F Bn last ⟨3, d, us, ts⟩ = 4 from stmtE_4 (by show (!(termB 3 == last)) = true; rw [ht]; rfl))
      go_wp2_with fail
      go_ret
      exact ⟨ret_i Hr.out, HB.out⟩
  | true =>
    have Ht := hid (show (termB 3 != last) = false by show (!(termB 3 == last)) = false; rw [ht]; rfl)
    have hlt := Hf.out.lt
    obtain ⟨a0, a1, a2, a3⟩ := Fb.four Hf.out
    go_wp2_with fail
    clear a0 a1 a2 a3 ht hlt
    go_loopw [11, 25] (fun _ iv wr => ∃ k : Nat, k ≤ m ∧ iv = .int .i64 k ∧ Hid ((ts.take k).all (fun x => inB x F) = true) ∧ Hid (w.alloc (.cells #[.int .i64 3, .string d, .slice A n c, .slice B m c2] 57) = wr)) (fun _ iv _ => m - (intOf iv).toNat)
    case atStart => exact ⟨0, by omega, rfl, hid rfl, hid rfl⟩
    case round =>
      obtain ⟨k, hk, rfl, hX, hW⟩ := hrel
      have hW' := hW.out
      subst hW'
      clear hW
      by_cases hlt : k < m
      · obtain ⟨ad, rfl, hb, hc, hs⟩ := HT.out.cell hlt
        have Hget := hid (show ts[k]? = some (ts.getD k ByteArray.empty) by rw [List.getD_eq_getElem?_getD, List.getElem?_eq_getElem (by have := HL.out; omega)]; rfl)
        generalize ts.getD k ByteArray.empty = y at *
        have hlook := NS.look H.out (show y.size ≤ maxLen by unfold maxLen; omega)
        cases hv : inB y F with
        | false =>
          as_aux_lemma =>
            have Hr := hid (show stmtE F Bn last ⟨3, d, us, ts⟩ = 5 from stmtE_5 Ht.out (S := F) rfl (all_no (p := fun x => inB x F) Hget.out hv))
            rw [hv] at hlook
            clear hv
            go_wp2_with fail
            go_ret
            exact ⟨ret_i Hr.out, HB.out⟩
        | true =>
          as_aux_lemma =>
            have Hr := hid (take_all (p := fun x => inB x F) hX.out Hget.out hv)
            rw [hv] at hlook
            clear hv
            go_wp2_with fail
            go_roundw
            case rel => exact ⟨k + 1, by omega, by go_num, Hr, by first | exact hid rfl | exact hid trivial⟩
            case measure => simp [intOf]; omega
      · as_aux_lemma =>
          obtain rfl : k = m := by omega
          have Hr := hid (show stmtE F Bn last ⟨3, d, us, ts⟩ = 0 from stmtE_0 Ht.out (S := F) rfl (by rw [← List.take_length (l := ts), HL.out]; exact hX.out))
          go_wp2_with fail
          go_ret
          exact ⟨ret_i Hr.out, HB.out⟩
set_option maxHeartbeats 3200000 in
theorem chk_other (o : Int) (d : ByteArray) (A : Option Addr) (n c : Nat) (B : Option Addr) (m c2 : Nat) (us ts : List ByteArray) (last : Bool) (b1 b2 : Nat) (F Bn : List ByteArray) (w : World)
    (hT : SArg w B m ts) (h1 : NS w b1 Bn) (h2 : NS w b2 F) (ho : (o == 3) = false) :
    Calls Tryd.prog 132 #[.agg #[.int .i64 o, .string d, .slice A n c, .slice B m c2], .bool last, .map (some b1), .map (some b2)] w fun e w' => e = .returned (.int .i64 (stmtE F Bn last ⟨o, d, us, ts⟩)) ∧ Below w.heap.size w w' := by
  have hb2 := (Below.refl w.heap.size w).alloc (Nat.le_refl _) (.cells #[.int .i64 o, .string d, .slice A n c, .slice B m c2] 57)
  have HB := hid hb2
  have Hf := hid (Fb.new w #[.int .i64 o, .string d, .slice A n c, .slice B m c2] 57)
  have HT := hid (hT.below hb2)
  have H := hid (h1.below hb2)
  have hm := hT.few
  have HL := hid hT.len
  have Ho := hid ho
  clear hb2 hT h1 h2
  go_enter Tryd.func132, Tryd.ntmps132
  go_wp2_with fail
  refine (term_any _ _).mono ?_
  rintro e w2 ⟨rfl, rfl⟩
  cases ht : (termB o == last) with
  | false =>
    as_aux_lemma =>
      have Hr := hid (show stmtE F Bn last ⟨o, d, us, ts⟩ = 4 from stmtE_4 (by show (!(termB o == last)) = true; rw [ht]; rfl))
      go_wp2_with fail
      go_ret
      exact ⟨ret_i Hr.out, HB.out⟩
  | true =>
    have Ht := hid (show (termB o != last) = false by show (!(termB o == last)) = false; rw [ht]; rfl)
    have hlt := Hf.out.lt
    obtain ⟨a0, a1, a2, a3⟩ := Fb.four Hf.out
    go_wp2_with fail
    clear a0 a1 a2 a3 ht hlt
    go_loopw [11, 25] (fun _ iv wr => ∃ k : Nat, k ≤ m ∧ iv = .int .i64 k ∧ Hid ((ts.take k).all (fun x => inB x Bn) = true) ∧ Hid (w.alloc (.cells #[.int .i64 o, .string d, .slice A n c, .slice B m c2] 57) = wr)) (fun _ iv _ => m - (intOf iv).toNat)
    case atStart => exact ⟨0, by omega, rfl, hid rfl, hid rfl⟩
    case round =>
      obtain ⟨k, hk, rfl, hX, hW⟩ := hrel
      have hW' := hW.out
      subst hW'
      clear hW
      by_cases hlt : k < m
      · obtain ⟨ad, rfl, hb, hc, hs⟩ := HT.out.cell hlt
        have Hget := hid (show ts[k]? = some (ts.getD k ByteArray.empty) by rw [List.getD_eq_getElem?_getD, List.getElem?_eq_getElem (by have := HL.out; omega)]; rfl)
        generalize ts.getD k ByteArray.empty = y at *
        have hlook := NS.look H.out (show y.size ≤ maxLen by unfold maxLen; omega)
        cases hv : inB y Bn with
        | false =>
          as_aux_lemma =>
            have Hr := hid (show stmtE F Bn last ⟨o, d, us, ts⟩ = 5 from stmtE_5 Ht.out (S := Bn) (by rw [Ho.out]; rfl) (all_no (p := fun x => inB x Bn) Hget.out hv))
            rw [hv] at hlook
            clear hv
            go_wp2_with fail
            go_ret
            exact ⟨ret_i Hr.out, HB.out⟩
        | true =>
          as_aux_lemma =>
            have Hr := hid (take_all (p := fun x => inB x Bn) hX.out Hget.out hv)
            rw [hv] at hlook
            clear hv
            go_wp2_with fail
            go_roundw
            case rel => exact ⟨k + 1, by omega, by go_num, Hr, by first | exact hid rfl | exact hid trivial⟩
            case measure => simp [intOf]; omega
      · as_aux_lemma =>
          obtain rfl : k = m := by omega
          have Hr := hid (show stmtE F Bn last ⟨o, d, us, ts⟩ = 0 from stmtE_0 Ht.out (S := Bn) (by rw [Ho.out]; rfl) (by rw [← List.take_length (l := ts), HL.out]; exact hX.out))
          go_wp2_with fail
          go_ret
          exact ⟨ret_i Hr.out, HB.out⟩
theorem checkStmt_any (x : SH) (ex : List (Option Nat)) (last : Bool) (b1 b2 : Nat) (F Bn : List ByteArray) (w : World) (h : SHok w ex x) (h1 : NS w b1 Bn) (h2 : NS w b2 F) :
    Calls Tryd.prog 132 #[.agg #[.int .i64 x.t.op, .string x.t.d, .slice x.A x.n x.c, .slice x.B x.m x.c2], .bool last, .map (some b1), .map (some b2)] w fun e w' => e = .returned (.int .i64 (stmtE F Bn last x.t)) ∧ Below w.heap.size w w' := by
  obtain ⟨A, n, c, B, m, c2, ⟨o, d, us, ts⟩⟩ := x
  have ha := h.arg.targets
  simp only at ha
  cases ho : (o == 3) with
  | true =>
    obtain rfl : o = 3 := by simpa using ho
    exact chk_call d A n c B m c2 us ts last b1 b2 F Bn w ha h1 h2
  | false => exact chk_other o d A n c B m c2 us ts last b1 b2 F Bn w ha h1 h2 ho
/-- The map and the index came back. -/
def RetC (w : World) (ns : List ByteArray) (e : Ending) (w' : World) : Prop :=
  ∃ b : Nat, e = .returned (.tuple #[.map (some b), .int .i64 (dupI ns)]) ∧ Below w.heap.size w w' ∧ (dupI ns = -1 → NS w' b ns)
theorem retC_mk {w w' : World} {ns : List ByteArray} {b : Nat} {v : Int} (h : dupI ns = v) (hb : Below w.heap.size w w') (hn : v = -1 → NS w' b ns) : RetC w ns (.returned (.tuple #[.map (some b), .int .i64 v])) w' :=
  ⟨b, by rw [h], hb, fun e => hn (h ▸ e)⟩
theorem funcName_any (nm : ByteArray) (A : Option Addr) (n c : Nat) (w : World) : Calls Tryd.prog 95 #[.agg #[.string nm, .slice A n c]] w fun e w' => e = .returned (.string nm) ∧ Below w.heap.size w w' := by
  have HB := hid ((Below.refl w.heap.size w).alloc (Nat.le_refl _) (.cells #[.string nm, .slice A n c] 51))
  go_enter Tryd.func95, Tryd.ntmps95
  go_wp2
  go_ret
  exact ⟨rfl, HB.out⟩
set_option maxHeartbeats 3200000 in
theorem collectF_any (x : PH) (ex : List (Option Nat)) (w : World) (h : PHok w ex x) :
    Calls Tryd.prog 94 #[.slice x.A x.n x.c, .func (Fn.func 95) #[] #[]] w (RetC w (x.l.map fun y => y.name)) := by
  have HX := hid h
  have hn := h.few
  have HL := hid h.len
  obtain ⟨A, n, c, l⟩ := x
  simp only at hn HL
  have HB0 := hid ((Below.refl w.heap.size w).alloc (Nat.le_refl _) (.map #[] 0))
  have HN0 := hid (NS.made w)
  have HLn := hid (show (l.map fun y => y.name).length = n by rw [List.length_map]; exact HL.out)
  clear h
  have hmm := @run_makeMap Tryd.prog
  go_enter Tryd.func94, Tryd.ntmps94
  go_wp2_with fail
  clear hmm
  generalize w.alloc (.map #[] 0) = w0 at HN0 HB0 ⊢
  go_loopw [7, 8, 12] (fun _ _ iv wr => ∃ k : Nat, k ≤ n ∧ iv = .int .i64 k ∧ Hid ((List.range k).findSome? (dupAt (l.map fun y => y.name)) = none) ∧ Hid (NS wr w.heap.size ((l.map fun y => y.name).take k)) ∧ Hid (Below w.heap.size w wr)) (fun _ _ iv _ => n - (intOf iv).toNat)
  case atStart => exact ⟨0, by omega, rfl, hid rfl, HN0.out, HB0.out⟩
  case round =>
    clear HN0 HB0
    obtain ⟨k, hk, rfl, hX, hN, hB⟩ := hrel
    by_cases hlt : k < n
    · obtain ⟨y, hy, hym⟩ := get_at HL.out hlt
      have HPr := hid (HX.out.go (Go2.below hB.out))
      obtain ⟨ad, hA, had, hc1, hc2⟩ := FH.cells HPr.out.lies hy
      have hys := hid (show y.name.size ≤ maxLen by have := (HPr.out.all y hym).small; unfold maxLen; omega)
      have Hget := hid (show (l.map fun y => y.name)[k]? = some y.name by rw [List.getElem?_map, hy]; rfl)
      simp only at hA
      subst hA
      have hb2 := (Below.refl wr.heap.size wr).alloc (Nat.le_refl _) (.cells #[.string y.name, .slice y.A y.n y.c] 51)
      have HN2 := hid (hN.out.below hb2)
      have HB2 := hid (below_step hB.out hb2)
      have Hf2 := hid (Fb.new wr #[.string y.name, .slice y.A y.n y.c] 51)
      clear hy hym HPr hb2 hN hB
      go_wp2_with fail
      refine (funcName_any y.name y.A y.n y.c _).mono ?_
      rintro e w2 ⟨rfl, hb3⟩
      have HN3 := hid (HN2.out.below hb3)
      have HB3 := hid (below_step HB2.out hb3)
      have Hf3 := hid (Hf2.out.below hb3 Hf2.out.lt)
      have hlook := NS.look HN3.out hys.out
      have hlt3 := Hf3.out.lt
      obtain ⟨f0, f1⟩ := Hf3.out.twoc
      clear hb3 HN2 HB2 Hf2 hc1 hc2 had
      cases hv : inB y.name ((l.map fun y => y.name).take k) with
      | true =>
        as_aux_lemma =>
          rw [hv] at hlook
          have Hr := hid (dup_hit hX.out (by rw [HLn.out]; exact hlt) Hget.out hv)
          clear hv
          go_wp2_with fail
          go_ret2
          exact retC_mk Hr.out HB3.out (fun h => by omega)
      | false =>
        rw [hv] at hlook
        have Hr := hid (some_step hX.out (dup_no Hget.out hv))
        have Htk := hid (take_one Hget.out)
        have Hlk := hid (show ((l.map fun y => y.name).take k).length ≤ 40 by have := List.length_take_le k (l.map fun y => y.name); omega)
        clear hv
        go_wp2_with fail
        refine (funcName_any y.name y.A y.n y.c _).mono ?_
        rintro e w4 ⟨rfl, hb4⟩
        have HN4 := hid (HN3.out.below hb4)
        have HB4 := hid (below_step HB3.out hb4)
        clear hb4 HN3 HB3 Hf3 f0 f1 hlook
        as_aux_lemma =>
          go_wp2_with (at_mapUpdate; refine wp_put rfl _ _ _ rfl w.heap.size _ rfl HN4.out (by have := Hlk.out; unfold maxLen; omega) y.name hys.out rfl rfl ?_; intro w5 hn5 hg5)
          have HN5 := hid (hn5.congr (S' := (l.map fun y => y.name).take (k + 1)) (by rw [Htk.out]; simp) (fun q => by rw [Htk.out]; simp [or_comm]))
          have HB5 := hid (after_app HB4.out hg5 (Nat.le_refl _))
          clear hn5 hg5
          go_wp2_with fail
          go_roundw
          case rel => exact ⟨k + 1, by omega, by go_num, Hr, HN5, HB5⟩
          case measure => simp [intOf]; omega
    · as_aux_lemma =>
        obtain rfl : k = n := by omega
        have Hr := hid (dup_end hX.out HLn.out.symm)
        have HN1 := hid (show NS wr w.heap.size (l.map fun y => y.name) by have := hN.out; rwa [← HLn.out, List.take_length] at this)
        go_wp2_with fail
        go_ret2
        exact retC_mk Hr.out hB.out (fun _ => HN1.out)
theorem blockName_any (nm : ByteArray) (A : Option Addr) (n c : Nat) (w : World) : Calls Tryd.prog 131 #[.agg #[.string nm, .slice A n c]] w fun e w' => e = .returned (.string nm) ∧ Below w.heap.size w w' := by
  have HB := hid ((Below.refl w.heap.size w).alloc (Nat.le_refl _) (.cells #[.string nm, .slice A n c] 54))
  go_enter Tryd.func131, Tryd.ntmps131
  go_wp2
  go_ret
  exact ⟨rfl, HB.out⟩
set_option maxHeartbeats 3200000 in
theorem collectB_any (x : FH) (ex : List (Option Nat)) (w : World) (h : FHok w ex x) :
    Calls Tryd.prog 130 #[.slice x.A x.n x.c, .func (Fn.func 131) #[] #[]] w (RetC w (x.l.map fun y => y.name)) := by
  have HX := hid h
  have hn := h.few
  have HL := hid h.len
  obtain ⟨nm, A, n, c, l⟩ := x
  simp only at hn HL
  have HB0 := hid ((Below.refl w.heap.size w).alloc (Nat.le_refl _) (.map #[] 0))
  have HN0 := hid (NS.made w)
  have HLn := hid (show (l.map fun y => y.name).length = n by rw [List.length_map]; exact HL.out)
  clear h
  have hmm := @run_makeMap Tryd.prog
  go_enter Tryd.func130, Tryd.ntmps130
  go_wp2_with fail
  clear hmm
  generalize w.alloc (.map #[] 0) = w0 at HN0 HB0 ⊢
  go_loopw [7, 8, 12] (fun _ _ iv wr => ∃ k : Nat, k ≤ n ∧ iv = .int .i64 k ∧ Hid ((List.range k).findSome? (dupAt (l.map fun y => y.name)) = none) ∧ Hid (NS wr w.heap.size ((l.map fun y => y.name).take k)) ∧ Hid (Below w.heap.size w wr)) (fun _ _ iv _ => n - (intOf iv).toNat)
  case atStart => exact ⟨0, by omega, rfl, hid rfl, HN0.out, HB0.out⟩
  case round =>
    clear HN0 HB0
    obtain ⟨k, hk, rfl, hX, hN, hB⟩ := hrel
    by_cases hlt : k < n
    · obtain ⟨y, hy, hym⟩ := get_at HL.out hlt
      have HPr := hid (HX.out.go (Go2.below hB.out))
      obtain ⟨ad, hA, had, hc1, hc2⟩ := BH.cells HPr.out.lies hy
      have hys := hid (show y.name.size ≤ maxLen by have := (HPr.out.all y hym).small; unfold maxLen; omega)
      have Hget := hid (show (l.map fun y => y.name)[k]? = some y.name by rw [List.getElem?_map, hy]; rfl)
      simp only at hA
      subst hA
      have hb2 := (Below.refl wr.heap.size wr).alloc (Nat.le_refl _) (.cells #[.string y.name, .slice y.A y.n y.c] 54)
      have HN2 := hid (hN.out.below hb2)
      have HB2 := hid (below_step hB.out hb2)
      have Hf2 := hid (Fb.new wr #[.string y.name, .slice y.A y.n y.c] 54)
      clear hy hym HPr hb2 hN hB
      go_wp2_with fail
      refine (blockName_any y.name y.A y.n y.c _).mono ?_
      rintro e w2 ⟨rfl, hb3⟩
      have HN3 := hid (HN2.out.below hb3)
      have HB3 := hid (below_step HB2.out hb3)
      have Hf3 := hid (Hf2.out.below hb3 Hf2.out.lt)
      have hlook := NS.look HN3.out hys.out
      have hlt3 := Hf3.out.lt
      obtain ⟨f0, f1⟩ := Hf3.out.twoc
      clear hb3 HN2 HB2 Hf2 hc1 hc2 had
      cases hv : inB y.name ((l.map fun y => y.name).take k) with
      | true =>
        as_aux_lemma =>
          rw [hv] at hlook
          have Hr := hid (dup_hit hX.out (by rw [HLn.out]; exact hlt) Hget.out hv)
          clear hv
          go_wp2_with fail
          go_ret2
          exact retC_mk Hr.out HB3.out (fun h => by omega)
      | false =>
        rw [hv] at hlook
        have Hr := hid (some_step hX.out (dup_no Hget.out hv))
        have Htk := hid (take_one Hget.out)
        have Hlk := hid (show ((l.map fun y => y.name).take k).length ≤ 40 by have := List.length_take_le k (l.map fun y => y.name); omega)
        clear hv
        go_wp2_with fail
        refine (blockName_any y.name y.A y.n y.c _).mono ?_
        rintro e w4 ⟨rfl, hb4⟩
        have HN4 := hid (HN3.out.below hb4)
        have HB4 := hid (below_step HB3.out hb4)
        clear hb4 HN3 HB3 Hf3 f0 f1 hlook
        as_aux_lemma =>
          go_wp2_with (at_mapUpdate; refine wp_put rfl _ _ _ rfl w.heap.size _ rfl HN4.out (by have := Hlk.out; unfold maxLen; omega) y.name hys.out rfl rfl ?_; intro w5 hn5 hg5)
          have HN5 := hid (hn5.congr (S' := (l.map fun y => y.name).take (k + 1)) (by rw [Htk.out]; simp) (fun q => by rw [Htk.out]; simp [or_comm]))
          have HB5 := hid (after_app HB4.out hg5 (Nat.le_refl _))
          clear hn5 hg5
          go_wp2_with fail
          go_roundw
          case rel => exact ⟨k + 1, by omega, by go_num, Hr, HN5, HB5⟩
          case measure => simp [intOf]; omega
    · as_aux_lemma =>
        obtain rfl : k = n := by omega
        have Hr := hid (dup_end hX.out HLn.out.symm)
        have HN1 := hid (show NS wr w.heap.size (l.map fun y => y.name) by have := hN.out; rwa [← HLn.out, List.take_length] at this)
        go_wp2_with fail
        go_ret2
        exact retC_mk Hr.out hB.out (fun _ => HN1.out)
end Go.Proofs.YtcgichfanfijjaaDoor

namespace Go.Proofs.YtcgichfanfijjaaDoor
set_option maxRecDepth 20000
set_option linter.unusedVariables false
set_option linter.unusedSimpArgs false
open Go.ChangeShapes Go.WideShapes Go.ChangeAt Go.RowKit

theorem dup_cases (ns : List ByteArray) : dupI ns = -1 ∨ 0 ≤ dupI ns := by
  unfold dupI
  cases h : (List.range ns.length).findSome? (dupAt ns) with
  | none => exact .inl rfl
  | some v =>
    obtain ⟨i, _, hi⟩ := List.exists_of_findSome?_eq_some h
    right
    unfold dupAt at hi
    split at hi
    · split at hi
      · injection hi with hi; subst hi; show (0 : Int) ≤ _; simp
      · cases hi
    · cases hi
/-- The first error in a block's statements: block, statement, error. -/
def stAt (F B : List ByteArray) (ss : List Stm) (k j : Nat) : Option (Int × Int × Int) :=
  match ss[j]? with | some t => if stmtE F B (decide (j + 1 = ss.length)) t == 0 then none else some ((k : Int), (j : Int), stmtE F B (decide (j + 1 = ss.length)) t) | none => none
def blkAt (F B : List ByteArray) (bs : List Blk) (k : Nat) : Option (Int × Int × Int) :=
  match bs[k]? with | some b => (List.range b.ss.length).findSome? (stAt F B b.ss k) | none => none
/-- The first error in the blocks of a function. -/
def blocksE (F : List ByteArray) (bs : List Blk) : Int × Int × Int :=
  if dupI (bs.map Blk.name) == -1 then ((List.range bs.length).findSome? (blkAt F (bs.map Blk.name) bs)).getD (0, 0, 0) else (dupI (bs.map Blk.name), -1, 6)
theorem st_none {F B : List ByteArray} {ss : List Stm} {k j : Nat} {t : Stm} {e : Int} (h : ss[j]? = some t) (he : stmtE F B (decide (j + 1 = ss.length)) t = e) (h0 : (e == 0) = true) : stAt F B ss k j = none := by
  unfold stAt; rw [h]; simp only [he, h0]; rfl
theorem st_some {F B : List ByteArray} {ss : List Stm} {k j : Nat} {t : Stm} {e : Int} (h : ss[j]? = some t) (he : stmtE F B (decide (j + 1 = ss.length)) t = e) (h0 : (e == 0) = false) : stAt F B ss k j = some ((k : Int), (j : Int), e) := by
  unfold stAt; rw [h]; simp only [he, h0]; rfl
theorem blk_at {F B : List ByteArray} {bs : List Blk} {k : Nat} {b : Blk} (h : bs[k]? = some b) : blkAt F B bs k = (List.range b.ss.length).findSome? (stAt F B b.ss k) := by unfold blkAt; rw [h]
theorem blocks_dup {F : List ByteArray} {bs : List Blk} {d : Int} (h : dupI (bs.map Blk.name) = d) (hd : 0 ≤ d) : blocksE F bs = (d, -1, 6) := by
  unfold blocksE; rw [h]; simp; omega
theorem blocks_hit {F : List ByteArray} {bs : List Blk} {k : Nat} {r : Int × Int × Int} (h : dupI (bs.map Blk.name) = -1) (h0 : (List.range k).findSome? (blkAt F (bs.map Blk.name) bs) = none) (hk : k < bs.length) (hr : blkAt F (bs.map Blk.name) bs k = some r) : blocksE F bs = r := by
  unfold blocksE; rw [h, some_hit h0 hk hr]; rfl
theorem blocks_end {F : List ByteArray} {bs : List Blk} {k : Nat} (h : dupI (bs.map Blk.name) = -1) (h0 : (List.range k).findSome? (blkAt F (bs.map Blk.name) bs) = none) (hk : k = bs.length) : blocksE F bs = (0, 0, 0) := by
  subst hk; unfold blocksE; rw [h, h0]; rfl
def RetB (w : World) (r : Int × Int × Int) (e : Ending) (w' : World) : Prop := e = .returned (.tuple #[.int .i64 r.1, .int .i64 r.2.1, .int .i64 r.2.2]) ∧ Below w.heap.size w w'
theorem retB_mk {w w' : World} {r : Int × Int × Int} {a b c : Int} (h : r = (a, b, c)) (hb : Below w.heap.size w w') : RetB w r (.returned (.tuple #[.int .i64 a, .int .i64 b, .int .i64 c])) w' := by subst h; exact ⟨rfl, hb⟩
theorem last_eq {j n : Nat} : ((j : Int) == (n : Int) - 1) = decide (j + 1 = n) := by
  rw [Bool.eq_iff_iff]; simp; omega
set_option maxHeartbeats 6400000 in
theorem checkBlocks_any (x : FH) (ex : List (Option Nat)) (bf : Nat) (F : List ByteArray) (w : World) (h : FHok w ex x) (hF : NS w bf F) :
    Calls Tryd.prog 96 #[.slice x.A x.n x.c, .map (some bf)] w (RetB w (blocksE F x.f.bs)) := by
  have HX := hid h
  have HF := hid hF
  have hn := h.few
  have HL := hid h.len
  have HC := hid (collectB_any x ex w h)
  have Hns := hid (show (x.f.bs.map Blk.name) = x.l.map fun y => y.name by simp [FH.f, List.map_map, Function.comp_def, BH.b])
  have Hlb := hid (show x.f.bs.length = x.l.length by simp [FH.f])
  clear h hF
  obtain ⟨nm, A, n, c, l⟩ := x
  simp only at hn HL HC Hns Hlb
  generalize hbs : FH.f ⟨nm, A, n, c, l⟩ = ff at *
  have Hbs := hid (show ff.bs = l.map BH.b by rw [← hbs]; rfl)
  clear hbs
  go_enter Tryd.func96, Tryd.ntmps96
  go_wp2_with fail
  refine HC.out.mono ?_
  rw [← Hns.out]
  rintro e w1 ⟨b, rfl, hb1, hn1⟩
  have HB1 := hid hb1
  have HN1 := hid hn1
  have HF1 := hid (HF.out.below hb1)
  clear hb1 hn1 HF HC
  generalize hd : dupI (ff.bs.map Blk.name) = d at *
  have Hd := hid hd
  have hdc : d = -1 ∨ 0 ≤ d := hd ▸ dup_cases _
  clear hd
  rcases hdc with hd1 | hd1
  case inr =>
    have t1 : decide (0 ≤ d) = true := by simpa using hd1
    have Hr := hid (blocks_dup (F := F) Hd.out hd1)
    clear hd1
    go_wp2_with fail
    refine bodyPost_ret (v := .tuple #[.int .i64 d, .int .i64 (-1), .int .i64 6]) (by simp [results, Tryd.results96, go_sem]) rfl ?_
    exact retB_mk Hr.out HB1.out
  case inl =>
    have HN := hid (HN1.out hd1)
    subst hd1
    clear HN1
    generalize hBn : ff.bs.map Blk.name = Bn at *
    have HBn := hid hBn
    clear hBn
    go_wp2_with fail
    go_loopw [9, 10, 11, 12, 13, 24] (fun _ _ _ _ _ iv wr => ∃ k : Nat, k ≤ n ∧ iv = .int .i64 k ∧ Hid ((List.range k).findSome? (blkAt F Bn ff.bs) = none) ∧ Hid (NS wr b Bn) ∧ Hid (NS wr bf F) ∧ Hid (Below w.heap.size w wr)) (fun _ _ _ _ _ iv _ => n - (intOf iv).toNat)
    case atStart => exact ⟨0, by omega, rfl, hid rfl, HN.out, HF1.out, HB1.out⟩
    case round =>
      clear HN HF1 HB1
      obtain ⟨k, hk, rfl, hX, hN, hF, hB⟩ := hrel
      by_cases hlt : k < n
      · obtain ⟨y, hy, hym⟩ := get_at HL.out hlt
        have HPr := hid (HX.out.go (Go2.below hB.out))
        obtain ⟨ad, hA, had, hc1, hc2⟩ := BH.cells HPr.out.lies hy
        simp only at hA
        subst hA
        have hb2 := (Below.refl wr.heap.size wr).alloc (Nat.le_refl _) (.cells #[.string y.name, .slice y.A y.n y.c] 54)
        have HN2 := hid (hN.out.below hb2)
        have HF2 := hid (hF.out.below hb2)
        have HB2 := hid (below_step hB.out hb2)
        have HG2 := hid (Fb.new wr #[.string y.name, .slice y.A y.n y.c] 54)
        have Hget := hid (show ff.bs[k]? = some y.b by rw [Hbs.out, List.getElem?_map, hy]; rfl)
        have Hya := hid (fun (v : World) (h : Below w.heap.size w v) => (HX.out.go (Go2.below h)).all y hym)
        have hyn : y.n ≤ 40 := (HPr.out.all y hym).few
        have Hyl := hid (show y.l.length = y.n from (HPr.out.all y hym).len)
        have Hss := hid (show y.b.ss = y.l.map SH.t from rfl)
        clear hy hym HPr hb2 hN hF hB
        obtain ⟨g0, g1⟩ := HG2.out.twoc
        generalize y.b = bb at *
        obtain ⟨ynm, yA, yn, yc, yl⟩ := y
        simp only at *
        go_wp2_with fail
        clear g0 g1 hc1 hc2 had
        obtain ⟨G, hG⟩ : ∃ G, wr.heap.size = G := ⟨_, rfl⟩
        rw [hG] at HG2
        rw [hG]
        clear hG
        go_loopw [11, 12, 13, 32] (fun _ _ _ iv wr => ∃ j : Nat, j ≤ yn ∧ iv = .int .i64 j ∧ Hid ((List.range j).findSome? (stAt F Bn bb.ss k) = none) ∧ Hid (NS wr b Bn) ∧ Hid (NS wr bf F) ∧ Hid (Below w.heap.size w wr) ∧ Hid (Fb wr G #[.string ynm, .slice yA yn yc] 54)) (fun _ _ _ iv _ => yn - (intOf iv).toNat)
        case atStart => exact ⟨0, by omega, rfl, hid rfl, HN2.out, HF2.out, HB2.out, HG2.out⟩
        case round =>
          clear HN2 HF2 HB2 HG2
          obtain ⟨j, hj, rfl, hY, hN, hF, hB, hG⟩ := hrel
          by_cases hlt2 : j < yn
          · obtain ⟨s, hs, hsm⟩ := get_at Hyl.out hlt2
            have HPr := hid (Hya.out _ hB.out)
            obtain ⟨ad2, hA, had, hc1, hc2, hc3, hc4⟩ := SH.cells HPr.out.lies hs
            simp only at hA
            subst hA
            have hb2 := (Below.refl wr.heap.size wr).alloc (Nat.le_refl _) (.cells #[.int .i64 s.t.op, .string s.t.d, .slice s.A s.n s.c, .slice s.B s.m s.c2] 57)
            have HS := hid ((HPr.out.all s hsm).go (Go2.below hb2))
            have HN2 := hid (hN.out.below hb2)
            have HF2 := hid (hF.out.below hb2)
            have HB2 := hid (below_step hB.out hb2)
            have HG2 := hid (hG.out.below hb2 hG.out.lt)
            have Hget2 := hid (show bb.ss[j]? = some s.t by rw [Hss.out, List.getElem?_map, hs]; rfl)
            have Hsl := hid (show bb.ss.length = yn by rw [Hss.out, List.length_map]; exact Hyl.out)
            clear hs hsm HPr hb2 hN hF hB
            obtain ⟨f0, f1⟩ := hG.out.twoc
            have hGl := hG.out.lt
            clear hG
            go_wp2_with fail
            refine (checkStmt_any s ex _ b bf F Bn _ HS.out HN2.out HF2.out).mono ?_
            rw [last_eq]
            rintro e w3 ⟨rfl, hb3⟩
            have HN3 := hid (HN2.out.below hb3)
            have HF3 := hid (HF2.out.below hb3)
            have HB3 := hid (below_step HB2.out hb3)
            have HG3 := hid (HG2.out.below hb3 HG2.out.lt)
            clear hb3 HS HN2 HF2 HB2 HG2 f0 f1 hGl hc1 hc2 hc3 hc4 had
            generalize he : stmtE F Bn (decide (j + 1 = yn)) s.t = ee at *
            have He := hid (show stmtE F Bn (decide (j + 1 = bb.ss.length)) s.t = ee by rw [Hsl.out]; exact he)
            clear he
            cases h0 : (ee == 0) with
            | false =>
              as_aux_lemma =>
                have h1 : (ee != 0) = true := by show (!(ee == 0)) = true; rw [h0]; rfl
                have Hr := hid (blocks_hit (F := F) (by rw [HBn.out]; exact Hd.out) (by rw [HBn.out]; exact hX.out) (show k < ff.bs.length by rw [Hlb.out, HL.out]; exact hlt) (by rw [HBn.out, blk_at Hget.out]; exact some_hit hY.out (by rw [Hsl.out]; exact hlt2) (st_some Hget2.out He.out h0)))
                go_wp2_with fail
                refine bodyPost_ret (v := .tuple #[.int .i64 k, .int .i64 j, .int .i64 ee]) (by simp [results, Tryd.results96, go_sem]) rfl ?_
                exact retB_mk Hr.out HB3.out
            | true =>
              as_aux_lemma =>
                have h1 : (ee != 0) = false := by show (!(ee == 0)) = false; rw [h0]; rfl
                have Hr := hid (some_step hY.out (st_none (k := k) Hget2.out He.out h0))
                go_wp2_with fail
                go_roundw
                case rel => exact ⟨j + 1, by omega, by go_num, Hr, HN3, HF3, HB3, HG3⟩
                case measure => simp [intOf]; omega
          · as_aux_lemma =>
              obtain rfl : j = yn := by omega
              have Hsl := hid (show bb.ss.length = j by rw [Hss.out, List.length_map]; exact Hyl.out)
              have Hr := hid (some_step hX.out (show blkAt F Bn ff.bs k = none by rw [blk_at Hget.out, Hsl.out]; exact hY.out))
              go_wp2_with fail
              go_roundw
              case rel => exact ⟨k + 1, by omega, by go_num, Hr, hN, hF, hB⟩
              case measure => simp [intOf]; omega
      · as_aux_lemma =>
          obtain rfl : k = n := by omega
          have Hr := hid (blocks_end (F := F) (by rw [HBn.out]; exact Hd.out) (by rw [HBn.out]; exact hX.out) (show k = ff.bs.length by rw [Hlb.out, HL.out]))
          go_wp2_with fail
          refine bodyPost_ret (v := .tuple #[.int .i64 0, .int .i64 0, .int .i64 0]) (by simp [results, Tryd.results96, go_sem]) rfl ?_
          exact retB_mk Hr.out hB.out

/-- The first error that has a place, and its node. -/
def fnAt (F : List ByteArray) (fs : List Fnc) (i : Nat) : Option ((Int × Int × Int × Int) × Int) :=
  match fs[i]? with | some f => if (blocksE F f.bs).2.2 == 0 then none else some ((3, (i : Int), (blocksE F f.bs).1, (blocksE F f.bs).2.1), (blocksE F f.bs).2.2) | none => none
def funcsE (fs : List Fnc) : (Int × Int × Int × Int) × Int :=
  if dupI (fs.map Fnc.name) == -1 then ((List.range fs.length).findSome? (fnAt (fs.map Fnc.name) fs)).getD ((0, 0, 0, 0), 0) else ((1, dupI (fs.map Fnc.name), -1, -1), 6)
theorem fn_none {F : List ByteArray} {fs : List Fnc} {i : Nat} {f : Fnc} {a b e : Int} (h : fs[i]? = some f) (he : blocksE F f.bs = (a, b, e)) (h0 : (e == 0) = true) : fnAt F fs i = none := by
  unfold fnAt; rw [h]; simp only [he, h0]; rfl
theorem fn_some {F : List ByteArray} {fs : List Fnc} {i : Nat} {f : Fnc} {a b e : Int} (h : fs[i]? = some f) (he : blocksE F f.bs = (a, b, e)) (h0 : (e == 0) = false) : fnAt F fs i = some ((3, (i : Int), a, b), e) := by
  unfold fnAt; rw [h]; simp only [he, h0]; rfl
theorem funcs_dup {fs : List Fnc} {d : Int} (h : dupI (fs.map Fnc.name) = d) (hd : 0 ≤ d) : funcsE fs = ((1, d, -1, -1), 6) := by
  unfold funcsE; rw [h]; simp; omega
theorem funcs_hit {fs : List Fnc} {k : Nat} {r : (Int × Int × Int × Int) × Int} (h : dupI (fs.map Fnc.name) = -1) (h0 : (List.range k).findSome? (fnAt (fs.map Fnc.name) fs) = none) (hk : k < fs.length) (hr : fnAt (fs.map Fnc.name) fs k = some r) : funcsE fs = r := by
  unfold funcsE; rw [h, some_hit h0 hk hr]; rfl
theorem funcs_end {fs : List Fnc} {k : Nat} (h : dupI (fs.map Fnc.name) = -1) (h0 : (List.range k).findSome? (fnAt (fs.map Fnc.name) fs) = none) (hk : k = fs.length) : funcsE fs = ((0, 0, 0, 0), 0) := by
  subst hk; unfold funcsE; rw [h, h0]; rfl
def RetNd (w : World) (r : (Int × Int × Int × Int) × Int) (e : Ending) (w' : World) : Prop :=
  e = .returned (.tuple #[.agg #[.int .i64 r.1.1, .int .i64 r.1.2.1, .int .i64 r.1.2.2.1, .int .i64 r.1.2.2.2], .int .i64 r.2]) ∧ Below w.heap.size w w'
theorem retNd_mk {w w' : World} {r : (Int × Int × Int × Int) × Int} {a b c d e : Int} (h : r = ((a, b, c, d), e)) (hb : Below w.heap.size w w') : RetNd w r (.returned (.tuple #[.agg #[.int .i64 a, .int .i64 b, .int .i64 c, .int .i64 d], .int .i64 e])) w' := by subst h; exact ⟨rfl, hb⟩
def nod0 : Array Value := #[.int .i64 0, .int .i64 0, .int .i64 0, .int .i64 0]
theorem info51 : (Tryd.prog.info? 46).map (fun i => (i.zero, i.size, i.bytes)) = some (some (.agg #[.int .i64 0, .int .i64 0, .int .i64 0, .int .i64 0]), 4, 32) := by kernel_rfl
set_option maxHeartbeats 6400000 in
theorem checkFuncs_any (x : PH) (ex : List (Option Nat)) (w : World) (h : PHok w ex x) :
    Calls Tryd.prog 59 #[.slice x.A x.n x.c] w (RetNd w (funcsE x.p)) := by
  have hb0 := (Below.refl w.heap.size w).alloc (Nat.le_refl _) (.cells #[.int .i64 0, .int .i64 0, .int .i64 0, .int .i64 0] 46)
  have HX := hid (PHok.below h hb0)
  have HG0 := hid (Fb.new w #[.int .i64 0, .int .i64 0, .int .i64 0, .int .i64 0] 46)
  have HB0 := hid hb0
  have hn := h.few
  have HL := hid h.len
  have HC := hid (collectF_any x ex _ HX.out)
  have Hns := hid (show (x.p.map Fnc.name) = x.l.map fun y => y.name by simp [PH.p, List.map_map, Function.comp_def, FH.f])
  have Hlb := hid (show x.p.length = x.l.length by simp [PH.p])
  clear h hb0
  obtain ⟨A, n, c, l⟩ := x
  simp only at hn HL HC Hns Hlb
  generalize hbs : PH.p ⟨A, n, c, l⟩ = fs at *
  have Hbs := hid (show fs = l.map FH.f by rw [← hbs]; rfl)
  clear hbs
  go_enter Tryd.func59, Tryd.ntmps59
  go_wp2_with fail
  generalize w.alloc (.cells #[.int .i64 0, .int .i64 0, .int .i64 0, .int .i64 0] 46) = w0 at *
  have hgg : w.heap.size < w0.heap.size := HG0.out.lt
  refine HC.out.mono ?_
  rw [← Hns.out]
  rintro e w1 ⟨b, rfl, hb1, hn1⟩
  have HB1 := hid (below_step HB0.out hb1)
  have HW1 := hid hb1
  have HN1 := hid hn1
  have HG1 := hid (HG0.out.below hb1 HG0.out.lt)
  clear hb1 hn1 HC HB0 HG0
  generalize hd : dupI (fs.map Fnc.name) = d at *
  have Hd := hid hd
  have hdc : d = -1 ∨ 0 ≤ d := hd ▸ dup_cases _
  clear hd
  rcases hdc with hd1 | hd1
  case inr =>
    have t1 : decide (0 ≤ d) = true := by simpa using hd1
    have Hr := hid (funcs_dup Hd.out hd1)
    have HZ := hid (fun a b c d => (((HB1.out.setCell (p := ⟨w.heap.size, 0, none⟩) (Nat.le_refl _) a).setCell (p := ⟨w.heap.size, 1, none⟩) (Nat.le_refl _) b).setCell (p := ⟨w.heap.size, 2, none⟩) (Nat.le_refl _) c).setCell (p := ⟨w.heap.size, 3, none⟩) (Nat.le_refl _) d)
    obtain ⟨g0, g1, g2, g3⟩ := Fb.four HG1.out
    have z0 := HG1.out.frozen 0
    have z1 := HG1.out.frozen 1
    have z2 := HG1.out.frozen 2
    have z3 := HG1.out.frozen 3
    have hlt1 := HG1.out.lt
    clear hd1
    go_wp2_with fail
    refine bodyPost_ret (v := .tuple #[.agg #[.int .i64 1, .int .i64 d, .int .i64 (-1), .int .i64 (-1)], .int .i64 6]) (by simp [results, Tryd.results59, go_sem, g0, g1, g2, g3, z0, z1, z2, z3, hlt1]) rfl ?_
    exact retNd_mk Hr.out (HZ.out _ _ _ _)
  case inl =>
    have HN := hid (HN1.out hd1)
    subst hd1
    clear HN1
    generalize hBn : fs.map Fnc.name = Bn at *
    have HBn := hid hBn
    clear hBn
    go_wp2_with fail
    go_loopw [6, 7, 8, 9, 10, 22] (fun _ _ _ _ _ iv wr => ∃ k : Nat, k ≤ n ∧ iv = .int .i64 k ∧ Hid ((List.range k).findSome? (fnAt Bn fs) = none) ∧ Hid (NS wr b Bn) ∧ Hid (Below w0.heap.size w0 wr) ∧ Hid (Below w.heap.size w wr) ∧ Hid (Fb wr w.heap.size #[.int .i64 0, .int .i64 0, .int .i64 0, .int .i64 0] 46)) (fun _ _ _ _ _ iv _ => n - (intOf iv).toNat)
    case atStart => exact ⟨0, by omega, rfl, hid rfl, HN.out, HW1.out, HB1.out, HG1.out⟩
    case round =>
      clear HN HW1 HB1 HG1
      obtain ⟨k, hk, rfl, hX, hN, hW, hB, hG⟩ := hrel
      by_cases hlt : k < n
      · obtain ⟨y, hy, hym⟩ := get_at HL.out hlt
        have HPr := hid (HX.out.go (Go2.below hW.out))
        obtain ⟨ad, hA, had, hc1, hc2⟩ := FH.cells HPr.out.lies hy
        simp only at hA
        subst hA
        have hb2 := (Below.refl wr.heap.size wr).alloc (Nat.le_refl _) (.cells #[.string y.name, .slice y.A y.n y.c] 51)
        have HN2 := hid (hN.out.below hb2)
        have HW2 := hid (below_step hW.out hb2)
        have HB2 := hid (below_step hB.out hb2)
        have HG2 := hid (hG.out.below hb2 hG.out.lt)
        have HY2 := hid ((HPr.out.all y hym).go (Go2.below hb2))
        have Hget := hid (show fs[k]? = some y.f by rw [Hbs.out, List.getElem?_map, hy]; rfl)
        clear hy hym HPr hb2 hN hW hB hG
        go_wp2_with fail
        refine (checkBlocks_any y ex b Bn _ HY2.out HN2.out).mono ?_
        have hq : ∃ q, blocksE Bn y.f.bs = q := ⟨_, rfl⟩
        obtain ⟨⟨qa, qb, qe⟩, hq⟩ := hq
        rw [hq]
        rintro e w3 ⟨rfl, hb3⟩
        have HN3 := hid (HN2.out.below hb3)
        have HW3 := hid (below_step HW2.out hb3)
        have HB3 := hid (below_step HB2.out hb3)
        have HG3 := hid (HG2.out.below hb3 HG2.out.lt)
        have Hq := hid hq
        clear hb3 HN2 HW2 HB2 HG2 HY2 hc1 hc2 had hq
        cases h0 : (qe == 0) with
        | false =>
          as_aux_lemma =>
            have h1 : (qe != 0) = true := by show (!(qe == 0)) = true; rw [h0]; rfl
            have Hr := hid (funcs_hit (by rw [HBn.out]; exact Hd.out) (by rw [HBn.out]; exact hX.out) (show k < fs.length by rw [Hlb.out, HL.out]; exact hlt) (by rw [HBn.out]; exact fn_some Hget.out Hq.out h0))
            have HZ := hid (fun a b c d => (((HB3.out.setCell (p := ⟨w.heap.size, 0, none⟩) (Nat.le_refl _) a).setCell (p := ⟨w.heap.size, 1, none⟩) (Nat.le_refl _) b).setCell (p := ⟨w.heap.size, 2, none⟩) (Nat.le_refl _) c).setCell (p := ⟨w.heap.size, 3, none⟩) (Nat.le_refl _) d)
            obtain ⟨g0, g1, g2, g3⟩ := Fb.four HG3.out
            have z0 := HG3.out.frozen 0
            have z1 := HG3.out.frozen 1
            have z2 := HG3.out.frozen 2
            have z3 := HG3.out.frozen 3
            have hlt1 := HG3.out.lt
            go_wp2_with fail
            refine bodyPost_ret (v := .tuple #[.agg #[.int .i64 3, .int .i64 k, .int .i64 qa, .int .i64 qb], .int .i64 qe]) (by simp [results, Tryd.results59, go_sem, g0, g1, g2, g3, z0, z1, z2, z3, hlt1]) rfl ?_
            exact retNd_mk Hr.out (HZ.out _ _ _ _)
        | true =>
          as_aux_lemma =>
            have h1 : (qe != 0) = false := by show (!(qe == 0)) = false; rw [h0]; rfl
            have Hr := hid (some_step hX.out (fn_none Hget.out Hq.out h0))
            go_wp2_with fail
            go_roundw
            case rel => exact ⟨k + 1, by omega, by go_num, Hr, HN3, HW3, HB3, HG3⟩
            case measure => simp [intOf]; omega
      · as_aux_lemma =>
          obtain rfl : k = n := by omega
          have Hr := hid (funcs_end (by rw [HBn.out]; exact Hd.out) (by rw [HBn.out]; exact hX.out) (show k = fs.length by rw [Hlb.out, HL.out]))
          have HZ := hid (fun a b c d => (((hB.out.setCell (p := ⟨w.heap.size, 0, none⟩) (Nat.le_refl _) a).setCell (p := ⟨w.heap.size, 1, none⟩) (Nat.le_refl _) b).setCell (p := ⟨w.heap.size, 2, none⟩) (Nat.le_refl _) c).setCell (p := ⟨w.heap.size, 3, none⟩) (Nat.le_refl _) d)
          obtain ⟨g0, g1, g2, g3⟩ := Fb.four hG.out
          have z0 := hG.out.frozen 0
          have z1 := hG.out.frozen 1
          have z2 := hG.out.frozen 2
          have z3 := hG.out.frozen 3
          have hlt1 := hG.out.lt
          go_wp2_with fail
          refine bodyPost_ret (v := .tuple #[.agg #[.int .i64 0, .int .i64 0, .int .i64 0, .int .i64 0], .int .i64 0]) (by simp [results, Tryd.results59, go_sem, g0, g1, g2, g3, z0, z1, z2, z3, hlt1]) rfl ?_
          exact retNd_mk Hr.out (HZ.out _ _ _ _)
end Go.Proofs.YtcgichfanfijjaaDoor

namespace Go.Proofs.YtcgichfanfijjaaDoor
set_option maxRecDepth 20000
set_option linter.unusedVariables false
set_option linter.unusedSimpArgs false
open Go.ChangeShapes Go.WideShapes Go.ChangeAt Go.RowKit

theorem ret_b {a b : Bool} (h : a = b) : Ending.returned (.bool b) = Ending.returned (.bool a) := by rw [h]
theorem wi_nat (n h : Nat) : wiB (n : Int) 1 (h : Int) = (decide (1 ≤ n) && decide (n ≤ h)) := by
  unfold wiB
  rw [decide_eq_decide.2 (show (1 : Int) ≤ (n : Int) ↔ 1 ≤ n by omega), decide_eq_decide.2 (show (n : Int) ≤ (h : Int) ↔ n ≤ h by omega)]
theorem stm_off {o : Int} (h : ¬ (1 ≤ o ∧ o ≤ 9)) (d : ByteArray) (us ts : List ByteArray) : stmB ⟨o, d, us, ts⟩ = false := by
  unfold stmB okP
  simp only
  rw [if_neg (by omega), if_neg (by omega), if_neg (by omega), if_neg (by omega), if_neg (by omega), if_neg (by omega), if_neg (by omega)]
  simp
set_option maxHeartbeats 1600000 in
theorem validStmt_any (x : SH) (ex : List (Option Nat)) (w : World) (h : SHok w ex x) (hs : Shp w) :
    Calls Tryd.prog 170 #[.agg #[.int .i64 x.t.op, .string x.t.d, .slice x.A x.n x.c, .slice x.B x.m x.c2]] w fun e w' => e = .returned (.bool (stmB x.t)) ∧ Below w.heap.size w w' := by
  obtain ⟨A, n, c, B, m, c2, ⟨o, d, us, ts⟩⟩ := x
  have ha := h.arg
  simp only at ha
  by_cases h1 : 1 ≤ o ∧ o ≤ 9
  · rcases (show o = 1 ∨ o = 2 ∨ o = 3 ∨ o = 4 ∨ o = 5 ∨ o = 6 ∨ o = 7 ∨ o = 8 ∨ o = 9 by omega) with rfl | rfl | rfl | rfl | rfl | rfl | rfl | rfl | rfl
    · exact validStmt_1 d A n c B m c2 us ts w ha hs
    · exact validStmt_2 d A n c B m c2 us ts w ha hs
    · exact validStmt_3 d A n c B m c2 us ts w ha hs
    · exact validStmt_4 d A n c B m c2 us ts w ha hs
    · exact validStmt_5 d A n c B m c2 us ts w ha hs
    · exact validStmt_6 d A n c B m c2 us ts w ha hs
    · exact validStmt_7 d A n c B m c2 us ts w ha hs
    · exact validStmt_8 d A n c B m c2 us ts w ha hs
    · exact validStmt_9 d A n c B m c2 us ts w ha hs
  · have Hr := hid (stm_off h1 d us ts)
    have hw : wiB o 1 9 = false := by unfold wiB; rw [Bool.and_eq_false_iff]; simp; omega
    have HB := hid ((Below.refl w.heap.size w).alloc (Nat.le_refl _) (.cells #[.int .i64 o, .string d, .slice A n c, .slice B m c2] 57))
    clear h ha h1
    go_enter Tryd.func170, Tryd.ntmps170
    go_wp2_with fail
    refine (within_any _ _ _ _).mono ?_
    rintro e w2 ⟨rfl, rfl⟩
    go_wp2_with fail
    go_ret
    exact ⟨ret_b Hr.out, HB.out⟩
theorem allS_any_t {l : List SH} {k : Nat} {y : SH} (h : (l.take k).all (fun y => stmB y.t) = true) (hy : l[k]? = some y) (hp : stmB y.t = true) : (l.take (k + 1)).all (fun y => stmB y.t) = true := take_all (p := fun y : SH => stmB y.t) h hy hp
theorem allS_any_n {l : List SH} {k : Nat} {y : SH} (hy : l[k]? = some y) (hp : stmB y.t = false) : l.all (fun y => stmB y.t) = false := all_no (p := fun y : SH => stmB y.t) hy hp
set_option maxHeartbeats 1600000 in
theorem allS_any (x : BH) (ex : List (Option Nat)) (w : World) (h : BHok w ex x) (hs : Shp w) :
    Calls Tryd.prog 169 #[.slice x.A x.n x.c, .func (Fn.func 170) #[] #[]] w fun e w' => e = .returned (.bool (x.l.all fun y => stmB y.t)) ∧ Below w.heap.size w w' := by
  have HX := hid h
  have Hs := hid hs
  have hn := h.few
  have HL := hid h.len
  have hpos := hs.pos0
  clear h hs
  obtain ⟨nm, A, n, c, l⟩ := x
  simp only at hn HL
  go_enter Tryd.func169, Tryd.ntmps169
  go_wp2_with fail
  go_loopw [6, 9] (fun _ iv wr => ∃ k : Nat, k ≤ n ∧ iv = .int .i64 k ∧ Hid ((l.take k).all (fun y => stmB y.t) = true) ∧ Hid (Below w.heap.size w wr)) (fun _ iv _ => n - (intOf iv).toNat)
  case atStart => exact ⟨0, by omega, rfl, hid rfl, Below.refl _ _⟩
  case round =>
    obtain ⟨k, hk, rfl, hX, hB⟩ := hrel
    by_cases hlt : k < n
    · obtain ⟨y, hy, hym⟩ := get_at HL.out hlt
      have HPr := hid (HX.out.go (Go2.below hB.out))
      obtain ⟨ad, hA, had, hcs⟩ := SH.cells HPr.out.lies hy
      have Hy := hid (HPr.out.all y hym)
      have Hget := hid hy
      simp only at hA
      subst hA
      have hz := hB.out.size
      have hb2 := (Below.refl wr.heap.size wr).alloc (Nat.le_refl _) (.cells #[.int .i64 y.t.op, .string y.t.d, .slice y.A y.n y.c, .slice y.B y.m y.c2] 57)
      have Hy2 := hid (Hy.out.go (Go2.below hb2))
      have Hs2 := hid ((Hs.out.keep (hB.out.block 0 hpos)).keep (hb2.block 0 (by omega)))
      have HB2 := hid (below_step hB.out hb2)
      clear hy hym HPr hb2 Hy
      obtain ⟨hc1, hc2, hc3, hc4⟩ := hcs
      go_wp2_with fail
      refine (validStmt_any y ex _ Hy2.out Hs2.out).mono ?_
      rintro e w2 ⟨rfl, hb2⟩
      have HB3 := hid (below_step HB2.out hb2)
      clear hb2 Hy2 Hs2 HB2 hc1 hc2 hc3 hc4 had hz
      cases hv : (stmB y.t) with
      | false =>
        as_aux_lemma =>
          have Hr := hid (allS_any_n Hget.out hv)
          clear hv
          go_wp2_with fail
          go_ret
          exact ⟨ret_b Hr.out, HB3.out⟩
      | true =>
        as_aux_lemma =>
          have Hr := hid (allS_any_t hX.out Hget.out hv)
          clear hv
          go_wp2_with fail
          go_roundw
          case rel => exact ⟨k + 1, by omega, by go_num, Hr, HB3⟩
          case measure => simp [intOf]; omega
    · as_aux_lemma =>
        obtain rfl : k = n := by omega
        have Hr := hid (show (l.all fun y => stmB y.t) = true by rw [← List.take_length (l := l), HL.out]; exact hX.out)
        go_wp2_with fail
        go_ret
        exact ⟨ret_b Hr.out, hB.out⟩
set_option maxHeartbeats 1600000 in
theorem validBlock_any (x : BH) (ex : List (Option Nat)) (w : World) (h : BHok w ex x) (hs : Shp w) :
    Calls Tryd.prog 129 #[.agg #[.string x.name, .slice x.A x.n x.c]] w fun e w' => e = .returned (.bool (blkB x.b)) ∧ Below w.heap.size w w' := by
  obtain ⟨nm, A, n, c, l⟩ := x
  have hb2 := (Below.refl w.heap.size w).alloc (Nat.le_refl _) (.cells #[.string nm, .slice A n c] 54)
  have HX := hid (h.go (Go2.below hb2))
  have Hs := hid (hs.keep (hb2.block 0 hs.pos0))
  have Hf := hid (Fb.new w #[.string nm, .slice A n c] 54)
  have HB := hid hb2
  have Hnm := hid (show nm.size ≤ maxLen by have := h.small; simp only at this; unfold maxLen; omega)
  have Hl := hid (show l.length = n from h.len)
  have Hp := hid (show blkB (BH.b ⟨nm, A, n, c, l⟩) = (nameB nm && wiB n 1 32 && l.all fun y => stmB y.t) by
    rw [show wiB (n : Int) 1 32 = (decide (1 ≤ n) && decide (n ≤ 32)) from wi_nat n 32]; unfold blkB; simp [BH.b, Hl.out, List.all_map, Function.comp_def, Bool.and_assoc])
  have hn := h.few
  simp only at hn
  clear hb2 h hs
  go_enter Tryd.func129, Tryd.ntmps129
  go_wp2_with fail
  refine (devIsName_any nm _ Hnm.out).mono ?_
  rintro e w2 ⟨rfl, rfl⟩
  cases hv : nameB nm with
  | false =>
    as_aux_lemma =>
      have Hr := hid (Hp.out.trans (show (nameB nm && wiB n 1 32 && l.all fun y => stmB y.t) = false by rw [hv]; rfl))
      clear hv
      go_wp2_with fail
      go_ret
      exact ⟨ret_b Hr.out, HB.out⟩
  | true =>
    have Hv := hid hv
    clear hv
    obtain ⟨a0, a1⟩ := Hf.out.twoc
    go_wp2_with fail
    refine (within_any _ _ _ _).mono ?_
    rintro e w3 ⟨rfl, rfl⟩
    cases hx : wiB n 1 32 with
    | false =>
      as_aux_lemma =>
        have Hr := hid (Hp.out.trans (by rw [hx]; simp : _ = false))
        clear hx
        go_wp2_with fail
        go_ret
        exact ⟨ret_b Hr.out, HB.out⟩
    | true =>
      have Hr := hid (Hp.out.trans (by rw [hx, Hv.out]; rfl : _ = l.all fun y => stmB y.t))
      clear hx
      go_wp2_with fail
      refine (allS_any ⟨nm, A, n, c, l⟩ ex _ HX.out Hs.out).mono ?_
      rintro e w4 ⟨rfl, hb4⟩
      have HB4 := hid (below_step HB.out hb4)
      clear hb4
      cases hy : (l.all fun y => stmB y.t) with
      | false =>
        as_aux_lemma =>
          rw [hy] at Hr
          clear hy
          go_wp2_with fail
          go_ret
          exact ⟨ret_b Hr.out, HB4.out⟩
      | true =>
        as_aux_lemma =>
          rw [hy] at Hr
          clear hy
          go_wp2_with fail
          go_ret
          exact ⟨ret_b Hr.out, HB4.out⟩
theorem allB_any_t {l : List BH} {k : Nat} {y : BH} (h : (l.take k).all (fun y => blkB y.b) = true) (hy : l[k]? = some y) (hp : blkB y.b = true) : (l.take (k + 1)).all (fun y => blkB y.b) = true := take_all (p := fun y : BH => blkB y.b) h hy hp
theorem allB_any_n {l : List BH} {k : Nat} {y : BH} (hy : l[k]? = some y) (hp : blkB y.b = false) : l.all (fun y => blkB y.b) = false := all_no (p := fun y : BH => blkB y.b) hy hp
set_option maxHeartbeats 1600000 in
theorem allB_any (x : FH) (ex : List (Option Nat)) (w : World) (h : FHok w ex x) (hs : Shp w) :
    Calls Tryd.prog 128 #[.slice x.A x.n x.c, .func (Fn.func 129) #[] #[]] w fun e w' => e = .returned (.bool (x.l.all fun y => blkB y.b)) ∧ Below w.heap.size w w' := by
  have HX := hid h
  have Hs := hid hs
  have hn := h.few
  have HL := hid h.len
  have hpos := hs.pos0
  clear h hs
  obtain ⟨nm, A, n, c, l⟩ := x
  simp only at hn HL
  go_enter Tryd.func128, Tryd.ntmps128
  go_wp2_with fail
  go_loopw [6, 9] (fun _ iv wr => ∃ k : Nat, k ≤ n ∧ iv = .int .i64 k ∧ Hid ((l.take k).all (fun y => blkB y.b) = true) ∧ Hid (Below w.heap.size w wr)) (fun _ iv _ => n - (intOf iv).toNat)
  case atStart => exact ⟨0, by omega, rfl, hid rfl, Below.refl _ _⟩
  case round =>
    obtain ⟨k, hk, rfl, hX, hB⟩ := hrel
    by_cases hlt : k < n
    · obtain ⟨y, hy, hym⟩ := get_at HL.out hlt
      have HPr := hid (HX.out.go (Go2.below hB.out))
      obtain ⟨ad, hA, had, hcs⟩ := BH.cells HPr.out.lies hy
      have Hy := hid (HPr.out.all y hym)
      have Hget := hid hy
      simp only at hA
      subst hA
      have hz := hB.out.size
      have hb2 := (Below.refl wr.heap.size wr).alloc (Nat.le_refl _) (.cells #[.string y.name, .slice y.A y.n y.c] 54)
      have Hy2 := hid (Hy.out.go (Go2.below hb2))
      have Hs2 := hid ((Hs.out.keep (hB.out.block 0 hpos)).keep (hb2.block 0 (by omega)))
      have HB2 := hid (below_step hB.out hb2)
      clear hy hym HPr hb2 Hy
      obtain ⟨hc1, hc2⟩ := hcs
      go_wp2_with fail
      refine (validBlock_any y ex _ Hy2.out Hs2.out).mono ?_
      rintro e w2 ⟨rfl, hb2⟩
      have HB3 := hid (below_step HB2.out hb2)
      clear hb2 Hy2 Hs2 HB2 hc1 hc2 had hz
      cases hv : (blkB y.b) with
      | false =>
        as_aux_lemma =>
          have Hr := hid (allB_any_n Hget.out hv)
          clear hv
          go_wp2_with fail
          go_ret
          exact ⟨ret_b Hr.out, HB3.out⟩
      | true =>
        as_aux_lemma =>
          have Hr := hid (allB_any_t hX.out Hget.out hv)
          clear hv
          go_wp2_with fail
          go_roundw
          case rel => exact ⟨k + 1, by omega, by go_num, Hr, HB3⟩
          case measure => simp [intOf]; omega
    · as_aux_lemma =>
        obtain rfl : k = n := by omega
        have Hr := hid (show (l.all fun y => blkB y.b) = true by rw [← List.take_length (l := l), HL.out]; exact hX.out)
        go_wp2_with fail
        go_ret
        exact ⟨ret_b Hr.out, hB.out⟩
set_option maxHeartbeats 1600000 in
theorem validFunc_any (x : FH) (ex : List (Option Nat)) (w : World) (h : FHok w ex x) (hs : Shp w) :
    Calls Tryd.prog 93 #[.agg #[.string x.name, .slice x.A x.n x.c]] w fun e w' => e = .returned (.bool (fncB x.f)) ∧ Below w.heap.size w w' := by
  obtain ⟨nm, A, n, c, l⟩ := x
  have hb2 := (Below.refl w.heap.size w).alloc (Nat.le_refl _) (.cells #[.string nm, .slice A n c] 51)
  have HX := hid (h.go (Go2.below hb2))
  have Hs := hid (hs.keep (hb2.block 0 hs.pos0))
  have Hf := hid (Fb.new w #[.string nm, .slice A n c] 51)
  have HB := hid hb2
  have Hnm := hid (show nm.size ≤ maxLen by have := h.small; simp only at this; unfold maxLen; omega)
  have Hl := hid (show l.length = n from h.len)
  have Hp := hid (show fncB (FH.f ⟨nm, A, n, c, l⟩) = (nameB nm && wiB n 1 16 && l.all fun y => blkB y.b) by
    rw [show wiB (n : Int) 1 16 = (decide (1 ≤ n) && decide (n ≤ 16)) from wi_nat n 16]; unfold fncB; simp [FH.f, Hl.out, List.all_map, Function.comp_def, Bool.and_assoc])
  have hn := h.few
  simp only at hn
  clear hb2 h hs
  go_enter Tryd.func93, Tryd.ntmps93
  go_wp2_with fail
  refine (devIsName_any nm _ Hnm.out).mono ?_
  rintro e w2 ⟨rfl, rfl⟩
  cases hv : nameB nm with
  | false =>
    as_aux_lemma =>
      have Hr := hid (Hp.out.trans (show (nameB nm && wiB n 1 16 && l.all fun y => blkB y.b) = false by rw [hv]; rfl))
      clear hv
      go_wp2_with fail
      go_ret
      exact ⟨ret_b Hr.out, HB.out⟩
  | true =>
    have Hv := hid hv
    clear hv
    obtain ⟨a0, a1⟩ := Hf.out.twoc
    go_wp2_with fail
    refine (within_any _ _ _ _).mono ?_
    rintro e w3 ⟨rfl, rfl⟩
    cases hx : wiB n 1 16 with
    | false =>
      as_aux_lemma =>
        have Hr := hid (Hp.out.trans (by rw [hx]; simp : _ = false))
        clear hx
        go_wp2_with fail
        go_ret
        exact ⟨ret_b Hr.out, HB.out⟩
    | true =>
      have Hr := hid (Hp.out.trans (by rw [hx, Hv.out]; rfl : _ = l.all fun y => blkB y.b))
      clear hx
      go_wp2_with fail
      refine (allB_any ⟨nm, A, n, c, l⟩ ex _ HX.out Hs.out).mono ?_
      rintro e w4 ⟨rfl, hb4⟩
      have HB4 := hid (below_step HB.out hb4)
      clear hb4
      cases hy : (l.all fun y => blkB y.b) with
      | false =>
        as_aux_lemma =>
          rw [hy] at Hr
          clear hy
          go_wp2_with fail
          go_ret
          exact ⟨ret_b Hr.out, HB4.out⟩
      | true =>
        as_aux_lemma =>
          rw [hy] at Hr
          clear hy
          go_wp2_with fail
          go_ret
          exact ⟨ret_b Hr.out, HB4.out⟩
theorem allF_any_t {l : List FH} {k : Nat} {y : FH} (h : (l.take k).all (fun y => fncB y.f) = true) (hy : l[k]? = some y) (hp : fncB y.f = true) : (l.take (k + 1)).all (fun y => fncB y.f) = true := take_all (p := fun y : FH => fncB y.f) h hy hp
theorem allF_any_n {l : List FH} {k : Nat} {y : FH} (hy : l[k]? = some y) (hp : fncB y.f = false) : l.all (fun y => fncB y.f) = false := all_no (p := fun y : FH => fncB y.f) hy hp
set_option maxHeartbeats 1600000 in
theorem allF_any (x : PH) (ex : List (Option Nat)) (w : World) (h : PHok w ex x) (hs : Shp w) :
    Calls Tryd.prog 92 #[.slice x.A x.n x.c, .func (Fn.func 93) #[] #[]] w fun e w' => e = .returned (.bool (x.l.all fun y => fncB y.f)) ∧ Below w.heap.size w w' := by
  have HX := hid h
  have Hs := hid hs
  have hn := h.few
  have HL := hid h.len
  have hpos := hs.pos0
  clear h hs
  obtain ⟨A, n, c, l⟩ := x
  simp only at hn HL
  go_enter Tryd.func92, Tryd.ntmps92
  go_wp2_with fail
  go_loopw [6, 9] (fun _ iv wr => ∃ k : Nat, k ≤ n ∧ iv = .int .i64 k ∧ Hid ((l.take k).all (fun y => fncB y.f) = true) ∧ Hid (Below w.heap.size w wr)) (fun _ iv _ => n - (intOf iv).toNat)
  case atStart => exact ⟨0, by omega, rfl, hid rfl, Below.refl _ _⟩
  case round =>
    obtain ⟨k, hk, rfl, hX, hB⟩ := hrel
    by_cases hlt : k < n
    · obtain ⟨y, hy, hym⟩ := get_at HL.out hlt
      have HPr := hid (HX.out.go (Go2.below hB.out))
      obtain ⟨ad, hA, had, hcs⟩ := FH.cells HPr.out.lies hy
      have Hy := hid (HPr.out.all y hym)
      have Hget := hid hy
      simp only at hA
      subst hA
      have hz := hB.out.size
      have hb2 := (Below.refl wr.heap.size wr).alloc (Nat.le_refl _) (.cells #[.string y.name, .slice y.A y.n y.c] 51)
      have Hy2 := hid (Hy.out.go (Go2.below hb2))
      have Hs2 := hid ((Hs.out.keep (hB.out.block 0 hpos)).keep (hb2.block 0 (by omega)))
      have HB2 := hid (below_step hB.out hb2)
      clear hy hym HPr hb2 Hy
      obtain ⟨hc1, hc2⟩ := hcs
      go_wp2_with fail
      refine (validFunc_any y ex _ Hy2.out Hs2.out).mono ?_
      rintro e w2 ⟨rfl, hb2⟩
      have HB3 := hid (below_step HB2.out hb2)
      clear hb2 Hy2 Hs2 HB2 hc1 hc2 had hz
      cases hv : (fncB y.f) with
      | false =>
        as_aux_lemma =>
          have Hr := hid (allF_any_n Hget.out hv)
          clear hv
          go_wp2_with fail
          go_ret
          exact ⟨ret_b Hr.out, HB3.out⟩
      | true =>
        as_aux_lemma =>
          have Hr := hid (allF_any_t hX.out Hget.out hv)
          clear hv
          go_wp2_with fail
          go_roundw
          case rel => exact ⟨k + 1, by omega, by go_num, Hr, HB3⟩
          case measure => simp [intOf]; omega
    · as_aux_lemma =>
        obtain rfl : k = n := by omega
        have Hr := hid (show (l.all fun y => fncB y.f) = true by rw [← List.take_length (l := l), HL.out]; exact hX.out)
        go_wp2_with fail
        go_ret
        exact ⟨ret_b Hr.out, hB.out⟩
set_option maxHeartbeats 1600000 in
theorem devValid_any (x : PH) (ex : List (Option Nat)) (w : World) (h : PHok w ex x) (hs : Shp w) :
    Calls Tryd.prog 58 #[.agg #[.slice x.A x.n x.c]] w fun e w' => e = .returned (.bool (prgB x.p)) ∧ Below w.heap.size w w' := by
  obtain ⟨A, n, c, l⟩ := x
  have hb2 := (Below.refl w.heap.size w).alloc (Nat.le_refl _) (.cells #[.slice A n c] 24)
  have HX := hid (h.go (Go2.below hb2))
  have Hs := hid (hs.keep (hb2.block 0 hs.pos0))
  have Hf := hid (Fb.new w #[.slice A n c] 24)
  have HB := hid hb2
  have Hl := hid (show l.length = n from h.len)
  have Hp := hid (show prgB (PH.p ⟨A, n, c, l⟩) = (wiB n 1 8 && l.all fun y => fncB y.f) by
    rw [show wiB (n : Int) 1 8 = (decide (1 ≤ n) && decide (n ≤ 8)) from wi_nat n 8]; unfold prgB; simp [PH.p, Hl.out, List.all_map, Function.comp_def])
  have hn := h.few
  simp only at hn
  clear hb2 h hs
  go_enter Tryd.func58, Tryd.ntmps58
  go_wp2_with fail
  refine (within_any _ _ _ _).mono ?_
  rintro e w3 ⟨rfl, rfl⟩
  have a0 := Hf.out.onec
  cases hx : wiB n 1 8 with
  | false =>
    as_aux_lemma =>
      have Hr := hid (Hp.out.trans (by rw [hx]; simp : _ = false))
      clear hx
      go_wp2_with fail
      go_ret
      exact ⟨ret_b Hr.out, HB.out⟩
  | true =>
    have Hr := hid (Hp.out.trans (by rw [hx]; rfl : _ = l.all fun y => fncB y.f))
    clear hx
    go_wp2_with fail
    refine (allF_any ⟨A, n, c, l⟩ ex _ HX.out Hs.out).mono ?_
    rintro e w4 ⟨rfl, hb4⟩
    have HB4 := hid (below_step HB.out hb4)
    clear hb4
    cases hy : (l.all fun y => fncB y.f) with
    | false =>
      as_aux_lemma =>
        rw [hy] at Hr
        clear hy
        go_wp2_with fail
        go_ret
        exact ⟨ret_b Hr.out, HB4.out⟩
    | true =>
      as_aux_lemma =>
        rw [hy] at Hr
        clear hy
        go_wp2_with fail
        go_ret
        exact ⟨ret_b Hr.out, HB4.out⟩
end Go.Proofs.YtcgichfanfijjaaDoor

namespace Go.Proofs.YtcgichfanfijjaaDoor
set_option maxRecDepth 20000
set_option linter.unusedVariables false
set_option linter.unusedSimpArgs false
open Go.ChangeShapes Go.WideShapes Go.ChangeAt Go.RowKit

def fncS (f : Fnc) : List Stm := f.bs.flatMap Blk.ss
def stmtsP (p : List Fnc) : List Stm := if prgB p then p.flatMap fncS else []
theorem blk_parts {b : Blk} (h : blkB b = true) : 1 ≤ b.ss.length ∧ b.ss.length ≤ 32 ∧ ∀ s ∈ b.ss, stmB s = true := by
  unfold blkB at h
  simp only [Bool.and_eq_true, decide_eq_true_eq] at h
  exact ⟨h.1.1.2, h.1.2, fun s hs => List.all_eq_true.1 h.2 s hs⟩
theorem fnc_parts {f : Fnc} (h : fncB f = true) : 1 ≤ f.bs.length ∧ f.bs.length ≤ 16 ∧ ∀ b ∈ f.bs, blkB b = true := by
  unfold fncB at h
  simp only [Bool.and_eq_true, decide_eq_true_eq] at h
  exact ⟨h.1.1.2, h.1.2, fun s hs => List.all_eq_true.1 h.2 s hs⟩
theorem prg_parts {p : List Fnc} (h : prgB p = true) : 1 ≤ p.length ∧ p.length ≤ 8 ∧ ∀ f ∈ p, fncB f = true := by
  unfold prgB at h
  simp only [Bool.and_eq_true, decide_eq_true_eq] at h
  exact ⟨h.1.1, h.1.2, fun s hs => List.all_eq_true.1 h.2 s hs⟩
theorem flat_mem {α β : Type} {f : α → List β} {l : List α} {P : β → Prop} (h : ∀ a ∈ l, ∀ b ∈ f a, P b) : ∀ b ∈ l.flatMap f, P b := by
  intro b hb
  obtain ⟨a, ha, hb⟩ := List.mem_flatMap.1 hb
  exact h a ha b hb
theorem stmts_ok {p : List Fnc} : ∀ s ∈ stmtsP p, stmB s = true := by
  unfold stmtsP
  split
  · next h => exact flat_mem fun f hf => flat_mem fun b hb => (blk_parts ((fnc_parts ((prg_parts h).2.2 f hf)).2.2 b hb)).2.2
  · simp
theorem one_shc2 (l : List SH) : ∀ u ∈ l.flatMap shc, u.oneCell' = true := flat_mem fun x _ => by
  intro u hu
  simp [shc] at hu
  rcases hu with rfl | rfl | rfl | rfl <;> rfl
/-- The statements' list came back. -/
def RetSt (w0 w : World) (p : List Fnc) (e : Ending) (w' : World) : Prop :=
  ∃ (A : Option Addr) (c : Nat) (l : List SH), e = .returned (.slice A l.length c) ∧ l.map SH.t = stmtsP p ∧ l.length ≤ 4096 ∧ (∀ ex : List (Option Nat), (∀ k, some k ∈ ex → k < w.heap.size) → EAt w' ex A (l.flatMap shc)) ∧ (∀ y ∈ l, SHok w0 [] y) ∧ Below w.heap.size w w'
/-- The list of statements that is built, beside what it is built of. -/
structure Stg (w0 w : World) (v : Value) (m : Nat) (L : List SH) (wr : World) : Prop where
  own : wr.ownsRow (w.heap.size + 1) 57 4 v m (L.flatMap shc)
  len : m = L.length
  all : ∀ y ∈ L, SHok w0 [] y
  bel : Below w.heap.size w wr
  siz : w.heap.size + 1 ≤ wr.heap.size
theorem Stg.below {w0 w wr w' : World} {v : Value} {m : Nat} {L : List SH} (h : Stg w0 w v m L wr) (hb : Below wr.heap.size wr w') : Stg w0 w v m L w' :=
  ⟨own_below h.own hb, h.len, h.all, below_step h.bel hb, Nat.le_trans h.siz hb.size⟩
theorem Stg.push {w0 w wr w' : World} {v : Value} {m n g cap : Nat} {L l : List SH} (h : Stg w0 w v m L wr) (hall : ∀ y ∈ l, SHok w0 [] y) (hn : l.length = n)
    (hown : w'.ownsRow (w.heap.size + 1) 57 4 (.slice (some ⟨g, 0, none⟩) (m + n) cap) (m + n) (L.flatMap shc ++ l.flatMap shc)) (hg : wr.grownBy w' v.ownBlock) : Stg w0 w (.slice (some ⟨g, 0, none⟩) (m + n) cap) (m + n) (L ++ l) w' := by
  refine ⟨by rw [List.flatMap_append]; exact hown, by rw [List.length_append, h.len, hn], fun y hy => (List.mem_append.1 hy).elim (h.all y) (hall y), ?_, Nat.le_trans h.siz hg.size⟩
  exact h.bel.grown hg h.bel.size (fun k hk => by have := (h.own.lt k hk).1; omega)
theorem info46 : (Tryd.prog.info? 57).map (fun i => (i.zero, i.size, i.bytes)) = some (some (.agg #[.int .i64 0, .string ⟨#[]⟩, .slice none 0 0, .slice none 0 0]), 4, 72) := by kernel_rfl
set_option maxHeartbeats 6400000 in
theorem statements_any (x : PH) (ex : List (Option Nat)) (wz w : World) (h : PHok wz ex x) (hwz : Below wz.heap.size wz w) (hs : Shp w) :
    Calls Tryd.prog 61 #[.agg #[.slice x.A x.n x.c]] w (RetSt wz w x.p) := by
  obtain ⟨i1, hi, hz0, hz1, hz2⟩ := info_parts info46
  have Hi := hid hi; have Hz0 := hid hz0; have Hz1 := hid hz1; have Hz2 := hid hz2
  clear hi hz0 hz1 hz2
  have hx0 : PHok wz [] x := h.go (Go2.less wz (by simp))
  have Hwz := hid hwz
  have hb0 := (Below.refl w.heap.size w).alloc (Nat.le_refl _) (.cells #[.slice x.A x.n x.c] 24)
  have HX := hid hx0
  have HB0 := hid hb0
  have HG0 := hid (Fb.new w #[.slice x.A x.n x.c] 24)
  have HV := hid (devValid_any x [] _ (PHok.below (PHok.below hx0 hwz) hb0) (hs.keep (hb0.block 0 hs.pos0)))
  have hsz0 := hid (show (w.alloc (.cells #[.slice x.A x.n x.c] 24)).heap.size = w.heap.size + 1 by rw [World.size_alloc])
  have hn := h.few
  have HL := hid h.len
  clear h hb0 hx0 hs hwz
  obtain ⟨A, n, c, l⟩ := x
  simp only at *
  go_enter Tryd.func61, Tryd.ntmps61
  go_wp2_with fail
  generalize w.alloc (.cells #[.slice A n c] 24) = w0 at *
  refine HV.out.mono ?_
  rintro e w1 ⟨rfl, hb1⟩
  have HB1 := hid (below_step HB0.out hb1)
  have HG1 := hid (HG0.out.below hb1 HG0.out.lt)
  have HS1 := hid (show w.heap.size + 1 ≤ w1.heap.size by have := hb1.size; have := hsz0.out; omega)
  clear hb1 HB0 HG0 HV hsz0
  cases hv : prgB (PH.p ⟨A, n, c, l⟩) with
  | false =>
    as_aux_lemma =>
      have Hr := hid (show stmtsP (PH.p ⟨A, n, c, l⟩) = [] by unfold stmtsP; rw [hv]; rfl)
      clear hv
      go_wp2_with fail
      go_ret
      exact ⟨none, 0, [], rfl, by rw [Hr.out]; rfl, by simp, fun _ _ => EAt.nil _ _ _, by simp, HB1.out⟩
  | true =>
    have Hr := hid (show stmtsP (PH.p ⟨A, n, c, l⟩) = l.flatMap (fun y => fncS y.f) by unfold stmtsP PH.p; rw [show prgB (l.map FH.f) = true from hv, if_pos rfl, List.flatMap_map])
    have HP := hid (prg_parts hv)
    have hn8 : n ≤ 8 := by have := HP.out.2.1; have := HL.out; simp [PH.p] at *; omega
    have Hf := hid (fun (y : FH) (hy : y ∈ l) => fnc_parts (HP.out.2.2 y.f (List.mem_map_of_mem hy)))
    clear hv
    have HO := hid (show Stg wz w (.slice none 0 0) 0 [] w1 from ⟨World.ownsRow_nil _ _ _ _, rfl, by simp, HB1.out, HS1.out⟩)
    obtain g0 := HG1.out.onec
    clear HB1 HS1 HP
    go_wp2_with fail
    clear g0 HG1
    go_loopw [3, 5, 7, 14] (fun sv _ _ iv wr => ∃ (k m : Nat) (v : Value) (L : List SH), k ≤ n ∧ iv = .int .i64 k ∧ sv = v ∧ m ≤ k * 512 ∧ Hid (L.map SH.t = (l.take k).flatMap (fun y => fncS y.f)) ∧ Hid (Stg wz w v m L wr)) (fun _ _ _ iv _ => n - (intOf iv).toNat)
    case atStart => exact ⟨0, 0, _, [], by omega, rfl, rfl, by omega, hid rfl, HO.out⟩
    case round =>
      clear HO
      obtain ⟨k, m, v, L, hk, rfl, rfl, hm, hE, hO⟩ := hrel
      by_cases hlt : k < n
      · obtain ⟨y, hy, hym⟩ := get_at HL.out hlt
        have HPr := hid (HX.out.go (Go2.below (below_step Hwz.out hO.out.bel)))
        obtain ⟨ad, hA, had, hc1, hc2⟩ := FH.cells HPr.out.lies hy
        simp only at hA
        subst hA
        have hb2 := (Below.refl wr.heap.size wr).alloc (Nat.le_refl _) (.cells #[.string y.name, .slice y.A y.n y.c] 51)
        have HO2 := hid (hO.out.below hb2)
        have HG2 := hid (Fb.new wr #[.string y.name, .slice y.A y.n y.c] 51)
        have Hy := hid (HX.out.all y hym)
        have Hyl := hid (show y.l.length = y.n from (HX.out.all y hym).len)
        have hyn : y.n ≤ 16 := by have := (Hf.out y hym).2.1; have := Hyl.out; simp [FH.f] at *; omega
        have Hyb := hid (fun (z : BH) (hz : z ∈ y.l) => blk_parts ((Hf.out y hym).2.2 z.b (List.mem_map_of_mem hz)))
        have Hstep := hid (show (l.take (k + 1)).flatMap (fun y => fncS y.f) = (l.take k).flatMap (fun y => fncS y.f) ++ fncS y.f by rw [List.take_add_one, hy, List.flatMap_append]; simp)
        have Hfs := hid (show fncS y.f = y.l.flatMap (fun z => z.b.ss) by unfold fncS FH.f; rw [List.flatMap_map])
        clear hy hym HPr hb2 hO
        obtain ⟨g0, g1⟩ := HG2.out.twoc
        obtain ⟨ynm, yA, yn, yc, yl⟩ := y
        simp only at *
        go_wp2_with fail
        clear g0 g1 hc1 hc2 had HG2
        go_loopw [3, 7, 21] (fun sv _ iv wr => ∃ (j m2 : Nat) (v : Value) (L2 : List SH), j ≤ yn ∧ iv = .int .i64 j ∧ sv = v ∧ m2 ≤ k * 512 + j * 32 ∧ Hid (L2.map SH.t = (l.take k).flatMap (fun y => fncS y.f) ++ (yl.take j).flatMap (fun z => z.b.ss)) ∧ Hid (Stg wz w v m2 L2 wr)) (fun _ _ iv _ => yn - (intOf iv).toNat)
        case atStart => exact ⟨0, m, _, L, by omega, rfl, rfl, by omega, hid (by rw [hE.out]; simp), HO2.out⟩
        case round =>
          clear HO2
          obtain ⟨j, m2, v2, L2, hj, rfl, rfl, hm2, hE2, hO⟩ := hrel
          by_cases hlt2 : j < yn
          · obtain ⟨z, hz, hzm⟩ := get_at Hyl.out hlt2
            have HPr := hid (Hy.out.go (Go2.below (below_step Hwz.out hO.out.bel)))
            obtain ⟨ad2, hA, had, hc1, hc2⟩ := BH.cells HPr.out.lies hz
            simp only at hA
            subst hA
            have hb2 := (Below.refl wr.heap.size wr).alloc (Nat.le_refl _) (.cells #[.string z.name, .slice z.A z.n z.c] 54)
            have HO2 := hid (hO.out.below hb2)
            have HG2 := hid (Fb.new wr #[.string z.name, .slice z.A z.n z.c] 54)
            have HZ := hid ((HPr.out.all z hzm).lies.go (Go2.below hb2))
            have Hza := hid (Hy.out.all z hzm).all
            have Hzl := hid (show z.l.length = z.n from (HPr.out.all z hzm).len)
            have hzn : 1 ≤ z.n ∧ z.n ≤ 32 := by have h1 := (Hyb.out z hzm).1; have h2 := (Hyb.out z hzm).2.1; have := Hzl.out; simp [BH.b] at *; omega
            have Hstep2 := hid (show (yl.take (j + 1)).flatMap (fun z => z.b.ss) = (yl.take j).flatMap (fun z => z.b.ss) ++ z.l.map SH.t by rw [List.take_add_one, hz, List.flatMap_append]; simp [BH.b])
            clear hz hzm HPr hb2 hO
            obtain ⟨g0, g1⟩ := HG2.out.twoc
            obtain ⟨znm, zA, zn, zc, zl⟩ := z
            simp only at *
            obtain ⟨za, rfl, hzs, hzc⟩ : ∃ ad, zA = some ad ∧ Safe _ [] ad.block ∧ ∀ j u, (zl.flatMap shc)[j]? = some u → World.cell? _ (ad.add j) = some u := by
              rcases HZ.out with h | h
              · have := flat_len shc_len zl; rw [h] at this; simp at this; have := Hzl.out; omega
              · exact h
            have Hzc := hid hzc
            have Hnl := hid (show (zl.flatMap shc).length = zn * 4 by rw [flat_len shc_len, Hzl.out])
            clear hzc hzs
            go_wp2_with ((
              at_builtin
              refine wpList_append_lies _ rfl _ _ 52 rfl (w.heap.size + 1) 57 i1 _ 4 72 Tryd.underlying52 Hi.out Hz0.out Hz1.out Hz2.out rfl (by decide) _ m2 (L2.flatMap shc) rfl HO2.out.own za zn zc (zl.flatMap shc) rfl Hnl.out Hzc.out (one_shc2 zl) (by omega) (by unfold maxLen; omega) (by omega) HO2.out.siz _ rfl ?_
              intro g5 cap5 w5 hown5 hgr5 hat5 hlt5
              have H5 := hid (Stg.push HO2.out Hza.out Hzl.out hown5 hgr5)
              clear hown5 hgr5 hat5 hlt5))
            clear g0 g1 hc1 hc2 had HG2 HO2 HZ Hzc
            go_roundw
            case rel => exact ⟨j + 1, m2 + zn, _, L2 ++ zl, by omega, by go_num, rfl, by omega, hid (by rw [List.map_append, hE2.out, Hstep2.out, List.append_assoc]), H5⟩
            case measure => simp [intOf]; omega
          · as_aux_lemma =>
              obtain rfl : j = yn := by omega
              have Hd := hid (show L2.map SH.t = (l.take (k + 1)).flatMap (fun y => fncS y.f) by rw [hE2.out, Hstep.out, Hfs.out, ← Hyl.out, List.take_length])
              go_wp2_with fail
              go_roundw
              case rel => exact ⟨k + 1, m2, _, L2, by omega, by go_num, rfl, by omega, Hd, hO⟩
              case measure => simp [intOf]; omega
      · as_aux_lemma =>
          obtain rfl : k = n := by omega
          have Hd := hid (show L.map SH.t = stmtsP (PH.p ⟨A, k, c, l⟩) by rw [hE.out, Hr.out, ← HL.out, List.take_length])
          obtain ⟨B, cc, hvv⟩ := own_any_slice hO.out.own
          subst hvv
          have hml := hO.out.len
          go_wp2_with fail
          go_ret
          subst hml
          exact ⟨B, cc, L, rfl, Hd.out, by omega, fun ex hex => EAt.own hO.out.own (fun g hg hm => by have := (hO.out.own.lt g hg).1; have := hex g hm; omega), hO.out.all, hO.out.bel⟩
end Go.Proofs.YtcgichfanfijjaaDoor

namespace Go.Proofs.YtcgichfanfijjaaDoor
set_option maxRecDepth 20000
set_option linter.unusedVariables false
set_option linter.unusedSimpArgs false
open Go.ChangeShapes Go.WideShapes Go.ChangeAt Go.RowKit

def nodO (o : Int) : Nat := if o == 3 then 2 else 1
def edgO (o : Int) : Nat := if o == 3 then 3 else if o == 8 then 2 else 1
theorem nod_any (o : Int) (w : World) : Calls Tryd.prog 62 #[.int .i64 o] w fun e w' => e = .returned (.int .i64 (nodO o : Nat)) ∧ w = w' := by
  unfold nodO
  cases h1 : (o == 3) with
  | true =>
    go_enter Tryd.func62, Tryd.ntmps62
    go_wp2
    go_ret
    exact ⟨rfl, rfl⟩
  | false =>
    go_enter Tryd.func62, Tryd.ntmps62
    go_wp2
    go_ret
    exact ⟨rfl, rfl⟩
theorem edg_any (o : Int) (w : World) : Calls Tryd.prog 63 #[.int .i64 o] w fun e w' => e = .returned (.int .i64 (edgO o : Nat)) ∧ w = w' := by
  unfold edgO
  cases h1 : (o == 3) with
  | true =>
    go_enter Tryd.func63, Tryd.ntmps63
    go_wp2
    go_ret
    exact ⟨rfl, rfl⟩
  | false =>
    cases h2 : (o == 8) with
    | true =>
      go_enter Tryd.func63, Tryd.ntmps63
      go_wp2
      go_ret
      exact ⟨rfl, rfl⟩
    | false =>
      go_enter Tryd.func63, Tryd.ntmps63
      go_wp2
      go_ret
      exact ⟨rfl, rfl⟩
theorem nod_le (o : Int) : nodO o ≤ 2 := by unfold nodO; split <;> omega
theorem edg_le (o : Int) : edgO o ≤ 3 := by unfold edgO; split; omega; split <;> omega
def sumP (f : Int → Nat) (l : List Stm) : Nat := (l.map fun t => f t.op).sum
theorem sum_take {f : Int → Nat} {l : List Stm} {k : Nat} {t : Stm} (h : l[k]? = some t) : sumP f (l.take (k + 1)) = sumP f (l.take k) + f t.op := by
  unfold sumP; rw [List.take_add_one, h]; simp
theorem sumP_le {f : Int → Nat} {b : Nat} (hf : ∀ o, f o ≤ b) (l : List Stm) : sumP f l ≤ l.length * b := by
  unfold sumP
  induction l with
  | nil => simp
  | cons t l ih => simp only [List.map_cons, List.sum_cons, List.length_cons, Nat.succ_mul]; have := hf t.op; omega
/-- How many nodes and edges. -/
def sizesP (p : List Fnc) : Nat × Nat := if (stmtsP p).length = 0 then (0, 0) else (2 * p.length + sumP nodO (stmtsP p), p.length + sumP edgO (stmtsP p))
def RetSz (w : World) (r : Nat × Nat) (e : Ending) (w' : World) : Prop := e = .returned (.tuple #[.int .i64 (r.1 : Nat), .int .i64 (r.2 : Nat)]) ∧ Below w.heap.size w w'
theorem retSz_mk {w w' : World} {r : Nat × Nat} {a b : Nat} {x y : Int} (h : r = (a, b)) (hx : x = a) (hy : y = b) (hb : Below w.heap.size w w') : RetSz w r (.returned (.tuple #[.int .i64 x, .int .i64 y])) w' := by subst h; subst hx; subst hy; exact ⟨rfl, hb⟩
theorem sizes_none {p : List Fnc} (h : (stmtsP p).length = 0) : sizesP p = (0, 0) := by unfold sizesP; rw [if_pos h]
theorem sizes_some {p : List Fnc} {n a b : Nat} (h : (stmtsP p).length ≠ 0) (hn : p.length = n) (ha : sumP nodO (stmtsP p) = a) (hb : sumP edgO (stmtsP p) = b) : sizesP p = (2 * n + a, n + b) := by unfold sizesP; rw [if_neg h, hn, ha, hb]
set_option maxHeartbeats 3200000 in
theorem sizes_any (x : PH) (ex : List (Option Nat)) (w : World) (h : PHok w ex x) (hs : Shp w) :
    Calls Tryd.prog 28 #[.agg #[.slice x.A x.n x.c]] w (RetSz w (sizesP x.p)) := by
  have hb0 := (Below.refl w.heap.size w).alloc (Nat.le_refl _) (.cells #[.slice x.A x.n x.c] 24)
  have HB0 := hid hb0
  have HG0 := hid (Fb.new w #[.slice x.A x.n x.c] 24)
  have HS := hid (statements_any x ex _ _ (PHok.below h hb0) (Below.refl _ _) (hs.keep (hb0.block 0 hs.pos0)))
  have Hpl := hid (show x.p.length = x.n by unfold PH.p; rw [List.length_map]; exact h.len)
  have hn := h.few
  clear h hb0 hs
  obtain ⟨A, n, c, l⟩ := x
  simp only at *
  generalize PH.p ⟨A, n, c, l⟩ = p at *
  go_enter Tryd.func28, Tryd.ntmps28
  go_wp2_with fail
  generalize w.alloc (.cells #[.slice A n c] 24) = w0 at *
  refine HS.out.mono ?_
  rintro e w1 ⟨B, d, L, rfl, hL, hL4, hE, hall, hb1⟩
  have HB1 := hid (below_step HB0.out hb1)
  have HG1 := hid (HG0.out.below hb1 HG0.out.lt)
  have HL := hid hL
  have HE := hid (hE [] (by simp))
  have Hln := hid (show (stmtsP p).length = L.length by rw [← hL, List.length_map])
  clear hb1 HB0 HG0 HS hL hE hall
  by_cases h0 : L.length = 0
  · as_aux_lemma =>
      have Hr := hid (sizes_none (p := p) (by rw [Hln.out]; exact h0))
      have t0 : ((L.length : Int) == 0) = true := by simp [h0]
      have Hh := hid h0
      clear h0
      go_wp2_with fail
      go_ret2
      exact retSz_mk Hr.out rfl rfl HB1.out
  · have t0 : ((L.length : Int) == 0) = false := by simpa using h0
    have Hh := hid h0
    have hpos : 0 < L.length := by omega
    obtain g0 := HG1.out.onec
    have hm1 : IntKind.i64.wrap (2 * (n : Int)) = 2 * (n : Int) := IntWalk.i64_in _ (by omega)
    clear h0
    go_wp2_with fail
    go_quiet (fail)
    go_wp2_with fail
    clear g0 HG1 hm1 t0
    have HB2 := hid (fun q => below_drewN HB1.out q)
    have HW2 := hid (fun q => below_drewN (Below.refl w1.heap.size w1) q)
    go_loopw [5, 6, 8, 23] (fun a b _ iv wr => ∃ (k : Nat) (za zb : Int), k ≤ L.length ∧ iv = .int .i64 k ∧ a = .int .i64 za ∧ b = .int .i64 zb ∧ 0 ≤ za ∧ za ≤ 80 + 2 * k ∧ 0 ≤ zb ∧ zb ≤ 40 + 3 * k ∧ Hid (za = ((2 * n + sumP nodO ((L.map SH.t).take k) : Nat) : Int)) ∧ Hid (zb = ((n + sumP edgO ((L.map SH.t).take k) : Nat) : Int)) ∧ Hid (Below w.heap.size w wr) ∧ Hid (Below w1.heap.size w1 wr)) (fun _ _ _ iv _ => L.length - (intOf iv).toNat)
    case atStart => exact ⟨0, _, _, by omega, rfl, rfl, rfl, by omega, by omega, by omega, by omega, hid (by show (2 * (n : Int)) = ((2 * n + 0 : Nat) : Int); simp), hid (by show (n : Int) = ((n + 0 : Nat) : Int); simp), hid (HB2.out _), hid (HW2.out _)⟩
    case round =>
      clear HB2 HW2
      obtain ⟨k, za, zb, hk, rfl, rfl, rfl, hz0, hz1, hz2, hz3, hza, hzb, hB, hW⟩ := hrel
      by_cases hlt : k < L.length
      · obtain ⟨y, hy, hym⟩ := get_at (rfl : L.length = L.length) hlt
        obtain ⟨ad, hA, had, hc1, hc2, hc3, hc4⟩ := SH.cells (HE.out.go (Go2.below hW.out)) hy
        subst hA
        have hb2 := (Below.refl wr.heap.size wr).alloc (Nat.le_refl _) (.cells #[.int .i64 y.t.op, .string y.t.d, .slice y.A y.n y.c, .slice y.B y.m y.c2] 57)
        have HB2 := hid (below_step hB.out hb2)
        have HW2 := hid (below_step hW.out hb2)
        have HG2 := hid (Fb.new wr #[.int .i64 y.t.op, .string y.t.d, .slice y.A y.n y.c, .slice y.B y.m y.c2] 57)
        have Hget := hid (show (L.map SH.t)[k]? = some y.t by rw [List.getElem?_map, hy]; rfl)
        have hq1 := nod_le y.t.op
        have hq2 := edg_le y.t.op
        have Hq1 := hid (sum_take (f := nodO) Hget.out)
        have Hq2 := hid (sum_take (f := edgO) Hget.out)
        have H1 := hid (nod_any y.t.op)
        have H2 := hid (edg_any y.t.op)
        generalize nodO y.t.op = q1 at *
        generalize edgO y.t.op = q2 at *
        clear hy hym hb2 hB hW
        obtain ⟨g0, g1, g2, g3⟩ := Fb.four HG2.out
        have hL2 := hL4
        go_wp2_with fail
        refine (H1.out _).mono ?_
        rintro e w3 ⟨rfl, rfl⟩
        go_wp2_with fail
        refine (H2.out _).mono ?_
        rintro e w3 ⟨rfl, rfl⟩
        as_aux_lemma =>
          clear g0 g1 g2 g3 H1 H2
          go_wp2_with fail
          go_roundw
          case rel => exact ⟨k + 1, za + q1, zb + q2, by omega, by go_num, by go_num, by go_num, by omega, by omega, by omega, by omega, hid (by rw [hza.out, Hq1.out]; simp only [Int.natCast_add]; omega), hid (by rw [hzb.out, Hq2.out]; simp only [Int.natCast_add]; omega), HB2, HW2⟩
          case measure => simp [intOf]; omega
      · as_aux_lemma =>
          obtain rfl : k = L.length := by omega
          have Hr := hid (sizes_some (p := p) (by rw [Hln.out]; exact Hh.out) Hpl.out rfl rfl)
          have Ha := hid (show za = ((2 * n + sumP nodO (stmtsP p) : Nat) : Int) by rw [← HL.out, hza.out, List.take_of_length_le (by simp)])
          have Hb := hid (show zb = ((n + sumP edgO (stmtsP p) : Nat) : Int) by rw [← HL.out, hzb.out, List.take_of_length_le (by simp)])
          go_wp2_with fail
          go_ret2
          exact retSz_mk Hr.out Ha.out Hb.out hB.out
end Go.Proofs.YtcgichfanfijjaaDoor

namespace Go.Proofs.YtcgichfanfijjaaDoor
set_option maxRecDepth 20000
set_option linter.unusedVariables false
set_option linter.unusedSimpArgs false
open Go.ChangeShapes Go.WideShapes Go.ChangeAt Go.RowKit

def defB (o : Int) : Bool := o == 1 || (o == 4 || o == 6)
set_option maxHeartbeats 1600000 in
theorem defines_any (o : Int) (d : ByteArray) (A : Option Addr) (n c : Nat) (B : Option Addr) (m c2 : Nat) (w : World) :
    Calls Tryd.prog 97 #[.agg #[.int .i64 o, .string d, .slice A n c, .slice B m c2]] w fun e w' => e = .returned (.bool (defB o)) ∧ Below w.heap.size w w' := by
  have HB := hid ((Below.refl w.heap.size w).alloc (Nat.le_refl _) (.cells #[.int .i64 o, .string d, .slice A n c, .slice B m c2] 57))
  unfold defB
  cases h1 : (o == 1) with
  | true =>
    go_enter Tryd.func97, Tryd.ntmps97
    go_wp2
    go_ret
    exact ⟨rfl, HB.out⟩
  | false =>
    cases h2 : (o == 4) with
    | true =>
      go_enter Tryd.func97, Tryd.ntmps97
      go_wp2
      go_ret
      exact ⟨rfl, HB.out⟩
    | false =>
      cases h3 : (o == 6) with
      | true =>
        go_enter Tryd.func97, Tryd.ntmps97
        go_wp2
        go_ret
        exact ⟨rfl, HB.out⟩
      | false =>
        go_enter Tryd.func97, Tryd.ntmps97
        go_wp2
        go_ret
        exact ⟨rfl, HB.out⟩
/-- The variables of a statement in the order of its text. -/
def occP (t : Stm) : List ByteArray := if defB t.op then t.d :: t.us else t.us
def RetO (w : World) (ex : List (Option Nat)) (L : List ByteArray) (e : Ending) (w' : World) : Prop :=
  ∃ (A : Option Addr) (n c : Nat), e = .returned (.slice A n c) ∧ SSafe w' ex A n L ∧ Below w.heap.size w w'
theorem one_strs (l : List ByteArray) : ∀ u ∈ l.map Value.string, u.oneCell' = true := by
  intro u hu
  obtain ⟨x, _, rfl⟩ := List.mem_map.1 hu
  rfl
set_option maxHeartbeats 3200000 in
theorem occ_any (x : SH) (ex : List (Option Nat)) (w : World) (h : SHok w ex x) (hn4 : x.n ≤ 4) (hex : ∀ k, some k ∈ ex → k < w.heap.size) :
    Calls Tryd.prog 64 #[.agg #[.int .i64 x.t.op, .string x.t.d, .slice x.A x.n x.c, .slice x.B x.m x.c2]] w (RetO w ex (occP x.t)) := by
  obtain ⟨A, n, c, B, m, c2, ⟨o, d, us, ts⟩⟩ := x
  obtain ⟨i0, hi, hz0, hz1, hz2⟩ := info_parts info9
  have Hi := hid hi; have Hz0 := hid hz0; have Hz1 := hid hz1; have Hz2 := hid hz2
  clear hi hz0 hz1 hz2
  have hb0 := (Below.refl w.heap.size w).alloc (Nat.le_refl _) (.cells #[.int .i64 o, .string d, .slice A n c, .slice B m c2] 57)
  have HS := hid (h.uses.go (Go2.below hb0))
  have HB0 := hid hb0
  have HG0 := hid (Fb.new w #[.int .i64 o, .string d, .slice A n c, .slice B m c2] 57)
  have Hd := hid (show d.size ≤ 1000 from h.small)
  have Hsz := hid (show w.heap.size ≤ (w.alloc (.cells #[.int .i64 o, .string d, .slice A n c, .slice B m c2] 57)).heap.size by rw [World.size_alloc]; omega)
  have Hex := hid hex
  simp only at hn4
  clear hb0 h hex
  go_enter Tryd.func64, Tryd.ntmps64
  go_wp2_with fail
  generalize w.alloc (.cells #[.int .i64 o, .string d, .slice A n c, .slice B m c2] 57) = w0 at *
  refine (defines_any o d A n c B m c2 _).mono ?_
  rintro e w1 ⟨rfl, hb1⟩
  have HS1 := hid (HS.out.go (Go2.below hb1))
  have HB1 := hid (below_step HB0.out hb1)
  have HG1 := hid (HG0.out.below hb1 HG0.out.lt)
  have Hsz1 := hid (Nat.le_trans Hsz.out hb1.size)
  clear hb1 HS HB0 HG0 Hsz
  obtain ⟨g0, g1, g2, g3⟩ := Fb.four HG1.out
  cases ho : defB o with
  | false =>
    as_aux_lemma =>
      have Hr := hid (show occP ⟨o, d, us, ts⟩ = us by unfold occP; simp only [ho]; rfl)
      clear ho
      go_wp2_with fail
      go_ret
      rw [Hr.out]
      exact ⟨A, n, c, rfl, HS1.out, HB1.out⟩
  | true =>
    have Hr := hid (show occP ⟨o, d, us, ts⟩ = d :: us by unfold occP; simp only [ho]; rfl)
    clear ho
    have hb2 := (Below.refl w1.heap.size w1).alloc (Nat.le_refl _) (.cells #[.string d] 9)
    have HB2 := hid (below_step HB1.out hb2)
    have HS2 := hid (HS1.out.go (Go2.below hb2))
    have HF2 := hid (Fb.new w1 #[.string d] 9)
    have HO2 := hid (World.ownsRow_lit (base := w1.heap.size) (e := 9) (size := 1) w1 #[.string d] 1 (Nat.le_refl _) (by unfold maxLen; omega) rfl)
    have hlt := HG1.out.lt
    clear hb2
    by_cases h0 : n = 0
    · subst h0
      have Hus := hid (show us = [] from List.length_eq_zero_iff.1 HS1.out.len)
      rcases A with _ | a0
      all_goals
        go_wp2_with fail
        go_ret
        rw [Hr.out, Hus.out]
        refine ⟨_, 1, _, rfl, ⟨EAt.fb HF2.out (fun hm => by have := Hex.out _ hm; have := Hsz1.out; omega) (fun j u hu => by simpa using hu), rfl, by omega, ?_⟩, HB2.out⟩
        intro y hy
        simp at hy
        subst hy
        exact Hd.out
    · obtain ⟨ad, rfl, hs2, hc2⟩ : ∃ ad, A = some ad ∧ Safe (w1.alloc (.cells #[.string d] 9)) ex ad.block ∧ ∀ j u, (us.map Value.string)[j]? = some u → (w1.alloc (.cells #[.string d] 9)).cell? (ad.add j) = some u := by
        rcases HS2.out.lies with h | h
        · have := congrArg List.length h; have h2 := HS2.out.len; simp at this; subst this; simp at h2; omega
        · exact h
      have Hc2 := hid hc2
      have Hul := hid (show (us.map Value.string).length = n * 1 by rw [List.length_map, HS2.out.len]; omega)
      have hpos : 0 < n := by omega
      clear hs2 hc2
      go_wp2_with ((
        at_builtin
        go_must (refine wpList_append_lies _ rfl _ _ 55 rfl w1.heap.size 9 i0 _ 1 16 Tryd.underlying55 Hi.out Hz0.out Hz1.out Hz2.out rfl (by decide) _ 1 [.string d] rfl HO2.out ad n c (us.map Value.string) rfl Hul.out Hc2.out (one_strs us) hpos (by unfold maxLen; omega) (by omega) (by rw [World.size_alloc]; omega) _ rfl ?_)
        intro g5 cap5 w5 hown5 hgr5 hat5 hlt5))
      as_aux_lemma =>
        have hz := Hsz1.out
        have HB5 := hid (HB2.out.grown hgr5 HB2.out.size (fun k hk => by have := (HO2.out.lt k hk).1; omega))
        have HE := hid (EAt.own (ex := ex) hown5 (fun g hg hm => by have := (hown5.lt g hg).1; have := Hex.out _ hm; omega))
        clear hown5 hgr5 hat5 hlt5
        go_wp2_with fail
        go_ret
        rw [Hr.out]
        refine ⟨_, 1 + n, _, rfl, ⟨HE.out, by rw [List.length_cons, HS2.out.len]; omega, by omega, ?_⟩, HB5.out⟩
        intro y hy
        rcases List.mem_cons.1 hy with rfl | hy
        · exact Hd.out
        · exact HS2.out.small y hy
/-- The variables, each where it occurs first. -/
def addV (V : List ByteArray) (x : ByteArray) : List ByteArray := if inB x V then V else V ++ [x]
def varsP (p : List Fnc) : List ByteArray := ((stmtsP p).flatMap occP).foldl addV []
theorem go2_new {w wr : World} {ex : List (Option Nat)} (hb : Below w.heap.size w wr) (hex : ∀ k, some k ∈ ex → w.heap.size ≤ k) : Go2 w [] wr ex :=
  fun k hk => ⟨hb.block k hk.1, Nat.lt_of_lt_of_le hk.1 hb.size, fun h => by have := hex k h; have := hk.1; omega⟩
def exV (b : Nat) (v : Value) : List (Option Nat) := match v.ownBlock with | none => [some b] | some g => [some b, some g]
theorem exV_own {b : Nat} {v : Value} : v.ownBlock = none ∨ v.ownBlock ∈ exV b v := by
  unfold exV; cases v.ownBlock <;> simp
theorem exV_b {b : Nat} {v : Value} : some b ∈ exV b v := by unfold exV; cases v.ownBlock <;> simp
theorem exV_mem {b k : Nat} {v : Value} (h : some k ∈ exV b v) : k = b ∨ v.ownBlock = some k := by
  unfold exV at h
  cases hv : v.ownBlock with
  | none => rw [hv] at h; simp at h; exact .inl h
  | some g => rw [hv] at h; simp at h; rcases h with h | h; exact .inl h; exact .inr (by rw [h])
/-- The set and the list of the variables that were found, beside what is read. -/
structure Vst (w : World) (b : Nat) (v : Value) (m : Nat) (V : List ByteArray) (wr : World) : Prop where
  own : wr.ownsRow (w.heap.size + 2) 9 1 v m (V.map Value.string)
  len : m = V.length
  set : NS wr b V
  bel : Below w.heap.size w wr
  siz : w.heap.size + 2 ≤ wr.heap.size
  isb : b = w.heap.size + 1
  small : ∀ x ∈ V, x.size ≤ 1000
theorem Vst.ex {w wr : World} {b m : Nat} {v : Value} {V : List ByteArray} (h : Vst w b v m V wr) : (∀ k, some k ∈ exV b v → k < wr.heap.size) ∧ (∀ k, some k ∈ exV b v → w.heap.size ≤ k) := by
  constructor
  · intro k hk
    rcases exV_mem hk with rfl | hk
    · exact h.set.lt
    · exact (h.own.lt k hk).2
  · intro k hk
    rcases exV_mem hk with rfl | hk
    · have := h.isb; omega
    · have := (h.own.lt k hk).1; omega
theorem Vst.below {w wr w' : World} {b m : Nat} {v : Value} {V : List ByteArray} (h : Vst w b v m V wr) (hb : Below wr.heap.size wr w') : Vst w b v m V w' :=
  ⟨own_below h.own hb, h.len, h.set.below hb, below_step h.bel hb, Nat.le_trans h.siz hb.size, h.isb, h.small⟩
theorem below_row {w wr w' : World} {row : Option Nat} (h : Below w.heap.size w wr) (hg : wr.grownBy w' row) (hr : ∀ k, row = some k → w.heap.size ≤ k) : Below w.heap.size w w' := h.grown hg h.size hr
/-- What was put into the set but not into the list yet. -/
structure Vmid (w : World) (b : Nat) (v : Value) (m : Nat) (V : List ByteArray) (x : ByteArray) (wr : World) : Prop where
  own : wr.ownsRow (w.heap.size + 2) 9 1 v m (V.map Value.string)
  len : m = V.length
  set : NS wr b (x :: V)
  bel : Below w.heap.size w wr
  siz : w.heap.size + 2 ≤ wr.heap.size
  isb : b = w.heap.size + 1
  small : ∀ x ∈ V, x.size ≤ 1000
theorem Vst.put {w wr w' : World} {b m : Nat} {v : Value} {V : List ByteArray} {x : ByteArray} (h : Vst w b v m V wr) (hn : NS w' b (x :: V)) (hg : wr.grownBy w' (some b)) :
    Vmid w b v m V x w' ∧ Go2 wr (exV b v) w' (exV b v) := by
  have hb := h.isb
  refine ⟨⟨h.own.kept hg (.inr (fun e => by have := (h.own.lt b e).1; omega)), h.len, hn, below_row h.bel hg (fun k hk => by injection hk with hk; omega), Nat.le_trans h.siz hg.size, hb, h.small⟩, Go2.same hg (.inr exV_b)⟩
theorem Vmid.alloc {w wr : World} {b m : Nat} {v : Value} {V : List ByteArray} {x : ByteArray} (h : Vmid w b v m V x wr) (o : Obj) : Vmid w b v m V x (wr.alloc o) := by
  have hb := (Below.refl wr.heap.size wr).alloc (Nat.le_refl _) o
  exact ⟨own_below h.own hb, h.len, h.set.below hb, below_step h.bel hb, Nat.le_trans h.siz hb.size, h.isb, h.small⟩
theorem Vmid.push {w wr w' : World} {b m g cap : Nat} {v : Value} {V : List ByteArray} {x : ByteArray} (h : Vmid w b v m V x wr) (hx : x.size ≤ 1000)
    (hown : w'.ownsRow (w.heap.size + 2) 9 1 (.slice (some ⟨g, 0, none⟩) (m + 1) cap) (m + 1) (V.map Value.string ++ [.string x])) (hg : wr.grownBy w' v.ownBlock) (hat : v.ownBlock = some g ∨ g = wr.heap.size) :
    Vst w b (.slice (some ⟨g, 0, none⟩) (m + 1) cap) (m + 1) (V ++ [x]) w' ∧ Go2 wr (exV b v) w' (exV b (.slice (some ⟨g, 0, none⟩) (m + 1) cap)) := by
  have hb := h.isb
  refine ⟨⟨by rw [List.map_append]; exact hown, by rw [List.length_append, h.len]; rfl, (h.set.kept hg (fun e => by have := (h.own.lt b e.symm).1; omega)).congr (by simp) (fun k => by simp [or_comm]), below_row h.bel hg (fun k hk => by have := (h.own.lt k hk).1; omega), Nat.le_trans h.siz hg.size, hb, fun y hy => (List.mem_append.1 hy).elim (h.small y) (fun hy => by simp at hy; subst hy; exact hx)⟩, ?_⟩
  refine Go2.grown hg exV_own fun k hk hm => ?_
  rcases exV_mem hm with rfl | hm
  · exact exV_b
  · have e : g = k := by simpa [Value.ownBlock] using hm
    subst e
    rcases hat with h1 | h1
    · rcases exV_own (b := b) (v := v) with h2 | h2
      · rw [h2] at h1; cases h1
      · rw [← h1]; exact h2
    · omega
def RetV (w : World) (V : List ByteArray) (e : Ending) (w' : World) : Prop :=
  ∃ (A : Option Addr) (c : Nat), e = .returned (.slice A V.length c) ∧ SArg w' A V.length V ∧ Below w.heap.size w w'
theorem add_no {V : List ByteArray} {x : ByteArray} (h : inB x V = true) : addV V x = V := by unfold addV; rw [h]; rfl
theorem add_yes {V : List ByteArray} {x : ByteArray} (h : inB x V = false) : addV V x = V ++ [x] := by unfold addV; rw [h]; rfl
theorem fold_take {l : List ByteArray} {k : Nat} {x : ByteArray} {V0 : List ByteArray} (h : l[k]? = some x) : (l.take (k + 1)).foldl addV V0 = addV ((l.take k).foldl addV V0) x := by
  rw [List.take_add_one, h, List.foldl_append]; rfl
theorem fold_stm {l : List Stm} {k : Nat} {t : Stm} (h : l[k]? = some t) : ((l.take (k + 1)).flatMap occP).foldl addV [] = (occP t).foldl addV (((l.take k).flatMap occP).foldl addV []) := by
  rw [List.take_add_one, h, List.flatMap_append, List.foldl_append]; simp
theorem us_4 {t : Stm} (h : stmB t = true) : t.us.length ≤ 4 := by
  unfold stmB namesB at h
  simp only [Bool.and_eq_true, decide_eq_true_eq] at h
  omega
set_option maxHeartbeats 6400000 in
theorem variables_any (x : PH) (ex : List (Option Nat)) (w : World) (h : PHok w ex x) (hs : Shp w) :
    Calls Tryd.prog 29 #[.agg #[.slice x.A x.n x.c]] w (RetV w (varsP x.p)) := by
  obtain ⟨i0, hi, hz0, hz1, hz2⟩ := info_parts info9
  have Hi := hid hi; have Hz0 := hid hz0; have Hz1 := hid hz1; have Hz2 := hid hz2
  clear hi hz0 hz1 hz2
  have hb0 := (Below.refl w.heap.size w).alloc (Nat.le_refl _) (.cells #[.slice x.A x.n x.c] 24)
  have hb1 : Below w.heap.size w ((w.alloc (.cells #[.slice x.A x.n x.c] 24)).alloc (.map #[] 0)) := hb0.alloc hb0.size _
  have HB1 := hid hb1
  have HS := hid (statements_any x ex w _ h hb1 (hs.keep (hb1.block 0 hs.pos0)))
  have HG := hid ((Fb.new w #[.slice x.A x.n x.c] 24).alloc (.map #[] 0))
  have HN := hid (show NS ((w.alloc (.cells #[.slice x.A x.n x.c] 24)).alloc (.map #[] 0)) (w.heap.size + 1) [] by have := NS.made (w.alloc (.cells #[.slice x.A x.n x.c] 24)); rwa [World.size_alloc] at this)
  have Hsz := hid (show ((w.alloc (.cells #[.slice x.A x.n x.c] 24)).alloc (.map #[] 0)).heap.size = w.heap.size + 2 by rw [World.size_alloc, World.size_alloc])
  clear h hb0 hb1 hs
  obtain ⟨A, n, c, l⟩ := x
  simp only at *
  generalize PH.p ⟨A, n, c, l⟩ = p at *
  have hmm := @run_makeMap Tryd.prog
  go_enter Tryd.func29, Tryd.ntmps29
  go_wp2_with fail
  clear hmm
  generalize (w.alloc (.cells #[.slice A n c] 24)).alloc (.map #[] 0) = w0 at *
  refine HS.out.mono ?_
  rintro e w1 ⟨B, d, L, rfl, hL, hL4, hE, hall, hb1⟩
  have HV := hid (show Vst w (w.heap.size + 1) (.slice none 0 0) 0 [] w1 from ⟨World.ownsRow_nil _ _ _ _, rfl, HN.out.below hb1, below_step HB1.out hb1, by have := Hsz.out; have := hb1.size; omega, rfl, by simp⟩)
  have HE := hid (show EAt w1 (exV (w.heap.size + 1) (.slice none 0 0)) B (L.flatMap shc) from hE _ (fun k hk => by rcases exV_mem hk with rfl | hk; have := Hsz.out; omega; cases hk))
  have Hall := hid hall
  have HL := hid hL
  clear hb1 HS hL hE hall HG HN HB1 Hsz
  go_wp2_with fail
  obtain ⟨b, hb⟩ : ∃ b, w.heap.size + 1 = b := ⟨_, rfl⟩
  rw [hb] at HV HE
  rw [hb]
  clear hb
  go_loopw [3, 6, 8, 13] (fun sv _ _ iv wr => ∃ (k m : Nat) (v : Value) (V : List ByteArray), k ≤ L.length ∧ iv = .int .i64 k ∧ sv = v ∧ m ≤ k * 5 ∧ Hid (V = (((L.map SH.t).take k).flatMap occP).foldl addV []) ∧ Hid (Vst w b v m V wr) ∧ Hid (EAt wr (exV b v) B (L.flatMap shc))) (fun _ _ _ iv _ => L.length - (intOf iv).toNat)
  case atStart => exact ⟨0, 0, _, [], by omega, rfl, rfl, by omega, hid rfl, HV.out, HE.out⟩
  case round =>
    clear HV HE
    obtain ⟨k, m, v, V, hk, rfl, rfl, hm, hVe, hV, hE⟩ := hrel
    by_cases hlt : k < L.length
    · obtain ⟨y, hy, hym⟩ := get_at (rfl : L.length = L.length) hlt
      obtain ⟨ad, hA, had, hc1, hc2, hc3, hc4⟩ := SH.cells hE.out hy
      subst hA
      have hb2 := (Below.refl wr.heap.size wr).alloc (Nat.le_refl _) (.cells #[.int .i64 y.t.op, .string y.t.d, .slice y.A y.n y.c, .slice y.B y.m y.c2] 57)
      have HV2 := hid (hV.out.below hb2)
      have HE2 := hid (hE.out.go (Go2.below hb2))
      have HG2 := hid (Fb.new wr #[.int .i64 y.t.op, .string y.t.d, .slice y.A y.n y.c, .slice y.B y.m y.c2] 57)
      have HY2 := hid ((Hall.out y hym).go (go2_new HV2.out.bel HV2.out.ex.2))
      have Hget := hid (show (L.map SH.t)[k]? = some y.t by rw [List.getElem?_map, hy]; rfl)
      have hyn : y.n ≤ 4 := by
        have h1 : y.t.us.length = y.n := HY2.out.uses.len
        have h2 := us_4 (stmts_ok y.t (by rw [← HL.out]; exact List.mem_map_of_mem hym))
        omega
      have Hfo := hid (fold_stm Hget.out)
      clear hy hym hb2 hV hE
      obtain ⟨g0, g1, g2, g3⟩ := Fb.four HG2.out
      go_wp2_with fail
      refine (occ_any y _ _ HY2.out hyn HV2.out.ex.1).mono ?_
      rintro e w3 ⟨OA, on, oc, rfl, hso, hb3⟩
      have HV3 := hid (HV2.out.below hb3)
      have HE3 := hid (HE2.out.go (Go2.below hb3))
      have HO3 := hid hso
      have HOl := hid hso.len
      have hon : on ≤ 5 := by have h1 := hso.len; have h2 : (occP y.t).length ≤ y.t.us.length + 1 := by { unfold occP; split <;> simp }; have h3 : y.t.us.length = y.n := HY2.out.uses.len; omega
      clear hb3 hso HV2 HE2 HG2 HY2 g0 g1 g2 g3 hc1 hc2 hc3 hc4 had
      generalize occP y.t = O at *
      go_wp2_with fail
      go_loopw [3, 8, 20] (fun sv _ iv wr => ∃ (j m2 : Nat) (v : Value) (V2 : List ByteArray), j ≤ on ∧ iv = .int .i64 j ∧ sv = v ∧ m2 ≤ k * 5 + j ∧ Hid (V2 = (O.take j).foldl addV V) ∧ Hid (Vst w b v m2 V2 wr) ∧ Hid (EAt wr (exV b v) (some ad) (L.flatMap shc)) ∧ Hid (SSafe wr (exV b v) OA on O)) (fun _ _ iv _ => on - (intOf iv).toNat)
      case atStart => exact ⟨0, m, _, V, by omega, rfl, rfl, by omega, hid rfl, HV3.out, HE3.out, HO3.out⟩
      case round =>
        clear HV3 HE3 HO3
        obtain ⟨j, m2, v2, V2, hj, rfl, rfl, hm2, hVe2, hV, hE, hO⟩ := hrel
        by_cases hlt2 : j < on
        · obtain ⟨od, rfl, hod, hoc, hos⟩ := hO.out.arg.cell hlt2
          have Hgo := hid (show O[j]? = some (O.getD j ByteArray.empty) by rw [List.getD_eq_getElem?_getD, List.getElem?_eq_getElem (by have := HOl.out; omega)]; rfl)
          have Hosm := hid (hO.out.small _ (List.mem_of_getElem? Hgo.out))
          generalize O.getD j ByteArray.empty = z at *
          have Hft := hid (fold_take (V0 := V) Hgo.out)
          have hlook := NS.look hV.out.set (show z.size ≤ maxLen by unfold maxLen; omega)
          cases hv : inB z V2 with
          | true =>
            as_aux_lemma =>
              rw [hv] at hlook
              have Hr := hid (show V2 = (O.take (j + 1)).foldl addV V by rw [Hft.out, ← hVe2.out, add_no hv])
              clear hv
              go_wp2_with fail
              go_roundw
              case rel => exact ⟨j + 1, m2, _, V2, by omega, by go_num, rfl, by omega, Hr, hV, hE, hO⟩
              case measure => simp [intOf]; omega
          | false =>
            rw [hv] at hlook
            have Hr := hid (show V2 ++ [z] = (O.take (j + 1)).foldl addV V by rw [Hft.out, ← hVe2.out, add_yes hv])
            have Hvl := hid (show V2.length < maxLen by have := hV.out.len; unfold maxLen; omega)
            clear hv
            as_aux_lemma =>
              go_wp2_with (
                first
                | (at_mapUpdate; go_loud (
                   go_must (refine wp_put rfl _ _ _ rfl b _ rfl hV.out.set Hvl.out z (by unfold maxLen; omega) rfl rfl ?_)
                   intro w5 hn5 hg5
                   have H5 := hid (hV.out.put hn5 hg5)
                   have H6 := hid (H5.out.1.alloc (.cells #[.string z] 9))
                   have HE5 := hid ((hE.out.go H5.out.2).go (Go2.below ((Below.refl w5.heap.size w5).alloc (Nat.le_refl _) (.cells #[.string z] 9))))
                   have HO5 := hid ((hO.out.go H5.out.2).go (Go2.below ((Below.refl w5.heap.size w5).alloc (Nat.le_refl _) (.cells #[.string z] 9))))
                   clear hn5 hg5 hlook))
                | (at_builtin
                   go_must (refine wpList_append_lies _ rfl _ _ 55 rfl (w.heap.size + 2) 9 i0 _ 1 16 Tryd.underlying55 Hi.out Hz0.out Hz1.out Hz2.out rfl (by decide) _ m2 (V2.map Value.string) rfl H6.out.own ⟨w5.heap.size, 0, none⟩ 1 1 [.string z] rfl rfl (one_str _ _ _) (one_strc _) (by omega) (by unfold maxLen; omega) (by omega) H6.out.siz _ rfl ?_)
                   intro g7 cap7 w7 hown7 hgr7 hat7 hlt7
                   have H7 := hid (Vmid.push H6.out Hosm.out hown7 hgr7 hat7)
                   have HE7 := hid (HE5.out.go H7.out.2)
                   have HO7 := hid (HO5.out.go H7.out.2)
                   clear hown7 hgr7 hat7 hlt7))
              go_roundw
              case rel => exact ⟨j + 1, m2 + 1, _, V2 ++ [z], by omega, by go_num, rfl, by omega, Hr, hid H7.out.1, HE7, HO7⟩
              case measure => simp [intOf]; omega
        · as_aux_lemma =>
            obtain rfl : j = on := by omega
            have Hr := hid (show V2 = (((L.map SH.t).take (k + 1)).flatMap occP).foldl addV [] by rw [Hfo.out, ← hVe.out, hVe2.out, List.take_of_length_le (by have := HOl.out; omega)])
            go_wp2_with fail
            go_roundw
            case rel => exact ⟨k + 1, m2, _, V2, by omega, by go_num, rfl, by omega, Hr, hV, hE⟩
            case measure => simp [intOf]; omega
    · as_aux_lemma =>
        obtain rfl : k = L.length := by omega
        have Hr := hid (show V = varsP p by unfold varsP; rw [hVe.out, HL.out, List.take_of_length_le (by rw [← HL.out]; simp)])
        obtain ⟨A2, cc, hvv⟩ := own_any_slice hV.out.own
        subst hvv
        have hml := hV.out.len
        go_wp2_with fail
        go_ret
        rw [← Hr.out]
        subst hml
        exact ⟨A2, cc, rfl, ⟨own_at hV.out.own, rfl, by omega, fun y hy => by have := hV.out.small y hy; omega⟩, hV.out.bel⟩
end Go.Proofs.YtcgichfanfijjaaDoor

namespace Go.Proofs.YtcgichfanfijjaaDoor
set_option maxRecDepth 20000
set_option linter.unusedVariables false
set_option linter.unusedSimpArgs false
open Go.ChangeShapes Go.WideShapes Go.ChangeAt Go.RowKit

def fitB (p : List Fnc) : Bool := decide ((varsP p).length ≤ 64) && (decide ((sizesP p).1 ≤ 256) && decide ((sizesP p).2 ≤ 1024))
set_option maxHeartbeats 3200000 in
theorem fits_any (x : PH) (ex : List (Option Nat)) (w : World) (h : PHok w ex x) (hs : Shp w) :
    Calls Tryd.prog 60 #[.agg #[.slice x.A x.n x.c]] w fun e w' => e = .returned (.bool (fitB x.p)) ∧ Below w.heap.size w w' := by
  have hb0 := (Below.refl w.heap.size w).alloc (Nat.le_refl _) (.cells #[.slice x.A x.n x.c] 24)
  have HB0 := hid hb0
  have HG0 := hid (Fb.new w #[.slice x.A x.n x.c] 24)
  have HX0 := hid (PHok.below h hb0)
  have HS0 := hid (hs.keep (hb0.block 0 hs.pos0))
  have Hfit := hid (show fitB x.p = (decide ((varsP x.p).length ≤ 64) && (decide ((sizesP x.p).1 ≤ 256) && decide ((sizesP x.p).2 ≤ 1024))) from rfl)
  generalize fitB x.p = fb at *
  clear h hb0 hs
  go_enter Tryd.func60, Tryd.ntmps60
  go_wp2_with fail
  generalize w.alloc (.cells #[.slice x.A x.n x.c] 24) = w0 at *
  refine (sizes_any x ex _ HX0.out HS0.out).mono ?_
  generalize sizesP x.p = sz at *
  obtain ⟨n1, n2⟩ := sz
  rintro e w1 ⟨rfl, hb1⟩
  have HB1 := hid (below_step HB0.out hb1)
  have HG1 := hid (HG0.out.below hb1 HG0.out.lt)
  have HX1 := hid (PHok.below HX0.out hb1)
  have HS1 := hid (HS0.out.keep (hb1.block 0 HS0.out.pos0))
  clear hb1 HB0 HG0 HX0 HS0
  have g0 := HG1.out.onec
  simp only
  go_wp2_with fail
  refine (variables_any x ex _ HX1.out HS1.out).mono ?_
  generalize varsP x.p = V at *
  rintro e w2 ⟨A, c, rfl, ha, hb2⟩
  have HB2 := hid (below_step HB1.out hb2)
  clear hb2 ha g0 HX1 HS1 HG1
  cases h1 : decide (V.length ≤ 64) with
  | false =>
    as_aux_lemma =>
      have Hr := hid (show fb = false by rw [Hfit.out, h1]; rfl)
      have t1 : decide ((V.length : Int) ≤ 64) = false := by simp at h1 ⊢; omega
      clear h1
      go_wp2_with fail
      go_ret
      exact ⟨ret_b Hr.out, HB2.out⟩
  | true =>
    have t1 : decide ((V.length : Int) ≤ 64) = true := by simp at h1 ⊢; omega
    have Hfit2 := hid (show fb = (decide (n1 ≤ 256) && decide (n2 ≤ 1024)) by rw [Hfit.out, h1]; rfl)
    clear h1
    cases h2 : decide (n1 ≤ 256) with
    | false =>
      as_aux_lemma =>
        have Hr := hid (show fb = false by rw [Hfit2.out, h2]; rfl)
        have t2 : decide ((n1 : Int) ≤ 256) = false := by simp at h2 ⊢; omega
        clear h2
        go_wp2_with fail
        go_ret
        exact ⟨ret_b Hr.out, HB2.out⟩
    | true =>
      have t2 : decide ((n1 : Int) ≤ 256) = true := by simp at h2 ⊢; omega
      have Hfit3 := hid (show fb = decide (n2 ≤ 1024) by rw [Hfit2.out, h2]; rfl)
      clear h2
      cases h3 : decide (n2 ≤ 1024) with
      | false =>
        as_aux_lemma =>
          have Hr := hid (show fb = false by rw [Hfit3.out, h3])
          have t3 : decide ((n2 : Int) ≤ 1024) = false := by simp at h3 ⊢; omega
          clear h3
          go_wp2_with fail
          go_ret
          exact ⟨ret_b Hr.out, HB2.out⟩
      | true =>
        as_aux_lemma =>
          have Hr := hid (show fb = true by rw [Hfit3.out, h3])
          have t3 : decide ((n2 : Int) ≤ 1024) = true := by simp at h3 ⊢; omega
          clear h3
          go_wp2_with fail
          go_ret
          exact ⟨ret_b Hr.out, HB2.out⟩
/-- P6.1. -/
def checkP (p : List Fnc) : (Int × Int × Int × Int) × Int :=
  if prgB p then (if (funcsE p).2 == 0 then (if fitB p then ((0, 0, 0, 0), 0) else ((0, 0, 0, 0), 7)) else funcsE p) else ((0, 0, 0, 0), 1)
theorem chk_bad {p : List Fnc} (h : prgB p = false) : checkP p = ((0, 0, 0, 0), 1) := by unfold checkP; rw [h]; rfl
theorem chk_err {p : List Fnc} {r : (Int × Int × Int × Int) × Int} (h : prgB p = true) (hr : funcsE p = r) (h0 : (r.2 == 0) = false) : checkP p = r := by unfold checkP; rw [h, hr]; simp only [h0]; rfl
theorem chk_full {p : List Fnc} {r : (Int × Int × Int × Int) × Int} (h : prgB p = true) (hr : funcsE p = r) (h0 : (r.2 == 0) = true) (hf : fitB p = false) : checkP p = ((0, 0, 0, 0), 7) := by unfold checkP; rw [h, hr, hf]; simp only [h0]; rfl
theorem chk_fine {p : List Fnc} {r : (Int × Int × Int × Int) × Int} (h : prgB p = true) (hr : funcsE p = r) (h0 : (r.2 == 0) = true) (hf : fitB p = true) : checkP p = ((0, 0, 0, 0), 0) := by unfold checkP; rw [h, hr, hf]; simp only [h0]; rfl
set_option maxHeartbeats 3200000 in
theorem check_any (x : PH) (ex : List (Option Nat)) (w : World) (h : PHok w ex x) (hs : Shp w) :
    Calls Tryd.prog 27 #[.agg #[.slice x.A x.n x.c]] w (RetNd w (checkP x.p)) := by
  have hb0 : Below w.heap.size w ((w.alloc (.cells #[.slice x.A x.n x.c] 24)).alloc (.cells #[.int .i64 0, .int .i64 0, .int .i64 0, .int .i64 0] 46)) := ((Below.refl w.heap.size w).alloc (Nat.le_refl _) _).alloc (by rw [World.size_alloc]; omega) _
  have HB0 := hid hb0
  have HG0 := hid ((Fb.new w #[.slice x.A x.n x.c] 24).alloc (.cells #[.int .i64 0, .int .i64 0, .int .i64 0, .int .i64 0] 46))
  have HN0 := hid (show Fb ((w.alloc (.cells #[.slice x.A x.n x.c] 24)).alloc (.cells #[.int .i64 0, .int .i64 0, .int .i64 0, .int .i64 0] 46)) (w.heap.size + 1) #[.int .i64 0, .int .i64 0, .int .i64 0, .int .i64 0] 46 by have := Fb.new (w.alloc (.cells #[.slice x.A x.n x.c] 24)) #[.int .i64 0, .int .i64 0, .int .i64 0, .int .i64 0] 46; rwa [World.size_alloc] at this)
  have HX0 := hid (PHok.below h hb0)
  have HS0 := hid (hs.keep (hb0.block 0 hs.pos0))
  clear h hb0 hs
  go_enter Tryd.func27, Tryd.ntmps27
  have HQ : Hid (∀ {v : World} (h : Below w.heap.size w v) (a b c d : Value), Below w.heap.size w ((((v.setCell ⟨w.heap.size + 1, 0, none⟩ a).setCell ⟨w.heap.size + 1, 1, none⟩ b).setCell ⟨w.heap.size + 1, 2, none⟩ c).setCell ⟨w.heap.size + 1, 3, none⟩ d)) :=
    hid (fun h a b c d => (((h.setCell (p := ⟨w.heap.size + 1, 0, none⟩) (Nat.le_succ _) a).setCell (p := ⟨w.heap.size + 1, 1, none⟩) (Nat.le_succ _) b).setCell (p := ⟨w.heap.size + 1, 2, none⟩) (Nat.le_succ _) c).setCell (p := ⟨w.heap.size + 1, 3, none⟩) (Nat.le_succ _) d)
  go_wp2_with fail
  generalize (w.alloc (.cells #[.slice x.A x.n x.c] 24)).alloc (.cells #[.int .i64 0, .int .i64 0, .int .i64 0, .int .i64 0] 46) = w0 at *
  refine (devValid_any x ex _ HX0.out HS0.out).mono ?_
  rintro e w1 ⟨rfl, hb1⟩
  have HB1 := hid (below_step HB0.out hb1)
  have HG1 := hid (HG0.out.below hb1 HG0.out.lt)
  have HN1 := hid (HN0.out.below hb1 HN0.out.lt)
  have HX1 := hid (PHok.below HX0.out hb1)
  have HS1 := hid (HS0.out.keep (hb1.block 0 HS0.out.pos0))
  clear hb1 HB0 HG0 HX0 HS0 HN0
  have g0 := HG1.out.onec
  cases hv : prgB x.p with
  | false =>
    as_aux_lemma =>
      have Hr := hid (chk_bad hv)
      obtain ⟨c0, c1, c2, c3⟩ := Fb.four HN1.out
      have z0 := HN1.out.frozen 0
      have z1 := HN1.out.frozen 1
      have z2 := HN1.out.frozen 2
      have z3 := HN1.out.frozen 3
      have hlt1 := HN1.out.lt
      clear hv
      go_wp2_with fail
      refine bodyPost_ret (v := .tuple #[.agg #[.int .i64 0, .int .i64 0, .int .i64 0, .int .i64 0], .int .i64 1]) (by simp [results, Tryd.results27, go_sem, c0, c1, c2, c3, z0, z1, z2, z3, hlt1]) rfl ?_
      exact retNd_mk Hr.out (HQ.out HB1.out _ _ _ _)
  | true =>
    have Hv := hid hv
    clear hv
    go_wp2_with fail
    refine (checkFuncs_any x ex _ HX1.out).mono ?_
    have hq : ∃ q, funcsE x.p = q := ⟨_, rfl⟩
    obtain ⟨⟨⟨qa, qb, qc, qd⟩, qe⟩, hq⟩ := hq
    rw [hq]
    have Hq := hid hq
    clear hq
    rintro e w2 ⟨rfl, hb2⟩
    have ha2 := (Below.refl w2.heap.size w2).alloc (Nat.le_refl _) (.cells #[.int .i64 qa, .int .i64 qb, .int .i64 qc, .int .i64 qd] 46)
    have hb3 := below_step hb2 ha2
    have HB3 := hid (below_step HB1.out hb3)
    have HG3 := hid (HG1.out.below hb3 HG1.out.lt)
    have HN3 := hid (HN1.out.below hb3 HN1.out.lt)
    have HX3 := hid (PHok.below HX1.out hb3)
    have HS3 := hid (HS1.out.keep (hb3.block 0 HS1.out.pos0))
    have HM3 := hid (Fb.new w2 #[.int .i64 qa, .int .i64 qb, .int .i64 qc, .int .i64 qd] 46)
    clear hb2 ha2 hb3 HB1 HG1 HN1 HX1 HS1 g0
    simp only
    cases h0 : (qe == 0) with
    | false =>
      as_aux_lemma =>
        have h1 : (qe != 0) = true := by show (!(qe == 0)) = true; rw [h0]; rfl
        have Hr := hid (chk_err Hv.out Hq.out h0)
        obtain ⟨c0, c1, c2, c3⟩ := Fb.four HN3.out
        obtain ⟨m0, m1, m2, m3⟩ := Fb.four HM3.out
        have z0 := HN3.out.frozen 0
        have z1 := HN3.out.frozen 1
        have z2 := HN3.out.frozen 2
        have z3 := HN3.out.frozen 3
        have hlt1 := HN3.out.lt
        go_wp2_with fail
        refine bodyPost_ret (v := .tuple #[.agg #[.int .i64 qa, .int .i64 qb, .int .i64 qc, .int .i64 qd], .int .i64 qe]) (by simp [results, Tryd.results27, go_sem, c0, c1, c2, c3, z0, z1, z2, z3, hlt1]) rfl ?_
        exact retNd_mk Hr.out (HQ.out HB3.out _ _ _ _)
    | true =>
      have h1 : (qe != 0) = false := by show (!(qe == 0)) = false; rw [h0]; rfl
      have Hh := hid h0
      have g0 := HG3.out.onec
      clear h0
      go_wp2_with fail
      refine (fits_any x ex _ HX3.out HS3.out).mono ?_
      rintro e w4 ⟨rfl, hb4⟩
      have HB4 := hid (below_step HB3.out hb4)
      have HN4 := hid (HN3.out.below hb4 HN3.out.lt)
      clear hb4 g0 HX3 HS3 HG3 HM3 HB3 HN3
      obtain ⟨c0, c1, c2, c3⟩ := Fb.four HN4.out
      have z0 := HN4.out.frozen 0
      have z1 := HN4.out.frozen 1
      have z2 := HN4.out.frozen 2
      have z3 := HN4.out.frozen 3
      have hlt1 := HN4.out.lt
      cases hf : fitB x.p with
      | false =>
        as_aux_lemma =>
          have Hr := hid (chk_full Hv.out Hq.out Hh.out hf)
          clear hf
          go_wp2_with fail
          refine bodyPost_ret (v := .tuple #[.agg #[.int .i64 0, .int .i64 0, .int .i64 0, .int .i64 0], .int .i64 7]) (by simp [results, Tryd.results27, go_sem, c0, c1, c2, c3, z0, z1, z2, z3, hlt1]) rfl ?_
          exact retNd_mk Hr.out (HQ.out HB4.out _ _ _ _)
      | true =>
        as_aux_lemma =>
          have Hr := hid (chk_fine Hv.out Hq.out Hh.out hf)
          clear hf
          go_wp2_with fail
          refine bodyPost_ret (v := .tuple #[.agg #[.int .i64 0, .int .i64 0, .int .i64 0, .int .i64 0], .int .i64 0]) (by simp [results, Tryd.results27, go_sem, c0, c1, c2, c3, z0, z1, z2, z3, hlt1]) rfl ?_
          exact retNd_mk Hr.out (HQ.out HB4.out _ _ _ _)
end Go.Proofs.YtcgichfanfijjaaDoor

namespace Go.Proofs.YtcgichfanfijjaaDoor
set_option maxRecDepth 20000
set_option linter.unusedVariables false
set_option linter.unusedSimpArgs false
open Go.ChangeShapes Go.WideShapes Go.ChangeAt Go.RowKit

/-- A node: kind, function, block, statement. -/
structure Nd where
  kd : Int
  fn : Int
  bk : Int
  st : Int
deriving DecidableEq
def ndc (x : Nd) : List Value := [.int .i64 x.kd, .int .i64 x.fn, .int .i64 x.bk, .int .i64 x.st]
theorem ndc_len (x : Nd) : (ndc x).length = 4 := rfl
def ndS (f b j : Nat) (t : Stm) : List Nd := if t.op == 3 then [⟨3, f, b, j⟩, ⟨4, f, b, j⟩] else [⟨3, f, b, j⟩]
def ndSs (f b : Nat) (ss : List Stm) (j : Nat) : List Nd := match ss[j]? with | some t => ndS f b j t | none => []
def ndB (f b : Nat) (x : Blk) : List Nd := (List.range x.ss.length).flatMap (ndSs f b x.ss)
def ndBs (f : Nat) (bs : List Blk) (b : Nat) : List Nd := match bs[b]? with | some x => ndB f b x | none => []
def ndF (f : Nat) (x : Fnc) : List Nd := ⟨1, f, -1, -1⟩ :: (List.range x.bs.length).flatMap (ndBs f x.bs) ++ [⟨2, f, -1, -1⟩]
def ndFs (fs : List Fnc) (f : Nat) : List Nd := match fs[f]? with | some x => ndF f x | none => []
/-- P7.1. -/
def listN (p : List Fnc) : List Nd := if (checkP p).2 == 0 then (List.range p.length).flatMap (ndFs p) else []
theorem range_flat {f : Nat → List Nd} {k : Nat} : (List.range (k + 1)).flatMap f = (List.range k).flatMap f ++ f k := by rw [List.range_succ, List.flatMap_append]; simp
theorem ndSs_at {f b : Nat} {ss : List Stm} {j : Nat} {t : Stm} (h : ss[j]? = some t) : ndSs f b ss j = ndS f b j t := by unfold ndSs; rw [h]
theorem ndBs_at {f : Nat} {bs : List Blk} {b : Nat} {x : Blk} (h : bs[b]? = some x) : ndBs f bs b = ndB f b x := by unfold ndBs; rw [h]
theorem ndFs_at {fs : List Fnc} {f : Nat} {x : Fnc} (h : fs[f]? = some x) : ndFs fs f = ndF f x := by unfold ndFs; rw [h]
/-- The list of nodes came back: it lies in a block of its own. -/
def RetLn (w : World) (L : List Nd) (e : Ending) (w' : World) : Prop :=
  ∃ (A : Option Addr) (c : Nat), e = .returned (.slice A L.length c) ∧ (∀ ex : List (Option Nat), (∀ k, some k ∈ ex → k < w.heap.size) → EAt w' ex A (L.flatMap ndc)) ∧ L.length ≤ 200000 ∧ Below w.heap.size w w'
/-- The list that is built. -/
structure Ng (w : World) (v : Value) (m : Nat) (L : List Nd) (wr : World) : Prop where
  own : wr.ownsRow (w.heap.size + 1) 46 4 v m (L.flatMap ndc)
  len : m = L.length
  bel : Below w.heap.size w wr
  siz : w.heap.size + 1 ≤ wr.heap.size
theorem Ng.below {w wr w' : World} {v : Value} {m : Nat} {L : List Nd} (h : Ng w v m L wr) (hb : Below wr.heap.size wr w') : Ng w v m L w' :=
  ⟨own_below h.own hb, h.len, below_step h.bel hb, Nat.le_trans h.siz hb.size⟩
theorem Ng.alloc {w wr : World} {v : Value} {m : Nat} {L : List Nd} (h : Ng w v m L wr) (o : Obj) : Ng w v m L (wr.alloc o) := h.below ((Below.refl _ _).alloc (Nat.le_refl _) o)
theorem Ng.push {w wr w' : World} {v : Value} {m g cap : Nat} {L : List Nd} {x : Nd} (h : Ng w v m L wr)
    (hown : w'.ownsRow (w.heap.size + 1) 46 4 (.slice (some ⟨g, 0, none⟩) (m + 1) cap) (m + 1) (L.flatMap ndc ++ ndc x)) (hg : wr.grownBy w' v.ownBlock) : Ng w (.slice (some ⟨g, 0, none⟩) (m + 1) cap) (m + 1) (L ++ [x]) w' := by
  refine ⟨by rw [List.flatMap_append]; simpa using hown, by rw [List.length_append, h.len]; rfl, ?_, Nat.le_trans h.siz hg.size⟩
  exact h.bel.grown hg h.bel.size (fun k hk => by have := (h.own.lt k hk).1; omega)
/-- A block of one's own stays while the list grows. -/
theorem Ng.keep {w wr w' : World} {v : Value} {m g t : Nat} {L : List Nd} {cs : Array Value} (h : Ng w v m L wr) (hf : Fb wr g cs t) (ht : t ≠ 46) (hg : wr.grownBy w' v.ownBlock) : Fb w' g cs t := hf.grown hg (fb_ne_own hf h.own ht)
theorem one_ndc (x : Nd) : ∀ u ∈ ndc x, u.oneCell' = true := by
  intro u hu
  simp [ndc] at hu
  rcases hu with rfl | rfl | rfl | rfl <;> rfl
theorem nd_new (w : World) (x : Nd) : ∀ j u, (ndc x)[j]? = some u → (w.alloc (.cells #[.int .i64 x.kd, .int .i64 x.fn, .int .i64 x.bk, .int .i64 x.st] 46)).cell? ((⟨w.heap.size, 0, none⟩ : Addr).add j) = some u := by
  intro j u h
  have hb := Fb.new w #[.int .i64 x.kd, .int .i64 x.fn, .int .i64 x.bk, .int .i64 x.st] 46
  rw [add_of, hb.cell]
  simpa [ndc] using h
set_option maxHeartbeats 16000000 in
theorem list_any (x : PH) (ex : List (Option Nat)) (w : World) (h : PHok w ex x) (hs : Shp w) :
    Calls Tryd.prog 15 #[.agg #[.slice x.A x.n x.c]] w (RetLn w (listN x.p)) := by
  obtain ⟨i1, hi, hz0, hz1, hz2⟩ := info_parts info51
  have Hi := hid hi; have Hz0 := hid hz0; have Hz1 := hid hz1; have Hz2 := hid hz2
  clear hi hz0 hz1 hz2
  have hx0 : PHok w [] x := h.go (Go2.less w (by simp))
  have hb0 := (Below.refl w.heap.size w).alloc (Nat.le_refl _) (.cells #[.slice x.A x.n x.c] 24)
  have HX := hid hx0
  have HB0 := hid hb0
  have HG0 := hid (Fb.new w #[.slice x.A x.n x.c] 24)
  have HC := hid (check_any x [] _ (PHok.below hx0 hb0) (hs.keep (hb0.block 0 hs.pos0)))
  have hsz0 := hid (show (w.alloc (.cells #[.slice x.A x.n x.c] 24)).heap.size = w.heap.size + 1 by rw [World.size_alloc])
  have hn := h.few
  have HL := hid h.len
  have Hpl := hid (show x.p.length = x.l.length by simp [PH.p])
  have Hpa := hid (fun (k : Nat) (y : FH) (hy : x.l[k]? = some y) => show x.p[k]? = some y.f by unfold PH.p; rw [List.getElem?_map, hy]; rfl)
  clear h hb0 hx0 hs
  obtain ⟨A, n, c, l⟩ := x
  simp only at *
  generalize hp : PH.p ⟨A, n, c, l⟩ = p at *
  have hq : ∃ q, checkP p = q := ⟨_, rfl⟩
  obtain ⟨⟨⟨qa, qb, qc, qd⟩, qe⟩, hq⟩ := hq
  have Hq := hid (show listN p = if qe == 0 then (List.range p.length).flatMap (ndFs p) else [] by unfold listN; rw [hq])
  rw [hq] at HC
  clear hq hp
  go_enter Tryd.func15, Tryd.ntmps15
  go_wp2_with fail
  generalize w.alloc (.cells #[.slice A n c] 24) = w0 at *
  refine HC.out.mono ?_
  rintro e w1 ⟨rfl, hb1⟩
  have ha1 := (Below.refl w1.heap.size w1).alloc (Nat.le_refl _) (.cells #[.int .i64 qa, .int .i64 qb, .int .i64 qc, .int .i64 qd] 46)
  have hb2 := below_step hb1 ha1
  have HB2 := hid (below_step HB0.out hb2)
  have HG2 := hid (HG0.out.below hb2 HG0.out.lt)
  have HS2 := hid (show w.heap.size + 1 ≤ (w1.alloc (.cells #[.int .i64 qa, .int .i64 qb, .int .i64 qc, .int .i64 qd] 46)).heap.size by have := hb2.size; have := hsz0.out; omega)
  clear hb1 ha1 hb2 HB0 HG0 HC hsz0
  simp only
  cases h0 : (qe == 0) with
  | false =>
    as_aux_lemma =>
      have h1 : (qe != 0) = true := by show (!(qe == 0)) = true; rw [h0]; rfl
      have Hr := hid (show listN p = [] by rw [Hq.out, h0]; rfl)
      clear h0
      go_wp2_with fail
      go_ret
      rw [Hr.out]
      exact ⟨none, 0, rfl, fun _ _ => EAt.nil _ _ _, by simp, HB2.out⟩
  | true =>
    have h1 : (qe != 0) = false := by show (!(qe == 0)) = false; rw [h0]; rfl
    have Hr := hid (show listN p = (List.range p.length).flatMap (ndFs p) by rw [Hq.out, h0]; rfl)
    clear h0
    have HO := hid (show Ng w (.slice none 0 0) 0 [] (w1.alloc (.cells #[.int .i64 qa, .int .i64 qb, .int .i64 qc, .int .i64 qd] 46)) from ⟨World.ownsRow_nil _ _ _ _, rfl, HB2.out, HS2.out⟩)
    obtain g0 := HG2.out.onec
    clear HB2 HS2 Hq
    go_wp2_with fail
    clear g0 HG2 h1
    generalize w1.alloc (.cells #[.int .i64 qa, .int .i64 qb, .int .i64 qc, .int .i64 qd] 46) = w2 at HO ⊢
    go_loopw [5, 6, 7, 8, 9, 10, 11, 22] (fun sv _ _ _ _ _ _ iv wr => ∃ (k m : Nat) (v : Value) (L : List Nd), k ≤ n ∧ iv = .int .i64 k ∧ sv = v ∧ m ≤ k * 3202 ∧ Hid (L = (List.range k).flatMap (ndFs p)) ∧ Hid (Ng w v m L wr)) (fun _ _ _ _ _ _ _ iv _ => n - (intOf iv).toNat)
    case atStart => exact ⟨0, 0, _, [], by omega, rfl, rfl, by omega, hid rfl, HO.out⟩
    case round =>
      clear HO
      obtain ⟨k, m, v, L, hk, rfl, rfl, hm, hE, hO⟩ := hrel
      by_cases hlt : k < n
      · obtain ⟨y, hy, hym⟩ := get_at HL.out hlt
        have HPr := hid (HX.out.go (Go2.below hO.out.bel))
        obtain ⟨ad, hA, had, hc1, hc2⟩ := FH.cells HPr.out.lies hy
        simp only at hA
        subst hA
        have Hya := hid (fun (v : World) (h : Below w.heap.size w v) => (HX.out.go (Go2.below h)).all y hym)
        have Hget := hid (Hpa.out k y hy)
        have hyn : y.n ≤ 40 := (HPr.out.all y hym).few
        have Hyl := hid (show y.l.length = y.n from (HPr.out.all y hym).len)
        have Hyb := hid (show y.f.bs.length = y.n by show (y.l.map BH.b).length = y.n; rw [List.length_map]; exact (HPr.out.all y hym).len)
        have Hyg := hid (fun (j : Nat) (z : BH) (hz : y.l[j]? = some z) => show y.f.bs[j]? = some z.b by show (y.l.map BH.b)[j]? = _; rw [List.getElem?_map, hz]; rfl)
        have H1 := hid (hO.out.alloc (.cells #[.string y.name, .slice y.A y.n y.c] 51))
        have HG1 := hid ((Fb.new wr #[.string y.name, .slice y.A y.n y.c] 51).alloc (Obj.cells #[Value.int .i64 1, Value.int .i64 (k : Int), Value.int .i64 (-1), Value.int .i64 (-1)] 46))
        have H2 := hid (H1.out.alloc (Obj.cells #[Value.int .i64 1, Value.int .i64 (k : Int), Value.int .i64 (-1), Value.int .i64 (-1)] 46))
        have HN1 := hid (show ∀ j u, (ndc (⟨1, k, -1, -1⟩ : Nd))[j]? = some u → ((wr.alloc (.cells #[.string y.name, .slice y.A y.n y.c] 51)).alloc (Obj.cells #[Value.int .i64 1, Value.int .i64 (k : Int), Value.int .i64 (-1), Value.int .i64 (-1)] 46)).cell? ((⟨wr.heap.size + 1, 0, none⟩ : Addr).add j) = some u by have := nd_new (wr.alloc (.cells #[.string y.name, .slice y.A y.n y.c] 51)) (⟨1, k, -1, -1⟩ : Nd); rw [World.size_alloc] at this; exact this)
        clear hy hym HPr H1
        generalize y.f = ff at *
        obtain ⟨ynm, yA, yn, yc, yl⟩ := y
        simp only at *
        go_wp2_with ((
          at_builtin
          go_must (refine wpList_append_lies _ rfl _ _ 28 rfl (w.heap.size + 1) 46 i1 _ 4 32 Tryd.underlying28 Hi.out Hz0.out Hz1.out Hz2.out rfl (by decide) _ m (L.flatMap ndc) rfl H2.out.own ⟨wr.heap.size + 1, 0, none⟩ 1 1 (ndc (⟨1, k, -1, -1⟩ : Nd)) rfl rfl HN1.out (one_ndc _) (by omega) (by unfold maxLen; omega) (by omega) H2.out.siz _ rfl ?_)
          intro g5 cap5 w5 hown5 hgr5 hat5 hlt5
          have H5 := hid (Ng.push H2.out hown5 hgr5)
          obtain ⟨y0, y1⟩ := Fb.twoc (Ng.keep H2.out HG1.out (by decide) hgr5)
          clear hown5 hgr5 hat5 hlt5))
        clear y0 y1 hc1 hc2 had HG1 H2 HN1 hO
        go_loopw [5, 8, 9, 10, 11, 35] (fun sv _ _ _ _ iv wr => ∃ (j m2 : Nat) (v : Value) (L2 : List Nd), j ≤ yn ∧ iv = .int .i64 j ∧ sv = v ∧ m2 ≤ k * 3202 + 1 + j * 80 ∧ Hid (L2 = (L ++ [(⟨1, k, -1, -1⟩ : Nd)]) ++ (List.range j).flatMap (ndBs k ff.bs)) ∧ Hid (Ng w v m2 L2 wr)) (fun _ _ _ _ _ iv _ => yn - (intOf iv).toNat)
        case atStart => exact ⟨0, m + 1, _, L ++ [(⟨1, k, -1, -1⟩ : Nd)], by omega, rfl, rfl, by omega, hid (by simp), H5.out⟩
        case round =>
          clear H5
          obtain ⟨j, m2, v2, L2, hj, rfl, rfl, hm2, hE2, hO⟩ := hrel
          by_cases hlt2 : j < yn
          · obtain ⟨z, hz, hzm⟩ := get_at Hyl.out hlt2
            have HPr := hid (Hya.out _ hO.out.bel)
            obtain ⟨ad2, hA, had, hc1, hc2⟩ := BH.cells HPr.out.lies hz
            simp only at hA
            subst hA
            have Hza := hid (fun (v : World) (h : Below w.heap.size w v) => (Hya.out v h).all z hzm)
            have Hgz := hid (Hyg.out j z hz)
            have hzn : z.n ≤ 40 := (HPr.out.all z hzm).few
            have Hzl := hid (show z.l.length = z.n from (HPr.out.all z hzm).len)
            have Hzb := hid (show z.b.ss.length = z.n by show (z.l.map SH.t).length = z.n; rw [List.length_map]; exact (HPr.out.all z hzm).len)
            have Hzg := hid (fun (i : Nat) (s : SH) (hs : z.l[i]? = some s) => show z.b.ss[i]? = some s.t by show (z.l.map SH.t)[i]? = _; rw [List.getElem?_map, hs]; rfl)
            have H1 := hid (hO.out.alloc (.cells #[.string z.name, .slice z.A z.n z.c] 54))
            have HG1 := hid (Fb.new wr #[.string z.name, .slice z.A z.n z.c] 54)
            clear hz hzm HPr
            generalize z.b = bb at *
            obtain ⟨znm, zA, zn, zc, zl⟩ := z
            simp only at *
            obtain ⟨y0, y1⟩ := HG1.out.twoc
            go_wp2_with fail
            clear y0 y1 hc1 hc2 had HG1 hO
            go_loopw [5, 10, 11, 43] (fun sv _ _ iv wr => ∃ (i m3 : Nat) (v : Value) (L3 : List Nd), i ≤ zn ∧ iv = .int .i64 i ∧ sv = v ∧ m3 ≤ m2 + i * 2 ∧ Hid (L3 = L2 ++ (List.range i).flatMap (ndSs k j bb.ss)) ∧ Hid (Ng w v m3 L3 wr)) (fun _ _ _ iv _ => zn - (intOf iv).toNat)
            case atStart => exact ⟨0, m2, _, L2, by omega, rfl, rfl, by omega, hid (by simp), H1.out⟩
            case round =>
              clear H1
              obtain ⟨i, m3, v3, L3, hi, rfl, rfl, hm3, hE3, hO⟩ := hrel
              by_cases hlt3 : i < zn
              · obtain ⟨s, hs, hsm⟩ := get_at Hzl.out hlt3
                have HPr := hid (Hza.out _ hO.out.bel)
                obtain ⟨ad3, hA, had, hc1, hc2, hc3, hc4⟩ := SH.cells HPr.out.lies hs
                simp only at hA
                subst hA
                have Hgs := hid (ndSs_at (f := k) (b := j) (Hzg.out i s hs))
                have H1 := hid (hO.out.alloc (.cells #[.int .i64 s.t.op, .string s.t.d, .slice s.A s.n s.c, .slice s.B s.m s.c2] 57))
                have HG1 := hid ((Fb.new wr #[.int .i64 s.t.op, .string s.t.d, .slice s.A s.n s.c, .slice s.B s.m s.c2] 57).alloc (Obj.cells #[Value.int .i64 3, Value.int .i64 (k : Int), Value.int .i64 (j : Int), Value.int .i64 (i : Int)] 46))
                have H2 := hid (H1.out.alloc (Obj.cells #[Value.int .i64 3, Value.int .i64 (k : Int), Value.int .i64 (j : Int), Value.int .i64 (i : Int)] 46))
                have HN1 := hid (show ∀ j_1 u, (ndc (⟨3, k, j, i⟩ : Nd))[j_1]? = some u → ((wr.alloc (.cells #[.int .i64 s.t.op, .string s.t.d, .slice s.A s.n s.c, .slice s.B s.m s.c2] 57)).alloc (Obj.cells #[Value.int .i64 3, Value.int .i64 (k : Int), Value.int .i64 (j : Int), Value.int .i64 (i : Int)] 46)).cell? ((⟨wr.heap.size + 1, 0, none⟩ : Addr).add j_1) = some u by have := nd_new (wr.alloc (.cells #[.int .i64 s.t.op, .string s.t.d, .slice s.A s.n s.c, .slice s.B s.m s.c2] 57)) (⟨3, k, j, i⟩ : Nd); rw [World.size_alloc] at this; exact this)
                clear hs hsm HPr H1
                cases ho : (s.t.op == 3) with
                | false =>
                  have Hst := hid (show ndSs k j bb.ss i = [(⟨3, k, j, i⟩ : Nd)] by rw [Hgs.out]; unfold ndS; rw [ho]; rfl)
                  go_wp2_with ((
                    at_builtin
                    go_must (refine wpList_append_lies _ rfl _ _ 28 rfl (w.heap.size + 1) 46 i1 _ 4 32 Tryd.underlying28 Hi.out Hz0.out Hz1.out Hz2.out rfl (by decide) _ m3 (L3.flatMap ndc) rfl H2.out.own ⟨wr.heap.size + 1, 0, none⟩ 1 1 (ndc (⟨3, k, j, i⟩ : Nd)) rfl rfl HN1.out (one_ndc _) (by omega) (by unfold maxLen; omega) (by omega) H2.out.siz _ rfl ?_)
                    intro g5 cap5 w5 hown5 hgr5 hat5 hlt5
                    have H5 := hid (Ng.push H2.out hown5 hgr5)
                    obtain ⟨y0, y1, y2, y3⟩ := Fb.four (Ng.keep H2.out HG1.out (by decide) hgr5)
                    clear hown5 hgr5 hat5 hlt5))
                  as_aux_lemma =>
                    go_roundw
                    case rel => exact ⟨i + 1, m3 + 1, _, L3 ++ [(⟨3, k, j, i⟩ : Nd)], by omega, by go_num, rfl, by omega, hid (by rw [hE3.out, range_flat, Hst.out, List.append_assoc]), H5⟩
                    case measure => simp [intOf]; omega
                | true =>
                  have Hst := hid (show ndSs k j bb.ss i = [(⟨3, k, j, i⟩ : Nd), (⟨4, k, j, i⟩ : Nd)] by rw [Hgs.out]; unfold ndS; rw [ho]; rfl)
                  go_wp2_with (
                    first
                    | (
                     at_builtin
                     refine wpList_append_lies _ rfl _ _ 28 rfl (w.heap.size + 1) 46 i1 _ 4 32 Tryd.underlying28 Hi.out Hz0.out Hz1.out Hz2.out rfl (by decide) _ m3 (L3.flatMap ndc) rfl H2.out.own ⟨wr.heap.size + 1, 0, none⟩ 1 1 (ndc (⟨3, k, j, i⟩ : Nd)) rfl rfl HN1.out (one_ndc _) (by omega) (by unfold maxLen; omega) (by omega) H2.out.siz _ rfl ?_
                     intro g5 cap5 w5 hown5 hgr5 hat5 hlt5
                     have H5 := hid (Ng.push H2.out hown5 hgr5)
                     obtain ⟨y0, y1, y2, y3⟩ := Fb.four (Ng.keep H2.out HG1.out (by decide) hgr5)
                     have H6 := hid (H5.out.alloc (Obj.cells #[Value.int .i64 4, Value.int .i64 (k : Int), Value.int .i64 (j : Int), Value.int .i64 (i : Int)] 46))
                     have HN4 := hid (nd_new w5 (⟨4, k, j, i⟩ : Nd))
                     clear H2
                     clear hown5 hgr5 hat5 hlt5)
                    | (
                     at_builtin
                     go_must (refine wpList_append_lies _ rfl _ _ 28 rfl (w.heap.size + 1) 46 i1 _ 4 32 Tryd.underlying28 Hi.out Hz0.out Hz1.out Hz2.out rfl (by decide) _ (m3 + 1) ((L3 ++ [(⟨3, k, j, i⟩ : Nd)]).flatMap ndc) rfl H6.out.own ⟨w5.heap.size, 0, none⟩ 1 1 (ndc (⟨4, k, j, i⟩ : Nd)) rfl rfl HN4.out (one_ndc _) (by omega) (by unfold maxLen; omega) (by omega) H6.out.siz _ rfl ?_)
                     intro g7 cap7 w7 hown7 hgr7 hat7 hlt7
                     have H7 := hid (Ng.push H6.out hown7 hgr7)
                     clear hown7 hgr7 hat7 hlt7))
                  as_aux_lemma =>
                    go_roundw
                    case rel => exact ⟨i + 1, m3 + 1 + 1, _, (L3 ++ [(⟨3, k, j, i⟩ : Nd)]) ++ [(⟨4, k, j, i⟩ : Nd)], by omega, by go_num, rfl, by omega, hid (by rw [hE3.out, range_flat, Hst.out]; simp), H7⟩
                    case measure => simp [intOf]; omega
              · as_aux_lemma =>
                  obtain rfl : i = zn := by omega
                  have Hd := hid (show L3 = (L ++ [(⟨1, k, -1, -1⟩ : Nd)]) ++ (List.range (j + 1)).flatMap (ndBs k ff.bs) by rw [hE3.out, hE2.out, range_flat, ndBs_at Hgz.out, List.append_assoc]; unfold ndB; rw [Hzb.out])
                  go_wp2_with fail
                  go_roundw
                  case rel => exact ⟨j + 1, m3, _, L3, by omega, by go_num, rfl, by omega, Hd, hO⟩
                  case measure => simp [intOf]; omega
          · obtain rfl : j = yn := by omega
            have H2 := hid (hO.out.alloc (Obj.cells #[Value.int .i64 2, Value.int .i64 (k : Int), Value.int .i64 (-1), Value.int .i64 (-1)] 46))
            have HN1 := hid (nd_new wr (⟨2, k, -1, -1⟩ : Nd))
            have Hd := hid (show L2 ++ [(⟨2, k, -1, -1⟩ : Nd)] = (List.range (k + 1)).flatMap (ndFs p) by rw [hE2.out, range_flat, ← hE.out, ndFs_at Hget.out]; unfold ndF; rw [Hyb.out]; simp)
            as_aux_lemma =>
              go_wp2_with ((
                at_builtin
                go_must (refine wpList_append_lies _ rfl _ _ 28 rfl (w.heap.size + 1) 46 i1 _ 4 32 Tryd.underlying28 Hi.out Hz0.out Hz1.out Hz2.out rfl (by decide) _ m2 (L2.flatMap ndc) rfl H2.out.own ⟨wr.heap.size, 0, none⟩ 1 1 (ndc (⟨2, k, -1, -1⟩ : Nd)) rfl rfl HN1.out (one_ndc _) (by omega) (by unfold maxLen; omega) (by omega) H2.out.siz _ rfl ?_)
                intro g5 cap5 w5 hown5 hgr5 hat5 hlt5
                have H5 := hid (Ng.push H2.out hown5 hgr5)
                clear hown5 hgr5 hat5 hlt5))
              go_roundw
              case rel => exact ⟨k + 1, m2 + 1, _, L2 ++ [(⟨2, k, -1, -1⟩ : Nd)], by omega, by go_num, rfl, by omega, Hd, H5⟩
              case measure => simp [intOf]; omega
      · as_aux_lemma =>
          obtain rfl : k = n := by omega
          have Hd := hid (show L = listN p by rw [hE.out, Hr.out, Hpl.out, HL.out])
          obtain ⟨B, cc, hvv⟩ := own_any_slice hO.out.own
          subst hvv
          have hml := hO.out.len
          go_wp2_with fail
          go_ret
          rw [← Hd.out]
          subst hml
          exact ⟨B, cc, rfl, fun ex hex => EAt.own hO.out.own (fun g hg hm => by have := (hO.out.own.lt g hg).1; have := hex g hm; omega), by omega, hO.out.bel⟩
end Go.Proofs.YtcgichfanfijjaaDoor

namespace Go.Proofs.YtcgichfanfijjaaDoor
set_option maxRecDepth 20000
set_option linter.unusedVariables false
set_option linter.unusedSimpArgs false
open Go.ChangeShapes Go.WideShapes Go.ChangeAt Go.RowKit

def agN (x : Nd) : Value := .agg #[.int .i64 x.kd, .int .i64 x.fn, .int .i64 x.bk, .int .i64 x.st]
def findAt (L : List Nd) (n : Nd) (i : Nat) : Option Int := if L[i]? = some n then some (i : Int) else none
/-- P7.2. -/
def findI (L : List Nd) (n : Nd) : Int := ((List.range L.length).findSome? (findAt L n)).getD (-1)
theorem find_no {L : List Nd} {n y : Nd} {i : Nat} (h : L[i]? = some y) (hne : y ≠ n) : findAt L n i = none := by unfold findAt; rw [h, if_neg (by simpa using hne)]
theorem find_yes {L : List Nd} {n : Nd} {i : Nat} (h : L[i]? = some n) : findAt L n i = some (i : Int) := by unfold findAt; rw [if_pos h]
theorem find_hit {L : List Nd} {n : Nd} {k : Nat} (h0 : (List.range k).findSome? (findAt L n) = none) (hk : k < L.length) (h : L[k]? = some n) : findI L n = k := by unfold findI; rw [some_hit h0 hk (find_yes h)]; rfl
theorem find_end {L : List Nd} {n : Nd} {k : Nat} (h0 : (List.range k).findSome? (findAt L n) = none) (hk : k = L.length) : findI L n = -1 := by subst hk; unfold findI; rw [h0]; rfl
theorem Nd.cells {w : World} {ex : List (Option Nat)} {A : Option Addr} {l : List Nd} (h : EAt w ex A (l.flatMap ndc)) {i : Nat} {x : Nd} (hx : l[i]? = some x) :
    ∃ ad : Addr, A = some ad ∧ ad.block < w.heap.size ∧ w.cell? (ad.add (i * 4)) = some (.int .i64 x.kd) ∧ w.cell? ⟨(ad.add (i * 4)).block, (ad.add (i * 4)).off + 1, none⟩ = some (.int .i64 x.fn) ∧
      w.cell? ⟨(ad.add (i * 4)).block, (ad.add (i * 4)).off + 2, none⟩ = some (.int .i64 x.bk) ∧ w.cell? ⟨(ad.add (i * 4)).block, (ad.add (i * 4)).off + 3, none⟩ = some (.int .i64 x.st) := by
  obtain ⟨ad, e, hs, hc⟩ := h.part ndc_len (by omega) hx
  exact ⟨ad, e, hs.1, hc 0 _ rfl, by rw [cell_next ad (i * 4) 0]; exact hc 1 _ rfl, by rw [cell_next ad (i * 4) 1]; exact hc 2 _ rfl, by rw [cell_next ad (i * 4) 2]; exact hc 3 _ rfl⟩
theorem list_few {L : List Nd} (h : L.length ≤ 200000) : L.length ≤ 200000 := h
set_option maxHeartbeats 6400000 in
theorem find_any (x : PH) (n : Nd) (ex : List (Option Nat)) (w : World) (h : PHok w ex x) (hs : Shp w) :
    Calls Tryd.prog 17 #[.agg #[.slice x.A x.n x.c], agN n] w fun e w' => e = .returned (.int .i64 (findI (listN x.p) n)) ∧ Below w.heap.size w w' := by
  obtain ⟨nk, nf, nb, ns⟩ := n
  unfold agN
  simp only
  have hb0 : Below w.heap.size w ((w.alloc (.cells #[.slice x.A x.n x.c] 24)).alloc (.cells #[.int .i64 nk, .int .i64 nf, .int .i64 nb, .int .i64 ns] 46)) := ((Below.refl w.heap.size w).alloc (Nat.le_refl _) _).alloc (by rw [World.size_alloc]; omega) _
  have HB0 := hid hb0
  have HG0 := hid (show Fb ((w.alloc (.cells #[.slice x.A x.n x.c] 24)).alloc (.cells #[.int .i64 nk, .int .i64 nf, .int .i64 nb, .int .i64 ns] 46)) (w.heap.size + 1) #[.int .i64 nk, .int .i64 nf, .int .i64 nb, .int .i64 ns] 46 by have := Fb.new (w.alloc (.cells #[.slice x.A x.n x.c] 24)) #[.int .i64 nk, .int .i64 nf, .int .i64 nb, .int .i64 ns] 46; rwa [World.size_alloc] at this)
  have HC := hid (list_any x ex _ (PHok.below h hb0) (hs.keep (hb0.block 0 hs.pos0)))
  clear h hb0 hs
  generalize listN x.p = L at *
  go_enter Tryd.func17, Tryd.ntmps17
  go_wp2_with fail
  generalize (w.alloc (.cells #[.slice x.A x.n x.c] 24)).alloc (.cells #[.int .i64 nk, .int .i64 nf, .int .i64 nb, .int .i64 ns] 46) = w0 at HB0 HG0 HC ⊢
  refine HC.out.mono ?_
  rintro e w1 ⟨A, c, rfl, hE, hLl, hb1⟩
  have HE := hid (hE [] (by simp))
  have HB1 := hid (below_step HB0.out hb1)
  have HG1 := hid (HG0.out.below hb1 HG0.out.lt)
  clear hE hb1 HB0 HG0 HC
  go_wp2_with fail
  go_loopw [5, 6, 10] (fun _ _ iv wr => ∃ k : Nat, k ≤ L.length ∧ iv = .int .i64 k ∧ Hid ((List.range k).findSome? (findAt L ⟨nk, nf, nb, ns⟩) = none) ∧ Hid (Below w.heap.size w wr) ∧ Hid (EAt wr [] A (L.flatMap ndc)) ∧ Hid (Fb wr (w.heap.size + 1) #[.int .i64 nk, .int .i64 nf, .int .i64 nb, .int .i64 ns] 46)) (fun _ _ iv _ => L.length - (intOf iv).toNat)
  case atStart => exact ⟨0, by omega, rfl, hid rfl, HB1.out, HE.out, HG1.out⟩
  case round =>
    clear HB1 HE HG1
    obtain ⟨k, hk, rfl, hX, hB, hE, hG⟩ := hrel
    by_cases hlt : k < L.length
    · obtain ⟨y, hy, hym⟩ := get_at (rfl : L.length = L.length) hlt
      obtain ⟨ad, hA, had, hc1, hc2, hc3, hc4⟩ := Nd.cells hE.out hy
      subst hA
      have Hget := hid hy
      obtain ⟨yk, yf, yb, ys⟩ := y
      simp only at hc1 hc2 hc3 hc4
      have ha := (Below.refl wr.heap.size wr).alloc (Nat.le_refl _) (.cells #[.int .i64 yk, .int .i64 yf, .int .i64 yb, .int .i64 ys] 46)
      have HB2 := hid (below_step hB.out ha)
      have HE2 := hid (hE.out.go (Go2.below ha))
      have HG2 := hid (hG.out.below ha hG.out.lt)
      have HF2 := hid (Fb.new wr #[.int .i64 yk, .int .i64 yf, .int .i64 yb, .int .i64 ys] 46)
      clear hy hym ha
      obtain ⟨g0, g1, g2, g3⟩ := Fb.four hG.out
      have hgl := hG.out.lt
      clear hB hE hG
      by_cases e1 : yk = nk ∧ yf = nf ∧ yb = nb ∧ ys = ns
      · obtain ⟨rfl, rfl, rfl, rfl⟩ := e1
        as_aux_lemma =>
          have Hr := hid (find_hit hX.out hlt Hget.out)
          go_wp2_with fail
          go_ret
          exact ⟨ret_i Hr.out, HB2.out⟩
      · have Hr := hid (some_step hX.out (find_no (n := ⟨nk, nf, nb, ns⟩) Hget.out (fun e => e1 (by injection e with a b c d; exact ⟨a, b, c, d⟩))))
        have hcs : (yk == nk) = false ∨ ((yk == nk) = true ∧ (yf == nf) = false) ∨ ((yk == nk) = true ∧ (yf == nf) = true ∧ (yb == nb) = false) ∨ ((yk == nk) = true ∧ (yf == nf) = true ∧ (yb == nb) = true ∧ (ys == ns) = false) := by
          by_cases h1 : yk = nk
          · by_cases h2 : yf = nf
            · by_cases h3 : yb = nb
              · have h4 : ys ≠ ns := fun h => e1 ⟨h1, h2, h3, h⟩
                simp [h1, h2, h3, h4]
              · simp [h1, h2, h3]
            · simp [h1, h2]
          · simp [h1]
        clear e1
        rcases hcs with t1 | ⟨t1, t2⟩ | ⟨t1, t2, t3⟩ | ⟨t1, t2, t3, t4⟩
        all_goals
          as_aux_lemma =>
            go_wp2_with fail
            go_roundw
            case rel => exact ⟨k + 1, by omega, by go_num, Hr, HB2, HE2, HG2⟩
            case measure => simp [intOf]; omega
    · as_aux_lemma =>
        obtain rfl : k = L.length := by omega
        have Hr := hid (find_end hX.out rfl)
        go_wp2_with fail
        go_ret
        exact ⟨ret_i Hr.out, hB.out⟩
end Go.Proofs.YtcgichfanfijjaaDoor

namespace Go.Proofs.YtcgichfanfijjaaDoor
set_option maxRecDepth 20000
open Go.ChangeShapes Go.WideShapes Go.ChangeAt Go.RowKit

/-- The decimal digits of a number, as bytes. -/
def dec (n : Nat) : List UInt8 := if h : n < 10 then [UInt8.ofNat (48 + n)] else dec (n / 10) ++ [UInt8.ofNat (48 + n % 10)]
termination_by n
decreasing_by omega

def str (l : List UInt8) : Value := .string ⟨l.toArray⟩
theorem add_str (a b : List UInt8) (h : a.length + b.length ≤ 4611686018427387904) (w : World) : (binOp BinOp.add 9 (str a) (str b)).run Tryd.prog w = .ok (str (a ++ b)) w := by
  unfold str
  simp [go_sem]
  rw [if_neg (by omega)]
  congr 3
theorem dec_len (n : Nat) : (dec n).length ≤ n + 1 := by
  induction n using Nat.strongRecOn with
  | ind n ih =>
    unfold dec
    split
    · simp
    · have := ih (n / 10) (by omega)
      rw [List.length_append]; simp; omega

theorem slice_digit (d : Int) (h0 : 0 ≤ d) (h1 : d < 10) (w : World) :
    (Instr.slice 9 (.string { data := #[48, 49, 50, 51, 52, 53, 54, 55, 56, 57] }) (some (.int .i64 d)) (some (.int .i64 (d + 1))) none).run Tryd.prog w = .ok (str [UInt8.ofNat (48 + d.toNat)]) w := by
  have : d = 0 ∨ d = 1 ∨ d = 2 ∨ d = 3 ∨ d = 4 ∨ d = 5 ∨ d = 6 ∨ d = 7 ∨ d = 8 ∨ d = 9 := by omega
  rcases this with rfl | rfl | rfl | rfl | rfl | rfl | rfl | rfl | rfl | rfl <;> rfl

end Go.Proofs.YtcgichfanfijjaaDoor

namespace Go.Proofs.YtcgichfanfijjaaDoor
set_option maxRecDepth 20000
set_option linter.unusedVariables false
set_option linter.unusedSimpArgs false
open Go.ChangeShapes Go.WideShapes Go.ChangeAt Go.RowKit

def digC (k : Nat) : UInt8 := UInt8.ofNat (48 + k)
theorem small_any (n : Nat) (hn : n < 10) (w : World) : Calls Tryd.prog 163 #[.int .i64 n] w fun e w' => e = .returned (.string ⟨#[digC n]⟩) ∧ w = w' := by
  have t1 : decide ((n : Int) < 10) = true := by simp; omega
  rcases (show n = 0 ∨ n = 1 ∨ n = 2 ∨ n = 3 ∨ n = 4 ∨ n = 5 ∨ n = 6 ∨ n = 7 ∨ n = 8 ∨ n = 9 by omega) with rfl | rfl | rfl | rfl | rfl | rfl | rfl | rfl | rfl | rfl
  all_goals
    clear t1 hn
    go_enter Tryd.func163, Tryd.ntmps163
    go_wp2
    go_ret
    exact ⟨rfl, rfl⟩
theorem format_any (n : Nat) (hn : n < 10) (w : World) : Calls Tryd.prog 126 #[.int .i64 n, .int .i64 10] w fun e w' => e = .returned (.string ⟨#[digC n]⟩) ∧ w = w' := by
  have t1 : decide ((n : Int) < 100) = true := by simp; omega
  have t0 : decide (0 ≤ (n : Int)) = true := by simp
  have H := hid (small_any n hn)
  go_enter Tryd.func126, Tryd.ntmps126
  go_wp2_with fail
  refine (H.out _).mono ?_
  rintro e w' ⟨rfl, rfl⟩
  go_wp2_with fail
  go_ret
  exact ⟨rfl, rfl⟩
theorem itoaI_any (n : Nat) (hn : n < 10) (w : World) : Calls Tryd.prog 88 #[.int .i64 n] w fun e w' => e = .returned (.string ⟨#[digC n]⟩) ∧ w = w' := by
  have H := hid (format_any n hn)
  go_enter Tryd.func88, Tryd.ntmps88
  go_wp2_with fail
  refine (H.out _).mono ?_
  rintro e w' ⟨rfl, rfl⟩
  go_wp2_with fail
  go_ret
  exact ⟨rfl, rfl⟩
theorem itoa_any (n : Nat) (hn : n < 10) (w : World) : Calls Tryd.prog 50 #[.int .i64 n] w fun e w' => e = .returned (.string ⟨#[digC n]⟩) ∧ w = w' := by
  have H := hid (itoaI_any n hn)
  go_enter Tryd.func50, Tryd.ntmps50
  go_wp2_with fail
  refine (H.out _).mono ?_
  rintro e w' ⟨rfl, rfl⟩
  go_wp2_with fail
  go_ret
  exact ⟨rfl, rfl⟩
def dotB : ByteArray := ⟨#[46]⟩
def entW : ByteArray := ⟨#[46, 101, 110, 116, 114, 121]⟩
def exiW : ByteArray := ⟨#[46, 101, 120, 105, 116]⟩
def plsW : ByteArray := ⟨#[43]⟩
def RetTx (w : World) (s : ByteArray) (e : Ending) (w' : World) : Prop := e = .returned (.string s) ∧ Below w.heap.size w w'
theorem prog_fn {w : World} {ex : List (Option Nat)} {x : PH} (h : PHok w ex x) {f : Nat} {F : Fnc} (h1 : x.p[f]? = some F) : ∃ y : FH, x.l[f]? = some y ∧ y ∈ x.l ∧ y.f = F := by
  unfold PH.p at h1
  rw [List.getElem?_map] at h1
  obtain ⟨y, hy, rfl⟩ := Option.map_eq_some_iff.1 h1
  exact ⟨y, hy, List.mem_of_getElem? hy, rfl⟩
set_option maxHeartbeats 6400000 in
theorem label_entry (x : PH) (f : Nat) (bk st : Int) (F : Fnc) (ex : List (Option Nat)) (w : World) (h : PHok w ex x) (hs : Shp w) (h1 : x.p[f]? = some F)
    (i : Nat) (hfind : findI (listN x.p) ⟨1, f, bk, st⟩ = (i : Int)) :
    Calls Tryd.prog 18 #[.agg #[.slice x.A x.n x.c], .agg #[.int .i64 1, .int .i64 f, .int .i64 bk, .int .i64 st]] w (RetTx w (F.name ++ entW)) := by
  have hx0 : PHok w [] x := h.go (Go2.less w (by simp))
  obtain ⟨y, hy, hym, rfl⟩ := prog_fn hx0 h1
  have hb0 : Below w.heap.size w ((w.alloc (.cells #[.slice x.A x.n x.c] 24)).alloc (.cells #[.int .i64 1, .int .i64 f, .int .i64 bk, .int .i64 st] 46)) := ((Below.refl w.heap.size w).alloc (Nat.le_refl _) _).alloc (by rw [World.size_alloc]; omega) _
  have HB0 := hid hb0
  have HP0 := hid ((Fb.new w #[.slice x.A x.n x.c] 24).alloc (.cells #[.int .i64 1, .int .i64 f, .int .i64 bk, .int .i64 st] 46))
  have HN0 := hid (show Fb ((w.alloc (.cells #[.slice x.A x.n x.c] 24)).alloc (.cells #[.int .i64 1, .int .i64 f, .int .i64 bk, .int .i64 st] 46)) (w.heap.size + 1) #[.int .i64 1, .int .i64 f, .int .i64 bk, .int .i64 st] 46 by have := Fb.new (w.alloc (.cells #[.slice x.A x.n x.c] 24)) #[.int .i64 1, .int .i64 f, .int .i64 bk, .int .i64 st] 46; rwa [World.size_alloc] at this)
  have HX0 := hid hx0
  have Hy := hid hy
  have HC := hid (find_any x ⟨1, f, bk, st⟩ [] _ (PHok.below hx0 hb0) (hs.keep (hb0.block 0 hs.pos0)))
  rw [hfind] at HC
  unfold agN at HC
  simp only at HC
  clear h hs h1 hb0 hx0 hfind
  have hfl : f < x.n := by have := (List.getElem?_eq_some_iff.1 hy).1; have h2 : x.l.length = x.n := HX0.out.len; omega
  have hfn : x.n ≤ 40 := HX0.out.few
  have Hym := hid hym
  clear hy hym
  go_enter Tryd.func18, Tryd.ntmps18
  go_wp2_with fail
  generalize (w.alloc (.cells #[.slice x.A x.n x.c] 24)).alloc (.cells #[.int .i64 1, .int .i64 f, .int .i64 bk, .int .i64 st] 46) = w0 at HB0 HP0 HN0 HC ⊢
  refine HC.out.mono ?_
  rintro e w1 ⟨rfl, hb1⟩
  have HB1 := hid (below_step HB0.out hb1)
  have HP1 := hid (HP0.out.below hb1 HP0.out.lt)
  have HN1 := hid (HN0.out.below hb1 HN0.out.lt)
  have HX1 := hid (PHok.below HX0.out HB1.out)
  clear hb1 HB0 HP0 HN0 HC HX0
  obtain ⟨ad, hA, had, hc1, hc2⟩ := FH.cells HX1.out.lies Hy.out
  have Hsm := hid (show y.f.name.size ≤ 1000 from (HX1.out.all y Hym.out).small)
  have Hnm := hid (show y.f.name = y.name from rfl)
  obtain ⟨xA, xn, xc, xl⟩ := x
  obtain ⟨ynm, yA, yn, yc, yl⟩ := y
  simp only at *
  subst hA
  have p0 := HP1.out.onec
  obtain ⟨n0, n1, n2, n3⟩ := Fb.four HN1.out
  have hlP := HP1.out.lt
  have hlN := HN1.out.lt
  have had' : (ad.add (f * 2)).block < w1.heap.size := by rw [add_block]; exact had
  have hi0 : decide ((i : Int) < 0) = false := by simp
  have hs1 : ynm.size + (⟨#[46, 101, 110, 116, 114, 121]⟩ : ByteArray).size ≤ 9223372036854775807 := by have h6 : (⟨#[46, 101, 110, 116, 114, 121]⟩ : ByteArray).size = 6 := rfl; have : ynm.size ≤ 1000 := Hsm.out; omega
  have hs2 : ynm.size + (⟨#[46, 101, 120, 105, 116]⟩ : ByteArray).size ≤ 9223372036854775807 := by have h6 : (⟨#[46, 101, 120, 105, 116]⟩ : ByteArray).size = 5 := rfl; have : ynm.size ≤ 1000 := Hsm.out; omega
  have HB5 := hid (below_step HB1.out ((Below.refl w1.heap.size w1).alloc (Nat.le_refl _) (.cells #[.string ynm, .slice yA yn yc] 51)))
  clear Hy Hym HX1
  go_wp2_with fail
  go_ret
  exact ⟨rfl, HB5.out⟩
set_option maxHeartbeats 6400000 in
theorem label_exit (x : PH) (f : Nat) (bk st : Int) (F : Fnc) (ex : List (Option Nat)) (w : World) (h : PHok w ex x) (hs : Shp w) (h1 : x.p[f]? = some F)
    (i : Nat) (hfind : findI (listN x.p) ⟨2, f, bk, st⟩ = (i : Int)) :
    Calls Tryd.prog 18 #[.agg #[.slice x.A x.n x.c], .agg #[.int .i64 2, .int .i64 f, .int .i64 bk, .int .i64 st]] w (RetTx w (F.name ++ exiW)) := by
  have hx0 : PHok w [] x := h.go (Go2.less w (by simp))
  obtain ⟨y, hy, hym, rfl⟩ := prog_fn hx0 h1
  have hb0 : Below w.heap.size w ((w.alloc (.cells #[.slice x.A x.n x.c] 24)).alloc (.cells #[.int .i64 2, .int .i64 f, .int .i64 bk, .int .i64 st] 46)) := ((Below.refl w.heap.size w).alloc (Nat.le_refl _) _).alloc (by rw [World.size_alloc]; omega) _
  have HB0 := hid hb0
  have HP0 := hid ((Fb.new w #[.slice x.A x.n x.c] 24).alloc (.cells #[.int .i64 2, .int .i64 f, .int .i64 bk, .int .i64 st] 46))
  have HN0 := hid (show Fb ((w.alloc (.cells #[.slice x.A x.n x.c] 24)).alloc (.cells #[.int .i64 2, .int .i64 f, .int .i64 bk, .int .i64 st] 46)) (w.heap.size + 1) #[.int .i64 2, .int .i64 f, .int .i64 bk, .int .i64 st] 46 by have := Fb.new (w.alloc (.cells #[.slice x.A x.n x.c] 24)) #[.int .i64 2, .int .i64 f, .int .i64 bk, .int .i64 st] 46; rwa [World.size_alloc] at this)
  have HX0 := hid hx0
  have Hy := hid hy
  have HC := hid (find_any x ⟨2, f, bk, st⟩ [] _ (PHok.below hx0 hb0) (hs.keep (hb0.block 0 hs.pos0)))
  rw [hfind] at HC
  unfold agN at HC
  simp only at HC
  clear h hs h1 hb0 hx0 hfind
  have hfl : f < x.n := by have := (List.getElem?_eq_some_iff.1 hy).1; have h2 : x.l.length = x.n := HX0.out.len; omega
  have hfn : x.n ≤ 40 := HX0.out.few
  have Hym := hid hym
  clear hy hym
  go_enter Tryd.func18, Tryd.ntmps18
  go_wp2_with fail
  generalize (w.alloc (.cells #[.slice x.A x.n x.c] 24)).alloc (.cells #[.int .i64 2, .int .i64 f, .int .i64 bk, .int .i64 st] 46) = w0 at HB0 HP0 HN0 HC ⊢
  refine HC.out.mono ?_
  rintro e w1 ⟨rfl, hb1⟩
  have HB1 := hid (below_step HB0.out hb1)
  have HP1 := hid (HP0.out.below hb1 HP0.out.lt)
  have HN1 := hid (HN0.out.below hb1 HN0.out.lt)
  have HX1 := hid (PHok.below HX0.out HB1.out)
  clear hb1 HB0 HP0 HN0 HC HX0
  obtain ⟨ad, hA, had, hc1, hc2⟩ := FH.cells HX1.out.lies Hy.out
  have Hsm := hid (show y.f.name.size ≤ 1000 from (HX1.out.all y Hym.out).small)
  have Hnm := hid (show y.f.name = y.name from rfl)
  obtain ⟨xA, xn, xc, xl⟩ := x
  obtain ⟨ynm, yA, yn, yc, yl⟩ := y
  simp only at *
  subst hA
  have p0 := HP1.out.onec
  obtain ⟨n0, n1, n2, n3⟩ := Fb.four HN1.out
  have hlP := HP1.out.lt
  have hlN := HN1.out.lt
  have had' : (ad.add (f * 2)).block < w1.heap.size := by rw [add_block]; exact had
  have hi0 : decide ((i : Int) < 0) = false := by simp
  have hs1 : ynm.size + (⟨#[46, 101, 110, 116, 114, 121]⟩ : ByteArray).size ≤ 9223372036854775807 := by have h6 : (⟨#[46, 101, 110, 116, 114, 121]⟩ : ByteArray).size = 6 := rfl; have : ynm.size ≤ 1000 := Hsm.out; omega
  have hs2 : ynm.size + (⟨#[46, 101, 120, 105, 116]⟩ : ByteArray).size ≤ 9223372036854775807 := by have h6 : (⟨#[46, 101, 120, 105, 116]⟩ : ByteArray).size = 5 := rfl; have : ynm.size ≤ 1000 := Hsm.out; omega
  have HB5 := hid (below_step HB1.out ((Below.refl w1.heap.size w1).alloc (Nat.le_refl _) (.cells #[.string ynm, .slice yA yn yc] 51)))
  clear Hy Hym HX1
  go_wp2_with fail
  go_ret
  exact ⟨rfl, HB5.out⟩
set_option maxHeartbeats 6400000 in
theorem label_stmt (x : PH) (f b j : Nat) (F : Fnc) (B : Blk) (ex : List (Option Nat)) (w : World) (h : PHok w ex x) (hs : Shp w) (h1 : x.p[f]? = some F) (h2 : F.bs[b]? = some B) (hj : j < 10)
    (i : Nat) (hfind : findI (listN x.p) ⟨3, f, b, j⟩ = (i : Int)) :
    Calls Tryd.prog 18 #[.agg #[.slice x.A x.n x.c], .agg #[.int .i64 3, .int .i64 f, .int .i64 b, .int .i64 j]] w (RetTx w ((((F.name ++ dotB) ++ B.name) ++ dotB) ++ (⟨#[digC j]⟩ : ByteArray))) := by
  have hx0 : PHok w [] x := h.go (Go2.less w (by simp))
  obtain ⟨y, hy, hym, rfl⟩ := prog_fn hx0 h1
  obtain ⟨z, hz, hzm, rfl⟩ : ∃ z : BH, y.l[b]? = some z ∧ z ∈ y.l ∧ z.b = B := by
    change (y.l.map BH.b)[b]? = some B at h2
    rw [List.getElem?_map] at h2
    obtain ⟨z, hz, rfl⟩ := Option.map_eq_some_iff.1 h2
    exact ⟨z, hz, List.mem_of_getElem? hz, rfl⟩
  have hb0 : Below w.heap.size w ((w.alloc (.cells #[.slice x.A x.n x.c] 24)).alloc (.cells #[.int .i64 3, .int .i64 f, .int .i64 b, .int .i64 j] 46)) := ((Below.refl w.heap.size w).alloc (Nat.le_refl _) _).alloc (by rw [World.size_alloc]; omega) _
  have HB0 := hid hb0
  have HP0 := hid ((Fb.new w #[.slice x.A x.n x.c] 24).alloc (.cells #[.int .i64 3, .int .i64 f, .int .i64 b, .int .i64 j] 46))
  have HN0 := hid (show Fb ((w.alloc (.cells #[.slice x.A x.n x.c] 24)).alloc (.cells #[.int .i64 3, .int .i64 f, .int .i64 b, .int .i64 j] 46)) (w.heap.size + 1) #[.int .i64 3, .int .i64 f, .int .i64 b, .int .i64 j] 46 by have := Fb.new (w.alloc (.cells #[.slice x.A x.n x.c] 24)) #[.int .i64 3, .int .i64 f, .int .i64 b, .int .i64 j] 46; rwa [World.size_alloc] at this)
  have HX0 := hid hx0
  have Hy := hid hy
  have HC := hid (find_any x ⟨3, f, b, j⟩ [] _ (PHok.below hx0 hb0) (hs.keep (hb0.block 0 hs.pos0)))
  rw [hfind] at HC
  unfold agN at HC
  simp only at HC
  clear h hs h1 h2 hb0 hx0 hfind
  have hfl : f < x.n := by have := (List.getElem?_eq_some_iff.1 hy).1; have h2 : x.l.length = x.n := HX0.out.len; omega
  have hfn : x.n ≤ 40 := HX0.out.few
  have Hym := hid hym
  have hbl : b < y.n := by have := (List.getElem?_eq_some_iff.1 hz).1; have h2 : y.l.length = y.n := (HX0.out.all y hym).len; omega
  have hbn : y.n ≤ 40 := (HX0.out.all y hym).few
  have Hz := hid hz
  have Hzm := hid hzm
  clear hy hym hz hzm
  go_enter Tryd.func18, Tryd.ntmps18
  go_wp2_with fail
  generalize (w.alloc (.cells #[.slice x.A x.n x.c] 24)).alloc (.cells #[.int .i64 3, .int .i64 f, .int .i64 b, .int .i64 j] 46) = w0 at HB0 HP0 HN0 HC ⊢
  refine HC.out.mono ?_
  rintro e w1 ⟨rfl, hb1⟩
  have HB1 := hid (below_step HB0.out hb1)
  have HP1 := hid (HP0.out.below hb1 HP0.out.lt)
  have HN1 := hid (HN0.out.below hb1 HN0.out.lt)
  have HX1 := hid (PHok.below HX0.out HB1.out)
  clear hb1 HB0 HP0 HN0 HC HX0
  obtain ⟨ad, hA, had, hc1, hc2⟩ := FH.cells HX1.out.lies Hy.out
  have HY := hid (HX1.out.all y Hym.out)
  obtain ⟨ad2, hA2, had2, hd1, hd2⟩ := BH.cells HY.out.lies Hz.out
  have Hsz := hid (show z.b.name.size ≤ 1000 from (HY.out.all z Hzm.out).small)
  have Hsm := hid (show y.f.name.size ≤ 1000 from (HX1.out.all y Hym.out).small)
  have Hnm := hid (show y.f.name = y.name from rfl)
  obtain ⟨xA, xn, xc, xl⟩ := x
  obtain ⟨ynm, yA, yn, yc, yl⟩ := y
  obtain ⟨znm, zA, zn, zc, zl⟩ := z
  simp only at *
  subst hA
  subst hA2
  have p0 := HP1.out.onec
  obtain ⟨n0, n1, n2, n3⟩ := Fb.four HN1.out
  have hlP := HP1.out.lt
  have hlN := HN1.out.lt
  have had' : (ad.add (f * 2)).block < w1.heap.size := by rw [add_block]; exact had
  have hi0 : decide ((i : Int) < 0) = false := by simp
  have had2' : (ad2.add (b * 2)).block < w1.heap.size := by rw [add_block]; exact had2
  have HB5 := hid (below_step HB1.out ((Below.refl w1.heap.size w1).alloc (Nat.le_refl _) (.cells #[.string ynm, .slice (some ad2) yn yc] 51)))
  clear Hy Hym HX1 HY Hz Hzm
  have hnS : ynm.size ≤ 1000 := Hsm.out
  have hzS : znm.size ≤ 1000 := Hsz.out
  have e1 : (⟨#[46]⟩ : ByteArray).size = 1 := rfl
  have e2 : (⟨#[digC j]⟩ : ByteArray).size = 1 := rfl
  have e3 : (⟨#[43]⟩ : ByteArray).size = 1 := rfl
  have hs1 : ynm.size + (⟨#[46]⟩ : ByteArray).size ≤ 9223372036854775807 := by omega
  have hs2 : (ynm ++ (⟨#[46]⟩ : ByteArray)).size + znm.size ≤ 9223372036854775807 := by rw [ByteArray.size_append]; omega
  have hs3 : ((ynm ++ (⟨#[46]⟩ : ByteArray)) ++ znm).size + (⟨#[46]⟩ : ByteArray).size ≤ 9223372036854775807 := by rw [ByteArray.size_append, ByteArray.size_append]; omega
  have hs4 : (((ynm ++ (⟨#[46]⟩ : ByteArray)) ++ znm) ++ (⟨#[46]⟩ : ByteArray)).size + (⟨#[digC j]⟩ : ByteArray).size ≤ 9223372036854775807 := by rw [ByteArray.size_append, ByteArray.size_append, ByteArray.size_append]; omega
  have hs5 : ((((ynm ++ (⟨#[46]⟩ : ByteArray)) ++ znm) ++ (⟨#[46]⟩ : ByteArray)) ++ (⟨#[digC j]⟩ : ByteArray)).size + (⟨#[43]⟩ : ByteArray).size ≤ 9223372036854775807 := by rw [ByteArray.size_append, ByteArray.size_append, ByteArray.size_append, ByteArray.size_append]; omega
  have Hit := hid (fun w => itoa_any j hj w)
  clear e1 e2 e3 hnS hzS
  go_wp2_with fail
  have HQ := hid (fun q => below_drewN HB5.out q)
  go_quiet ((go_at_call 50; exact quiet_same (Hit.out _)))
  go_wp2_with fail
  go_ret
  exact ⟨rfl, HQ.out _⟩
set_option maxHeartbeats 6400000 in
theorem label_retn (x : PH) (f b j : Nat) (F : Fnc) (B : Blk) (ex : List (Option Nat)) (w : World) (h : PHok w ex x) (hs : Shp w) (h1 : x.p[f]? = some F) (h2 : F.bs[b]? = some B) (hj : j < 10)
    (i : Nat) (hfind : findI (listN x.p) ⟨4, f, b, j⟩ = (i : Int)) :
    Calls Tryd.prog 18 #[.agg #[.slice x.A x.n x.c], .agg #[.int .i64 4, .int .i64 f, .int .i64 b, .int .i64 j]] w (RetTx w ((((F.name ++ dotB) ++ B.name) ++ dotB) ++ (⟨#[digC j]⟩ : ByteArray) ++ plsW)) := by
  have hx0 : PHok w [] x := h.go (Go2.less w (by simp))
  obtain ⟨y, hy, hym, rfl⟩ := prog_fn hx0 h1
  obtain ⟨z, hz, hzm, rfl⟩ : ∃ z : BH, y.l[b]? = some z ∧ z ∈ y.l ∧ z.b = B := by
    change (y.l.map BH.b)[b]? = some B at h2
    rw [List.getElem?_map] at h2
    obtain ⟨z, hz, rfl⟩ := Option.map_eq_some_iff.1 h2
    exact ⟨z, hz, List.mem_of_getElem? hz, rfl⟩
  have hb0 : Below w.heap.size w ((w.alloc (.cells #[.slice x.A x.n x.c] 24)).alloc (.cells #[.int .i64 4, .int .i64 f, .int .i64 b, .int .i64 j] 46)) := ((Below.refl w.heap.size w).alloc (Nat.le_refl _) _).alloc (by rw [World.size_alloc]; omega) _
  have HB0 := hid hb0
  have HP0 := hid ((Fb.new w #[.slice x.A x.n x.c] 24).alloc (.cells #[.int .i64 4, .int .i64 f, .int .i64 b, .int .i64 j] 46))
  have HN0 := hid (show Fb ((w.alloc (.cells #[.slice x.A x.n x.c] 24)).alloc (.cells #[.int .i64 4, .int .i64 f, .int .i64 b, .int .i64 j] 46)) (w.heap.size + 1) #[.int .i64 4, .int .i64 f, .int .i64 b, .int .i64 j] 46 by have := Fb.new (w.alloc (.cells #[.slice x.A x.n x.c] 24)) #[.int .i64 4, .int .i64 f, .int .i64 b, .int .i64 j] 46; rwa [World.size_alloc] at this)
  have HX0 := hid hx0
  have Hy := hid hy
  have HC := hid (find_any x ⟨4, f, b, j⟩ [] _ (PHok.below hx0 hb0) (hs.keep (hb0.block 0 hs.pos0)))
  rw [hfind] at HC
  unfold agN at HC
  simp only at HC
  clear h hs h1 h2 hb0 hx0 hfind
  have hfl : f < x.n := by have := (List.getElem?_eq_some_iff.1 hy).1; have h2 : x.l.length = x.n := HX0.out.len; omega
  have hfn : x.n ≤ 40 := HX0.out.few
  have Hym := hid hym
  have hbl : b < y.n := by have := (List.getElem?_eq_some_iff.1 hz).1; have h2 : y.l.length = y.n := (HX0.out.all y hym).len; omega
  have hbn : y.n ≤ 40 := (HX0.out.all y hym).few
  have Hz := hid hz
  have Hzm := hid hzm
  clear hy hym hz hzm
  go_enter Tryd.func18, Tryd.ntmps18
  go_wp2_with fail
  generalize (w.alloc (.cells #[.slice x.A x.n x.c] 24)).alloc (.cells #[.int .i64 4, .int .i64 f, .int .i64 b, .int .i64 j] 46) = w0 at HB0 HP0 HN0 HC ⊢
  refine HC.out.mono ?_
  rintro e w1 ⟨rfl, hb1⟩
  have HB1 := hid (below_step HB0.out hb1)
  have HP1 := hid (HP0.out.below hb1 HP0.out.lt)
  have HN1 := hid (HN0.out.below hb1 HN0.out.lt)
  have HX1 := hid (PHok.below HX0.out HB1.out)
  clear hb1 HB0 HP0 HN0 HC HX0
  obtain ⟨ad, hA, had, hc1, hc2⟩ := FH.cells HX1.out.lies Hy.out
  have HY := hid (HX1.out.all y Hym.out)
  obtain ⟨ad2, hA2, had2, hd1, hd2⟩ := BH.cells HY.out.lies Hz.out
  have Hsz := hid (show z.b.name.size ≤ 1000 from (HY.out.all z Hzm.out).small)
  have Hsm := hid (show y.f.name.size ≤ 1000 from (HX1.out.all y Hym.out).small)
  have Hnm := hid (show y.f.name = y.name from rfl)
  obtain ⟨xA, xn, xc, xl⟩ := x
  obtain ⟨ynm, yA, yn, yc, yl⟩ := y
  obtain ⟨znm, zA, zn, zc, zl⟩ := z
  simp only at *
  subst hA
  subst hA2
  have p0 := HP1.out.onec
  obtain ⟨n0, n1, n2, n3⟩ := Fb.four HN1.out
  have hlP := HP1.out.lt
  have hlN := HN1.out.lt
  have had' : (ad.add (f * 2)).block < w1.heap.size := by rw [add_block]; exact had
  have hi0 : decide ((i : Int) < 0) = false := by simp
  have had2' : (ad2.add (b * 2)).block < w1.heap.size := by rw [add_block]; exact had2
  have HB5 := hid (below_step HB1.out ((Below.refl w1.heap.size w1).alloc (Nat.le_refl _) (.cells #[.string ynm, .slice (some ad2) yn yc] 51)))
  clear Hy Hym HX1 HY Hz Hzm
  have hnS : ynm.size ≤ 1000 := Hsm.out
  have hzS : znm.size ≤ 1000 := Hsz.out
  have e1 : (⟨#[46]⟩ : ByteArray).size = 1 := rfl
  have e2 : (⟨#[digC j]⟩ : ByteArray).size = 1 := rfl
  have e3 : (⟨#[43]⟩ : ByteArray).size = 1 := rfl
  have hs1 : ynm.size + (⟨#[46]⟩ : ByteArray).size ≤ 9223372036854775807 := by omega
  have hs2 : (ynm ++ (⟨#[46]⟩ : ByteArray)).size + znm.size ≤ 9223372036854775807 := by rw [ByteArray.size_append]; omega
  have hs3 : ((ynm ++ (⟨#[46]⟩ : ByteArray)) ++ znm).size + (⟨#[46]⟩ : ByteArray).size ≤ 9223372036854775807 := by rw [ByteArray.size_append, ByteArray.size_append]; omega
  have hs4 : (((ynm ++ (⟨#[46]⟩ : ByteArray)) ++ znm) ++ (⟨#[46]⟩ : ByteArray)).size + (⟨#[digC j]⟩ : ByteArray).size ≤ 9223372036854775807 := by rw [ByteArray.size_append, ByteArray.size_append, ByteArray.size_append]; omega
  have hs5 : ((((ynm ++ (⟨#[46]⟩ : ByteArray)) ++ znm) ++ (⟨#[46]⟩ : ByteArray)) ++ (⟨#[digC j]⟩ : ByteArray)).size + (⟨#[43]⟩ : ByteArray).size ≤ 9223372036854775807 := by rw [ByteArray.size_append, ByteArray.size_append, ByteArray.size_append, ByteArray.size_append]; omega
  have Hit := hid (fun w => itoa_any j hj w)
  clear e1 e2 e3 hnS hzS
  go_wp2_with fail
  have HQ := hid (fun q => below_drewN HB5.out q)
  go_quiet ((go_at_call 50; exact quiet_same (Hit.out _)))
  go_wp2_with fail
  go_ret
  exact ⟨rfl, HQ.out _⟩
end Go.Proofs.YtcgichfanfijjaaDoor

namespace Go.Proofs.YtcgichfanfijjaaDoor
set_option maxRecDepth 20000
set_option linter.unusedVariables false
set_option linter.unusedSimpArgs false
open Go.ChangeShapes Go.WideShapes Go.ChangeAt Go.RowKit
attribute [local go_sem] fieldTok0 fieldTok1 fieldTok2 fieldTok3

theorem own_mono {w : World} {base base' k n : Nat} {e : TypeId} {v : Value} {xs : List Value} (h : w.ownsRow base e k v n xs) (hb : base' ≤ base) : w.ownsRow base' e k v n xs := by
  obtain ⟨h1, h2⟩ := h
  refine ⟨h1, ?_⟩
  rcases h2 with h2 | ⟨g, cap, cur, a1, a2, a3⟩
  · exact .inl h2
  · exact .inr ⟨g, cap, cur, a1, Nat.le_trans hb a2, a3⟩
structure Bd {α : Type} (K : Kind α) (w0 : World) (b g : Nat) (σ : Ds) (nm : ByteArray) (v : Value) (l : List α) (w : World) : Prop where
  st : DTo w0 b σ w
  old : b < w0.heap.size
  hi : w0.heap.size < g
  f2 : Fb w w0.heap.size #[.string ⟨#[]⟩, .slice none 0 0] K.tb
  f3 : Fb w g #[.string nm, v] K.tb
  own : w.ownsRow (g + 1) K.te K.k v l.length (l.flatMap K.f)
  all : ∀ x ∈ l, Fr (g + 1) (K.P x) w
section
variable {α : Type} {K : Kind α} {w0 w w' : World} {b g : Nat} {σ σ' : Ds} {nm : ByteArray} {v : Value} {l : List α}
theorem Bd.start (h : DTo w0 b σ w) (ho : b < w0.heap.size) (hf : Fb w w0.heap.size #[.string ⟨#[]⟩, .slice none 0 0] K.tb) (y : ByteArray) :
    Bd K w0 b w.heap.size σ y (.slice none 0 0) [] (w.alloc (.cells #[.string y, .slice none 0 0] K.tb)) :=
  ⟨h.belowr ((Below.refl _ _).alloc (Nat.le_refl _) _), ho, hf.lt, hf.alloc _, Fb.new w _ _, World.ownsRow_nil _ _ _ _, by simp⟩
theorem Bd.call (h : Bd K w0 b g σ nm v l w) (hr : DTo w b σ' w') : Bd K w0 b g σ' nm v l w' :=
  ⟨h.st.trans hr, h.old, h.hi, h.f2.grown hr.2 (by have := h.old; simp; omega), h.f3.grown hr.2 (by have := h.old; have := h.hi; simp; omega), DTo.own h.own hr (by have := h.old; have := h.hi; omega),
    fun x hx => (h.all x hx).grown (K.go x) hr.2 (fun k hk => by injection hk with hk; have := h.old; have := h.hi; omega)⟩
theorem Bd.size (h : Bd K w0 b g σ nm v l w) : g + 1 ≤ w.heap.size := h.f3.lt
theorem Bd.cells (h : Bd K w0 b g σ nm v l w) :
    (w.cell? ⟨g, 0, none⟩ = some (.string nm) ∧ w.cell? ⟨g, 1, none⟩ = some v) ∧ (w.frozen? ⟨g, 0, none⟩ = false ∧ w.frozen? ⟨g, 1, none⟩ = false) ∧
    (w.cell? ⟨w0.heap.size, 0, none⟩ = some (.string ⟨#[]⟩) ∧ w.cell? ⟨w0.heap.size, 1, none⟩ = some (.slice none 0 0)) ∧ (w.frozen? ⟨w0.heap.size, 0, none⟩ = false ∧ w.frozen? ⟨w0.heap.size, 1, none⟩ = false) ∧ g < w.heap.size ∧ w0.heap.size < w.heap.size ∧ w0.heap.size ≠ g :=
  ⟨⟨h.f3.cell 0, h.f3.cell 1⟩, ⟨h.f3.frozen 0, h.f3.frozen 1⟩, ⟨h.f2.cell 0, h.f2.cell 1⟩, ⟨h.f2.frozen 0, h.f2.frozen 1⟩, h.f3.lt, h.f2.lt, by have := h.hi; omega⟩
/-- The list is stored. -/
theorem Bd.putL {wc : World} {B : Option Addr} {d n : Nat} {l2 : List α} (h : Bd K w0 b g σ nm v l w) (hc : g + 1 ≤ wc.heap.size) (hown : w.ownsRow wc.heap.size K.te K.k (.slice B n d) n (l2.flatMap K.f)) (hn : n = l2.length) (hall : ∀ x ∈ l2, Fr wc.heap.size (K.P x) w) :
    Bd K w0 b g σ nm (.slice B n d) l2 (w.setCell ⟨g, 1, none⟩ (.slice B n d)) := by
  have ho := h.old
  have hi := h.hi
  have hg := setCell_grown w ⟨g, 1, none⟩ (.slice B n d)
  subst hn
  refine ⟨⟨h.st.1.far (by show b < g; omega) _, grown_set_new h.st.2 (by show w0.heap.size ≤ g; omega) _⟩, ho, hi, h.f2.far (by show w0.heap.size ≠ g; omega) _, ?_, ?_, fun x hx => ((hall x hx).less hc).grown (K.go x) hg (fun k hk => by injection hk with hk; have : g = k := hk; omega)⟩
  · have := h.f3.set 1 (.slice B l2.length d)
    simpa using this
  · exact (own_mono hown hc).kept hg (by
      cases e : (Value.slice B l2.length d).ownBlock with
      | none => exact .inl rfl
      | some k => exact .inr (by have h2 := (hown.lt k e).1; show some k ≠ some g; simp; omega))
end
theorem Bd.doneB {w0 w : World} {b g n d : Nat} {B : Option Addr} {σ : Ds} {nm : ByteArray} {l : List SH} (h : Bd KS w0 b g σ nm (.slice B n d) l w) (hn : l.length = n) (hl : n ≤ 40) (hnm : nm.size ≤ 16) (p q : Value) {R : Blk × Ds} (hR : R = (⟨nm, l.map SH.t⟩, σ)) :
    RetDb w0 b R (.returned (agB ⟨nm, B, n, d, l⟩)) ((w.setCell ⟨w0.heap.size, 0, none⟩ p).setCell ⟨w0.heap.size, 1, none⟩ q) := by
  subst hR
  have ho := h.old
  have hi := h.hi
  have hg : w.grownBy ((w.setCell ⟨w0.heap.size, 0, none⟩ p).setCell ⟨w0.heap.size, 1, none⟩ q) (some w0.heap.size) := grown_two (setCell_grown w ⟨w0.heap.size, 0, none⟩ p) (setCell_grown _ ⟨w0.heap.size, 1, none⟩ q)
  refine ⟨⟨nm, B, n, d, l⟩, rfl, rfl, ?_, h.st.1.grown hg (fun k hk => by injection hk with hk; omega), set2_grown h.st.2 p q⟩
  have h1 : Fr (g + 1) (BP ⟨nm, B, n, d, l⟩) w := by
    subst hn
    exact fun ex he => ⟨EAt.own h.own (fun k hg2 hin => by have h1 := (h.own.lt k hg2).1; have h2 := he k hin; omega), rfl, hl, by show nm.size ≤ 1000; omega, fun y hy => (h.all y hy) ex he⟩
  exact (h1.grown (fun h hg => BHok.go h hg) hg (fun k hk => by injection hk with hk; omega)).less (by omega)
theorem Bd.doneF {w0 w : World} {b g n d : Nat} {B : Option Addr} {σ : Ds} {nm : ByteArray} {l : List BH} (h : Bd KB w0 b g σ nm (.slice B n d) l w) (hn : l.length = n) (hl : n ≤ 40) (hnm : nm.size ≤ 16) (p q : Value) {R : Fnc × Ds} (hR : R = (⟨nm, l.map BH.b⟩, σ)) :
    RetDf w0 b R (.returned (agF ⟨nm, B, n, d, l⟩)) ((w.setCell ⟨w0.heap.size, 0, none⟩ p).setCell ⟨w0.heap.size, 1, none⟩ q) := by
  subst hR
  have ho := h.old
  have hi := h.hi
  have hg : w.grownBy ((w.setCell ⟨w0.heap.size, 0, none⟩ p).setCell ⟨w0.heap.size, 1, none⟩ q) (some w0.heap.size) := grown_two (setCell_grown w ⟨w0.heap.size, 0, none⟩ p) (setCell_grown _ ⟨w0.heap.size, 1, none⟩ q)
  refine ⟨⟨nm, B, n, d, l⟩, rfl, rfl, ?_, h.st.1.grown hg (fun k hk => by injection hk with hk; omega), set2_grown h.st.2 p q⟩
  have h1 : Fr (g + 1) (FP ⟨nm, B, n, d, l⟩) w := by
    subst hn
    exact fun ex he => ⟨EAt.own h.own (fun k hg2 hin => by have h1 := (h.own.lt k hg2).1; have h2 := he k hin; omega), rfl, hl, by show nm.size ≤ 1000; omega, fun y hy => (h.all y hy) ex he⟩
  exact (h1.grown (fun h hg => FHok.go h hg) hg (fun k hk => by injection hk with hk; omega)).less (by omega)
set_option maxHeartbeats 3200000 in
theorem devBlock_any (b : Nat) (σ : Ds) (w : World) (h : Dst w b σ) : Calls Tryd.prog 146 #[.pointer (some ⟨b, 0, none⟩)] w (RetDb w b (blockS σ)) := by
  have HR : Hid (blockS σ = (⟨(nameS (wordS kwBlock σ)).1, (someS begS stmtS 32 (endS (nameS (wordS kwBlock σ)).2)).1⟩, (someS begS stmtS 32 (endS (nameS (wordS kwBlock σ)).2)).2)) := hid rfl
  have Hlt := hid h.lt
  have h0 := hid (show Dst (w.alloc (.cells #[.string ⟨#[]⟩, .slice none 0 0] 54)) b σ from h.below ((Below.refl _ _).alloc (Nat.le_refl _) _) h.lt)
  have hf0 := hid (Fb.new w #[.string ⟨#[]⟩, .slice none 0 0] 54)
  have hb0 := hid ((Below.refl w.heap.size w).alloc (Nat.le_refl _) (.cells #[.string ⟨#[]⟩, .slice none 0 0] 54))
  clear h
  go_enter Tryd.func146, Tryd.ntmps146
  go_wp2_with fail
  generalize w.alloc (.cells #[.string ⟨#[]⟩, .slice none 0 0] 54) = wa at *
  refine (devWord_any b σ kwBlock kwbl.2.1 _ h0.out).mono ?_
  rintro e w1 ⟨rfl, h1⟩
  have H1 := hid (DTo.belowl hb0.out h1)
  have hf1 := hid (hf0.out.grown h1.2 (by have := Hlt.out; simp; omega))
  clear h1 h0 hf0 hb0
  generalize wordS kwBlock σ = σ1 at *
  go_wp2_with fail
  refine (devName_any b σ1 _ H1.out.1).mono ?_
  rintro e w2 ⟨rfl, h2⟩
  have H2 := hid (H1.out.trans h2)
  have H16 := hid H1.out.1.name16
  have hf2 := hid (hf1.out.grown h2.2 (by have := Hlt.out; simp; omega))
  clear h2 H1 hf1
  generalize (nameS σ1).1 = y at *
  generalize (nameS σ1).2 = σ2 at *
  have H3 := hid (Bd.start (K := KS) H2.out Hlt.out hf2.out y)
  have H3' : Hid (Bd KS w b w2.heap.size σ2 y (.slice none 0 0) [] (w2.alloc (.cells #[.string y, .slice none 0 0] 54))) := H3
  clear H2 hf2 H3
  go_wp2_with fail
  generalize w2.alloc (.cells #[.string y, .slice none 0 0] 54) = w3 at *
  generalize w2.heap.size = g at *
  refine (devEnd_any b σ2 _ H3'.out.st.1).mono ?_
  rintro e w4 ⟨rfl, h4⟩
  have H4 := hid (H3'.out.call h4)
  clear h4 H3'
  generalize endS σ2 = σ3 at *
  go_wp2_with fail
  refine (devSome_stmt b σ3 _ H4.out.st.1).mono ?_
  rintro e w5 ⟨B, d, l, rfl, hl, hown, hfr, h5⟩
  have H5 := hid (H4.out.call h5)
  have hl2 : l.length ≤ 32 := by
    have h1 : (l.map SH.t).length = (someS begS stmtS 32 σ3).1.length := by rw [hl]
    have h2 : (someS begS stmtS 32 σ3).1.length ≤ 32 := listS_len begS stmtS 32 σ3
    rw [List.length_map] at h1; omega
  rw [← hl] at HR
  obtain ⟨⟨q0, q1⟩, ⟨r0, r1⟩, -, -, hz, -, -⟩ := H5.out.cells
  have H6 := hid (H5.out.putL H4.out.size hown rfl hfr)
  clear hl hown hfr h5 H4 H5
  generalize (someS begS stmtS 32 σ3).2 = σ4 at *
  generalize hm : l.length = m at *
  have Hm := hid hm
  clear hm
  go_upto_region 5 with fail
  generalize w5.setCell ⟨g, 1, none⟩ (.slice B m d) = w6 at *
  clear q0 q1 r0 r1 hz
  obtain ⟨⟨p0, p1⟩, -, ⟨v0, v1⟩, ⟨s0, s1⟩, hsz, hsz2, hsz3⟩ := H6.out.cells
  go_wp2_with fail
  refine bodyPost_ret (v := agB ⟨y, B, m, d, l⟩) (by simp [results, Tryd.results146, go_sem, p0, p1, s0, s1, v0, v1, hsz, hsz2, agB]) rfl ?_
  exact H6.out.doneB Hm.out (by omega) H16.out _ _ HR.out
end Go.Proofs.YtcgichfanfijjaaDoor

namespace Go.Proofs.YtcgichfanfijjaaDoor
set_option maxRecDepth 20000
set_option linter.unusedVariables false
set_option linter.unusedSimpArgs false
open Go.ChangeShapes Go.WideShapes Go.ChangeAt Go.RowKit
attribute [local go_sem] fieldTok0 fieldTok1 fieldTok2 fieldTok3

set_option maxHeartbeats 3200000 in
theorem devList_block (b : Nat) (σ : Ds) (w : World) (h : Dst w b σ) :
    Calls Tryd.prog 174 #[.pointer (some ⟨b, 0, none⟩), .int .i64 16, .func (Fn.func 145) #[] #[], .func (Fn.func 146) #[.pointer (some ⟨b, 0, none⟩)] #[]] w (RetLs KB BH.b w b (listS begB blockS 16 σ)) := by
  have Hst := hid (Lg.start (K := KB) h)
  clear h
  obtain ⟨i0, hi, hz0, hz1, hz2⟩ := info_parts info66
  have Hi := hid hi; have Hz0 := hid hz0; have Hz1 := hid hz1; have Hz2 := hid hz2
  clear hi hz0 hz1 hz2
  go_enter Tryd.func174, Tryd.ntmps174
  go_wp2_with fail
  go_loopw [9] (fun v wr => ∃ (l : List BH) (n : Nat) (σ2 : Ds), Hid (Lg KB w b σ2 v l wr) ∧ Hid (Drel begB blockS 16 σ (l.map BH.b) n σ2)) (fun v _ => 16 + 1 - (lenOf v))
  case atStart => exact ⟨[], 16, σ, Hst.out, Drel.start⟩
  case round =>
    clear Hst
    obtain ⟨l, n, σ2, H, HL⟩ := hrel
    obtain ⟨B, d, hv⟩ := own_any_slice H.out.own
    subst hv
    have hlen : l.length + n = 16 := by have := HL.out.1; simpa using this
    have Hm := hid (show lenOf (.slice B l.length d) = l.length from rfl)
    cases hb : begB (nxt σ2.l).text with
    | false =>
      have HB := hid hb
      clear hb
      go_wp2_with fail
      refine (devNext_any b σ2 _ H.out.st.1).mono ?_
      rintro e w1 ⟨rfl, hb1⟩
      have H1 := hid (H.out.below hb1)
      clear hb1
      unfold agT
      go_wp2_with fail
      refine (devBegB_any (nxt σ2.l).text _).mono ?_
      rw [HB.out]
      rintro e w' ⟨rfl, rfl⟩
      go_wp2
      go_ret
      exact H1.out.done (HL.out.stop HB.out)
    | true =>
      have HB := hid hb
      clear hb
      cases n with
      | zero =>
        have tl : ((l.length : Int) == 16) = true := by simp; omega
        have Htl := hid tl
        clear tl
        go_wp2_with fail
        refine (devNext_any b σ2 _ H.out.st.1).mono ?_
        rintro e w1 ⟨rfl, hb1⟩
        have H1 := hid (H.out.below hb1)
        clear hb1
        unfold agT
        go_wp2_with fail
        refine (devBegB_any (nxt σ2.l).text _).mono ?_
        rw [HB.out]
        rintro e w' ⟨rfl, rfl⟩
        generalize hn0 : l.length = n0 at *
        have Hn0 := hid hn0
        clear hn0
        have tl := Htl.out
        go_wp2_with fail
        refine (devFail_any b σ2 7 _ H1.out.st.1).mono ?_
        rintro e w2 ⟨rfl, h2⟩
        have H2 := hid (H1.out.call h2)
        clear h2
        go_wp2
        go_ret
        exact Lg.done2 H2.out Hn0.out.symm (by first | exact Hn0.out.symm | (have := Hn0.out; omega)) (HL.out.full HB.out)
      | succ n =>
        have tl : ((l.length : Int) == 16) = false := by simp; omega
        have hl32 : l.length < 16 := by omega
        go_wp2_with fail
        refine (devNext_any b σ2 _ H.out.st.1).mono ?_
        rintro e w1 ⟨rfl, hb1⟩
        have H1 := hid (H.out.below hb1)
        clear hb1
        unfold agT
        go_wp2_with fail
        refine (devBegB_any (nxt σ2.l).text _).mono ?_
        rw [HB.out]
        rintro e w' ⟨rfl, rfl⟩
        go_wp2_with fail
        refine (devBlock_any b σ2 _ H1.out.st.1).mono ?_
        rintro e w2 ⟨x, he, hxt, hfx, h2⟩
        unfold agB at he
        subst he
        have H2 := hid (H1.out.call h2)
        have HxV := hid (Lg.fresh H1.out hfx)
        have Hxt := hid hxt
        clear h2 hfx hxt
        have hbase := H2.out.st.2.size
        have Hp := hid (fun (g5 cap5 : Nat) (w5 : World) hown5 hgr5 hat5 => Lg.push (x := x) (g9 := g5) (cap9 := cap5) (w9 := w5) (o := .cells (bhc x).toArray 54) H2.out HxV.out hgr5 hown5 hat5)
        go_wp2_with ((
          at_builtin
          refine wpList_append_lies _ rfl _ _ 49 rfl w.heap.size 54 i0 _ 2 40 Tryd.underlying49 Hi.out Hz0.out Hz1.out Hz2.out rfl (by decide) _ l.length (l.flatMap (Kind.f KB)) rfl (World.ownsRow.alloc H2.out.own _) ⟨w2.heap.size, 0, none⟩ 1 1 (bhc x) rfl rfl (two_new _ _ _ _) (one_two _ _ _ _) (by omega) (by unfold maxLen; omega) (by omega) (by rw [World.size_alloc]; omega) _ rfl ?_
          intro g5 cap5 w5 hown5 hgr5 hat5 hlt5
          have H5 := hid (Hp.out g5 cap5 w5 hown5 hgr5 hat5)
          clear hown5 hgr5 hat5 hlt5))
        go_roundw
        case rel => exact ⟨_, n, _, H5.out, HL.out.step_as HB.out (Hxt.out)⟩
        case measure => show 16 + 1 - (l.length + 1) < 16 + 1 - lenOf (.slice B l.length d); rw [Hm.out]; omega
set_option maxHeartbeats 1600000 in
theorem devSome_block (b : Nat) (σ : Ds) (w : World) (h : Dst w b σ) :
    Calls Tryd.prog 144 #[.pointer (some ⟨b, 0, none⟩), .int .i64 16, .func (Fn.func 145) #[] #[], .func (Fn.func 146) #[.pointer (some ⟨b, 0, none⟩)] #[]] w (RetLs KB BH.b w b (someS begB blockS 16 σ)) := by
  have H := hid h
  clear h
  go_enter Tryd.func144, Tryd.ntmps144
  go_wp2_with fail
  refine (devList_block b σ _ H.out).mono ?_
  rintro e w1 ⟨B, d, l, rfl, hl, hown, hfr, h1⟩
  have hR : someS begB blockS 16 σ = ((listS begB blockS 16 σ).1, if (listS begB blockS 16 σ).1.isEmpty then failS 4 (listS begB blockS 16 σ).2 else (listS begB blockS 16 σ).2) := rfl
  have HR := hid hR
  have Hl := hid hl; have Hown := hid hown; have Hfr := hid hfr; have H1 := hid h1
  have Hlt := hid H.out.lt
  clear hR hl hown hfr h1
  generalize listS begB blockS 16 σ = r at *
  obtain ⟨r1, σ1⟩ := r
  cases l with
  | nil =>
    have hr : r1 = [] := Hl.out.symm
    subst hr
    go_wp2_with fail
    refine (devFail_any b σ1 4 _ H1.out.1).mono ?_
    rintro e w2 ⟨rfl, h2⟩
    have H2 := hid h2
    clear h2
    go_wp2
    go_ret
    rw [HR.out]
    exact ⟨B, d, [], rfl, rfl, DTo.own Hown.out H2.out Hlt.out, by simp, H1.out.trans H2.out⟩
  | cons x l =>
    have hr : r1.isEmpty = false := by have h1 : List.map BH.b (x :: l) = r1 := Hl.out; rw [← h1]; rfl
    rw [hr] at HR
    clear hr
    generalize hn0 : (x :: l).length = n0 at *
    have Hn0 := hid hn0
    have hpos : 0 < n0 := by rw [← hn0]; simp
    clear hn0
    go_wp2
    go_ret
    rw [HR.out]
    exact ⟨B, d, x :: l, by rw [Hn0.out]; rfl, Hl.out, by rw [Hn0.out]; exact Hown.out, Hfr.out, H1.out⟩
end Go.Proofs.YtcgichfanfijjaaDoor

namespace Go.Proofs.YtcgichfanfijjaaDoor
set_option maxRecDepth 20000
set_option linter.unusedVariables false
set_option linter.unusedSimpArgs false
open Go.ChangeShapes Go.WideShapes Go.ChangeAt Go.RowKit
attribute [local go_sem] fieldTok0 fieldTok1 fieldTok2 fieldTok3

set_option maxHeartbeats 3200000 in
theorem devFunc_any (b : Nat) (σ : Ds) (w : World) (h : Dst w b σ) : Calls Tryd.prog 102 #[.pointer (some ⟨b, 0, none⟩)] w (RetDf w b (funcS σ)) := by
  have HR : Hid (funcS σ = (⟨(nameS (wordS kwFunc σ)).1, (someS begB blockS 16 (endS (nameS (wordS kwFunc σ)).2)).1⟩, endS (wordS kwEnd (someS begB blockS 16 (endS (nameS (wordS kwFunc σ)).2)).2))) := hid rfl
  have Hlt := hid h.lt
  have h0 := hid (show Dst (w.alloc (.cells #[.string ⟨#[]⟩, .slice none 0 0] 51)) b σ from h.below ((Below.refl _ _).alloc (Nat.le_refl _) _) h.lt)
  have hf0 := hid (Fb.new w #[.string ⟨#[]⟩, .slice none 0 0] 51)
  have hb0 := hid ((Below.refl w.heap.size w).alloc (Nat.le_refl _) (.cells #[.string ⟨#[]⟩, .slice none 0 0] 51))
  clear h
  go_enter Tryd.func102, Tryd.ntmps102
  go_wp2_with fail
  generalize w.alloc (.cells #[.string ⟨#[]⟩, .slice none 0 0] 51) = wa at *
  refine (devWord_any b σ kwFunc kwf.2.1 _ h0.out).mono ?_
  rintro e w1 ⟨rfl, h1⟩
  have H1 := hid (DTo.belowl hb0.out h1)
  have hf1 := hid (hf0.out.grown h1.2 (by have := Hlt.out; simp; omega))
  clear h1 h0 hf0 hb0
  generalize wordS kwFunc σ = σ1 at *
  go_wp2_with fail
  refine (devName_any b σ1 _ H1.out.1).mono ?_
  rintro e w2 ⟨rfl, h2⟩
  have H2 := hid (H1.out.trans h2)
  have H16 := hid H1.out.1.name16
  have hf2 := hid (hf1.out.grown h2.2 (by have := Hlt.out; simp; omega))
  clear h2 H1 hf1
  generalize (nameS σ1).1 = y at *
  generalize (nameS σ1).2 = σ2 at *
  have H3 := hid (Bd.start (K := KB) H2.out Hlt.out hf2.out y)
  have H3' : Hid (Bd KB w b w2.heap.size σ2 y (.slice none 0 0) [] (w2.alloc (.cells #[.string y, .slice none 0 0] 51))) := H3
  clear H2 hf2 H3
  go_wp2_with fail
  generalize w2.alloc (.cells #[.string y, .slice none 0 0] 51) = w3 at *
  generalize w2.heap.size = g at *
  refine (devEnd_any b σ2 _ H3'.out.st.1).mono ?_
  rintro e w4 ⟨rfl, h4⟩
  have H4 := hid (H3'.out.call h4)
  clear h4 H3'
  generalize endS σ2 = σ3 at *
  go_wp2_with fail
  refine (devSome_block b σ3 _ H4.out.st.1).mono ?_
  rintro e w5 ⟨B, d, l, rfl, hl, hown, hfr, h5⟩
  have H5 := hid (H4.out.call h5)
  have hl2 : l.length ≤ 16 := by
    have h1 : (l.map BH.b).length = (someS begB blockS 16 σ3).1.length := by rw [hl]
    have h2 : (someS begB blockS 16 σ3).1.length ≤ 16 := listS_len begB blockS 16 σ3
    rw [List.length_map] at h1; omega
  rw [← hl] at HR
  obtain ⟨⟨q0, q1⟩, ⟨r0, r1⟩, -, -, hz, -, -⟩ := H5.out.cells
  have H6 := hid (H5.out.putL H4.out.size hown rfl hfr)
  clear hl hown hfr h5 H4 H5
  generalize (someS begB blockS 16 σ3).2 = σ4 at *
  generalize hm : l.length = m at *
  have Hm := hid hm
  clear hm
  go_wp2_with fail
  generalize w5.setCell ⟨g, 1, none⟩ (.slice B m d) = w6 at *
  clear q0 q1 r0 r1 hz
  refine (devWord_any b σ4 kwEnd kwen.2.1 _ H6.out.st.1).mono ?_
  rintro e w7 ⟨rfl, h7⟩
  have H7 := hid (H6.out.call h7)
  clear h7 H6
  generalize wordS kwEnd σ4 = σ5 at *
  go_wp2_with fail
  refine (devEnd_any b σ5 _ H7.out.st.1).mono ?_
  rintro e w8 ⟨rfl, h8⟩
  have H8 := hid (H7.out.call h8)
  clear h8 H7
  obtain ⟨⟨p0, p1⟩, -, ⟨v0, v1⟩, ⟨s0, s1⟩, hsz, hsz2, hsz3⟩ := H8.out.cells
  go_wp2_with fail
  refine bodyPost_ret (v := agF ⟨y, B, m, d, l⟩) (by simp [results, Tryd.results102, go_sem, p0, p1, s0, s1, v0, v1, hsz, hsz2, agF]) rfl ?_
  exact H8.out.doneF Hm.out (by omega) H16.out _ _ HR.out
end Go.Proofs.YtcgichfanfijjaaDoor

namespace Go.Proofs.YtcgichfanfijjaaDoor
set_option maxRecDepth 20000
set_option linter.unusedVariables false
set_option linter.unusedSimpArgs false
open Go.ChangeShapes Go.WideShapes Go.ChangeAt Go.RowKit
attribute [local go_sem] fieldTok0 fieldTok1 fieldTok2 fieldTok3

set_option maxHeartbeats 3200000 in
theorem devList_func (b : Nat) (σ : Ds) (w : World) (h : Dst w b σ) :
    Calls Tryd.prog 140 #[.pointer (some ⟨b, 0, none⟩), .int .i64 8, .func (Fn.func 101) #[] #[], .func (Fn.func 102) #[.pointer (some ⟨b, 0, none⟩)] #[]] w (RetLs KF FH.f w b (listS begF funcS 8 σ)) := by
  have Hst := hid (Lg.start (K := KF) h)
  clear h
  obtain ⟨i0, hi, hz0, hz1, hz2⟩ := info_parts info63
  have Hi := hid hi; have Hz0 := hid hz0; have Hz1 := hid hz1; have Hz2 := hid hz2
  clear hi hz0 hz1 hz2
  go_enter Tryd.func140, Tryd.ntmps140
  go_wp2_with fail
  go_loopw [9] (fun v wr => ∃ (l : List FH) (n : Nat) (σ2 : Ds), Hid (Lg KF w b σ2 v l wr) ∧ Hid (Drel begF funcS 8 σ (l.map FH.f) n σ2)) (fun v _ => 8 + 1 - (lenOf v))
  case atStart => exact ⟨[], 8, σ, Hst.out, Drel.start⟩
  case round =>
    clear Hst
    obtain ⟨l, n, σ2, H, HL⟩ := hrel
    obtain ⟨B, d, hv⟩ := own_any_slice H.out.own
    subst hv
    have hlen : l.length + n = 8 := by have := HL.out.1; simpa using this
    have Hm := hid (show lenOf (.slice B l.length d) = l.length from rfl)
    cases hb : begF (nxt σ2.l).text with
    | false =>
      have HB := hid hb
      clear hb
      go_wp2_with fail
      refine (devNext_any b σ2 _ H.out.st.1).mono ?_
      rintro e w1 ⟨rfl, hb1⟩
      have H1 := hid (H.out.below hb1)
      clear hb1
      unfold agT
      go_wp2_with fail
      refine (devBegF_any (nxt σ2.l).text _).mono ?_
      rw [HB.out]
      rintro e w' ⟨rfl, rfl⟩
      go_wp2
      go_ret
      exact H1.out.done (HL.out.stop HB.out)
    | true =>
      have HB := hid hb
      clear hb
      cases n with
      | zero =>
        have tl : ((l.length : Int) == 8) = true := by simp; omega
        have Htl := hid tl
        clear tl
        go_wp2_with fail
        refine (devNext_any b σ2 _ H.out.st.1).mono ?_
        rintro e w1 ⟨rfl, hb1⟩
        have H1 := hid (H.out.below hb1)
        clear hb1
        unfold agT
        go_wp2_with fail
        refine (devBegF_any (nxt σ2.l).text _).mono ?_
        rw [HB.out]
        rintro e w' ⟨rfl, rfl⟩
        generalize hn0 : l.length = n0 at *
        have Hn0 := hid hn0
        clear hn0
        have tl := Htl.out
        go_wp2_with fail
        refine (devFail_any b σ2 7 _ H1.out.st.1).mono ?_
        rintro e w2 ⟨rfl, h2⟩
        have H2 := hid (H1.out.call h2)
        clear h2
        go_wp2
        go_ret
        exact Lg.done2 H2.out Hn0.out.symm (by first | exact Hn0.out.symm | (have := Hn0.out; omega)) (HL.out.full HB.out)
      | succ n =>
        have tl : ((l.length : Int) == 8) = false := by simp; omega
        have hl32 : l.length < 8 := by omega
        go_wp2_with fail
        refine (devNext_any b σ2 _ H.out.st.1).mono ?_
        rintro e w1 ⟨rfl, hb1⟩
        have H1 := hid (H.out.below hb1)
        clear hb1
        unfold agT
        go_wp2_with fail
        refine (devBegF_any (nxt σ2.l).text _).mono ?_
        rw [HB.out]
        rintro e w' ⟨rfl, rfl⟩
        go_wp2_with fail
        refine (devFunc_any b σ2 _ H1.out.st.1).mono ?_
        rintro e w2 ⟨x, he, hxt, hfx, h2⟩
        unfold agF at he
        subst he
        have H2 := hid (H1.out.call h2)
        have HxV := hid (Lg.fresh H1.out hfx)
        have Hxt := hid hxt
        clear h2 hfx hxt
        have hbase := H2.out.st.2.size
        have Hp := hid (fun (g5 cap5 : Nat) (w5 : World) hown5 hgr5 hat5 => Lg.push (x := x) (g9 := g5) (cap9 := cap5) (w9 := w5) (o := .cells (fhc x).toArray 51) H2.out HxV.out hgr5 hown5 hat5)
        go_wp2_with ((
          at_builtin
          refine wpList_append_lies _ rfl _ _ 22 rfl w.heap.size 51 i0 _ 2 40 Tryd.underlying22 Hi.out Hz0.out Hz1.out Hz2.out rfl (by decide) _ l.length (l.flatMap (Kind.f KF)) rfl (World.ownsRow.alloc H2.out.own _) ⟨w2.heap.size, 0, none⟩ 1 1 (fhc x) rfl rfl (two_new _ _ _ _) (one_two _ _ _ _) (by omega) (by unfold maxLen; omega) (by omega) (by rw [World.size_alloc]; omega) _ rfl ?_
          intro g5 cap5 w5 hown5 hgr5 hat5 hlt5
          have H5 := hid (Hp.out g5 cap5 w5 hown5 hgr5 hat5)
          clear hown5 hgr5 hat5 hlt5))
        go_roundw
        case rel => exact ⟨_, n, _, H5.out, HL.out.step_as HB.out (Hxt.out)⟩
        case measure => show 8 + 1 - (l.length + 1) < 8 + 1 - lenOf (.slice B l.length d); rw [Hm.out]; omega
set_option maxHeartbeats 1600000 in
theorem devSome_func (b : Nat) (σ : Ds) (w : World) (h : Dst w b σ) :
    Calls Tryd.prog 100 #[.pointer (some ⟨b, 0, none⟩), .int .i64 8, .func (Fn.func 101) #[] #[], .func (Fn.func 102) #[.pointer (some ⟨b, 0, none⟩)] #[]] w (RetLs KF FH.f w b (someS begF funcS 8 σ)) := by
  have H := hid h
  clear h
  go_enter Tryd.func100, Tryd.ntmps100
  go_wp2_with fail
  refine (devList_func b σ _ H.out).mono ?_
  rintro e w1 ⟨B, d, l, rfl, hl, hown, hfr, h1⟩
  have hR : someS begF funcS 8 σ = ((listS begF funcS 8 σ).1, if (listS begF funcS 8 σ).1.isEmpty then failS 4 (listS begF funcS 8 σ).2 else (listS begF funcS 8 σ).2) := rfl
  have HR := hid hR
  have Hl := hid hl; have Hown := hid hown; have Hfr := hid hfr; have H1 := hid h1
  have Hlt := hid H.out.lt
  clear hR hl hown hfr h1
  generalize listS begF funcS 8 σ = r at *
  obtain ⟨r1, σ1⟩ := r
  cases l with
  | nil =>
    have hr : r1 = [] := Hl.out.symm
    subst hr
    go_wp2_with fail
    refine (devFail_any b σ1 4 _ H1.out.1).mono ?_
    rintro e w2 ⟨rfl, h2⟩
    have H2 := hid h2
    clear h2
    go_wp2
    go_ret
    rw [HR.out]
    exact ⟨B, d, [], rfl, rfl, DTo.own Hown.out H2.out Hlt.out, by simp, H1.out.trans H2.out⟩
  | cons x l =>
    have hr : r1.isEmpty = false := by have h1 : List.map FH.f (x :: l) = r1 := Hl.out; rw [← h1]; rfl
    rw [hr] at HR
    clear hr
    generalize hn0 : (x :: l).length = n0 at *
    have Hn0 := hid hn0
    have hpos : 0 < n0 := by rw [← hn0]; simp
    clear hn0
    go_wp2
    go_ret
    rw [HR.out]
    exact ⟨B, d, x :: l, by rw [Hn0.out]; rfl, Hl.out, by rw [Hn0.out]; exact Hown.out, Hfr.out, H1.out⟩
end Go.Proofs.YtcgichfanfijjaaDoor

namespace Go.Proofs.YtcgichfanfijjaaDoor
set_option maxRecDepth 20000
set_option linter.unusedVariables false
set_option linter.unusedSimpArgs false
open Go.ChangeShapes Go.WideShapes Go.ChangeAt Go.RowKit
attribute [local go_sem] fieldTok0 fieldTok1 fieldTok2 fieldTok3
attribute [local go_sem ↓] Go.wp_at_zero Go.wp_at_succ

def PP (x : PH) : World → List (Option Nat) → Prop := fun w ex => PHok w ex x
theorem PP.go {x : PH} {w w' : World} {ex ex' : List (Option Nat)} (h : PP x w ex) (hg : Go2 w ex w' ex') : PP x w' ex' := PHok.go h hg
def RetDp (w : World) (b : Nat) (r : List Fnc × Ds) (e : Ending) (w' : World) : Prop := ∃ x : PH, e = .returned (.agg #[.slice x.A x.n x.c]) ∧ x.p = r.1 ∧ Fr w.heap.size (PP x) w' ∧ DTo w b r.2 w'
theorem pp_of {w : World} {base : Nat} {B : Option Addr} {d : Nat} {l : List FH} (hown : w.ownsRow base 51 2 (.slice B l.length d) l.length (l.flatMap fhc)) (hall : ∀ x ∈ l, Fr base (FP x) w) (hl : l.length ≤ 40) : Fr base (PP ⟨B, l.length, d, l⟩) w :=
  fun ex he => ⟨EAt.own hown (fun g hg hin => by have h1 := (hown.lt g hg).1; have h2 := he g hin; omega), rfl, hl, fun y hy => hall y hy ex he⟩
set_option maxHeartbeats 3200000 in
theorem devProgram_any (b : Nat) (σ : Ds) (w : World) (h : Dst w b σ) : Calls Tryd.prog 66 #[.pointer (some ⟨b, 0, none⟩)] w (RetDp w b (progS σ)) := by
  have HR : Hid (progS σ = ((someS begF funcS 8 σ).1, if (someS begF funcS 8 σ).2.l.isEmpty then (someS begF funcS 8 σ).2 else failS 4 (someS begF funcS 8 σ).2)) := hid rfl
  have Hlt := hid h.lt
  have h0 := hid (show Dst (w.alloc (.cells #[.slice none 0 0] 24)) b σ from h.below ((Below.refl _ _).alloc (Nat.le_refl _) _) h.lt)
  have hf0 := hid (Fb.new w #[.slice none 0 0] 24)
  have hb0 := hid ((Below.refl w.heap.size w).alloc (Nat.le_refl _) (.cells #[.slice none 0 0] 24))
  have hwa := hid (show (w.alloc (.cells #[.slice none 0 0] 24)).heap.size = w.heap.size + 1 by rw [World.size_alloc])
  clear h
  go_enter Tryd.func66, Tryd.ntmps66
  go_wp2_with fail
  generalize w.alloc (.cells #[.slice none 0 0] 24) = wa at *
  refine (devSome_func b σ _ h0.out).mono ?_
  rintro e w1 ⟨B, d, l, rfl, hl, hown, hfr, h1⟩
  have H1 := hid (DTo.belowl hb0.out h1)
  have hf1 := hid (hf0.out.grown h1.2 (by have := Hlt.out; simp; omega))
  have hl2 : l.length ≤ 8 := by
    have h1 : (l.map FH.f).length = (someS begF funcS 8 σ).1.length := by rw [hl]
    have h2 : (someS begF funcS 8 σ).1.length ≤ 8 := listS_len begF funcS 8 σ
    rw [List.length_map] at h1; omega
  rw [← hl] at HR
  have Hp := hid ((pp_of hown hfr (by omega)).less (show w.heap.size + 1 ≤ wa.heap.size by have := hwa.out; omega))
  generalize (someS begF funcS 8 σ).2 = σ1 at *
  have HA := hid ((Below.refl w1.heap.size w1).alloc (Nat.le_refl _) (.cells #[.slice B l.length d] 24))
  have H2 := hid (H1.out.belowr HA.out)
  have hf2 := hid (hf1.out.below HA.out hf1.out.lt)
  have hf3 := hid (Fb.new w1 #[.slice B l.length d] 24)
  have Hp2 : Hid (Fr (w.heap.size + 1) (PP ⟨B, l.length, d, l⟩) (w1.alloc (.cells #[.slice B l.length d] 24))) := hid (Fr.grown (fun h hg => PP.go h hg) Hp.out (grown_of_below HA.out none) (fun k hk => by cases hk))
  have hg1 := hid (show w.heap.size < w1.heap.size from hf1.out.lt)
  clear hl hown hfr h1 h0 hf0 hb0 H1 hf1 Hp HA
  generalize hm : l.length = m at *
  have Hm := hid hm
  clear hm
  obtain ⟨A0, c0, hfb, -, -⟩ := H2.out.1.ex
  obtain ⟨⟨q0, -, -, -⟩, -⟩ := hfb.fourc
  have hfew := H2.out.1.few
  clear hfb
  obtain ⟨l1, ln1, cl1, er1⟩ := σ1
  simp only at q0 hfew
  go_upto_region 2 with fail
  generalize w1.alloc (.cells #[.slice B m d] 24) = w2 at *
  generalize w1.heap.size = g at *
  cases l1 with
  | nil =>
    have HR2 : Hid (progS σ = (l.map FH.f, (⟨[], ln1, cl1, er1⟩ : Ds))) := HR
    clear HR
    have k0 := hf3.out.cell 0
    have v0 := hf2.out.cell 0
    have s0 := hf2.out.frozen 0
    have hsz := hf2.out.lt
    have hb2 := hid (show DTo w b ⟨[], ln1, cl1, er1⟩ (w2.setCell ⟨w.heap.size, 0, none⟩ (.slice B m d)) from ⟨H2.out.1.far Hlt.out _, grown_set_new H2.out.2 (p := ⟨w.heap.size, 0, none⟩) (Nat.le_refl _) _⟩)
    have hpp := hid (Fr.less (M := w.heap.size) (Fr.grown (fun h hg => PP.go h hg) Hp2.out (setCell_grown w2 ⟨w.heap.size, 0, none⟩ (.slice B m d)) (fun k hk => by injection hk with hk; have : w.heap.size = k := hk; omega)) (by omega))
    go_wp2_with fail
    refine bodyPost_ret (v := .agg #[.slice B m d]) (by simp [results, Tryd.results66, go_sem, v0, s0, k0, hsz]) rfl ⟨⟨B, m, d, l⟩, rfl, ?_, hpp.out, ?_⟩
    · rw [HR2.out]; rfl
    · rw [HR2.out]; exact hb2.out
  | cons t l1 =>
    have HR2 : Hid (progS σ = (l.map FH.f, failS 4 (⟨t :: l1, ln1, cl1, er1⟩ : Ds))) := HR
    clear HR
    have hll : (t :: l1).length = l1.length + 1 := by simp
    rw [hll] at q0 hfew
    clear hll
    go_wp2_with fail
    refine (devFail_any b _ 4 _ H2.out.1).mono ?_
    rintro e w3 ⟨rfl, h3⟩
    have H3 := hid (H2.out.trans h3)
    have hf4 := hid (hf2.out.grown h3.2 (by have := Hlt.out; simp; omega))
    have hf5 := hid (hf3.out.grown h3.2 (by have := Hlt.out; have := hg1.out; simp; omega))
    have Hp3 : Hid (Fr (w.heap.size + 1) (PP ⟨B, m, d, l⟩) w3) := hid (Fr.grown (fun h hg => PP.go h hg) Hp2.out h3.2 (fun k hk => by injection hk with hk; have := Hlt.out; omega))
    clear h3 H2 hf2 hf3 Hp2 q0
    have k0 := hf5.out.cell 0
    have v0 := hf4.out.cell 0
    have s0 := hf4.out.frozen 0
    have hsz := hf4.out.lt
    have hb2 := hid (show DTo w b (failS 4 ⟨t :: l1, ln1, cl1, er1⟩) (w3.setCell ⟨w.heap.size, 0, none⟩ (.slice B m d)) from ⟨H3.out.1.far Hlt.out _, grown_set_new H3.out.2 (p := ⟨w.heap.size, 0, none⟩) (Nat.le_refl _) _⟩)
    go_wp2_with fail
    refine bodyPost_ret (v := .agg #[.slice B m d]) (by simp [results, Tryd.results66, go_sem, v0, s0, k0, hsz]) rfl ⟨⟨B, m, d, l⟩, rfl, ?_, ?_, ?_⟩
    · rw [HR2.out]; rfl
    · exact Fr.less (M := w.heap.size) (Fr.grown (fun h hg => PP.go h hg) Hp3.out (setCell_grown w3 ⟨w.heap.size, 0, none⟩ (.slice B m d)) (fun k hk => by injection hk with hk; have : w.heap.size = k := hk; omega)) (by omega)
    · rw [HR2.out]; exact hb2.out
end Go.Proofs.YtcgichfanfijjaaDoor

namespace Go.Proofs.YtcgichfanfijjaaDoor
set_option maxRecDepth 20000
set_option linter.unusedVariables false
set_option linter.unusedSimpArgs false
open Go.ChangeShapes Go.WideShapes Go.ChangeAt Go.RowKit
attribute [local go_sem ↓] Go.wp_at_zero Go.wp_at_succ

theorem own_cap {w : World} {base k n c : Nat} {e : TypeId} {A : Option Addr} {xs : List Value} (h : w.ownsRow base e k (.slice A n c) n xs) : n ≤ c := by
  rcases h.2 with ⟨_, h0⟩ | ⟨g, cap, cur, hv, _, _, hc, _⟩
  · omega
  · injection hv with _ _ e3; omega
/-- What a scan returns, with the capacity. -/
def RetScanC (r : Res) (w : World) (e : Ending) (w' : World) : Prop :=
  ∃ (A : Option Addr) (c : Nat), e = .returned (.tuple #[.slice A r.1.length c, .int .i64 (r.2.1 : Int), .int .i64 (r.2.2.1 : Int), .int .i64 r.2.2.2]) ∧ TArg w' A r.1.length r.1 ∧ r.1.length ≤ c ∧ Below w.heap.size w w'
set_option maxHeartbeats 1600000 in
theorem devScanC_any (s : ByteArray) (w : World) (hs : s.size ≤ maxLen) : Calls Tryd.prog 65 #[.string s] w (RetScanC (scanR s) w) := by
  by_cases hlt : s.size ≤ 4096
  · have hR : scanR s = scanL s 0 1 1 [] := by unfold scanR; rw [if_pos hlt]
    have HR := hid hR
    have h0 := hid (show Scn w w.heap.size s 0 1 0 (.slice none 0 0) [] (w.alloc (.cells #[.string s, .int .i64 0, .int .i64 1, .int .i64 0, .slice none 0 0] 143)) from
      ⟨Fb.new _ _ _, World.ownsRow_nil _ _ _ _, (Below.refl _ _).alloc (Nat.le_refl _) _, Nat.le_refl _⟩)
    clear hR
    unfold maxLen at hs
    go_enter Tryd.func65, Tryd.ntmps65
    go_wp2_with fail
    refine (run_any w.heap.size s w _ h0.out hlt).mono ?_
    rintro e w1 ⟨err, i, line, col, v, l, rfl, hS, hi, ⟨hc1, hc2⟩, hl, hcase⟩
    obtain ⟨⟨c0, c1, c2, c3, c4⟩, f0, f1, f2, f3, f4⟩ := Fb.five hS.1
    rcases hcase with ⟨he, hr⟩ | ⟨he, hr⟩
    · subst he
      have HS := hid hS
      have HR2 := hid (HR.out.trans hr)
      clear hr hS HR
      go_wp2_with fail
      obtain ⟨A, c, hv⟩ := own_any_slice HS.out.2.1
      subst hv
      refine bodyPost_ret (v := .tuple #[.slice A l.length c, .int .i64 0, .int .i64 0, .int .i64 0]) (by simp [results, Tryd.results65, go_sem]) rfl ?_
      rw [HR2.out]
      exact ⟨A, c, rfl, ⟨own_at HS.out.2.1, rfl⟩, own_cap HS.out.2.1, HS.out.2.2.1⟩
    · have ht : (err != 0) = true := by simpa using he
      have HS := hid hS
      have HR2 := hid (HR.out.trans hr)
      have Hcol := hid (fun q => column_any w.heap.size s i line (i + 1 - col) v (w1.drewN q) (HS.out.drewN q).1 (by omega) (by omega))
      clear hr hS HR he
      have hcc : i + 1 - (i + 1 - col) = col := by omega
      rw [hcc] at Hcol
      clear hcc
      go_wp2_with fail
      go_quiet ((go_at_call 99; first | exact Calls.quiet_of (Hcol.out _)))
      go_wp2_with fail
      refine bodyPost_ret (v := .tuple #[.slice none 0 0, .int .i64 (line : Int), .int .i64 (col : Int), .int .i64 err]) (by simp [results, Tryd.results65, go_sem]) rfl ?_
      rw [HR2.out]
      exact ⟨none, 0, rfl, TArg.nil _, Nat.le_refl _, below_drewN HS.out.2.2.1 _⟩
  · have hR : scanR s = ([], 0, 0, 7) := by unfold scanR; rw [if_neg hlt]
    have HR := hid hR
    clear hR
    unfold maxLen at hs
    go_enter Tryd.func65, Tryd.ntmps65
    go_wp2_with fail
    refine bodyPost_ret (v := .tuple #[.slice none 0 0, .int .i64 0, .int .i64 0, .int .i64 7]) (by simp [results, Tryd.results65, go_sem]) rfl ?_
    rw [HR.out]
    exact ⟨none, 0, rfl, TArg.nil _, Nat.le_refl _, Below.refl _ _⟩
def RetParse (r : Par) (w : World) (e : Ending) (w' : World) : Prop :=
  ∃ x : PH, e = .returned (.tuple #[.agg #[.slice x.A x.n x.c], .int .i64 (r.2.1 : Int), .int .i64 (r.2.2.1 : Int), .int .i64 r.2.2.2]) ∧ x.p = r.1 ∧ Fr w.heap.size (PP x) w' ∧ Below w.heap.size w w'
theorem pp_nil (w : World) (N : Nat) : Fr N (PP ⟨none, 0, 0, []⟩) w := fun ex _ => ⟨EAt.nil _ _ _, rfl, by show (0 : Nat) ≤ 40; omega, by simp⟩
theorem Shp.lt {w : World} (h : Shp w) : 0 < w.heap.size := World.block_lt_of_cell? w _ (h 0 _ rfl)
theorem Dst.start {w : World} {A : Option Addr} {c : Nat} {L : List Tok} (ha : TArg w A L.length L) (hc : L.length ≤ c) (hf : L.length ≤ 100000) (ht : AllOk L) (hs : Shp w) :
    Dst (w.alloc (.cells #[.slice A L.length c, .int .i64 0, .int .i64 0, .int .i64 0] 108)) w.heap.size ⟨L, 0, 0, 0⟩ :=
  ⟨⟨A, c, Fb.new w _ _, ha.lies.alloc (Nat.le_refl _) _, hc⟩, hf, ht, hs.keep (Below.heap_alloc w _ 0 hs.lt), hs.lt⟩
set_option maxHeartbeats 3200000 in
theorem devParse_any (s : ByteArray) (w : World) (hs : s.size ≤ maxLen) (hsh : Shp w) : Calls Tryd.prog 30 #[.string s] w (RetParse (parseS s) w) := by
  have HC := hid (fun w => devScanC_any s w hs)
  have HR : Hid (parseS s = (if (scanR s).2.2.2 == 0 then (if (progS ⟨(scanR s).1, 0, 0, 0⟩).2.e == 0 then ((progS ⟨(scanR s).1, 0, 0, 0⟩).1, 0, 0, 0) else ([], (progS ⟨(scanR s).1, 0, 0, 0⟩).2.line, (progS ⟨(scanR s).1, 0, 0, 0⟩).2.col, (progS ⟨(scanR s).1, 0, 0, 0⟩).2.e)) else ([], (scanR s).2.1, (scanR s).2.2.1, (scanR s).2.2.2))) := hid rfl
  have Htok := hid (scan_tok s)
  have Hfew := hid (scanR_few s)
  have hf0 := hid (Fb.new w #[.slice none 0 0] 24)
  have hb0 := hid ((Below.refl w.heap.size w).alloc (Nat.le_refl _) (.cells #[.slice none 0 0] 24))
  have hs0 := hid (show Shp (w.alloc (.cells #[.slice none 0 0] 24)) from hsh.keep (Below.heap_alloc w _ 0 hsh.lt))
  have hwa := hid (show (w.alloc (.cells #[.slice none 0 0] 24)).heap.size = w.heap.size + 1 by rw [World.size_alloc])
  have hw0 := hid hsh.lt
  clear hs hsh
  generalize scanR s = r at *
  obtain ⟨L, line, col, er⟩ := r
  simp only at HR Htok Hfew
  go_enter Tryd.func30, Tryd.ntmps30
  go_wp2_with fail
  generalize w.alloc (.cells #[.slice none 0 0] 24) = wa at *
  refine (HC.out _).mono ?_
  rintro e w1 ⟨A, c, rfl, ha, hc, hb1⟩
  simp only at ha hc
  have hf1 := hid (hf0.out.below hb1 hf0.out.lt)
  have hB1 := hid (hb0.out.trans (hb1.mono hb0.out.size))
  have hs1 := hid (hs0.out.keep (hb1.block 0 hs0.out.lt))
  have Hd := hid (Dst.start ha hc Hfew.out Htok.out hs1.out)
  have hsz1 := hid (show w.heap.size + 1 ≤ w1.heap.size by have := hb1.size; have := hwa.out; omega)
  clear ha hc hb1 hf0 hb0 hs0 hwa HC
  have v0 := hf1.out.cell 0
  have s0 := hf1.out.frozen 0
  have hsz := hf1.out.lt
  cases he : (er == 0) with
  | false =>
    have hne : (er != 0) = true := by simpa using he
    have HR2 : Hid (parseS s = ([], line, col, er)) := hid (by rw [HR.out, he]; rfl)
    have HB : Hid (Below w.heap.size w (w1.setCell ⟨w.heap.size, 0, none⟩ (.slice none 0 0))) := hid (hB1.out.setCell (Nat.le_refl _) _)
    clear HR he Hd
    go_wp2_with fail
    refine bodyPost_ret (v := .tuple #[.agg #[.slice none 0 0], .int .i64 (line : Int), .int .i64 (col : Int), .int .i64 er]) (by simp [results, Tryd.results30, go_sem, v0, s0, hsz]) rfl ?_
    rw [HR2.out]
    exact ⟨⟨none, 0, 0, []⟩, rfl, rfl, pp_nil _ _, HB.out⟩
  | true =>
    have hne : (er != 0) = false := by simpa using he
    have HR2 : Hid (parseS s = (if (progS ⟨L, 0, 0, 0⟩).2.e == 0 then ((progS ⟨L, 0, 0, 0⟩).1, 0, 0, 0) else ([], (progS ⟨L, 0, 0, 0⟩).2.line, (progS ⟨L, 0, 0, 0⟩).2.col, (progS ⟨L, 0, 0, 0⟩).2.e))) := hid (by rw [HR.out, he]; rfl)
    clear HR he
    have hB2 := hid (hB1.out.alloc (by have := hsz1.out; omega) (.cells #[.slice A L.length c, .int .i64 0, .int .i64 0, .int .i64 0] 108))
    have hf2 := hid (hf1.out.alloc (.cells #[.slice A L.length c, .int .i64 0, .int .i64 0, .int .i64 0] 108))
    have hszb := hid (show (w1.alloc (.cells #[.slice A L.length c, .int .i64 0, .int .i64 0, .int .i64 0] 108)).heap.size = w1.heap.size + 1 by rw [World.size_alloc])
    clear v0 s0 hsz
    go_wp2_with fail
    generalize w1.alloc (.cells #[.slice A L.length c, .int .i64 0, .int .i64 0, .int .i64 0] 108) = w2 at *
    generalize w1.heap.size = b at *
    refine (devProgram_any b ⟨L, 0, 0, 0⟩ _ Hd.out).mono ?_
    rintro e w3 ⟨x, rfl, hxp, hpp, h3⟩
    have hlt3 := hid h3.1.lt
    have hf3 := hid (hf2.out.grown h3.2 (by have := hsz1.out; simp; omega))
    have hB3 := hid (hB2.out.grown h3.2 hB2.out.size (fun k hk => by injection hk with hk; have := hsz1.out; omega))
    have Hp3 := hid (hpp.less (M := w.heap.size + 1) (by have := hsz1.out; have := hszb.out; omega))
    have Hx := hid hxp
    have Hst := hid h3.1
    clear hxp hpp h3 hf2 hB2 Hd hB1 hf1
    generalize progS ⟨L, 0, 0, 0⟩ = r at *
    obtain ⟨r1, σ⟩ := r
    obtain ⟨l1, ln1, cl1, er1⟩ := σ
    simp only at Hx Hst HR2
    obtain ⟨X, n, d, l⟩ := x

    have HA := hid ((Below.refl w3.heap.size w3).alloc (Nat.le_refl _) (.cells #[.slice X n d] 24))
    have hst4 := hid (Hst.out.below HA.out hlt3.out)
    have hf4 := hid (hf3.out.below HA.out hf3.out.lt)
    have hB4 := hid (hB3.out.trans (HA.out.mono hB3.out.size))
    have Hp4 : Hid (Fr (w.heap.size + 1) (PP ⟨X, n, d, l⟩) (w3.alloc (.cells #[.slice X n d] 24))) := hid (Fr.grown (fun h hg => PP.go h hg) Hp3.out (grown_of_below HA.out none) (fun k hk => by cases hk))
    have hn4 := hid (Fb.new w3 #[.slice X n d] 24)
    clear HA hf3 hB3 Hp3 Hst
    obtain ⟨A0, c0, hfb, -, -⟩ := hst4.out.ex
    obtain ⟨⟨q0, q1, q2, q3⟩, -⟩ := hfb.fourc
    have hltb := hst4.out.lt
    clear hfb
    go_upto_region 6 with fail
    generalize w3.alloc (.cells #[.slice X n d] 24) = w4 at *
    generalize w3.heap.size = g4 at *
    have v0 := hf4.out.cell 0
    have s0 := hf4.out.frozen 0
    have hsz := hf4.out.lt
    have k0 := hn4.out.cell 0
    have hbw := hsz1.out
    have hsetg := hid (fun u => setCell_grown w4 ⟨w.heap.size, 0, none⟩ u)
    cases he1 : (er1 == 0) with
    | true =>
      have hne1 : (er1 != 0) = false := by simpa using he1
      have HR3 : Hid (parseS s = (r1, 0, 0, 0)) := hid (by rw [HR2.out]; simp only [he1]; rfl)
      have HB : Hid (Below w.heap.size w (w4.setCell ⟨w.heap.size, 0, none⟩ (.slice X n d))) := hid (hB4.out.setCell (Nat.le_refl _) _)
      clear HR2 he1
      go_wp2_with fail
      refine bodyPost_ret (v := .tuple #[.agg #[.slice X n d], .int .i64 0, .int .i64 0, .int .i64 0]) (by simp [results, Tryd.results30, go_sem, v0, s0, hsz]) rfl ?_
      rw [HR3.out]
      exact ⟨⟨X, n, d, l⟩, rfl, Hx.out, Fr.less (M := w.heap.size) (Fr.grown (fun h hg => PP.go h hg) Hp4.out (hsetg.out _) (fun k hk => by injection hk with hk; have : w.heap.size = k := hk; omega)) (by omega), HB.out⟩
    | false =>
      have hne1 : (er1 != 0) = true := by simpa using he1
      have HR3 : Hid (parseS s = ([], ln1, cl1, er1)) := hid (by rw [HR2.out]; simp only [he1]; rfl)
      have HB : Hid (∀ q, Below w.heap.size w ((w4.drewN q).setCell ⟨w.heap.size, 0, none⟩ (.slice none 0 0))) := hid (fun q => (below_drewN hB4.out q).setCell (Nat.le_refl _) _)
      clear HR2 he1
      go_wp2_with fail
      go_region_law (fail)
      all_goals
        go_wp2_with fail
        refine bodyPost_ret (v := .tuple #[.agg #[.slice none 0 0], .int .i64 (ln1 : Int), .int .i64 (cl1 : Int), .int .i64 er1]) (by simp [results, Tryd.results30, go_sem, v0, s0, hsz]) rfl ?_
        rw [HR3.out]
        exact ⟨⟨none, 0, 0, []⟩, rfl, rfl, pp_nil _ _, HB.out 1⟩
end Go.Proofs.YtcgichfanfijjaaDoor

namespace Go.Proofs.YtcgichfanfijjaaDoor
set_option maxRecDepth 20000
set_option linter.unusedVariables false
set_option linter.unusedSimpArgs false
open Go.ChangeShapes Go.WideShapes Go.ChangeAt Go.RowKit
attribute [local go_sem ↓] Go.wp_at_zero Go.wp_at_succ

structure Po (w0 : World) (b : Nat) (A : Option Addr) (c : Nat) (L : List Tok) (σ : Rs) (v : Value) (l : List FH) (w : World) : Prop where
  st : RTo w0 b A c L σ w
  old : b < w0.heap.size
  f3 : Fb w w0.heap.size #[v] 24
  own : w.ownsRow (w0.heap.size + 1) 51 2 v l.length (l.flatMap fhc)
  all : ∀ x ∈ l, FrV (w0.heap.size + 1) v (FP x) w
theorem FP.go {x : FH} {w w' : World} {ex ex' : List (Option Nat)} (h : FP x w ex) (hg : Go2 w ex w' ex') : FP x w' ex' := FHok.go h hg
section
variable {w0 w w' : World} {b : Nat} {A : Option Addr} {c : Nat} {L : List Tok} {σ σ' : Rs} {v : Value} {l : List FH}
theorem Po.start (h : Rst w0 b A c L σ) : Po w0 b A c L σ (.slice none 0 0) [] (w0.alloc (.cells #[.slice none 0 0] 24)) :=
  ⟨(RTo.refl h).belowr ((Below.refl _ _).alloc (Nat.le_refl _) _), h.lt, Fb.new w0 _ _, World.ownsRow_nil _ _ _ _, by simp⟩
theorem Po.call (h : Po w0 b A c L σ v l w) (hr : RTo w b A c L σ' w') : Po w0 b A c L σ' v l w' :=
  ⟨h.st.trans hr, h.old, h.f3.grown hr.2 (by have := h.old; simp; omega), RTo.own h.own hr (by have := h.old; omega),
    fun x hx => (h.all x hx).grown FP.go hr.2 (fun k hk => by injection hk with hk; have := h.old; omega)⟩
theorem Po.below (h : Po w0 b A c L σ v l w) (hb : Below w.heap.size w w') : Po w0 b A c L σ v l w' := h.call ((RTo.refl h.st.1).belowr hb)
theorem Po.drewN (h : Po w0 b A c L σ v l w) (q : Nat) : Po w0 b A c L σ v l (w.drewN q) := h.below (below_drewN (Below.refl _ _) q)
theorem Po.size (h : Po w0 b A c L σ v l w) : w0.heap.size + 1 ≤ w.heap.size := h.f3.lt
theorem Po.push {wa w9 : World} {g9 cap9 : Nat} {x : FH} (h : Po w0 b A c L σ v l w) (ha : Below w.heap.size w wa) (hx : FrV (w0.heap.size + 1) v (FP x) w) (hg : wa.grownBy w9 v.ownBlock)
    (hown : w9.ownsRow (w0.heap.size + 1) 51 2 (.slice (some ⟨g9, 0, none⟩) (l.length + 1) cap9) (l.length + 1) (l.flatMap fhc ++ fhc x)) (hat : v.ownBlock = some g9 ∨ g9 = wa.heap.size) :
    (w9.cell? ⟨w0.heap.size, 0, none⟩ = some v ∧ w9.frozen? ⟨w0.heap.size, 0, none⟩ = false ∧ w0.heap.size < w9.heap.size) ∧
    Po w0 b A c L σ (.slice (some ⟨g9, 0, none⟩) (l.length + 1) cap9) (l ++ [x]) (w9.setCell ⟨w0.heap.size, 0, none⟩ (.slice (some ⟨g9, 0, none⟩) (l.length + 1) cap9)) := by
  have h1 := h.below ha
  have ho := h.old
  have hlt : ∀ k, v.ownBlock = some k → w0.heap.size + 1 ≤ k := fun k hk => (h1.own.lt k hk).1
  have hne : ∀ k, k < w0.heap.size + 1 → some k ≠ v.ownBlock := fun k hk e => by have := hlt k e.symm; omega
  have hf3 := h1.f3.grown hg (hne _ (by omega))
  have hxV : FrV (w0.heap.size + 1) v (FP x) wa := hx.grown FP.go (grown_of_below ha none) (fun k hk => by cases hk)
  have hset := setCell_grown w9 ⟨w0.heap.size, 0, none⟩ (.slice (some ⟨g9, 0, none⟩) (l.length + 1) cap9)
  have hg9 := (hown.lt g9 rfl).1
  refine ⟨⟨hf3.cell 0, hf3.frozen 0, hf3.lt⟩, ?_⟩
  refine ⟨⟨(h1.st.1.grown hg (fun k hk => by have := hlt k hk; omega)).far (by show b < w0.heap.size; omega) _, grown_set_new ?_ (Nat.le_refl _) _⟩, ho, ?_, ?_, ?_⟩
  · have h2 := h1.st.2
    exact ⟨hg.os.trans h2.os, hg.tape.trans h2.tape, hg.output.trans h2.output, Nat.le_trans h2.size hg.size, fun i hi hne2 => (hg.block i (Nat.lt_of_lt_of_le hi h2.size) (hne i (by omega))).trans (h2.block i hi hne2)⟩
  · have := hf3.set 0 (.slice (some ⟨g9, 0, none⟩) (l.length + 1) cap9)
    simpa using this
  · rw [List.flatMap_append, List.length_append]
    have e : [x].flatMap fhc = fhc x := by simp
    rw [e]
    exact hown.kept hset (.inr (by show some g9 ≠ some w0.heap.size; simp; omega))
  · intro y hy
    have hyV : FrV (w0.heap.size + 1) v (FP y) wa := by
      rcases List.mem_append.1 hy with hy | hy
      · exact h1.all y hy
      · simp at hy; subst hy; exact hxV
    exact (hyV.push FP.go hg (v' := .slice (some ⟨g9, 0, none⟩) (l.length + 1) cap9) (g := g9) rfl hat).grown FP.go hset (fun k hk => by injection hk with hk; have : w0.heap.size = k := hk; omega)
end
def lenAt0 (g : Nat) (w : World) : Nat := match w.cell? ⟨g, 0, none⟩ with | some (.slice _ n _) => n | _ => 0
theorem lenAt0_of {g n c : Nat} {B : Option Addr} {w : World} (h : w.cell? ⟨g, 0, none⟩ = some (.slice B n c)) : lenAt0 g w = n := by unfold lenAt0; rw [h]
theorem RTo.kept {w w' : World} {b c : Nat} {A : Option Addr} {L : List Tok} {σ : Rs} {g t : Nat} {cs : Array Value} (h : RTo w b A c L σ w') (hf : Fb w g cs t) (hne : g ≠ b) : Fb w' g cs t := hf.grown h.2 (by simpa using hne)
end Go.Proofs.YtcgichfanfijjaaDoor

namespace Go.Proofs.YtcgichfanfijjaaDoor
set_option maxRecDepth 20000
set_option linter.unusedVariables false
set_option linter.unusedSimpArgs false
open Go.ChangeShapes Go.WideShapes Go.ChangeAt Go.RowKit
attribute [local go_sem ↓] Go.wp_at_zero Go.wp_at_succ

theorem progR_of {σ0 : Rs} {done : List Fnc} {le : List Tok} {ee : Int} (h : listR (isK kwFunc) funcR 8 (needR (isK kwFunc) σ0) = (done, ⟨le, ee⟩)) :
    progR σ0 = (done, if ee == 0 && !le.isEmpty then failR 4 ⟨le, ee⟩ else ⟨le, ee⟩) := by
  unfold progR
  simp only
  rw [h]
theorem Po.pp {w0 w : World} {b c d : Nat} {A B : Option Addr} {L : List Tok} {σ : Rs} {l : List FH} (h : Po w0 b A c L σ (.slice B l.length d) l w) (hl : l.length ≤ 40) : Fr (w0.heap.size + 1) (PP ⟨B, l.length, d, l⟩) w :=
  pp_of h.own (fun x hx => (h.all x hx).fr) hl
theorem Po.grownw {w0 w : World} {b c : Nat} {A : Option Addr} {L : List Tok} {σ : Rs} {v : Value} {l : List FH} (h : Po w0 b A c L σ v l w) : w0.grownBy w (some b) := h.st.2
def parO (p : List Fnc × Rs) : Par := if p.2.e == 0 then (p.1, 0, 0, 0) else ([], (nxt p.2.l).line, (nxt p.2.l).col, p.2.e)
theorem parO_ok {P : List Fnc} {l : List Tok} {ee : Int} (h : (ee == 0) = true) : parO (P, ⟨l, ee⟩) = (P, 0, 0, 0) := by
  unfold parO
  exact if_pos h
theorem parO_bad {P : List Fnc} {l : List Tok} {ee : Int} (h : (ee == 0) = false) : parO (P, ⟨l, ee⟩) = ([], (nxt l).line, (nxt l).col, ee) := by
  unfold parO
  exact if_neg (by show ¬ ((ee == 0) = true); rw [h]; exact Bool.false_ne_true)
theorem par_more {s : ByteArray} {σ0 : Rs} {done : List Fnc} {le : List Tok} {ee : Int} (h2 : parseR s = parO (progR σ0)) (h : progR σ0 = (done, if ee == 0 && !le.isEmpty then failR 4 ⟨le, ee⟩ else ⟨le, ee⟩)) (he : (ee == 0) = true) (hn : le ≠ []) (hf : failR 4 ⟨le, ee⟩ = ⟨le, 4⟩) :
    parseR s = ([], (nxt le).line, (nxt le).col, 4) := by
  have hemp : le.isEmpty = false := by cases le with | nil => exact absurd rfl hn | cons => rfl
  rw [h2, h, hemp, he, hf]
  exact parO_bad rfl
theorem par_end {s : ByteArray} {σ0 : Rs} {done : List Fnc} {le : List Tok} {ee : Int} (h2 : parseR s = parO (progR σ0)) (h : progR σ0 = (done, if ee == 0 && !le.isEmpty then failR 4 ⟨le, ee⟩ else ⟨le, ee⟩)) (he : (ee == 0) = true) (hn : le = []) :
    parseR s = (done, 0, 0, 0) := by
  subst hn
  rw [h2, h]
  have h0 : (ee == 0 && !([] : List Tok).isEmpty) = false := by simp
  rw [h0]
  exact parO_ok he
theorem par_err {s : ByteArray} {σ0 : Rs} {done : List Fnc} {le : List Tok} {ee : Int} (h2 : parseR s = parO (progR σ0)) (h : progR σ0 = (done, if ee == 0 && !le.isEmpty then failR 4 ⟨le, ee⟩ else ⟨le, ee⟩)) (he : (ee == 0) = false) :
    parseR s = ([], (nxt le).line, (nxt le).col, ee) := by
  rw [h2, h, he]
  exact parO_bad he
set_option maxHeartbeats 20000000 in
theorem refParse_any (s : ByteArray) (w : World) (hs : s.size ≤ maxLen) : Calls Tryd.prog 8 #[.string s] w (RetParse (parseR s) w) := by
  have HC := hid (fun w => refScan_any s w hs)
  have HR : Hid (parseR s = (if (scanR s).2.2.2 == 0 then parO (progR ⟨(scanR s).1, 0⟩) else ([], (scanR s).2.1, (scanR s).2.2.1, (scanR s).2.2.2))) := hid rfl
  have HS := hid (show Short (scanR s).1 from fun t ht => tokOk_size (scan_tok s t ht))
  have Hfew := hid (scanR_few s)
  have hf0 := hid (Fb.new w #[.slice none 0 0] 24)
  have hb0 := hid ((Below.refl w.heap.size w).alloc (Nat.le_refl _) (.cells #[.slice none 0 0] 24))
  have hwa := hid (show (w.alloc (.cells #[.slice none 0 0] 24)).heap.size = w.heap.size + 1 by rw [World.size_alloc])
  clear hs
  generalize scanR s = r at *
  obtain ⟨L, line, col, er⟩ := r
  simp only at HR HS Hfew
  obtain ⟨i3, hi, hz0, hz1, hz2⟩ := info_parts info63
  have Hi := hid hi; have Hz0 := hid hz0; have Hz1 := hid hz1; have Hz2 := hid hz2
  clear hi hz0 hz1 hz2
  go_enter Tryd.func8, Tryd.ntmps8
  go_wp2_with fail
  generalize w.alloc (.cells #[.slice none 0 0] 24) = wa at *
  refine (HC.out _).mono ?_
  rintro e w1 ⟨A, c, rfl, ha, hb1⟩
  simp only at ha
  have hf1 := hid (hf0.out.below hb1 hf0.out.lt)
  have hB1 := hid (hb0.out.trans (hb1.mono hb0.out.size))
  have hsz1 := hid (show w.heap.size + 1 ≤ w1.heap.size by have := hb1.size; have := hwa.out; omega)
  cases he : (er == 0) with
  | false =>
    have hne : (er != 0) = true := by simpa using he
    have HR2 : Hid (parseR s = ([], line, col, er)) := hid (by rw [HR.out, he]; rfl)
    have HB : Hid (Below w.heap.size w (w1.setCell ⟨w.heap.size, 0, none⟩ (.slice none 0 0))) := hid (hB1.out.setCell (Nat.le_refl _) _)
    have v0 := hf1.out.cell 0
    have s0 := hf1.out.frozen 0
    have hsz := hf1.out.lt
    clear HR he ha hb1
    go_wp2_with fail
    refine bodyPost_ret (v := .tuple #[.agg #[.slice none 0 0], .int .i64 (line : Int), .int .i64 (col : Int), .int .i64 er]) (by simp [results, Tryd.results8, go_sem, v0, s0, hsz]) rfl ?_
    rw [HR2.out]
    exact ⟨⟨none, 0, 0, []⟩, rfl, rfl, pp_nil _ _, HB.out⟩
  | true =>
    have hne : (er != 0) = false := by simpa using he
    have HR2 : Hid (parseR s = parO (progR ⟨L, 0⟩)) := hid (by rw [HR.out, he]; rfl)
    have hst := hid (show Rst (w1.alloc (.cells #[.slice A L.length c, .int .i64 0, .int .i64 0] 74)) w1.heap.size A c L ⟨L, 0⟩ from ⟨⟨0, Nat.zero_le _, rfl, Fb.new w1 _ _⟩, ha.lies.alloc (Nat.le_refl _) _, Hfew.out⟩)
    have hB2 := hid (hB1.out.alloc (by have := hsz1.out; omega) (.cells #[.slice A L.length c, .int .i64 0, .int .i64 0] 74))
    have hf2 := hid ((hf1.out.alloc (.cells #[.slice A L.length c, .int .i64 0, .int .i64 0] 74)).alloc (.cells #[.slice none 0 0] 24))
    have hszp := hid (show (w1.alloc (.cells #[.slice A L.length c, .int .i64 0, .int .i64 0] 74)).heap.size = w1.heap.size + 1 by rw [World.size_alloc])
    have H0 := hid (Po.start hst.out)
    clear HR he ha hb1 hf0 hb0 hwa hf1 HC hst
    go_wp2_with fail
    generalize w1.alloc (.cells #[.slice A L.length c, .int .i64 0, .int .i64 0] 74) = wp at *
    generalize w1.heap.size = b at *
    have hszp2 := hszp.out
    have hszb := hsz1.out
    rw [show b + 1 = wp.heap.size from hszp2.symm]
    have hww : w.heap.size < wp.heap.size := by omega
    have hwb : w.heap.size < b := by omega
    have hbp : b < wp.heap.size := by omega
    clear hszp2 hszb
    generalize wp.alloc (.cells #[.slice none 0 0] 24) = w2 at *
    refine (refIs_any b A c L ⟨L, 0⟩ kwFunc _ H0.out.st.1).mono ?_
    rintro e w5 ⟨rfl, hb5⟩
    have H5 := hid (H0.out.below hb5)
    have hf5 := hid (hf2.out.below hb5 hf2.out.lt)
    clear hb5 H0 hf2
    cases hb0 : isK kwFunc ⟨L, 0⟩ with
    | true =>
      have hneed := hid (show needR (isK kwFunc) ⟨L, 0⟩ = ⟨L, 0⟩ by unfold needR; rw [hb0]; rfl)
      generalize hσ3 : (⟨L, 0⟩ : Rs) = σ3 at *
      clear hσ3 hb0
      go_wp2_with fail
      go_loopw [] (fun wr => ∃ (l : List FH) (n : Nat) (σ4 : Rs) (v : Value), Hid (Po wp b A c L σ4 v l wr) ∧ Hid (Lrel (isK kwFunc) funcR 8 σ3 (l.map FH.f) n σ4) ∧ Hid (Fb wr w.heap.size #[.slice none 0 0] 24)) (fun wr => 9 - lenAt0 wp.heap.size wr)
      case atStart => exact ⟨[], 8, σ3, _, H5.out, Lrel.start, hf5.out⟩
      case round =>
        clear H5 hf5
        obtain ⟨l, n, σ4, v, H, HL, hfR⟩ := hrel
        obtain ⟨B, d, hv⟩ := own_any_slice H.out.own
        subst hv
        have hlen : l.length + n = 8 := by have := HL.out.1; simpa using this
        have q0 := H.out.f3.cell 0
        have Hm := hid (lenAt0_of q0)
        clear q0
        cases hb : isK kwFunc σ4 with
        | false =>
          have HB0 := hid hb
          clear hb
          go_wp2_with fail
          refine (refIs_any b A c L σ4 kwFunc _ H.out.st.1).mono ?_
          rw [HB0.out]
          rintro e w7 ⟨rfl, hb7⟩
          have H7 := hid (H.out.below hb7)
          have hf7 := hid (hfR.out.below hb7 hfR.out.lt)
          clear hb7 H hfR
          obtain ⟨le, ee⟩ := σ4
          have HPg := hid (progR_of (σ0 := σ3) (done := l.map FH.f) (le := le) (ee := ee) (by rw [hneed.out]; exact HL.out.stop HB0.out))
          obtain ⟨k, hk, hl, hf⟩ := H7.out.st.1.at_
          simp only at hl hf
          cases hee : (ee == 0) with
          | true =>
            by_cases hkl : k < L.length
            · as_aux_lemma =>
              have HneL := hid (show le ≠ [] by
                  intro h0
                  rw [h0] at hl
                  have h1 := congrArg List.length hl
                  rw [List.length_drop] at h1
                  simp at h1
                  omega)
              have hfr := hid (show failR 4 ⟨le, ee⟩ = ⟨le, 4⟩ by unfold failR; simp [hee])
              have HPar : Hid (parseR s = ([], (nxt le).line, (nxt le).col, 4)) := hid (par_more HR2.out HPg.out hee HneL.out hfr.out)
              obtain ⟨⟨c0, c1, c2⟩, -⟩ := hf.three
              have hfew0 := H7.out.st.1.few
              clear hf hl HR2 HPg
              go_wp2_with fail
              refine (refFail_any b A c L ⟨le, ee⟩ 4 _ H7.out.st.1).mono ?_
              rintro e w8 ⟨rfl, h8⟩
              rw [hfr.out] at h8
              have H8 := hid (H7.out.call h8)
              have hf8 := hid (h8.kept hf7.out (by omega))
              clear h8 H7 hf7 c0 c1 c2 hfew0
              obtain ⟨k2, hk2, hl2, hfp⟩ := H8.out.st.1.at_
              simp only at hl2 hfp
              have hkl2 : k2 < L.length := by
                rcases Nat.lt_or_ge k2 L.length with h | h
                · exact h
                · exact absurd (by rw [← hl2, nxt_end h]) HneL.out
              obtain ⟨a, hAa, hab, -, a2, a3⟩ := H8.out.st.1.arg.cell hkl2
              subst hAa
              rw [← nxt_drop hkl2, hl2] at a2 a3
              obtain ⟨⟨c0, c1, c2⟩, -⟩ := hfp.three
              have hltb := H8.out.st.1.lt
              have hfew := H8.out.st.1.few
              have hna : a.block ≠ w.heap.size := by
                intro hq
                have h1 := a2
                rw [show (a.add (k2 * 4)).block = w.heap.size by rw [add_block]; exact hq] at h1
                rw [hf8.out.cell] at h1
                simp at h1
              have hna2 : w.heap.size ≠ a.block := fun h => hna h.symm
              have hab2 : (a.add (k2 * 4)).block < w8.heap.size := by rw [add_block]; exact hab
              have v0 := hf8.out.cell 0
              have s0 := hf8.out.frozen 0
              have hsz := hf8.out.lt
              have hBX := hid (hB2.out.grown H8.out.st.2 hB2.out.size (fun k hk => by injection hk with hk; omega))
              have HB : Hid (∀ q, Below w.heap.size w ((w8.drewN q).setCell ⟨w.heap.size, 0, none⟩ (.slice none 0 0))) := hid (fun q => (below_drewN hBX.out q).setCell (Nat.le_refl _) _)
              generalize (nxt le).line = ln at *
              generalize (nxt le).col = cl at *
              have hS0 : ((fun w' => Below w.heap.size w w' ∧ w'.cell? ⟨w.heap.size, 0, none⟩ = some (.slice none 0 0) ∧ w'.frozen? ⟨w.heap.size, 0, none⟩ = false ∧ w.heap.size < w'.heap.size ∧ w'.cell? ⟨b, 1, none⟩ = some (.int .i64 (k2 : Int)) ∧ w'.cell? ⟨b, 2, none⟩ = some (.int .i64 4) ∧ w'.cell? ⟨(a.add (k2 * 4)).block, (a.add (k2 * 4)).off + 2, none⟩ = some (.int .i64 (ln : Int)) ∧ w'.cell? ⟨(a.add (k2 * 4)).block, (a.add (k2 * 4)).off + 3, none⟩ = some (.int .i64 (cl : Int))) (w8.drew)) := ⟨below_drewN hBX.out 1, v0, s0, hsz, c1, c2, a2, a3⟩
              have HS0 := hid hS0
              have hSt : ∀ w', (fun w' => Below w.heap.size w w' ∧ w'.cell? ⟨w.heap.size, 0, none⟩ = some (.slice none 0 0) ∧ w'.frozen? ⟨w.heap.size, 0, none⟩ = false ∧ w.heap.size < w'.heap.size ∧ w'.cell? ⟨b, 1, none⟩ = some (.int .i64 (k2 : Int)) ∧ w'.cell? ⟨b, 2, none⟩ = some (.int .i64 4) ∧ w'.cell? ⟨(a.add (k2 * 4)).block, (a.add (k2 * 4)).off + 2, none⟩ = some (.int .i64 (ln : Int)) ∧ w'.cell? ⟨(a.add (k2 * 4)).block, (a.add (k2 * 4)).off + 3, none⟩ = some (.int .i64 (cl : Int))) w' → (fun w' => Below w.heap.size w w' ∧ w'.cell? ⟨w.heap.size, 0, none⟩ = some (.slice none 0 0) ∧ w'.frozen? ⟨w.heap.size, 0, none⟩ = false ∧ w.heap.size < w'.heap.size ∧ w'.cell? ⟨b, 1, none⟩ = some (.int .i64 (k2 : Int)) ∧ w'.cell? ⟨b, 2, none⟩ = some (.int .i64 4) ∧ w'.cell? ⟨(a.add (k2 * 4)).block, (a.add (k2 * 4)).off + 2, none⟩ = some (.int .i64 (ln : Int)) ∧ w'.cell? ⟨(a.add (k2 * 4)).block, (a.add (k2 * 4)).off + 3, none⟩ = some (.int .i64 (cl : Int))) (w'.setCell ⟨w.heap.size, 0, none⟩ (.slice none 0 0)) := by
                rintro w' ⟨h0, h1, h2, h3, h4, h5, h6, h7⟩
                refine ⟨h0.setCell (Nat.le_refl _) _, World.cell?_setCell_same (w := w') (a := ⟨w.heap.size, 0, none⟩) (v := .slice none 0 0) h1, by rw [World.frozen?_setCell]; exact h2, by rw [World.size_setCell]; exact h3, ?_, ?_, ?_, ?_⟩
                · exact (World.cell?_setCell_far _ _ _ _ (by show w.heap.size ≠ b; omega)).trans h4
                · exact (World.cell?_setCell_far _ _ _ _ (by show w.heap.size ≠ b; omega)).trans h5
                · exact (World.cell?_setCell_far _ _ _ _ (by show w.heap.size ≠ (a.add (k2 * 4)).block; rw [add_block]; exact hna2)).trans h6
                · exact (World.cell?_setCell_far _ _ _ _ (by show w.heap.size ≠ (a.add (k2 * 4)).block; rw [add_block]; exact hna2)).trans h7
              have HSt := hid hSt
              clear hl2 hfp hS0 hSt
              go_wp2_with fail
              clear c0 c1 c2 v0 s0 hsz a2 a3
              go_region_held3 (fun w' => Below w.heap.size w w' ∧ w'.cell? ⟨w.heap.size, 0, none⟩ = some (.slice none 0 0) ∧ w'.frozen? ⟨w.heap.size, 0, none⟩ = false ∧ w.heap.size < w'.heap.size ∧ w'.cell? ⟨b, 1, none⟩ = some (.int .i64 (k2 : Int)) ∧ w'.cell? ⟨b, 2, none⟩ = some (.int .i64 4) ∧ w'.cell? ⟨(a.add (k2 * 4)).block, (a.add (k2 * 4)).off + 2, none⟩ = some (.int .i64 (ln : Int)) ∧ w'.cell? ⟨(a.add (k2 * 4)).block, (a.add (k2 * 4)).off + 3, none⟩ = some (.int .i64 (cl : Int)))
                (first | exact HS0.out | exact HSt.out _ (by assumption) | assumption)
                (fail)
              go_wp2_with fail
              rename (Below _ _ _ ∧ _) => hh
              obtain ⟨hB9, v9, s9, hz9, -⟩ := hh
              refine bodyPost_ret (v := .tuple #[.agg #[.slice none 0 0], .int .i64 (ln : Int), .int .i64 (cl : Int), .int .i64 4]) (by simp [results, Tryd.results8, go_sem, v9, s9, hz9]) rfl ?_
              rw [HPar.out]
              exact ⟨⟨none, 0, 0, []⟩, rfl, rfl, pp_nil _ _, hB9⟩
            · as_aux_lemma =>
              have hle : le = [] := by rw [← hl, nxt_end (by omega)]
              have hkL : k = L.length := by omega
              have HPar : Hid (parseR s = (l.map FH.f, 0, 0, 0)) := hid (par_end HR2.out HPg.out hee hle)
              subst hkL
              clear hl HR2 HPg hkl
              obtain ⟨⟨c0, c1, c2⟩, -⟩ := hf.three
              have hltb := H7.out.st.1.lt
              have v0 := hf7.out.cell 0
              have s0 := hf7.out.frozen 0
              have hsz := hf7.out.lt
              have k0 := H7.out.f3.cell 0
              have hszX := H7.out.f3.lt
              have hBX := hid (hB2.out.grown H7.out.st.2 hB2.out.size (fun k hk => by injection hk with hk; omega))
              have HB : Hid (Below w.heap.size w (w7.setCell ⟨w.heap.size, 0, none⟩ (.slice B l.length d))) := hid (hBX.out.setCell (Nat.le_refl _) _)
              have Hpp := hid (show Fr w.heap.size (PP ⟨B, l.length, d, l⟩) (w7.setCell ⟨w.heap.size, 0, none⟩ (.slice B l.length d)) from Fr.less (M := w.heap.size) (Fr.grown (fun h hg => PP.go h hg) (H7.out.pp (by omega)) (setCell_grown w7 ⟨w.heap.size, 0, none⟩ _) (fun k hk => by injection hk with hk; have : w.heap.size = k := hk; omega)) (by omega))
              clear hf
              go_wp2_with fail
              refine bodyPost_ret (v := .tuple #[.agg #[.slice B l.length d], .int .i64 0, .int .i64 0, .int .i64 0]) (by simp [results, Tryd.results8, go_sem, v0, s0, hsz]) rfl ?_
              rw [HPar.out]
              exact ⟨⟨B, l.length, d, l⟩, rfl, rfl, Hpp.out, HB.out⟩
          | false =>
            have HPar0 : Hid (parseR s = ([], (nxt le).line, (nxt le).col, ee)) := hid (par_err HR2.out HPg.out hee)
            by_cases hkl : k < L.length
            · as_aux_lemma =>
              have HneL := hid (show le ≠ [] by
                  intro h0
                  rw [h0] at hl
                  have h1 := congrArg List.length hl
                  rw [List.length_drop] at h1
                  simp at h1
                  omega)
              have HPar := HPar0
              clear HPar0 hf hl HR2 HPg
              obtain ⟨k2, hk2, hl2, hfp⟩ := H7.out.st.1.at_
              simp only at hl2 hfp
              have hkl2 : k2 < L.length := by
                rcases Nat.lt_or_ge k2 L.length with h | h
                · exact h
                · exact absurd (by rw [← hl2, nxt_end h]) HneL.out
              obtain ⟨a, hAa, hab, -, a2, a3⟩ := H7.out.st.1.arg.cell hkl2
              subst hAa
              rw [← nxt_drop hkl2, hl2] at a2 a3
              obtain ⟨⟨c0, c1, c2⟩, -⟩ := hfp.three
              have hltb := H7.out.st.1.lt
              have hfew := H7.out.st.1.few
              have hna : a.block ≠ w.heap.size := by
                intro hq
                have h1 := a2
                rw [show (a.add (k2 * 4)).block = w.heap.size by rw [add_block]; exact hq] at h1
                rw [hf7.out.cell] at h1
                simp at h1
              have hna2 : w.heap.size ≠ a.block := fun h => hna h.symm
              have hab2 : (a.add (k2 * 4)).block < w7.heap.size := by rw [add_block]; exact hab
              have v0 := hf7.out.cell 0
              have s0 := hf7.out.frozen 0
              have hsz := hf7.out.lt
              have hBX := hid (hB2.out.grown H7.out.st.2 hB2.out.size (fun k hk => by injection hk with hk; omega))
              have HB : Hid (∀ q, Below w.heap.size w ((w7.drewN q).setCell ⟨w.heap.size, 0, none⟩ (.slice none 0 0))) := hid (fun q => (below_drewN hBX.out q).setCell (Nat.le_refl _) _)
              generalize (nxt le).line = ln at *
              generalize (nxt le).col = cl at *
              have hS0 : ((fun w' => Below w.heap.size w w' ∧ w'.cell? ⟨w.heap.size, 0, none⟩ = some (.slice none 0 0) ∧ w'.frozen? ⟨w.heap.size, 0, none⟩ = false ∧ w.heap.size < w'.heap.size ∧ w'.cell? ⟨b, 1, none⟩ = some (.int .i64 (k2 : Int)) ∧ w'.cell? ⟨b, 2, none⟩ = some (.int .i64 ee) ∧ w'.cell? ⟨(a.add (k2 * 4)).block, (a.add (k2 * 4)).off + 2, none⟩ = some (.int .i64 (ln : Int)) ∧ w'.cell? ⟨(a.add (k2 * 4)).block, (a.add (k2 * 4)).off + 3, none⟩ = some (.int .i64 (cl : Int))) (w7.drew)) := ⟨below_drewN hBX.out 1, v0, s0, hsz, c1, c2, a2, a3⟩
              have HS0 := hid hS0
              have hSt : ∀ w', (fun w' => Below w.heap.size w w' ∧ w'.cell? ⟨w.heap.size, 0, none⟩ = some (.slice none 0 0) ∧ w'.frozen? ⟨w.heap.size, 0, none⟩ = false ∧ w.heap.size < w'.heap.size ∧ w'.cell? ⟨b, 1, none⟩ = some (.int .i64 (k2 : Int)) ∧ w'.cell? ⟨b, 2, none⟩ = some (.int .i64 ee) ∧ w'.cell? ⟨(a.add (k2 * 4)).block, (a.add (k2 * 4)).off + 2, none⟩ = some (.int .i64 (ln : Int)) ∧ w'.cell? ⟨(a.add (k2 * 4)).block, (a.add (k2 * 4)).off + 3, none⟩ = some (.int .i64 (cl : Int))) w' → (fun w' => Below w.heap.size w w' ∧ w'.cell? ⟨w.heap.size, 0, none⟩ = some (.slice none 0 0) ∧ w'.frozen? ⟨w.heap.size, 0, none⟩ = false ∧ w.heap.size < w'.heap.size ∧ w'.cell? ⟨b, 1, none⟩ = some (.int .i64 (k2 : Int)) ∧ w'.cell? ⟨b, 2, none⟩ = some (.int .i64 ee) ∧ w'.cell? ⟨(a.add (k2 * 4)).block, (a.add (k2 * 4)).off + 2, none⟩ = some (.int .i64 (ln : Int)) ∧ w'.cell? ⟨(a.add (k2 * 4)).block, (a.add (k2 * 4)).off + 3, none⟩ = some (.int .i64 (cl : Int))) (w'.setCell ⟨w.heap.size, 0, none⟩ (.slice none 0 0)) := by
                rintro w' ⟨h0, h1, h2, h3, h4, h5, h6, h7⟩
                refine ⟨h0.setCell (Nat.le_refl _) _, World.cell?_setCell_same (w := w') (a := ⟨w.heap.size, 0, none⟩) (v := .slice none 0 0) h1, by rw [World.frozen?_setCell]; exact h2, by rw [World.size_setCell]; exact h3, ?_, ?_, ?_, ?_⟩
                · exact (World.cell?_setCell_far _ _ _ _ (by show w.heap.size ≠ b; omega)).trans h4
                · exact (World.cell?_setCell_far _ _ _ _ (by show w.heap.size ≠ b; omega)).trans h5
                · exact (World.cell?_setCell_far _ _ _ _ (by show w.heap.size ≠ (a.add (k2 * 4)).block; rw [add_block]; exact hna2)).trans h6
                · exact (World.cell?_setCell_far _ _ _ _ (by show w.heap.size ≠ (a.add (k2 * 4)).block; rw [add_block]; exact hna2)).trans h7
              have HSt := hid hSt
              clear hl2 hfp hS0 hSt
              go_wp2_with fail
              clear c0 c1 c2 v0 s0 hsz a2 a3
              go_region_held3 (fun w' => Below w.heap.size w w' ∧ w'.cell? ⟨w.heap.size, 0, none⟩ = some (.slice none 0 0) ∧ w'.frozen? ⟨w.heap.size, 0, none⟩ = false ∧ w.heap.size < w'.heap.size ∧ w'.cell? ⟨b, 1, none⟩ = some (.int .i64 (k2 : Int)) ∧ w'.cell? ⟨b, 2, none⟩ = some (.int .i64 ee) ∧ w'.cell? ⟨(a.add (k2 * 4)).block, (a.add (k2 * 4)).off + 2, none⟩ = some (.int .i64 (ln : Int)) ∧ w'.cell? ⟨(a.add (k2 * 4)).block, (a.add (k2 * 4)).off + 3, none⟩ = some (.int .i64 (cl : Int)))
                (first | exact HS0.out | exact HSt.out _ (by assumption) | assumption)
                (fail)
              go_wp2_with fail
              rename (Below _ _ _ ∧ _) => hh
              obtain ⟨hB9, v9, s9, hz9, -⟩ := hh
              refine bodyPost_ret (v := .tuple #[.agg #[.slice none 0 0], .int .i64 (ln : Int), .int .i64 (cl : Int), .int .i64 ee]) (by simp [results, Tryd.results8, go_sem, v9, s9, hz9]) rfl ?_
              rw [HPar.out]
              exact ⟨⟨none, 0, 0, []⟩, rfl, rfl, pp_nil _ _, hB9⟩
            · as_aux_lemma =>
              have hle : le = [] := by rw [← hl, nxt_end (by omega)]
              have hkL : k = L.length := by omega
              have HPar : Hid (parseR s = ([], 0, 0, ee)) := hid (by rw [HPar0.out, hle]; rfl)
              subst hkL
              clear HPar0 hl HR2 HPg hkl
              obtain ⟨⟨c0, c1, c2⟩, -⟩ := hf.three
              have hltb := H7.out.st.1.lt
              have v0 := hf7.out.cell 0
              have s0 := hf7.out.frozen 0
              have hsz := hf7.out.lt
              have hBX := hid (hB2.out.grown H7.out.st.2 hB2.out.size (fun k hk => by injection hk with hk; omega))
              have HB : Hid (∀ q, Below w.heap.size w ((w7.drewN q).setCell ⟨w.heap.size, 0, none⟩ (.slice none 0 0))) := hid (fun q => (below_drewN hBX.out q).setCell (Nat.le_refl _) _)
              clear hf
              go_wp2_with fail
              go_region_law (fail)
              all_goals
                go_wp2_with fail
                refine bodyPost_ret (v := .tuple #[.agg #[.slice none 0 0], .int .i64 0, .int .i64 0, .int .i64 ee]) (by simp [results, Tryd.results8, go_sem, v0, s0, hsz]) rfl ?_
                rw [HPar.out]
                exact ⟨⟨none, 0, 0, []⟩, rfl, rfl, pp_nil _ _, HB.out 1⟩
        | true =>
          have HB0 := hid hb
          clear hb
          cases n with
          | zero =>
            have hl8 : l.length = 8 := by omega
            go_wp2_with fail
            refine (refIs_any b A c L σ4 kwFunc _ H.out.st.1).mono ?_
            rw [HB0.out]
            rintro e w7 ⟨rfl, hb7⟩
            have H7 := hid (H.out.below hb7)
            have hf7 := hid (hfR.out.below hb7 hfR.out.lt)
            clear hb7 H hfR
            have q0 := H7.out.f3.cell 0
            have tl : ((l.length : Int) == 8) = true := by simp; omega
            go_wp2_with fail
            clear q0 tl
            refine (refFail_any b A c L σ4 7 _ H7.out.st.1).mono ?_
            rintro e w8 ⟨rfl, h8⟩
            obtain ⟨le, ee⟩ := σ4
            have hfr := hid (show failR 7 ⟨le, ee⟩ = ⟨le, 7⟩ by
              have h0 : ee = 0 := (isK_ne HB0.out).1
              unfold failR
              simp [h0])
            rw [hfr.out] at h8
            have HneL := hid (show le ≠ [] from isK_l HB0.out)
            have HPg := hid (progR_of (σ0 := σ3) (done := l.map FH.f) (le := le) (ee := 7) (by rw [hneed.out]; exact (HL.out.full HB0.out).trans (by rw [hfr.out])))
            have HPar : Hid (parseR s = ([], (nxt le).line, (nxt le).col, 7)) := hid (par_err HR2.out HPg.out rfl)
            have H8 := hid (H7.out.call h8)
            have hf8 := hid (h8.kept hf7.out (by omega))
            clear h8 H7 hf7 HR2 HPg
            obtain ⟨k2, hk2, hl2, hfp⟩ := H8.out.st.1.at_
            simp only at hl2 hfp
            have hkl2 : k2 < L.length := by
              rcases Nat.lt_or_ge k2 L.length with h | h
              · exact h
              · exact absurd (by rw [← hl2, nxt_end h]) HneL.out
            obtain ⟨a, hAa, hab, -, a2, a3⟩ := H8.out.st.1.arg.cell hkl2
            subst hAa
            rw [← nxt_drop hkl2, hl2] at a2 a3
            obtain ⟨⟨c0, c1, c2⟩, -⟩ := hfp.three
            have hltb := H8.out.st.1.lt
            have hfew := H8.out.st.1.few
            have hna : a.block ≠ w.heap.size := by
              intro hq
              have h1 := a2
              rw [show (a.add (k2 * 4)).block = w.heap.size by rw [add_block]; exact hq] at h1
              rw [hf8.out.cell] at h1
              simp at h1
            have hna2 : w.heap.size ≠ a.block := fun h => hna h.symm
            have hab2 : (a.add (k2 * 4)).block < w8.heap.size := by rw [add_block]; exact hab
            have v0 := hf8.out.cell 0
            have s0 := hf8.out.frozen 0
            have hsz := hf8.out.lt
            have hBX := hid (hB2.out.grown H8.out.st.2 hB2.out.size (fun k hk => by injection hk with hk; omega))
            have HB : Hid (∀ q, Below w.heap.size w ((w8.drewN q).setCell ⟨w.heap.size, 0, none⟩ (.slice none 0 0))) := hid (fun q => (below_drewN hBX.out q).setCell (Nat.le_refl _) _)
            generalize (nxt le).line = ln at *
            generalize (nxt le).col = cl at *
            have hS0 : ((fun w' => Below w.heap.size w w' ∧ w'.cell? ⟨w.heap.size, 0, none⟩ = some (.slice none 0 0) ∧ w'.frozen? ⟨w.heap.size, 0, none⟩ = false ∧ w.heap.size < w'.heap.size ∧ w'.cell? ⟨b, 1, none⟩ = some (.int .i64 (k2 : Int)) ∧ w'.cell? ⟨b, 2, none⟩ = some (.int .i64 7) ∧ w'.cell? ⟨(a.add (k2 * 4)).block, (a.add (k2 * 4)).off + 2, none⟩ = some (.int .i64 (ln : Int)) ∧ w'.cell? ⟨(a.add (k2 * 4)).block, (a.add (k2 * 4)).off + 3, none⟩ = some (.int .i64 (cl : Int))) (w8.drew)) := ⟨below_drewN hBX.out 1, v0, s0, hsz, c1, c2, a2, a3⟩
            have HS0 := hid hS0
            have hSt : ∀ w', (fun w' => Below w.heap.size w w' ∧ w'.cell? ⟨w.heap.size, 0, none⟩ = some (.slice none 0 0) ∧ w'.frozen? ⟨w.heap.size, 0, none⟩ = false ∧ w.heap.size < w'.heap.size ∧ w'.cell? ⟨b, 1, none⟩ = some (.int .i64 (k2 : Int)) ∧ w'.cell? ⟨b, 2, none⟩ = some (.int .i64 7) ∧ w'.cell? ⟨(a.add (k2 * 4)).block, (a.add (k2 * 4)).off + 2, none⟩ = some (.int .i64 (ln : Int)) ∧ w'.cell? ⟨(a.add (k2 * 4)).block, (a.add (k2 * 4)).off + 3, none⟩ = some (.int .i64 (cl : Int))) w' → (fun w' => Below w.heap.size w w' ∧ w'.cell? ⟨w.heap.size, 0, none⟩ = some (.slice none 0 0) ∧ w'.frozen? ⟨w.heap.size, 0, none⟩ = false ∧ w.heap.size < w'.heap.size ∧ w'.cell? ⟨b, 1, none⟩ = some (.int .i64 (k2 : Int)) ∧ w'.cell? ⟨b, 2, none⟩ = some (.int .i64 7) ∧ w'.cell? ⟨(a.add (k2 * 4)).block, (a.add (k2 * 4)).off + 2, none⟩ = some (.int .i64 (ln : Int)) ∧ w'.cell? ⟨(a.add (k2 * 4)).block, (a.add (k2 * 4)).off + 3, none⟩ = some (.int .i64 (cl : Int))) (w'.setCell ⟨w.heap.size, 0, none⟩ (.slice none 0 0)) := by
              rintro w' ⟨h0, h1, h2, h3, h4, h5, h6, h7⟩
              refine ⟨h0.setCell (Nat.le_refl _) _, World.cell?_setCell_same (w := w') (a := ⟨w.heap.size, 0, none⟩) (v := .slice none 0 0) h1, by rw [World.frozen?_setCell]; exact h2, by rw [World.size_setCell]; exact h3, ?_, ?_, ?_, ?_⟩
              · exact (World.cell?_setCell_far _ _ _ _ (by show w.heap.size ≠ b; omega)).trans h4
              · exact (World.cell?_setCell_far _ _ _ _ (by show w.heap.size ≠ b; omega)).trans h5
              · exact (World.cell?_setCell_far _ _ _ _ (by show w.heap.size ≠ (a.add (k2 * 4)).block; rw [add_block]; exact hna2)).trans h6
              · exact (World.cell?_setCell_far _ _ _ _ (by show w.heap.size ≠ (a.add (k2 * 4)).block; rw [add_block]; exact hna2)).trans h7
            have HSt := hid hSt
            clear hl2 hfp hS0 hSt
            go_wp2_with fail
            clear c0 c1 c2 v0 s0 hsz a2 a3
            go_region_held3 (fun w' => Below w.heap.size w w' ∧ w'.cell? ⟨w.heap.size, 0, none⟩ = some (.slice none 0 0) ∧ w'.frozen? ⟨w.heap.size, 0, none⟩ = false ∧ w.heap.size < w'.heap.size ∧ w'.cell? ⟨b, 1, none⟩ = some (.int .i64 (k2 : Int)) ∧ w'.cell? ⟨b, 2, none⟩ = some (.int .i64 7) ∧ w'.cell? ⟨(a.add (k2 * 4)).block, (a.add (k2 * 4)).off + 2, none⟩ = some (.int .i64 (ln : Int)) ∧ w'.cell? ⟨(a.add (k2 * 4)).block, (a.add (k2 * 4)).off + 3, none⟩ = some (.int .i64 (cl : Int)))
              (first | exact HS0.out | exact HSt.out _ (by assumption) | assumption)
              (fail)
            go_wp2_with fail
            rename (Below _ _ _ ∧ _) => hh
            obtain ⟨hB9, v9, s9, hz9, -⟩ := hh
            refine bodyPost_ret (v := .tuple #[.agg #[.slice none 0 0], .int .i64 (ln : Int), .int .i64 (cl : Int), .int .i64 7]) (by simp [results, Tryd.results8, go_sem, v9, s9, hz9]) rfl ?_
            rw [HPar.out]
            exact ⟨⟨none, 0, 0, []⟩, rfl, rfl, pp_nil _ _, hB9⟩
          | succ n =>
            have hl8 : l.length < 8 := by omega
            have tl : ((l.length : Int) == 8) = false := by simp; omega
            go_wp2_with fail
            refine (refIs_any b A c L σ4 kwFunc _ H.out.st.1).mono ?_
            rw [HB0.out]
            rintro e w7 ⟨rfl, hb7⟩
            have H7 := hid (H.out.below hb7)
            have hf7 := hid (hfR.out.below hb7 hfR.out.lt)
            clear hb7 H hfR
            have q0 := H7.out.f3.cell 0
            have hzq := H7.out.f3.lt
            go_wp2_with fail
            have H7d : Hid (Po wp b A c L σ4 (.slice B l.length d) l w7.drew) := hid (H7.out.drewN 1)
            have HCc := hid (fun w' (h' : Rst w' b A c L σ4) => refFunc_any b A c L σ4 w' h' HS.out)
            go_region_law (first
              | (go_simp
                 go_at_call 38
                 go_must (
                 refine (HCc.out _ H7d.out.st.1).mono ?_
                 rintro e w8 ⟨x, he, hxt, hfx, h8⟩
                 unfold agF at he
                 subst he
                 have H8 := hid (H7d.out.call h8)
                 have hf8 := hid (h8.kept (w := w7.drew) hf7.out (by omega))
                 have Hx := hid (FrV.fresh (N := wp.heap.size + 1) (v := .slice B l.length d) hfx H7d.out.size (fun k hk => (H7d.out.own.lt k hk).2))
                 have Hxt := hid hxt
                 have q0 := H8.out.f3.cell 0
                 have hzq := H8.out.f3.lt
                 clear hfx h8 hxt))
              | ((refine step_append_lies _ (by rfl) _ _ 22 (by rfl) (wp.heap.size + 1) 51 i3 _ 2 40 Tryd.underlying22 Hi.out Hz0.out Hz1.out Hz2.out (by rfl) (by decide) (.slice B l.length d) l.length (l.flatMap fhc) (by rfl) (by exact World.ownsRow.alloc H8.out.own _)
                    ⟨_, 0, none⟩ 1 1 (fhc x) (by rfl) rfl (by exact two_new _ _ _ _) (one_two _ _ _ _) (by decide) (by unfold maxLen; omega) (by omega) (by have := H8.out.size; rw [World.size_alloc]; omega) _ rfl ?_)
                 intro g9 cap9 w9 hown9 hgr9 hat9 hlt9
                 obtain ⟨⟨y0, y1, y2⟩, hT9⟩ := Po.push (x := x) H8.out ((Below.refl _ _).alloc (Nat.le_refl _) _) Hx.out hgr9 hown9 hat9
                 have H9 := hid hT9
                 have hne9 : ∀ k, (Value.slice B l.length d).ownBlock = some k → wp.heap.size + 1 ≤ k := fun k hk => (H8.out.own.lt k hk).1
                 have hf9 := hid (((hf8.out.alloc _).grown hgr9 (fun e => by have := hne9 _ e.symm; omega)).far (p := ⟨wp.heap.size, 0, none⟩) (by show w.heap.size ≠ wp.heap.size; omega) (.slice (some ⟨g9, 0, none⟩) (l.length + 1) cap9))
                 clear hown9 hgr9 hat9 hlt9 hT9 hne9))
            all_goals
              clear q0 hzq
              generalize w9.setCell ⟨wp.heap.size, 0, none⟩ (.slice (some ⟨g9, 0, none⟩) (l.length + 1) cap9) = w10 at *
              clear y0 y1 y2
              go_wp2_with fail
              go_roundw
              case rel => exact ⟨l ++ [x], n, (funcR σ4).2, _, H9.out, by have := HL.out.step HB0.out; rw [List.map_append]; rw [← Hxt.out] at this; exact this, hf9.out⟩
              case measure =>
                have q0 := H9.out.f3.cell 0
                rw [Hm.out, lenAt0_of q0]
                omega
    | false =>
      have hneed := hid (show needR (isK kwFunc) ⟨L, 0⟩ = failR 4 ⟨L, 0⟩ by unfold needR; rw [hb0]; rfl)
      clear hb0
      go_wp2_with fail
      refine (refFail_any b A c L ⟨L, 0⟩ 4 _ H5.out.st.1).mono ?_
      rintro e w6 ⟨rfl, h6⟩
      have H6 := hid (H5.out.call h6)
      have hf6 := hid (h6.kept hf5.out (by omega))
      clear h6 H5 hf5
      generalize failR 4 ⟨L, 0⟩ = σ3 at *
      generalize hσ0 : (⟨L, 0⟩ : Rs) = σ0 at *
      clear hσ0
      go_wp2_with fail
      go_loopw [] (fun wr => ∃ (l : List FH) (n : Nat) (σ4 : Rs) (v : Value), Hid (Po wp b A c L σ4 v l wr) ∧ Hid (Lrel (isK kwFunc) funcR 8 σ3 (l.map FH.f) n σ4) ∧ Hid (Fb wr w.heap.size #[.slice none 0 0] 24)) (fun wr => 9 - lenAt0 wp.heap.size wr)
      case atStart => exact ⟨[], 8, σ3, _, H6.out, Lrel.start, hf6.out⟩
      case round =>
        clear H6 hf6
        obtain ⟨l, n, σ4, v, H, HL, hfR⟩ := hrel
        obtain ⟨B, d, hv⟩ := own_any_slice H.out.own
        subst hv
        have hlen : l.length + n = 8 := by have := HL.out.1; simpa using this
        have q0 := H.out.f3.cell 0
        have Hm := hid (lenAt0_of q0)
        clear q0
        cases hb : isK kwFunc σ4 with
        | false =>
          have HB0 := hid hb
          clear hb
          go_wp2_with fail
          refine (refIs_any b A c L σ4 kwFunc _ H.out.st.1).mono ?_
          rw [HB0.out]
          rintro e w7 ⟨rfl, hb7⟩
          have H7 := hid (H.out.below hb7)
          have hf7 := hid (hfR.out.below hb7 hfR.out.lt)
          clear hb7 H hfR
          obtain ⟨le, ee⟩ := σ4
          have HPg := hid (progR_of (σ0 := σ0) (done := l.map FH.f) (le := le) (ee := ee) (by rw [hneed.out]; exact HL.out.stop HB0.out))
          obtain ⟨k, hk, hl, hf⟩ := H7.out.st.1.at_
          simp only at hl hf
          cases hee : (ee == 0) with
          | true =>
            by_cases hkl : k < L.length
            · as_aux_lemma =>
              have HneL := hid (show le ≠ [] by
                  intro h0
                  rw [h0] at hl
                  have h1 := congrArg List.length hl
                  rw [List.length_drop] at h1
                  simp at h1
                  omega)
              have hfr := hid (show failR 4 ⟨le, ee⟩ = ⟨le, 4⟩ by unfold failR; simp [hee])
              have HPar : Hid (parseR s = ([], (nxt le).line, (nxt le).col, 4)) := hid (par_more HR2.out HPg.out hee HneL.out hfr.out)
              obtain ⟨⟨c0, c1, c2⟩, -⟩ := hf.three
              have hfew0 := H7.out.st.1.few
              clear hf hl HR2 HPg
              go_wp2_with fail
              refine (refFail_any b A c L ⟨le, ee⟩ 4 _ H7.out.st.1).mono ?_
              rintro e w8 ⟨rfl, h8⟩
              rw [hfr.out] at h8
              have H8 := hid (H7.out.call h8)
              have hf8 := hid (h8.kept hf7.out (by omega))
              clear h8 H7 hf7 c0 c1 c2 hfew0
              obtain ⟨k2, hk2, hl2, hfp⟩ := H8.out.st.1.at_
              simp only at hl2 hfp
              have hkl2 : k2 < L.length := by
                rcases Nat.lt_or_ge k2 L.length with h | h
                · exact h
                · exact absurd (by rw [← hl2, nxt_end h]) HneL.out
              obtain ⟨a, hAa, hab, -, a2, a3⟩ := H8.out.st.1.arg.cell hkl2
              subst hAa
              rw [← nxt_drop hkl2, hl2] at a2 a3
              obtain ⟨⟨c0, c1, c2⟩, -⟩ := hfp.three
              have hltb := H8.out.st.1.lt
              have hfew := H8.out.st.1.few
              have hna : a.block ≠ w.heap.size := by
                intro hq
                have h1 := a2
                rw [show (a.add (k2 * 4)).block = w.heap.size by rw [add_block]; exact hq] at h1
                rw [hf8.out.cell] at h1
                simp at h1
              have hna2 : w.heap.size ≠ a.block := fun h => hna h.symm
              have hab2 : (a.add (k2 * 4)).block < w8.heap.size := by rw [add_block]; exact hab
              have v0 := hf8.out.cell 0
              have s0 := hf8.out.frozen 0
              have hsz := hf8.out.lt
              have hBX := hid (hB2.out.grown H8.out.st.2 hB2.out.size (fun k hk => by injection hk with hk; omega))
              have HB : Hid (∀ q, Below w.heap.size w ((w8.drewN q).setCell ⟨w.heap.size, 0, none⟩ (.slice none 0 0))) := hid (fun q => (below_drewN hBX.out q).setCell (Nat.le_refl _) _)
              generalize (nxt le).line = ln at *
              generalize (nxt le).col = cl at *
              have hS0 : ((fun w' => Below w.heap.size w w' ∧ w'.cell? ⟨w.heap.size, 0, none⟩ = some (.slice none 0 0) ∧ w'.frozen? ⟨w.heap.size, 0, none⟩ = false ∧ w.heap.size < w'.heap.size ∧ w'.cell? ⟨b, 1, none⟩ = some (.int .i64 (k2 : Int)) ∧ w'.cell? ⟨b, 2, none⟩ = some (.int .i64 4) ∧ w'.cell? ⟨(a.add (k2 * 4)).block, (a.add (k2 * 4)).off + 2, none⟩ = some (.int .i64 (ln : Int)) ∧ w'.cell? ⟨(a.add (k2 * 4)).block, (a.add (k2 * 4)).off + 3, none⟩ = some (.int .i64 (cl : Int))) (w8.drew)) := ⟨below_drewN hBX.out 1, v0, s0, hsz, c1, c2, a2, a3⟩
              have HS0 := hid hS0
              have hSt : ∀ w', (fun w' => Below w.heap.size w w' ∧ w'.cell? ⟨w.heap.size, 0, none⟩ = some (.slice none 0 0) ∧ w'.frozen? ⟨w.heap.size, 0, none⟩ = false ∧ w.heap.size < w'.heap.size ∧ w'.cell? ⟨b, 1, none⟩ = some (.int .i64 (k2 : Int)) ∧ w'.cell? ⟨b, 2, none⟩ = some (.int .i64 4) ∧ w'.cell? ⟨(a.add (k2 * 4)).block, (a.add (k2 * 4)).off + 2, none⟩ = some (.int .i64 (ln : Int)) ∧ w'.cell? ⟨(a.add (k2 * 4)).block, (a.add (k2 * 4)).off + 3, none⟩ = some (.int .i64 (cl : Int))) w' → (fun w' => Below w.heap.size w w' ∧ w'.cell? ⟨w.heap.size, 0, none⟩ = some (.slice none 0 0) ∧ w'.frozen? ⟨w.heap.size, 0, none⟩ = false ∧ w.heap.size < w'.heap.size ∧ w'.cell? ⟨b, 1, none⟩ = some (.int .i64 (k2 : Int)) ∧ w'.cell? ⟨b, 2, none⟩ = some (.int .i64 4) ∧ w'.cell? ⟨(a.add (k2 * 4)).block, (a.add (k2 * 4)).off + 2, none⟩ = some (.int .i64 (ln : Int)) ∧ w'.cell? ⟨(a.add (k2 * 4)).block, (a.add (k2 * 4)).off + 3, none⟩ = some (.int .i64 (cl : Int))) (w'.setCell ⟨w.heap.size, 0, none⟩ (.slice none 0 0)) := by
                rintro w' ⟨h0, h1, h2, h3, h4, h5, h6, h7⟩
                refine ⟨h0.setCell (Nat.le_refl _) _, World.cell?_setCell_same (w := w') (a := ⟨w.heap.size, 0, none⟩) (v := .slice none 0 0) h1, by rw [World.frozen?_setCell]; exact h2, by rw [World.size_setCell]; exact h3, ?_, ?_, ?_, ?_⟩
                · exact (World.cell?_setCell_far _ _ _ _ (by show w.heap.size ≠ b; omega)).trans h4
                · exact (World.cell?_setCell_far _ _ _ _ (by show w.heap.size ≠ b; omega)).trans h5
                · exact (World.cell?_setCell_far _ _ _ _ (by show w.heap.size ≠ (a.add (k2 * 4)).block; rw [add_block]; exact hna2)).trans h6
                · exact (World.cell?_setCell_far _ _ _ _ (by show w.heap.size ≠ (a.add (k2 * 4)).block; rw [add_block]; exact hna2)).trans h7
              have HSt := hid hSt
              clear hl2 hfp hS0 hSt
              go_wp2_with fail
              clear c0 c1 c2 v0 s0 hsz a2 a3
              go_region_held3 (fun w' => Below w.heap.size w w' ∧ w'.cell? ⟨w.heap.size, 0, none⟩ = some (.slice none 0 0) ∧ w'.frozen? ⟨w.heap.size, 0, none⟩ = false ∧ w.heap.size < w'.heap.size ∧ w'.cell? ⟨b, 1, none⟩ = some (.int .i64 (k2 : Int)) ∧ w'.cell? ⟨b, 2, none⟩ = some (.int .i64 4) ∧ w'.cell? ⟨(a.add (k2 * 4)).block, (a.add (k2 * 4)).off + 2, none⟩ = some (.int .i64 (ln : Int)) ∧ w'.cell? ⟨(a.add (k2 * 4)).block, (a.add (k2 * 4)).off + 3, none⟩ = some (.int .i64 (cl : Int)))
                (first | exact HS0.out | exact HSt.out _ (by assumption) | assumption)
                (fail)
              go_wp2_with fail
              rename (Below _ _ _ ∧ _) => hh
              obtain ⟨hB9, v9, s9, hz9, -⟩ := hh
              refine bodyPost_ret (v := .tuple #[.agg #[.slice none 0 0], .int .i64 (ln : Int), .int .i64 (cl : Int), .int .i64 4]) (by simp [results, Tryd.results8, go_sem, v9, s9, hz9]) rfl ?_
              rw [HPar.out]
              exact ⟨⟨none, 0, 0, []⟩, rfl, rfl, pp_nil _ _, hB9⟩
            · as_aux_lemma =>
              have hle : le = [] := by rw [← hl, nxt_end (by omega)]
              have hkL : k = L.length := by omega
              have HPar : Hid (parseR s = (l.map FH.f, 0, 0, 0)) := hid (par_end HR2.out HPg.out hee hle)
              subst hkL
              clear hl HR2 HPg hkl
              obtain ⟨⟨c0, c1, c2⟩, -⟩ := hf.three
              have hltb := H7.out.st.1.lt
              have v0 := hf7.out.cell 0
              have s0 := hf7.out.frozen 0
              have hsz := hf7.out.lt
              have k0 := H7.out.f3.cell 0
              have hszX := H7.out.f3.lt
              have hBX := hid (hB2.out.grown H7.out.st.2 hB2.out.size (fun k hk => by injection hk with hk; omega))
              have HB : Hid (Below w.heap.size w (w7.setCell ⟨w.heap.size, 0, none⟩ (.slice B l.length d))) := hid (hBX.out.setCell (Nat.le_refl _) _)
              have Hpp := hid (show Fr w.heap.size (PP ⟨B, l.length, d, l⟩) (w7.setCell ⟨w.heap.size, 0, none⟩ (.slice B l.length d)) from Fr.less (M := w.heap.size) (Fr.grown (fun h hg => PP.go h hg) (H7.out.pp (by omega)) (setCell_grown w7 ⟨w.heap.size, 0, none⟩ _) (fun k hk => by injection hk with hk; have : w.heap.size = k := hk; omega)) (by omega))
              clear hf
              go_wp2_with fail
              refine bodyPost_ret (v := .tuple #[.agg #[.slice B l.length d], .int .i64 0, .int .i64 0, .int .i64 0]) (by simp [results, Tryd.results8, go_sem, v0, s0, hsz]) rfl ?_
              rw [HPar.out]
              exact ⟨⟨B, l.length, d, l⟩, rfl, rfl, Hpp.out, HB.out⟩
          | false =>
            have HPar0 : Hid (parseR s = ([], (nxt le).line, (nxt le).col, ee)) := hid (par_err HR2.out HPg.out hee)
            by_cases hkl : k < L.length
            · as_aux_lemma =>
              have HneL := hid (show le ≠ [] by
                  intro h0
                  rw [h0] at hl
                  have h1 := congrArg List.length hl
                  rw [List.length_drop] at h1
                  simp at h1
                  omega)
              have HPar := HPar0
              clear HPar0 hf hl HR2 HPg
              obtain ⟨k2, hk2, hl2, hfp⟩ := H7.out.st.1.at_
              simp only at hl2 hfp
              have hkl2 : k2 < L.length := by
                rcases Nat.lt_or_ge k2 L.length with h | h
                · exact h
                · exact absurd (by rw [← hl2, nxt_end h]) HneL.out
              obtain ⟨a, hAa, hab, -, a2, a3⟩ := H7.out.st.1.arg.cell hkl2
              subst hAa
              rw [← nxt_drop hkl2, hl2] at a2 a3
              obtain ⟨⟨c0, c1, c2⟩, -⟩ := hfp.three
              have hltb := H7.out.st.1.lt
              have hfew := H7.out.st.1.few
              have hna : a.block ≠ w.heap.size := by
                intro hq
                have h1 := a2
                rw [show (a.add (k2 * 4)).block = w.heap.size by rw [add_block]; exact hq] at h1
                rw [hf7.out.cell] at h1
                simp at h1
              have hna2 : w.heap.size ≠ a.block := fun h => hna h.symm
              have hab2 : (a.add (k2 * 4)).block < w7.heap.size := by rw [add_block]; exact hab
              have v0 := hf7.out.cell 0
              have s0 := hf7.out.frozen 0
              have hsz := hf7.out.lt
              have hBX := hid (hB2.out.grown H7.out.st.2 hB2.out.size (fun k hk => by injection hk with hk; omega))
              have HB : Hid (∀ q, Below w.heap.size w ((w7.drewN q).setCell ⟨w.heap.size, 0, none⟩ (.slice none 0 0))) := hid (fun q => (below_drewN hBX.out q).setCell (Nat.le_refl _) _)
              generalize (nxt le).line = ln at *
              generalize (nxt le).col = cl at *
              have hS0 : ((fun w' => Below w.heap.size w w' ∧ w'.cell? ⟨w.heap.size, 0, none⟩ = some (.slice none 0 0) ∧ w'.frozen? ⟨w.heap.size, 0, none⟩ = false ∧ w.heap.size < w'.heap.size ∧ w'.cell? ⟨b, 1, none⟩ = some (.int .i64 (k2 : Int)) ∧ w'.cell? ⟨b, 2, none⟩ = some (.int .i64 ee) ∧ w'.cell? ⟨(a.add (k2 * 4)).block, (a.add (k2 * 4)).off + 2, none⟩ = some (.int .i64 (ln : Int)) ∧ w'.cell? ⟨(a.add (k2 * 4)).block, (a.add (k2 * 4)).off + 3, none⟩ = some (.int .i64 (cl : Int))) (w7.drew)) := ⟨below_drewN hBX.out 1, v0, s0, hsz, c1, c2, a2, a3⟩
              have HS0 := hid hS0
              have hSt : ∀ w', (fun w' => Below w.heap.size w w' ∧ w'.cell? ⟨w.heap.size, 0, none⟩ = some (.slice none 0 0) ∧ w'.frozen? ⟨w.heap.size, 0, none⟩ = false ∧ w.heap.size < w'.heap.size ∧ w'.cell? ⟨b, 1, none⟩ = some (.int .i64 (k2 : Int)) ∧ w'.cell? ⟨b, 2, none⟩ = some (.int .i64 ee) ∧ w'.cell? ⟨(a.add (k2 * 4)).block, (a.add (k2 * 4)).off + 2, none⟩ = some (.int .i64 (ln : Int)) ∧ w'.cell? ⟨(a.add (k2 * 4)).block, (a.add (k2 * 4)).off + 3, none⟩ = some (.int .i64 (cl : Int))) w' → (fun w' => Below w.heap.size w w' ∧ w'.cell? ⟨w.heap.size, 0, none⟩ = some (.slice none 0 0) ∧ w'.frozen? ⟨w.heap.size, 0, none⟩ = false ∧ w.heap.size < w'.heap.size ∧ w'.cell? ⟨b, 1, none⟩ = some (.int .i64 (k2 : Int)) ∧ w'.cell? ⟨b, 2, none⟩ = some (.int .i64 ee) ∧ w'.cell? ⟨(a.add (k2 * 4)).block, (a.add (k2 * 4)).off + 2, none⟩ = some (.int .i64 (ln : Int)) ∧ w'.cell? ⟨(a.add (k2 * 4)).block, (a.add (k2 * 4)).off + 3, none⟩ = some (.int .i64 (cl : Int))) (w'.setCell ⟨w.heap.size, 0, none⟩ (.slice none 0 0)) := by
                rintro w' ⟨h0, h1, h2, h3, h4, h5, h6, h7⟩
                refine ⟨h0.setCell (Nat.le_refl _) _, World.cell?_setCell_same (w := w') (a := ⟨w.heap.size, 0, none⟩) (v := .slice none 0 0) h1, by rw [World.frozen?_setCell]; exact h2, by rw [World.size_setCell]; exact h3, ?_, ?_, ?_, ?_⟩
                · exact (World.cell?_setCell_far _ _ _ _ (by show w.heap.size ≠ b; omega)).trans h4
                · exact (World.cell?_setCell_far _ _ _ _ (by show w.heap.size ≠ b; omega)).trans h5
                · exact (World.cell?_setCell_far _ _ _ _ (by show w.heap.size ≠ (a.add (k2 * 4)).block; rw [add_block]; exact hna2)).trans h6
                · exact (World.cell?_setCell_far _ _ _ _ (by show w.heap.size ≠ (a.add (k2 * 4)).block; rw [add_block]; exact hna2)).trans h7
              have HSt := hid hSt
              clear hl2 hfp hS0 hSt
              go_wp2_with fail
              clear c0 c1 c2 v0 s0 hsz a2 a3
              go_region_held3 (fun w' => Below w.heap.size w w' ∧ w'.cell? ⟨w.heap.size, 0, none⟩ = some (.slice none 0 0) ∧ w'.frozen? ⟨w.heap.size, 0, none⟩ = false ∧ w.heap.size < w'.heap.size ∧ w'.cell? ⟨b, 1, none⟩ = some (.int .i64 (k2 : Int)) ∧ w'.cell? ⟨b, 2, none⟩ = some (.int .i64 ee) ∧ w'.cell? ⟨(a.add (k2 * 4)).block, (a.add (k2 * 4)).off + 2, none⟩ = some (.int .i64 (ln : Int)) ∧ w'.cell? ⟨(a.add (k2 * 4)).block, (a.add (k2 * 4)).off + 3, none⟩ = some (.int .i64 (cl : Int)))
                (first | exact HS0.out | exact HSt.out _ (by assumption) | assumption)
                (fail)
              go_wp2_with fail
              rename (Below _ _ _ ∧ _) => hh
              obtain ⟨hB9, v9, s9, hz9, -⟩ := hh
              refine bodyPost_ret (v := .tuple #[.agg #[.slice none 0 0], .int .i64 (ln : Int), .int .i64 (cl : Int), .int .i64 ee]) (by simp [results, Tryd.results8, go_sem, v9, s9, hz9]) rfl ?_
              rw [HPar.out]
              exact ⟨⟨none, 0, 0, []⟩, rfl, rfl, pp_nil _ _, hB9⟩
            · as_aux_lemma =>
              have hle : le = [] := by rw [← hl, nxt_end (by omega)]
              have hkL : k = L.length := by omega
              have HPar : Hid (parseR s = ([], 0, 0, ee)) := hid (by rw [HPar0.out, hle]; rfl)
              subst hkL
              clear HPar0 hl HR2 HPg hkl
              obtain ⟨⟨c0, c1, c2⟩, -⟩ := hf.three
              have hltb := H7.out.st.1.lt
              have v0 := hf7.out.cell 0
              have s0 := hf7.out.frozen 0
              have hsz := hf7.out.lt
              have hBX := hid (hB2.out.grown H7.out.st.2 hB2.out.size (fun k hk => by injection hk with hk; omega))
              have HB : Hid (∀ q, Below w.heap.size w ((w7.drewN q).setCell ⟨w.heap.size, 0, none⟩ (.slice none 0 0))) := hid (fun q => (below_drewN hBX.out q).setCell (Nat.le_refl _) _)
              clear hf
              go_wp2_with fail
              go_region_law (fail)
              all_goals
                go_wp2_with fail
                refine bodyPost_ret (v := .tuple #[.agg #[.slice none 0 0], .int .i64 0, .int .i64 0, .int .i64 ee]) (by simp [results, Tryd.results8, go_sem, v0, s0, hsz]) rfl ?_
                rw [HPar.out]
                exact ⟨⟨none, 0, 0, []⟩, rfl, rfl, pp_nil _ _, HB.out 1⟩
        | true =>
          have HB0 := hid hb
          clear hb
          cases n with
          | zero =>
            have hl8 : l.length = 8 := by omega
            go_wp2_with fail
            refine (refIs_any b A c L σ4 kwFunc _ H.out.st.1).mono ?_
            rw [HB0.out]
            rintro e w7 ⟨rfl, hb7⟩
            have H7 := hid (H.out.below hb7)
            have hf7 := hid (hfR.out.below hb7 hfR.out.lt)
            clear hb7 H hfR
            have q0 := H7.out.f3.cell 0
            have tl : ((l.length : Int) == 8) = true := by simp; omega
            go_wp2_with fail
            clear q0 tl
            refine (refFail_any b A c L σ4 7 _ H7.out.st.1).mono ?_
            rintro e w8 ⟨rfl, h8⟩
            obtain ⟨le, ee⟩ := σ4
            have hfr := hid (show failR 7 ⟨le, ee⟩ = ⟨le, 7⟩ by
              have h0 : ee = 0 := (isK_ne HB0.out).1
              unfold failR
              simp [h0])
            rw [hfr.out] at h8
            have HneL := hid (show le ≠ [] from isK_l HB0.out)
            have HPg := hid (progR_of (σ0 := σ0) (done := l.map FH.f) (le := le) (ee := 7) (by rw [hneed.out]; exact (HL.out.full HB0.out).trans (by rw [hfr.out])))
            have HPar : Hid (parseR s = ([], (nxt le).line, (nxt le).col, 7)) := hid (par_err HR2.out HPg.out rfl)
            have H8 := hid (H7.out.call h8)
            have hf8 := hid (h8.kept hf7.out (by omega))
            clear h8 H7 hf7 HR2 HPg
            obtain ⟨k2, hk2, hl2, hfp⟩ := H8.out.st.1.at_
            simp only at hl2 hfp
            have hkl2 : k2 < L.length := by
              rcases Nat.lt_or_ge k2 L.length with h | h
              · exact h
              · exact absurd (by rw [← hl2, nxt_end h]) HneL.out
            obtain ⟨a, hAa, hab, -, a2, a3⟩ := H8.out.st.1.arg.cell hkl2
            subst hAa
            rw [← nxt_drop hkl2, hl2] at a2 a3
            obtain ⟨⟨c0, c1, c2⟩, -⟩ := hfp.three
            have hltb := H8.out.st.1.lt
            have hfew := H8.out.st.1.few
            have hna : a.block ≠ w.heap.size := by
              intro hq
              have h1 := a2
              rw [show (a.add (k2 * 4)).block = w.heap.size by rw [add_block]; exact hq] at h1
              rw [hf8.out.cell] at h1
              simp at h1
            have hna2 : w.heap.size ≠ a.block := fun h => hna h.symm
            have hab2 : (a.add (k2 * 4)).block < w8.heap.size := by rw [add_block]; exact hab
            have v0 := hf8.out.cell 0
            have s0 := hf8.out.frozen 0
            have hsz := hf8.out.lt
            have hBX := hid (hB2.out.grown H8.out.st.2 hB2.out.size (fun k hk => by injection hk with hk; omega))
            have HB : Hid (∀ q, Below w.heap.size w ((w8.drewN q).setCell ⟨w.heap.size, 0, none⟩ (.slice none 0 0))) := hid (fun q => (below_drewN hBX.out q).setCell (Nat.le_refl _) _)
            generalize (nxt le).line = ln at *
            generalize (nxt le).col = cl at *
            have hS0 : ((fun w' => Below w.heap.size w w' ∧ w'.cell? ⟨w.heap.size, 0, none⟩ = some (.slice none 0 0) ∧ w'.frozen? ⟨w.heap.size, 0, none⟩ = false ∧ w.heap.size < w'.heap.size ∧ w'.cell? ⟨b, 1, none⟩ = some (.int .i64 (k2 : Int)) ∧ w'.cell? ⟨b, 2, none⟩ = some (.int .i64 7) ∧ w'.cell? ⟨(a.add (k2 * 4)).block, (a.add (k2 * 4)).off + 2, none⟩ = some (.int .i64 (ln : Int)) ∧ w'.cell? ⟨(a.add (k2 * 4)).block, (a.add (k2 * 4)).off + 3, none⟩ = some (.int .i64 (cl : Int))) (w8.drew)) := ⟨below_drewN hBX.out 1, v0, s0, hsz, c1, c2, a2, a3⟩
            have HS0 := hid hS0
            have hSt : ∀ w', (fun w' => Below w.heap.size w w' ∧ w'.cell? ⟨w.heap.size, 0, none⟩ = some (.slice none 0 0) ∧ w'.frozen? ⟨w.heap.size, 0, none⟩ = false ∧ w.heap.size < w'.heap.size ∧ w'.cell? ⟨b, 1, none⟩ = some (.int .i64 (k2 : Int)) ∧ w'.cell? ⟨b, 2, none⟩ = some (.int .i64 7) ∧ w'.cell? ⟨(a.add (k2 * 4)).block, (a.add (k2 * 4)).off + 2, none⟩ = some (.int .i64 (ln : Int)) ∧ w'.cell? ⟨(a.add (k2 * 4)).block, (a.add (k2 * 4)).off + 3, none⟩ = some (.int .i64 (cl : Int))) w' → (fun w' => Below w.heap.size w w' ∧ w'.cell? ⟨w.heap.size, 0, none⟩ = some (.slice none 0 0) ∧ w'.frozen? ⟨w.heap.size, 0, none⟩ = false ∧ w.heap.size < w'.heap.size ∧ w'.cell? ⟨b, 1, none⟩ = some (.int .i64 (k2 : Int)) ∧ w'.cell? ⟨b, 2, none⟩ = some (.int .i64 7) ∧ w'.cell? ⟨(a.add (k2 * 4)).block, (a.add (k2 * 4)).off + 2, none⟩ = some (.int .i64 (ln : Int)) ∧ w'.cell? ⟨(a.add (k2 * 4)).block, (a.add (k2 * 4)).off + 3, none⟩ = some (.int .i64 (cl : Int))) (w'.setCell ⟨w.heap.size, 0, none⟩ (.slice none 0 0)) := by
              rintro w' ⟨h0, h1, h2, h3, h4, h5, h6, h7⟩
              refine ⟨h0.setCell (Nat.le_refl _) _, World.cell?_setCell_same (w := w') (a := ⟨w.heap.size, 0, none⟩) (v := .slice none 0 0) h1, by rw [World.frozen?_setCell]; exact h2, by rw [World.size_setCell]; exact h3, ?_, ?_, ?_, ?_⟩
              · exact (World.cell?_setCell_far _ _ _ _ (by show w.heap.size ≠ b; omega)).trans h4
              · exact (World.cell?_setCell_far _ _ _ _ (by show w.heap.size ≠ b; omega)).trans h5
              · exact (World.cell?_setCell_far _ _ _ _ (by show w.heap.size ≠ (a.add (k2 * 4)).block; rw [add_block]; exact hna2)).trans h6
              · exact (World.cell?_setCell_far _ _ _ _ (by show w.heap.size ≠ (a.add (k2 * 4)).block; rw [add_block]; exact hna2)).trans h7
            have HSt := hid hSt
            clear hl2 hfp hS0 hSt
            go_wp2_with fail
            clear c0 c1 c2 v0 s0 hsz a2 a3
            go_region_held3 (fun w' => Below w.heap.size w w' ∧ w'.cell? ⟨w.heap.size, 0, none⟩ = some (.slice none 0 0) ∧ w'.frozen? ⟨w.heap.size, 0, none⟩ = false ∧ w.heap.size < w'.heap.size ∧ w'.cell? ⟨b, 1, none⟩ = some (.int .i64 (k2 : Int)) ∧ w'.cell? ⟨b, 2, none⟩ = some (.int .i64 7) ∧ w'.cell? ⟨(a.add (k2 * 4)).block, (a.add (k2 * 4)).off + 2, none⟩ = some (.int .i64 (ln : Int)) ∧ w'.cell? ⟨(a.add (k2 * 4)).block, (a.add (k2 * 4)).off + 3, none⟩ = some (.int .i64 (cl : Int)))
              (first | exact HS0.out | exact HSt.out _ (by assumption) | assumption)
              (fail)
            go_wp2_with fail
            rename (Below _ _ _ ∧ _) => hh
            obtain ⟨hB9, v9, s9, hz9, -⟩ := hh
            refine bodyPost_ret (v := .tuple #[.agg #[.slice none 0 0], .int .i64 (ln : Int), .int .i64 (cl : Int), .int .i64 7]) (by simp [results, Tryd.results8, go_sem, v9, s9, hz9]) rfl ?_
            rw [HPar.out]
            exact ⟨⟨none, 0, 0, []⟩, rfl, rfl, pp_nil _ _, hB9⟩
          | succ n =>
            have hl8 : l.length < 8 := by omega
            have tl : ((l.length : Int) == 8) = false := by simp; omega
            go_wp2_with fail
            refine (refIs_any b A c L σ4 kwFunc _ H.out.st.1).mono ?_
            rw [HB0.out]
            rintro e w7 ⟨rfl, hb7⟩
            have H7 := hid (H.out.below hb7)
            have hf7 := hid (hfR.out.below hb7 hfR.out.lt)
            clear hb7 H hfR
            have q0 := H7.out.f3.cell 0
            have hzq := H7.out.f3.lt
            go_wp2_with fail
            have H7d : Hid (Po wp b A c L σ4 (.slice B l.length d) l w7.drew) := hid (H7.out.drewN 1)
            have HCc := hid (fun w' (h' : Rst w' b A c L σ4) => refFunc_any b A c L σ4 w' h' HS.out)
            go_region_law (first
              | (go_simp
                 go_at_call 38
                 go_must (
                 refine (HCc.out _ H7d.out.st.1).mono ?_
                 rintro e w8 ⟨x, he, hxt, hfx, h8⟩
                 unfold agF at he
                 subst he
                 have H8 := hid (H7d.out.call h8)
                 have hf8 := hid (h8.kept (w := w7.drew) hf7.out (by omega))
                 have Hx := hid (FrV.fresh (N := wp.heap.size + 1) (v := .slice B l.length d) hfx H7d.out.size (fun k hk => (H7d.out.own.lt k hk).2))
                 have Hxt := hid hxt
                 have q0 := H8.out.f3.cell 0
                 have hzq := H8.out.f3.lt
                 clear hfx h8 hxt))
              | ((refine step_append_lies _ (by rfl) _ _ 22 (by rfl) (wp.heap.size + 1) 51 i3 _ 2 40 Tryd.underlying22 Hi.out Hz0.out Hz1.out Hz2.out (by rfl) (by decide) (.slice B l.length d) l.length (l.flatMap fhc) (by rfl) (by exact World.ownsRow.alloc H8.out.own _)
                    ⟨_, 0, none⟩ 1 1 (fhc x) (by rfl) rfl (by exact two_new _ _ _ _) (one_two _ _ _ _) (by decide) (by unfold maxLen; omega) (by omega) (by have := H8.out.size; rw [World.size_alloc]; omega) _ rfl ?_)
                 intro g9 cap9 w9 hown9 hgr9 hat9 hlt9
                 obtain ⟨⟨y0, y1, y2⟩, hT9⟩ := Po.push (x := x) H8.out ((Below.refl _ _).alloc (Nat.le_refl _) _) Hx.out hgr9 hown9 hat9
                 have H9 := hid hT9
                 have hne9 : ∀ k, (Value.slice B l.length d).ownBlock = some k → wp.heap.size + 1 ≤ k := fun k hk => (H8.out.own.lt k hk).1
                 have hf9 := hid (((hf8.out.alloc _).grown hgr9 (fun e => by have := hne9 _ e.symm; omega)).far (p := ⟨wp.heap.size, 0, none⟩) (by show w.heap.size ≠ wp.heap.size; omega) (.slice (some ⟨g9, 0, none⟩) (l.length + 1) cap9))
                 clear hown9 hgr9 hat9 hlt9 hT9 hne9))
            all_goals
              clear q0 hzq
              generalize w9.setCell ⟨wp.heap.size, 0, none⟩ (.slice (some ⟨g9, 0, none⟩) (l.length + 1) cap9) = w10 at *
              clear y0 y1 y2
              go_wp2_with fail
              go_roundw
              case rel => exact ⟨l ++ [x], n, (funcR σ4).2, _, H9.out, by have := HL.out.step HB0.out; rw [List.map_append]; rw [← Hxt.out] at this; exact this, hf9.out⟩
              case measure =>
                have q0 := H9.out.f3.cell 0
                rw [Hm.out, lenAt0_of q0]
                omega
end Go.Proofs.YtcgichfanfijjaaDoor

namespace Go.Proofs.YtcgichfanfijjaaDoor
set_option maxRecDepth 100000
set_option linter.unusedVariables false
set_option linter.unusedSimpArgs false
open Go.ChangeShapes Go.WideShapes Go.ChangeAt Go.RowKit

def sxT0 : ByteArray := ⟨#[102, 117, 110, 99, 32, 109, 59, 32, 98, 108, 111, 99, 107, 32, 98, 59, 32, 120, 32, 61, 32, 121, 59, 32, 101, 110, 100]⟩
def sxP0 : List Fnc := [⟨⟨#[109]⟩, [⟨⟨#[98]⟩, [⟨1, ⟨#[120]⟩, [⟨#[121]⟩], []⟩]⟩]⟩]
theorem sx_0 : parseS sxT0 = (sxP0, 0, 0, 0) := by kernel_rfl
def sxT1 : ByteArray := ⟨#[102, 117, 110, 99, 32, 109, 59, 32, 98, 108, 111, 99, 107, 32, 98, 59, 32, 103, 111, 116, 111, 32, 99, 59, 32, 101, 110, 100]⟩
def sxP1 : List Fnc := [⟨⟨#[109]⟩, [⟨⟨#[98]⟩, [⟨7, noB, [], [⟨#[99]⟩]⟩]⟩]⟩]
theorem sx_1 : parseS sxT1 = (sxP1, 0, 0, 0) := by kernel_rfl
def sxT2 : ByteArray := ⟨#[102, 117, 110, 99, 32, 109, 59, 32, 98, 108, 111, 99, 107, 32, 98, 59, 32, 99, 97, 108, 108, 32, 109, 59, 32, 114, 101, 116, 117, 114, 110, 59, 32, 101, 110, 100]⟩
def sxP2 : List Fnc := [⟨⟨#[109]⟩, [⟨⟨#[98]⟩, [⟨3, noB, [], [⟨#[109]⟩]⟩, ⟨9, noB, [], []⟩]⟩]⟩]
theorem sx_2 : parseS sxT2 = (sxP2, 0, 0, 0) := by kernel_rfl
theorem sxc0 : checkP sxP0 = ((3, 0, 0, 0), 4) := by kernel_rfl
theorem sxc1 : checkP sxP1 = ((3, 0, 0, 0), 5) := by kernel_rfl
theorem sxc2 : checkP sxP2 = ((0, 0, 0, 0), 0) := by kernel_rfl
theorem sxs2 : sizesP sxP2 = (5, 5) := by kernel_rfl
/-- A program that was parsed, in a box. -/
structure Bx (w : World) (g : Nat) (x : PH) (p : List Fnc) : Prop where
  box : Fb w g #[.slice x.A x.n x.c] 24
  ok : PHok w [] x
  is : x.p = p
theorem Bx.below {w w' : World} {g : Nat} {x : PH} {p : List Fnc} (h : Bx w g x p) (hb : Below w.heap.size w w') : Bx w' g x p := ⟨h.box.below hb h.box.lt, h.ok.below hb, h.is⟩
def RefP (p : List Fnc) (w : World) (e : Ending) (w' : World) : Prop :=
  ∃ x : PH, e = .returned (.tuple #[.agg #[.slice x.A x.n x.c], .int .i64 0, .int .i64 0, .int .i64 0]) ∧ Bx (w'.alloc (.cells #[.slice x.A x.n x.c] 24)) w'.heap.size x p ∧ Below w.heap.size w (w'.alloc (.cells #[.slice x.A x.n x.c] 24)) ∧ Below w.heap.size w w'
theorem ref_as (T : ByteArray) (w : World) (hs : T.size ≤ maxLen) {p : List Fnc} (h : parseS T = (p, 0, 0, 0)) : Calls Tryd.prog 8 #[.string T] w (RefP p w) := by
  refine (refParse_any T w hs).mono ?_
  rw [← parse_same, h]
  rintro e w' ⟨x, rfl, hx, hp, hb⟩
  have hb2 := (Below.refl w'.heap.size w').alloc (Nat.le_refl _) (.cells #[.slice x.A x.n x.c] 24)
  exact ⟨x, rfl, ⟨Fb.new w' _ _, (hp [] (by simp)).below hb2, hx⟩, below_step hb hb2, hb⟩
theorem nodNew (w : World) (a b c d : Int) : Fb (w.alloc (.cells #[.int .i64 a, .int .i64 b, .int .i64 c, .int .i64 d] 46)) w.heap.size #[.int .i64 a, .int .i64 b, .int .i64 c, .int .i64 d] 46 := Fb.new w _ _
theorem allocB (w : World) (o : Obj) : Below w.heap.size w (w.alloc o) := (Below.refl w.heap.size w).alloc (Nat.le_refl _) o
set_option maxHeartbeats 6400000 in
theorem sane6_any (w : World) (hsh : Shp w) : Calls Tryd.prog 26 #[] w fun e w' => e = .returned (.bool true) ∧ Below w.heap.size w w' := by
  have hs0 : sxT0.size ≤ maxLen := by have : sxT0.size ≤ 100 := by decide
                                      unfold maxLen; omega
  have hs1 : sxT1.size ≤ maxLen := by have : sxT1.size ≤ 100 := by decide
                                      unfold maxLen; omega
  have hs2 : sxT2.size ≤ maxLen := by have : sxT2.size ≤ 100 := by decide
                                      unfold maxLen; omega
  have Hs0 := hid hs0; have Hs1 := hid hs1; have Hs2 := hid hs2
  have HS := hid hsh
  clear hs0 hs1 hs2 hsh
  go_enter Tryd.func26, Tryd.ntmps26
  go_wp2_with fail
  refine (ref_as sxT0 _ Hs0.out sx_0).mono ?_
  rintro e w1 ⟨x, rfl, hx, hb, -⟩
  have HX := hid hx; have HB := hid hb; have HS1 := hid (HS.out.keep (hb.block 0 HS.out.pos0))
  clear hx hb HS Hs0
  simp only
  go_wp2_with fail
  generalize w1.heap.size = g1 at *
  generalize w1.alloc (.cells #[.slice x.A x.n x.c] 24) = w1 at *
  refine (ref_as sxT1 _ Hs1.out sx_1).mono ?_
  rintro e w2 ⟨y, rfl, hy, hb, -⟩
  have HX2 := hid (HX.out.below hb); have HY := hid hy; have HB2 := hid (below_step HB.out hb); have HS2 := hid (HS1.out.keep (hb.block 0 HS1.out.pos0))
  clear hy hb HX HB HS1 Hs1
  simp only
  go_wp2_with fail
  generalize w2.heap.size = g2 at *
  generalize w2.alloc (.cells #[.slice y.A y.n y.c] 24) = w2 at *
  refine (ref_as sxT2 _ Hs2.out sx_2).mono ?_
  rintro e w3 ⟨z, rfl, hz, hb, -⟩
  have HX3 := hid (HX2.out.below hb); have HY3 := hid (HY.out.below hb); have HZ := hid hz; have HB3 := hid (below_step HB2.out hb); have HS3 := hid (HS2.out.keep (hb.block 0 HS2.out.pos0))
  clear hz hb HX2 HY HB2 HS2 Hs2
  have b1 := HX3.out.box.onec
  simp only
  go_wp2_with fail
  generalize w3.heap.size = g3 at *
  generalize w3.alloc (.cells #[.slice z.A z.n z.c] 24) = w3 at *
  refine (check_any x [] _ HX3.out.ok HS3.out).mono ?_
  rw [HX3.out.is, sxc0]
  rintro e w4 ⟨rfl, hb⟩
  have hb2 := below_step hb (allocB w4 (.cells #[.int .i64 3, .int .i64 0, .int .i64 0, .int .i64 0] 46))
  have HY4 := hid (HY3.out.below hb2); have HZ4 := hid (HZ.out.below hb2); have HB4 := hid (below_step HB3.out hb2); have HS4 := hid (HS3.out.keep (hb2.block 0 HS3.out.pos0))
  have HN4 := hid (nodNew w4 3 0 0 0)
  clear hb hb2 HX3 HY3 HZ HB3 HS3 b1
  have b1 := HY4.out.box.onec
  simp only
  go_wp2_with fail
  generalize w4.heap.size = g4 at *
  generalize w4.alloc (.cells #[.int .i64 3, .int .i64 0, .int .i64 0, .int .i64 0] 46) = w4 at *
  refine (check_any y [] _ HY4.out.ok HS4.out).mono ?_
  rw [HY4.out.is, sxc1]
  rintro e w5 ⟨rfl, hb⟩
  have hb2 := below_step hb (allocB w5 (.cells #[.int .i64 3, .int .i64 0, .int .i64 0, .int .i64 0] 46))
  have HZ5 := hid (HZ4.out.below hb2); have HB5 := hid (below_step HB4.out hb2); have HS5 := hid (HS4.out.keep (hb2.block 0 HS4.out.pos0))
  have HN5 := hid (HN4.out.below hb2 HN4.out.lt)
  have HM5 := hid (nodNew w5 3 0 0 0)
  clear hb hb2 HY4 HZ4 HB4 HS4 HN4 b1
  have b1 := HZ5.out.box.onec
  simp only
  go_wp2_with fail
  generalize w5.heap.size = g5 at *
  generalize w5.alloc (.cells #[.int .i64 3, .int .i64 0, .int .i64 0, .int .i64 0] 46) = w5 at *
  refine (check_any z [] _ HZ5.out.ok HS5.out).mono ?_
  rw [HZ5.out.is, sxc2]
  rintro e w6 ⟨rfl, hb⟩
  have hb2 := below_step hb (allocB w6 (.cells #[.int .i64 0, .int .i64 0, .int .i64 0, .int .i64 0] 46))
  have HZ6 := hid (HZ5.out.below hb2); have HB6 := hid (below_step HB5.out hb2); have HS6 := hid (HS5.out.keep (hb2.block 0 HS5.out.pos0))
  have HN6 := hid (HN5.out.below hb2 HN5.out.lt)
  have HM6 := hid (HM5.out.below hb2 HM5.out.lt)
  clear hb hb2 HZ5 HB5 HS5 HN5 HM5 b1
  have b1 := HZ6.out.box.onec
  simp only
  go_wp2_with fail
  generalize w6.alloc (.cells #[.int .i64 0, .int .i64 0, .int .i64 0, .int .i64 0] 46) = w6 at *
  refine (sizes_any z [] _ HZ6.out.ok HS6.out).mono ?_
  rw [HZ6.out.is, sxs2]
  rintro e w7 ⟨rfl, hb⟩
  have hb2 := below_step hb (allocB w7 (.cells #[.int .i64 3, .int .i64 0, .int .i64 0, .int .i64 0] 46))
  have HB7 := hid (below_step HB6.out hb2)
  have HN7 := hid (HN6.out.below hb HN6.out.lt)
  have HM7 := hid (HM6.out.below hb HM6.out.lt)
  clear hb hb2 HZ6 HB6 HS6 HN6 HM6 b1
  have l4 := HN7.out.lt
  have l5 := HM7.out.lt
  obtain ⟨n0, n1, n2, n3⟩ := Fb.four HN7.out
  obtain ⟨m0, m1, m2, m3⟩ := Fb.four HM7.out
  simp only
  as_aux_lemma =>
    go_wp2_with fail
    go_ret
    exact ⟨rfl, HB7.out⟩
end Go.Proofs.YtcgichfanfijjaaDoor
