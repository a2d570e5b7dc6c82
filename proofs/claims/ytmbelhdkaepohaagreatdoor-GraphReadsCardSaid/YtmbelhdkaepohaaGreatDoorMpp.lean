/- Texts that the proof leans on, merged. -/
import Derived.Test.YtmbelhdkaepohaaGreatDoorVlp
import Derived.Maps.OwnSet
import Derived.Maps.Keyed
import Derived.Test.YtmbelhdkaepohaaGreatDoorPms
import Derived.Test.YtmbelhdkaepohaaGreatDoorRp3
import Derived.Deep.Slices
import Derived.Test.YtmbelhdkaepohaaGreatDoorNdd
import Derived.Test.YtmbelhdkaepohaaGreatDoorKw
import Derived.Test.YtmbelhdkaepohaaGreatDoorPg1
import Derived.Deep.AppendLies
import Derived.Test.YtmbelhdkaepohaaGreatDoorLns
import Derived.Test.YtmbelhdkaepohaaGreatDoorSup
namespace Go.Proofs.YtmbelhdkaepohaaGreatDoor
set_option maxRecDepth 20000
set_option linter.unusedVariables false
set_option linter.unusedSimpArgs false
open Go.ChangeShapes Go.WideShapes Go.ChangeAt Go.RowKit

theorem plainElem_bool_inv {H : Type} {P : Program} {e : TypeId} (he : P.underlying e = some .bool) {v : Value} {z : DataW H × List MemPlace} (h : plainElem P e v = some z) : ∃ x, v = .bool x ∧ z = (.lit (.bool x), []) := by
  unfold plainElem at h
  rw [he] at h
  cases v <;> simp at h
  exact ⟨_, rfl, h.symm⟩
/-- A name is among the names. -/
def inB (k : ByteArray) (S : List ByteArray) : Bool := S.any fun x => decide (x = k)
theorem inB_iff {k : ByteArray} {S : List ByteArray} : inB k S = true ↔ k ∈ S := by unfold inB; simp
theorem inB_congr {k : ByteArray} {S S2 : List ByteArray} (h : k ∈ S ↔ k ∈ S2) : inB k S = inB k S2 := by rw [Bool.eq_iff_iff, inB_iff, inB_iff]; exact h
theorem inB_nil (k : ByteArray) : inB k [] = false := rfl
/-- Block b is a map that says true at the names of S and nothing elsewhere. -/
def NS (w : World) (b : Nat) (S : List ByteArray) : Prop :=
  ∃ (D : DataW Unit) (n : Nat), w.ownsMap Tryz.prog 9 (plainElem Tryz.prog 4) b n D ∧ n ≤ S.length ∧ Maps.IsMap D ∧ ∀ k : ByteArray, D.atKey (.string k.data.toList) (.lit (.bool false)) = .lit (.bool (inB k S))
section
variable {w w' : World} {b : Nat} {S : List ByteArray}
theorem NS.made (w : World) : NS (w.alloc (.map #[] 0)) w.heap.size [] :=
  ⟨.map [], 0, World.ownsMap_made w _ _ _, Nat.le_refl _, Maps.isMap_empty, fun k => by rw [inB_nil]; simp [DataW.atKey]⟩
theorem NS.lt (h : NS w b S) : b < w.heap.size := by obtain ⟨D, n, h, _⟩ := h; exact h.lt
theorem NS.kept {row : Option Nat} (h : NS w b S) (hg : w.grownBy w' row) (hne : some b ≠ row) : NS w' b S := by
  obtain ⟨D, n, h, r⟩ := h
  exact ⟨D, n, h.kept hg hne, r⟩
theorem NS.below (h : NS w b S) (hb : Below w.heap.size w w') : NS w' b S := h.kept (grown_of_below hb none) (by simp)
theorem NS.congr {S' : List ByteArray} (h : NS w b S) (hl : S.length ≤ S'.length) (hm : ∀ k, k ∈ S ↔ k ∈ S') : NS w b S' := by
  obtain ⟨D, n, h, hn, hi, hk⟩ := h
  exact ⟨D, n, h, Nat.le_trans hn hl, hi, fun k => by rw [hk k, inB_congr (hm k)]⟩
theorem NS.look (h : NS w b S) {k : ByteArray} (hk : k.size ≤ maxLen) : (Instr.lookup 123 (.map (some b)) (.string k) false).run Tryz.prog w = .ok (.bool (inB k S)) w := by
  obtain ⟨D, n, h, hn, hi, hD⟩ := h
  obtain ⟨v, ps, hrun, hv⟩ := h.lookup (t := 123) (e := 4) (Maps.string_keyed Tryz.underlying9) Tryz.underlying123 (z := .bool false) (by rfl) (plainElem_bool Tryz.underlying4 false) (WideMaps.keyOf_string_mk Tryz.underlying9 hk)
  rw [hD k] at hv
  obtain ⟨x, rfl, hx⟩ := plainElem_bool_inv Tryz.underlying4 hv
  simp only [Prod.mk.injEq, DataW.lit.injEq, Lit.bool.injEq] at hx
  rw [hrun, ← hx.1]
theorem list_ext2 {a c : ByteArray} (h : a.data.toList = c.data.toList) : a = c := by
  cases a; cases c
  simp at h
  rw [h]
theorem wp_put {ops : Array Oper} {rest : List Oper} {o : Oper} {a : Act} {Q : Exit → Act → World → Prop} (hg : o.guard = none) (m x v : Operand) (hop : o.op = Op.mapUpdate 123 m x v)
    (b : Nat) (S : List ByteArray) (hm : a.eval m = .map (some b)) (h : NS w b S) (hn : S.length < maxLen) (k : ByteArray) (hk : k.size ≤ maxLen) (hx : a.eval x = .string k) (hv : a.eval v = .bool true)
    (hK : ∀ w', NS w' b (k :: S) → w.grownBy w' (some b) → wpList Tryz.prog ops Q rest (a.put o.dst undef) w') : wpList Tryz.prog ops Q (o :: rest) a w := by
  obtain ⟨D, n, hO, hl, hi, hD⟩ := h
  refine wpList_mapUpdate_own w hg m x v 123 hop 9 4 (Maps.string_keyed Tryz.underlying9) Tryz.underlying123 (plainElem Tryz.prog 4) b n D hm hO (by omega) (.string k) (.bool true) (.string k.data.toList) hx hv (WideMaps.keyOf_string_mk Tryz.underlying9 hk) (.lit (.bool true)) [] (plainElem_bool Tryz.underlying4 true) fun w' hO' hg' => hK w' ⟨D.put (.string k.data.toList) (.lit (.bool true)), n + 1, hO', by simp; omega, hi.put _ _, fun k' => ?_⟩ hg'
  by_cases e : k' = k
  · subst e
    rw [Maps.atKey_put_same hi (by trivial), show inB k' (k' :: S) = true from inB_iff.2 (List.mem_cons_self ..)]
  · rw [Maps.atKey_put_other (fun h => e (list_ext2 (by injection h))), hD k', inB_congr (S := k :: S) (S2 := S) (by simp [e])]
end

/-- The first index of range n at which p holds. -/
theorem range_split {k n : Nat} (h : k < n) : ∃ l : List Nat, List.range n = List.range k ++ k :: l := by
  obtain ⟨m, rfl⟩ : ∃ m, n = (k + 1) + m := ⟨n - (k + 1), by omega⟩
  refine ⟨(List.range m).map (fun x => k + 1 + x), ?_⟩
  rw [List.range_add, List.range_succ, List.append_assoc]
  rfl
theorem some_step {α : Type} {f : Nat → Option α} {k : Nat} (h : (List.range k).findSome? f = none) (hk : f k = none) : (List.range (k + 1)).findSome? f = none := by
  rw [List.range_succ, List.findSome?_append, h]; simp [hk]
theorem some_hit {α : Type} {f : Nat → Option α} {k n : Nat} {r : α} (h : (List.range k).findSome? f = none) (hn : k < n) (hk : f k = some r) : (List.range n).findSome? f = some r := by
  obtain ⟨l, e⟩ := range_split hn
  rw [e, List.findSome?_append, h]; simp [hk]
/-- The first index whose name an earlier one is, or -1. -/
def dupAt (ns : List ByteArray) (i : Nat) : Option Int := match ns[i]? with | some x => if inB x (ns.take i) then some (i : Int) else none | none => none
def dupI (ns : List ByteArray) : Int := ((List.range ns.length).findSome? (dupAt ns)).getD (-1)
theorem dup_no {ns : List ByteArray} {i : Nat} {x : ByteArray} (h : ns[i]? = some x) (hx : inB x (ns.take i) = false) : dupAt ns i = none := by
  unfold dupAt; rw [h]; simp [hx]
theorem dup_yes {ns : List ByteArray} {i : Nat} {x : ByteArray} (h : ns[i]? = some x) (hx : inB x (ns.take i) = true) : dupAt ns i = some (i : Int) := by
  unfold dupAt; rw [h]; simp [hx]
theorem dup_hit {ns : List ByteArray} {k : Nat} {x : ByteArray} (h0 : (List.range k).findSome? (dupAt ns) = none) (hk : k < ns.length) (h : ns[k]? = some x) (hx : inB x (ns.take k) = true) : dupI ns = k := by
  unfold dupI; rw [some_hit h0 hk (dup_yes h hx)]; rfl
theorem dup_end {ns : List ByteArray} {k : Nat} (h0 : (List.range k).findSome? (dupAt ns) = none) (hk : k = ns.length) : dupI ns = -1 := by
  subst hk; unfold dupI; rw [h0]; rfl
theorem take_one {ns : List ByteArray} {k : Nat} {x : ByteArray} (h : ns[k]? = some x) : ns.take (k + 1) = ns.take k ++ [x] := by rw [List.take_add_one, h]; rfl
end Go.Proofs.YtmbelhdkaepohaaGreatDoor

namespace Go.Proofs.YtmbelhdkaepohaaGreatDoor
set_option maxRecDepth 20000
set_option linter.unusedVariables false
set_option linter.unusedSimpArgs false
open Go.ChangeShapes Go.WideShapes Go.ChangeAt Go.RowKit

/-- The table of shapes: keyword, whether it defines, least and most uses, targets. -/
def shp (k : ByteArray) (d : Bool) (l m t : Int) : List Value := [.string k, .bool d, .int .i64 l, .int .i64 m, .int .i64 t]
def shpCells : List Value := shp noB false 0 0 0 ++ shp noB true 0 4 0 ++ shp kwUse false 1 4 0 ++ shp kwCall false 0 0 1 ++ shp kwSource true 0 0 0 ++ shp kwSink false 1 1 0 ++ shp kwSanitize true 0 0 0 ++ shp kwGoto false 0 0 1 ++ shp kwBranch false 1 1 2 ++ shp kwReturn false 0 0 0
def Shp (w : World) : Prop := ∀ (j : Nat) (u : Value), shpCells[j]? = some u → w.cell? ⟨0, j, none⟩ = some u
theorem Shp.keep {w w' : World} (h : Shp w) (hk : w'.heap[0]? = w.heap[0]?) : Shp w' := fun j u hu => (World.cell?_of_block hk).trans (h j u hu)
section
variable {w w' : World} {b : Nat} {σ : Ds}
end
section
variable {w w' w'' : World} {b : Nat} {σ σ' : Ds}
end
theorem Fb.fourc {w : World} {g t : Nat} {a b c d : Value} (h : Fb w g #[a, b, c, d] t) :
    (w.cell? ⟨g, 0, none⟩ = some a ∧ w.cell? ⟨g, 1, none⟩ = some b ∧ w.cell? ⟨g, 2, none⟩ = some c ∧ w.cell? ⟨g, 3, none⟩ = some d) ∧
      (w.frozen? ⟨g, 0, none⟩ = false ∧ w.frozen? ⟨g, 1, none⟩ = false ∧ w.frozen? ⟨g, 2, none⟩ = false ∧ w.frozen? ⟨g, 3, none⟩ = false) :=
  ⟨⟨h.cell 0, h.cell 1, h.cell 2, h.cell 3⟩, h.frozen 0, h.frozen 1, h.frozen 2, h.frozen 3⟩
def agT (t : Tok) : Value := .agg #[.int .i64 t.kind, .string t.text, .int .i64 (t.line : Int), .int .i64 (t.col : Int)]
theorem fieldTok0 (a b c d : Value) (w : World) : Sem.run Tryz.prog (Instr.field 78 (.agg #[a, b, c, d]) 0) w = .ok a w := by rfl
theorem fieldTok1 (a b c d : Value) (w : World) : Sem.run Tryz.prog (Instr.field 78 (.agg #[a, b, c, d]) 1) w = .ok b w := by rfl
theorem fieldTok2 (a b c d : Value) (w : World) : Sem.run Tryz.prog (Instr.field 78 (.agg #[a, b, c, d]) 2) w = .ok c w := by rfl
theorem fieldTok3 (a b c d : Value) (w : World) : Sem.run Tryz.prog (Instr.field 78 (.agg #[a, b, c, d]) 3) w = .ok d w := by rfl
attribute [local go_sem] fieldTok0 fieldTok1 fieldTok2 fieldTok3
theorem Shp.far {w : World} (h : Shp w) {p : Addr} (hp : 0 < p.block) (u : Value) : Shp (w.setCell p u) := h.keep (Below.heap_setCell w p u 0 (by omega))
theorem At.tail {w : World} {b : Nat} {a : Addr} {t : Tok} {l : List Tok} (h : At w b (some a) (tcells (t :: l))) : At w b (some (a.add 4)) (tcells l) := by
  rcases h with h | ⟨ad, e, hb, hc⟩
  · have := tcells_len (t :: l); rw [h] at this; simp at this
  · injection e with e; subst e
    refine .inr ⟨_, rfl, by rw [add_block]; exact hb, fun j u hu => ?_⟩
    have h4 : (tcells (t :: l))[4 + j]? = some u := by
      show (tcell t ++ tcells l)[4 + j]? = some u
      rw [List.getElem?_append_right (by simp [tcell])]
      simpa [tcell] using hu
    rw [Go.Deep.add_add]
    exact hc _ u h4
end Go.Proofs.YtmbelhdkaepohaaGreatDoor

namespace Go.Proofs.YtmbelhdkaepohaaGreatDoor
set_option maxRecDepth 20000
set_option linter.unusedVariables false
set_option linter.unusedSimpArgs false
open Go.ChangeShapes Go.WideShapes Go.ChangeAt Go.RowKit

def termB (o : Int) : Bool := o == 7 || (o == 8 || o == 9)
theorem term_any (o : Int) (w : World) : Calls Tryz.prog 117 #[.int .i64 o] w fun e w' => e = .returned (.bool (termB o)) ∧ w = w' := by
  unfold termB
  cases h1 : (o == 7) with
  | true =>
    go_enter Tryz.func117, Tryz.ntmps117
    go_wp2
    go_ret
    exact ⟨rfl, rfl⟩
  | false =>
    cases h2 : (o == 8) with
    | true =>
      go_enter Tryz.func117, Tryz.ntmps117
      go_wp2
      go_ret
      exact ⟨rfl, rfl⟩
    | false =>
      cases h3 : (o == 9) with
      | true =>
        go_enter Tryz.func117, Tryz.ntmps117
        go_wp2
        go_ret
        exact ⟨rfl, rfl⟩
      | false =>
        go_enter Tryz.func117, Tryz.ntmps117
        go_wp2
        go_ret
        exact ⟨rfl, rfl⟩
/-- The first error of a statement. -/
def stmtE (F B : List ByteArray) (last : Bool) (t : Stm) : Int :=
  if termB t.op != last then 4 else if t.ts.all (fun x => inB x (if t.op == 3 then F else B)) then 0 else 5
theorem stmtE_4 {F B : List ByteArray} {last : Bool} {t : Stm} (h : (termB t.op != last) = true) : stmtE F B last t = 4 := by unfold stmtE; rw [h]; rfl
theorem stmtE_0 {F B S : List ByteArray} {last : Bool} {t : Stm} (h : (termB t.op != last) = false) (hS : (if t.op == 3 then F else B) = S) (ha : t.ts.all (fun x => inB x S) = true) : stmtE F B last t = 0 := by unfold stmtE; rw [h, hS, ha]; rfl
theorem stmtE_5 {F B S : List ByteArray} {last : Bool} {t : Stm} (h : (termB t.op != last) = false) (hS : (if t.op == 3 then F else B) = S) (ha : t.ts.all (fun x => inB x S) = false) : stmtE F B last t = 5 := by unfold stmtE; rw [h, hS, ha]; rfl
set_option maxHeartbeats 3200000 in
theorem chk_call (d : ByteArray) (A : Option Addr) (n c : Nat) (B : Option Addr) (m c2 : Nat) (us ts : List ByteArray) (last : Bool) (b1 b2 : Nat) (F Bn : List ByteArray) (w : World)
    (hT : SArg w B m ts) (h1 : NS w b1 Bn) (h2 : NS w b2 F) :
    Calls Tryz.prog 101 #[.agg #[.int .i64 3, .string d, .slice A n c, .slice B m c2], .bool last, .map (some b1), .map (some b2)] w fun e w' => e = .returned (.int .i64 (stmtE F Bn last ⟨3, d, us, ts⟩)) ∧ Below w.heap.size w w' := by
  have hb2 := (Below.refl w.heap.size w).alloc (Nat.le_refl _) (.cells #[.int .i64 3, .string d, .slice A n c, .slice B m c2] 101)
  have HB := hid hb2
  have Hf := hid (Fb.new w #[.int .i64 3, .string d, .slice A n c, .slice B m c2] 101)
  have HT := hid (hT.below hb2)
  have H := hid (h2.below hb2)
  have hm := hT.few
  have HL := hid hT.len
  
  clear hb2 hT h1 h2
  go_enter Tryz.func101, Tryz.ntmps101
  go_wp2_with fail
  refine (term_any _ _).mono ?_
  rintro e w2 ⟨rfl, rfl⟩
  cases ht : (termB 3 == last) with
  | false =>
    as_aux_lemma =>
      have Hr := hid (show stmtE F Bn last ⟨3, d, us, ts⟩ = 4 from stmtE_4 (by show (!(termB 3 == last)) = true; rw [ht]; rfl))
      go_wp2_with fail
      go_ret
      exact ⟨ret_i Hr.out, HB.out⟩
  | true =>
    have Ht := hid (show (termB 3 != last) = false by show (!(termB 3 == last)) = false; rw [ht]; rfl)
    have hlt := Hf.out.lt
    obtain ⟨a0, a1, a2, a3⟩ := Fb.four Hf.out
    go_wp2_with fail
    clear a0 a1 a2 a3 ht hlt
    go_loopw [11, 25] (fun _ iv wr => ∃ k : Nat, k ≤ m ∧ iv = .int .i64 k ∧ Hid ((ts.take k).all (fun x => inB x F) = true) ∧ Hid (w.alloc (.cells #[.int .i64 3, .string d, .slice A n c, .slice B m c2] 101) = wr)) (fun _ iv _ => m - (intOf iv).toNat)
    case atStart => exact ⟨0, by omega, rfl, hid rfl, hid rfl⟩
    case round =>
      obtain ⟨k, hk, rfl, hX, hW⟩ := hrel
      have hW' := hW.out
      subst hW'
      clear hW
      by_cases hlt : k < m
      · obtain ⟨ad, rfl, hb, hc, hs⟩ := HT.out.cell hlt
        have Hget := hid (show ts[k]? = some (ts.getD k ByteArray.empty) by rw [List.getD_eq_getElem?_getD, List.getElem?_eq_getElem (by have := HL.out; omega)]; rfl)
        generalize ts.getD k ByteArray.empty = y at *
        have hlook := NS.look H.out (show y.size ≤ maxLen by unfold maxLen; omega)
        cases hv : inB y F with
        | false =>
          as_aux_lemma =>
            have Hr := hid (show stmtE F Bn last ⟨3, d, us, ts⟩ = 5 from stmtE_5 Ht.out (S := F) rfl (all_no (p := fun x => inB x F) Hget.out hv))
            rw [hv] at hlook
            clear hv
            go_wp2_with fail
            go_ret
            exact ⟨ret_i Hr.out, HB.out⟩
        | true =>
          as_aux_lemma =>
            have Hr := hid (take_all (p := fun x => inB x F) hX.out Hget.out hv)
            rw [hv] at hlook
            clear hv
            go_wp2_with fail
            go_roundw
            case rel => exact ⟨k + 1, by omega, by go_num, Hr, by first | exact hid rfl | exact hid trivial⟩
            case measure => simp [intOf]; omega
      · as_aux_lemma =>
          obtain rfl : k = m := by omega
          have Hr := hid (show stmtE F Bn last ⟨3, d, us, ts⟩ = 0 from stmtE_0 Ht.out (S := F) rfl (by rw [← List.take_length (l := ts), HL.out]; exact hX.out))
          go_wp2_with fail
          go_ret
          exact ⟨ret_i Hr.out, HB.out⟩
set_option maxHeartbeats 3200000 in
theorem chk_other (o : Int) (d : ByteArray) (A : Option Addr) (n c : Nat) (B : Option Addr) (m c2 : Nat) (us ts : List ByteArray) (last : Bool) (b1 b2 : Nat) (F Bn : List ByteArray) (w : World)
    (hT : SArg w B m ts) (h1 : NS w b1 Bn) (h2 : NS w b2 F) (ho : (o == 3) = false) :
    Calls Tryz.prog 101 #[.agg #[.int .i64 o, .string d, .slice A n c, .slice B m c2], .bool last, .map (some b1), .map (some b2)] w fun e w' => e = .returned (.int .i64 (stmtE F Bn last ⟨o, d, us, ts⟩)) ∧ Below w.heap.size w w' := by
  have hb2 := (Below.refl w.heap.size w).alloc (Nat.le_refl _) (.cells #[.int .i64 o, .string d, .slice A n c, .slice B m c2] 101)
  have HB := hid hb2
  have Hf := hid (Fb.new w #[.int .i64 o, .string d, .slice A n c, .slice B m c2] 101)
  have HT := hid (hT.below hb2)
  have H := hid (h1.below hb2)
  have hm := hT.few
  have HL := hid hT.len
  have Ho := hid ho
  clear hb2 hT h1 h2
  go_enter Tryz.func101, Tryz.ntmps101
  go_wp2_with fail
  refine (term_any _ _).mono ?_
  rintro e w2 ⟨rfl, rfl⟩
  cases ht : (termB o == last) with
  | false =>
    as_aux_lemma =>
      have Hr := hid (show stmtE F Bn last ⟨o, d, us, ts⟩ = 4 from stmtE_4 (by show (!(termB o == last)) = true; rw [ht]; rfl))
      go_wp2_with fail
      go_ret
      exact ⟨ret_i Hr.out, HB.out⟩
  | true =>
    have Ht := hid (show (termB o != last) = false by show (!(termB o == last)) = false; rw [ht]; rfl)
    have hlt := Hf.out.lt
    obtain ⟨a0, a1, a2, a3⟩ := Fb.four Hf.out
    go_wp2_with fail
    clear a0 a1 a2 a3 ht hlt
    go_loopw [11, 25] (fun _ iv wr => ∃ k : Nat, k ≤ m ∧ iv = .int .i64 k ∧ Hid ((ts.take k).all (fun x => inB x Bn) = true) ∧ Hid (w.alloc (.cells #[.int .i64 o, .string d, .slice A n c, .slice B m c2] 101) = wr)) (fun _ iv _ => m - (intOf iv).toNat)
    case atStart => exact ⟨0, by omega, rfl, hid rfl, hid rfl⟩
    case round =>
      obtain ⟨k, hk, rfl, hX, hW⟩ := hrel
      have hW' := hW.out
      subst hW'
      clear hW
      by_cases hlt : k < m
      · obtain ⟨ad, rfl, hb, hc, hs⟩ := HT.out.cell hlt
        have Hget := hid (show ts[k]? = some (ts.getD k ByteArray.empty) by rw [List.getD_eq_getElem?_getD, List.getElem?_eq_getElem (by have := HL.out; omega)]; rfl)
        generalize ts.getD k ByteArray.empty = y at *
        have hlook := NS.look H.out (show y.size ≤ maxLen by unfold maxLen; omega)
        cases hv : inB y Bn with
        | false =>
          as_aux_lemma =>
            have Hr := hid (show stmtE F Bn last ⟨o, d, us, ts⟩ = 5 from stmtE_5 Ht.out (S := Bn) (by rw [Ho.out]; rfl) (all_no (p := fun x => inB x Bn) Hget.out hv))
            rw [hv] at hlook
            clear hv
            go_wp2_with fail
            go_ret
            exact ⟨ret_i Hr.out, HB.out⟩
        | true =>
          as_aux_lemma =>
            have Hr := hid (take_all (p := fun x => inB x Bn) hX.out Hget.out hv)
            rw [hv] at hlook
            clear hv
            go_wp2_with fail
            go_roundw
            case rel => exact ⟨k + 1, by omega, by go_num, Hr, by first | exact hid rfl | exact hid trivial⟩
            case measure => simp [intOf]; omega
      · as_aux_lemma =>
          obtain rfl : k = m := by omega
          have Hr := hid (show stmtE F Bn last ⟨o, d, us, ts⟩ = 0 from stmtE_0 Ht.out (S := Bn) (by rw [Ho.out]; rfl) (by rw [← List.take_length (l := ts), HL.out]; exact hX.out))
          go_wp2_with fail
          go_ret
          exact ⟨ret_i Hr.out, HB.out⟩
theorem checkStmt_any (x : SH) (ex : List (Option Nat)) (last : Bool) (b1 b2 : Nat) (F Bn : List ByteArray) (w : World) (h : SHok w ex x) (h1 : NS w b1 Bn) (h2 : NS w b2 F) :
    Calls Tryz.prog 101 #[.agg #[.int .i64 x.t.op, .string x.t.d, .slice x.A x.n x.c, .slice x.B x.m x.c2], .bool last, .map (some b1), .map (some b2)] w fun e w' => e = .returned (.int .i64 (stmtE F Bn last x.t)) ∧ Below w.heap.size w w' := by
  obtain ⟨A, n, c, B, m, c2, ⟨o, d, us, ts⟩⟩ := x
  have ha := h.arg.targets
  simp only at ha
  cases ho : (o == 3) with
  | true =>
    obtain rfl : o = 3 := by simpa using ho
    exact chk_call d A n c B m c2 us ts last b1 b2 F Bn w ha h1 h2
  | false => exact chk_other o d A n c B m c2 us ts last b1 b2 F Bn w ha h1 h2 ho
/-- The map and the index came back. -/
def RetC (w : World) (ns : List ByteArray) (e : Ending) (w' : World) : Prop :=
  ∃ b : Nat, e = .returned (.tuple #[.map (some b), .int .i64 (dupI ns)]) ∧ Below w.heap.size w w' ∧ (dupI ns = -1 → NS w' b ns)
theorem retC_mk {w w' : World} {ns : List ByteArray} {b : Nat} {v : Int} (h : dupI ns = v) (hb : Below w.heap.size w w') (hn : v = -1 → NS w' b ns) : RetC w ns (.returned (.tuple #[.map (some b), .int .i64 v])) w' :=
  ⟨b, by rw [h], hb, fun e => hn (h ▸ e)⟩
theorem funcName_any (nm : ByteArray) (A : Option Addr) (n c : Nat) (w : World) : Calls Tryz.prog 79 #[.agg #[.string nm, .slice A n c]] w fun e w' => e = .returned (.string nm) ∧ Below w.heap.size w w' := by
  have HB := hid ((Below.refl w.heap.size w).alloc (Nat.le_refl _) (.cells #[.string nm, .slice A n c] 75))
  go_enter Tryz.func79, Tryz.ntmps79
  go_wp2
  go_ret
  exact ⟨rfl, HB.out⟩
set_option maxHeartbeats 3200000 in
theorem collectF_any (x : PH) (ex : List (Option Nat)) (w : World) (h : PHok w ex x) :
    Calls Tryz.prog 78 #[.slice x.A x.n x.c, .func (Fn.func 79) #[] #[]] w (RetC w (x.l.map fun y => y.name)) := by
  have HX := hid h
  have hn := h.few
  have HL := hid h.len
  obtain ⟨A, n, c, l⟩ := x
  simp only at hn HL
  have HB0 := hid ((Below.refl w.heap.size w).alloc (Nat.le_refl _) (.map #[] 0))
  have HN0 := hid (NS.made w)
  have HLn := hid (show (l.map fun y => y.name).length = n by rw [List.length_map]; exact HL.out)
  clear h
  have hmm := @run_makeMap Tryz.prog
  go_enter Tryz.func78, Tryz.ntmps78
  go_wp2_with fail
  clear hmm
  generalize w.alloc (.map #[] 0) = w0 at HN0 HB0 ⊢
  go_loopw [7, 8, 12] (fun _ _ iv wr => ∃ k : Nat, k ≤ n ∧ iv = .int .i64 k ∧ Hid ((List.range k).findSome? (dupAt (l.map fun y => y.name)) = none) ∧ Hid (NS wr w.heap.size ((l.map fun y => y.name).take k)) ∧ Hid (Below w.heap.size w wr)) (fun _ _ iv _ => n - (intOf iv).toNat)
  case atStart => exact ⟨0, by omega, rfl, hid rfl, HN0.out, HB0.out⟩
  case round =>
    clear HN0 HB0
    obtain ⟨k, hk, rfl, hX, hN, hB⟩ := hrel
    by_cases hlt : k < n
    · obtain ⟨y, hy, hym⟩ := get_at HL.out hlt
      have HPr := hid (HX.out.go (Go2.below hB.out))
      obtain ⟨ad, hA, had, hc1, hc2⟩ := FH.cells HPr.out.lies hy
      have hys := hid (show y.name.size ≤ maxLen by have := (HPr.out.all y hym).small; unfold maxLen; omega)
      have Hget := hid (show (l.map fun y => y.name)[k]? = some y.name by rw [List.getElem?_map, hy]; rfl)
      simp only at hA
      subst hA
      have hb2 := (Below.refl wr.heap.size wr).alloc (Nat.le_refl _) (.cells #[.string y.name, .slice y.A y.n y.c] 75)
      have HN2 := hid (hN.out.below hb2)
      have HB2 := hid (below_step hB.out hb2)
      have Hf2 := hid (Fb.new wr #[.string y.name, .slice y.A y.n y.c] 75)
      clear hy hym HPr hb2 hN hB
      go_wp2_with fail
      refine (funcName_any y.name y.A y.n y.c _).mono ?_
      rintro e w2 ⟨rfl, hb3⟩
      have HN3 := hid (HN2.out.below hb3)
      have HB3 := hid (below_step HB2.out hb3)
      have Hf3 := hid (Hf2.out.below hb3 Hf2.out.lt)
      have hlook := NS.look HN3.out hys.out
      have hlt3 := Hf3.out.lt
      obtain ⟨f0, f1⟩ := Hf3.out.twoc
      clear hb3 HN2 HB2 Hf2 hc1 hc2 had
      cases hv : inB y.name ((l.map fun y => y.name).take k) with
      | true =>
        as_aux_lemma =>
          rw [hv] at hlook
          have Hr := hid (dup_hit hX.out (by rw [HLn.out]; exact hlt) Hget.out hv)
          clear hv
          go_wp2_with fail
          go_ret2
          exact retC_mk Hr.out HB3.out (fun h => by omega)
      | false =>
        rw [hv] at hlook
        have Hr := hid (some_step hX.out (dup_no Hget.out hv))
        have Htk := hid (take_one Hget.out)
        have Hlk := hid (show ((l.map fun y => y.name).take k).length ≤ 40 by have := List.length_take_le k (l.map fun y => y.name); omega)
        clear hv
        go_wp2_with fail
        refine (funcName_any y.name y.A y.n y.c _).mono ?_
        rintro e w4 ⟨rfl, hb4⟩
        have HN4 := hid (HN3.out.below hb4)
        have HB4 := hid (below_step HB3.out hb4)
        clear hb4 HN3 HB3 Hf3 f0 f1 hlook
        as_aux_lemma =>
          go_wp2_with (at_mapUpdate; refine wp_put rfl _ _ _ rfl w.heap.size _ rfl HN4.out (by have := Hlk.out; unfold maxLen; omega) y.name hys.out rfl rfl ?_; intro w5 hn5 hg5)
          have HN5 := hid (hn5.congr (S' := (l.map fun y => y.name).take (k + 1)) (by rw [Htk.out]; simp) (fun q => by rw [Htk.out]; simp [or_comm]))
          have HB5 := hid (after_app HB4.out hg5 (Nat.le_refl _))
          clear hn5 hg5
          go_wp2_with fail
          go_roundw
          case rel => exact ⟨k + 1, by omega, by go_num, Hr, HN5, HB5⟩
          case measure => simp [intOf]; omega
    · as_aux_lemma =>
        obtain rfl : k = n := by omega
        have Hr := hid (dup_end hX.out HLn.out.symm)
        have HN1 := hid (show NS wr w.heap.size (l.map fun y => y.name) by have := hN.out; rwa [← HLn.out, List.take_length] at this)
        go_wp2_with fail
        go_ret2
        exact retC_mk Hr.out hB.out (fun _ => HN1.out)
theorem blockName_any (nm : ByteArray) (A : Option Addr) (n c : Nat) (w : World) : Calls Tryz.prog 100 #[.agg #[.string nm, .slice A n c]] w fun e w' => e = .returned (.string nm) ∧ Below w.heap.size w w' := by
  have HB := hid ((Below.refl w.heap.size w).alloc (Nat.le_refl _) (.cells #[.string nm, .slice A n c] 95))
  go_enter Tryz.func100, Tryz.ntmps100
  go_wp2
  go_ret
  exact ⟨rfl, HB.out⟩
set_option maxHeartbeats 3200000 in
theorem collectB_any (x : FH) (ex : List (Option Nat)) (w : World) (h : FHok w ex x) :
    Calls Tryz.prog 99 #[.slice x.A x.n x.c, .func (Fn.func 100) #[] #[]] w (RetC w (x.l.map fun y => y.name)) := by
  have HX := hid h
  have hn := h.few
  have HL := hid h.len
  obtain ⟨nm, A, n, c, l⟩ := x
  simp only at hn HL
  have HB0 := hid ((Below.refl w.heap.size w).alloc (Nat.le_refl _) (.map #[] 0))
  have HN0 := hid (NS.made w)
  have HLn := hid (show (l.map fun y => y.name).length = n by rw [List.length_map]; exact HL.out)
  clear h
  have hmm := @run_makeMap Tryz.prog
  go_enter Tryz.func99, Tryz.ntmps99
  go_wp2_with fail
  clear hmm
  generalize w.alloc (.map #[] 0) = w0 at HN0 HB0 ⊢
  go_loopw [7, 8, 12] (fun _ _ iv wr => ∃ k : Nat, k ≤ n ∧ iv = .int .i64 k ∧ Hid ((List.range k).findSome? (dupAt (l.map fun y => y.name)) = none) ∧ Hid (NS wr w.heap.size ((l.map fun y => y.name).take k)) ∧ Hid (Below w.heap.size w wr)) (fun _ _ iv _ => n - (intOf iv).toNat)
  case atStart => exact ⟨0, by omega, rfl, hid rfl, HN0.out, HB0.out⟩
  case round =>
    clear HN0 HB0
    obtain ⟨k, hk, rfl, hX, hN, hB⟩ := hrel
    by_cases hlt : k < n
    · obtain ⟨y, hy, hym⟩ := get_at HL.out hlt
      have HPr := hid (HX.out.go (Go2.below hB.out))
      obtain ⟨ad, hA, had, hc1, hc2⟩ := BH.cells HPr.out.lies hy
      have hys := hid (show y.name.size ≤ maxLen by have := (HPr.out.all y hym).small; unfold maxLen; omega)
      have Hget := hid (show (l.map fun y => y.name)[k]? = some y.name by rw [List.getElem?_map, hy]; rfl)
      simp only at hA
      subst hA
      have hb2 := (Below.refl wr.heap.size wr).alloc (Nat.le_refl _) (.cells #[.string y.name, .slice y.A y.n y.c] 95)
      have HN2 := hid (hN.out.below hb2)
      have HB2 := hid (below_step hB.out hb2)
      have Hf2 := hid (Fb.new wr #[.string y.name, .slice y.A y.n y.c] 95)
      clear hy hym HPr hb2 hN hB
      go_wp2_with fail
      refine (blockName_any y.name y.A y.n y.c _).mono ?_
      rintro e w2 ⟨rfl, hb3⟩
      have HN3 := hid (HN2.out.below hb3)
      have HB3 := hid (below_step HB2.out hb3)
      have Hf3 := hid (Hf2.out.below hb3 Hf2.out.lt)
      have hlook := NS.look HN3.out hys.out
      have hlt3 := Hf3.out.lt
      obtain ⟨f0, f1⟩ := Hf3.out.twoc
      clear hb3 HN2 HB2 Hf2 hc1 hc2 had
      cases hv : inB y.name ((l.map fun y => y.name).take k) with
      | true =>
        as_aux_lemma =>
          rw [hv] at hlook
          have Hr := hid (dup_hit hX.out (by rw [HLn.out]; exact hlt) Hget.out hv)
          clear hv
          go_wp2_with fail
          go_ret2
          exact retC_mk Hr.out HB3.out (fun h => by omega)
      | false =>
        rw [hv] at hlook
        have Hr := hid (some_step hX.out (dup_no Hget.out hv))
        have Htk := hid (take_one Hget.out)
        have Hlk := hid (show ((l.map fun y => y.name).take k).length ≤ 40 by have := List.length_take_le k (l.map fun y => y.name); omega)
        clear hv
        go_wp2_with fail
        refine (blockName_any y.name y.A y.n y.c _).mono ?_
        rintro e w4 ⟨rfl, hb4⟩
        have HN4 := hid (HN3.out.below hb4)
        have HB4 := hid (below_step HB3.out hb4)
        clear hb4 HN3 HB3 Hf3 f0 f1 hlook
        as_aux_lemma =>
          go_wp2_with (at_mapUpdate; refine wp_put rfl _ _ _ rfl w.heap.size _ rfl HN4.out (by have := Hlk.out; unfold maxLen; omega) y.name hys.out rfl rfl ?_; intro w5 hn5 hg5)
          have HN5 := hid (hn5.congr (S' := (l.map fun y => y.name).take (k + 1)) (by rw [Htk.out]; simp) (fun q => by rw [Htk.out]; simp [or_comm]))
          have HB5 := hid (after_app HB4.out hg5 (Nat.le_refl _))
          clear hn5 hg5
          go_wp2_with fail
          go_roundw
          case rel => exact ⟨k + 1, by omega, by go_num, Hr, HN5, HB5⟩
          case measure => simp [intOf]; omega
    · as_aux_lemma =>
        obtain rfl : k = n := by omega
        have Hr := hid (dup_end hX.out HLn.out.symm)
        have HN1 := hid (show NS wr w.heap.size (l.map fun y => y.name) by have := hN.out; rwa [← HLn.out, List.take_length] at this)
        go_wp2_with fail
        go_ret2
        exact retC_mk Hr.out hB.out (fun _ => HN1.out)
end Go.Proofs.YtmbelhdkaepohaaGreatDoor

namespace Go.Proofs.YtmbelhdkaepohaaGreatDoor
set_option maxRecDepth 20000
set_option linter.unusedVariables false
set_option linter.unusedSimpArgs false
open Go.ChangeShapes Go.WideShapes Go.ChangeAt Go.RowKit

theorem dup_cases (ns : List ByteArray) : dupI ns = -1 ∨ 0 ≤ dupI ns := by
  unfold dupI
  cases h : (List.range ns.length).findSome? (dupAt ns) with
  | none => exact .inl rfl
  | some v =>
    obtain ⟨i, _, hi⟩ := List.exists_of_findSome?_eq_some h
    right
    unfold dupAt at hi
    split at hi
    · split at hi
      · injection hi with hi; subst hi; show (0 : Int) ≤ _; simp
      · cases hi
    · cases hi
/-- The first error in a block's statements: block, statement, error. -/
def stAt (F B : List ByteArray) (ss : List Stm) (k j : Nat) : Option (Int × Int × Int) :=
  match ss[j]? with | some t => if stmtE F B (decide (j + 1 = ss.length)) t == 0 then none else some ((k : Int), (j : Int), stmtE F B (decide (j + 1 = ss.length)) t) | none => none
def blkAt (F B : List ByteArray) (bs : List Blk) (k : Nat) : Option (Int × Int × Int) :=
  match bs[k]? with | some b => (List.range b.ss.length).findSome? (stAt F B b.ss k) | none => none
/-- The first error in the blocks of a function. -/
def blocksE (F : List ByteArray) (bs : List Blk) : Int × Int × Int :=
  if dupI (bs.map Blk.name) == -1 then ((List.range bs.length).findSome? (blkAt F (bs.map Blk.name) bs)).getD (0, 0, 0) else (dupI (bs.map Blk.name), -1, 6)
theorem st_none {F B : List ByteArray} {ss : List Stm} {k j : Nat} {t : Stm} {e : Int} (h : ss[j]? = some t) (he : stmtE F B (decide (j + 1 = ss.length)) t = e) (h0 : (e == 0) = true) : stAt F B ss k j = none := by
  unfold stAt; rw [h]; simp only [he, h0]; rfl
theorem st_some {F B : List ByteArray} {ss : List Stm} {k j : Nat} {t : Stm} {e : Int} (h : ss[j]? = some t) (he : stmtE F B (decide (j + 1 = ss.length)) t = e) (h0 : (e == 0) = false) : stAt F B ss k j = some ((k : Int), (j : Int), e) := by
  unfold stAt; rw [h]; simp only [he, h0]; rfl
theorem blk_at {F B : List ByteArray} {bs : List Blk} {k : Nat} {b : Blk} (h : bs[k]? = some b) : blkAt F B bs k = (List.range b.ss.length).findSome? (stAt F B b.ss k) := by unfold blkAt; rw [h]
theorem blocks_dup {F : List ByteArray} {bs : List Blk} {d : Int} (h : dupI (bs.map Blk.name) = d) (hd : 0 ≤ d) : blocksE F bs = (d, -1, 6) := by
  unfold blocksE; rw [h]; simp; omega
theorem blocks_hit {F : List ByteArray} {bs : List Blk} {k : Nat} {r : Int × Int × Int} (h : dupI (bs.map Blk.name) = -1) (h0 : (List.range k).findSome? (blkAt F (bs.map Blk.name) bs) = none) (hk : k < bs.length) (hr : blkAt F (bs.map Blk.name) bs k = some r) : blocksE F bs = r := by
  unfold blocksE; rw [h, some_hit h0 hk hr]; rfl
theorem blocks_end {F : List ByteArray} {bs : List Blk} {k : Nat} (h : dupI (bs.map Blk.name) = -1) (h0 : (List.range k).findSome? (blkAt F (bs.map Blk.name) bs) = none) (hk : k = bs.length) : blocksE F bs = (0, 0, 0) := by
  subst hk; unfold blocksE; rw [h, h0]; rfl
def RetB (w : World) (r : Int × Int × Int) (e : Ending) (w' : World) : Prop := e = .returned (.tuple #[.int .i64 r.1, .int .i64 r.2.1, .int .i64 r.2.2]) ∧ Below w.heap.size w w'
theorem retB_mk {w w' : World} {r : Int × Int × Int} {a b c : Int} (h : r = (a, b, c)) (hb : Below w.heap.size w w') : RetB w r (.returned (.tuple #[.int .i64 a, .int .i64 b, .int .i64 c])) w' := by subst h; exact ⟨rfl, hb⟩
theorem last_eq {j n : Nat} : ((j : Int) == (n : Int) - 1) = decide (j + 1 = n) := by
  rw [Bool.eq_iff_iff]; simp; omega
set_option maxHeartbeats 6400000 in
theorem checkBlocks_any (x : FH) (ex : List (Option Nat)) (bf : Nat) (F : List ByteArray) (w : World) (h : FHok w ex x) (hF : NS w bf F) :
    Calls Tryz.prog 80 #[.slice x.A x.n x.c, .map (some bf)] w (RetB w (blocksE F x.f.bs)) := by
  have HX := hid h
  have HF := hid hF
  have hn := h.few
  have HL := hid h.len
  have HC := hid (collectB_any x ex w h)
  have Hns := hid (show (x.f.bs.map Blk.name) = x.l.map fun y => y.name by simp [FH.f, List.map_map, Function.comp_def, BH.b])
  have Hlb := hid (show x.f.bs.length = x.l.length by simp [FH.f])
  clear h hF
  obtain ⟨nm, A, n, c, l⟩ := x
  simp only at hn HL HC Hns Hlb
  generalize hbs : FH.f ⟨nm, A, n, c, l⟩ = ff at *
  have Hbs := hid (show ff.bs = l.map BH.b by rw [← hbs]; rfl)
  clear hbs
  go_enter Tryz.func80, Tryz.ntmps80
  go_wp2_with fail
  refine HC.out.mono ?_
  rw [← Hns.out]
  rintro e w1 ⟨b, rfl, hb1, hn1⟩
  have HB1 := hid hb1
  have HN1 := hid hn1
  have HF1 := hid (HF.out.below hb1)
  clear hb1 hn1 HF HC
  generalize hd : dupI (ff.bs.map Blk.name) = d at *
  have Hd := hid hd
  have hdc : d = -1 ∨ 0 ≤ d := hd ▸ dup_cases _
  clear hd
  rcases hdc with hd1 | hd1
  case inr =>
    have t1 : decide (0 ≤ d) = true := by simpa using hd1
    have Hr := hid (blocks_dup (F := F) Hd.out hd1)
    clear hd1
    go_wp2_with fail
    refine bodyPost_ret (v := .tuple #[.int .i64 d, .int .i64 (-1), .int .i64 6]) (by simp [results, Tryz.results80, go_sem]) rfl ?_
    exact retB_mk Hr.out HB1.out
  case inl =>
    have HN := hid (HN1.out hd1)
    subst hd1
    clear HN1
    generalize hBn : ff.bs.map Blk.name = Bn at *
    have HBn := hid hBn
    clear hBn
    go_wp2_with fail
    go_loopw [9, 10, 11, 12, 13, 24] (fun _ _ _ _ _ iv wr => ∃ k : Nat, k ≤ n ∧ iv = .int .i64 k ∧ Hid ((List.range k).findSome? (blkAt F Bn ff.bs) = none) ∧ Hid (NS wr b Bn) ∧ Hid (NS wr bf F) ∧ Hid (Below w.heap.size w wr)) (fun _ _ _ _ _ iv _ => n - (intOf iv).toNat)
    case atStart => exact ⟨0, by omega, rfl, hid rfl, HN.out, HF1.out, HB1.out⟩
    case round =>
      clear HN HF1 HB1
      obtain ⟨k, hk, rfl, hX, hN, hF, hB⟩ := hrel
      by_cases hlt : k < n
      · obtain ⟨y, hy, hym⟩ := get_at HL.out hlt
        have HPr := hid (HX.out.go (Go2.below hB.out))
        obtain ⟨ad, hA, had, hc1, hc2⟩ := BH.cells HPr.out.lies hy
        simp only at hA
        subst hA
        have hb2 := (Below.refl wr.heap.size wr).alloc (Nat.le_refl _) (.cells #[.string y.name, .slice y.A y.n y.c] 95)
        have HN2 := hid (hN.out.below hb2)
        have HF2 := hid (hF.out.below hb2)
        have HB2 := hid (below_step hB.out hb2)
        have HG2 := hid (Fb.new wr #[.string y.name, .slice y.A y.n y.c] 95)
        have Hget := hid (show ff.bs[k]? = some y.b by rw [Hbs.out, List.getElem?_map, hy]; rfl)
        have Hya := hid (fun (v : World) (h : Below w.heap.size w v) => (HX.out.go (Go2.below h)).all y hym)
        have hyn : y.n ≤ 40 := (HPr.out.all y hym).few
        have Hyl := hid (show y.l.length = y.n from (HPr.out.all y hym).len)
        have Hss := hid (show y.b.ss = y.l.map SH.t from rfl)
        clear hy hym HPr hb2 hN hF hB
        obtain ⟨g0, g1⟩ := HG2.out.twoc
        generalize y.b = bb at *
        obtain ⟨ynm, yA, yn, yc, yl⟩ := y
        simp only at *
        go_wp2_with fail
        clear g0 g1 hc1 hc2 had
        obtain ⟨G, hG⟩ : ∃ G, wr.heap.size = G := ⟨_, rfl⟩
        rw [hG] at HG2
        rw [hG]
        clear hG
        go_loopw [11, 12, 13, 32] (fun _ _ _ iv wr => ∃ j : Nat, j ≤ yn ∧ iv = .int .i64 j ∧ Hid ((List.range j).findSome? (stAt F Bn bb.ss k) = none) ∧ Hid (NS wr b Bn) ∧ Hid (NS wr bf F) ∧ Hid (Below w.heap.size w wr) ∧ Hid (Fb wr G #[.string ynm, .slice yA yn yc] 95)) (fun _ _ _ iv _ => yn - (intOf iv).toNat)
        case atStart => exact ⟨0, by omega, rfl, hid rfl, HN2.out, HF2.out, HB2.out, HG2.out⟩
        case round =>
          clear HN2 HF2 HB2 HG2
          obtain ⟨j, hj, rfl, hY, hN, hF, hB, hG⟩ := hrel
          by_cases hlt2 : j < yn
          · obtain ⟨s, hs, hsm⟩ := get_at Hyl.out hlt2
            have HPr := hid (Hya.out _ hB.out)
            obtain ⟨ad2, hA, had, hc1, hc2, hc3, hc4⟩ := SH.cells HPr.out.lies hs
            simp only at hA
            subst hA
            have hb2 := (Below.refl wr.heap.size wr).alloc (Nat.le_refl _) (.cells #[.int .i64 s.t.op, .string s.t.d, .slice s.A s.n s.c, .slice s.B s.m s.c2] 101)
            have HS := hid ((HPr.out.all s hsm).go (Go2.below hb2))
            have HN2 := hid (hN.out.below hb2)
            have HF2 := hid (hF.out.below hb2)
            have HB2 := hid (below_step hB.out hb2)
            have HG2 := hid (hG.out.below hb2 hG.out.lt)
            have Hget2 := hid (show bb.ss[j]? = some s.t by rw [Hss.out, List.getElem?_map, hs]; rfl)
            have Hsl := hid (show bb.ss.length = yn by rw [Hss.out, List.length_map]; exact Hyl.out)
            clear hs hsm HPr hb2 hN hF hB
            obtain ⟨f0, f1⟩ := hG.out.twoc
            have hGl := hG.out.lt
            clear hG
            go_wp2_with fail
            refine (checkStmt_any s ex _ b bf F Bn _ HS.out HN2.out HF2.out).mono ?_
            rw [last_eq]
            rintro e w3 ⟨rfl, hb3⟩
            have HN3 := hid (HN2.out.below hb3)
            have HF3 := hid (HF2.out.below hb3)
            have HB3 := hid (below_step HB2.out hb3)
            have HG3 := hid (HG2.out.below hb3 HG2.out.lt)
            clear hb3 HS HN2 HF2 HB2 HG2 f0 f1 hGl hc1 hc2 hc3 hc4 had
            generalize he : stmtE F Bn (decide (j + 1 = yn)) s.t = ee at *
            have He := hid (show stmtE F Bn (decide (j + 1 = bb.ss.length)) s.t = ee by rw [Hsl.out]; exact he)
            clear he
            cases h0 : (ee == 0) with
            | false =>
              as_aux_lemma =>
                have h1 : (ee != 0) = true := by show (!(ee == 0)) = true; rw [h0]; rfl
                have Hr := hid (blocks_hit (F := F) (by rw [HBn.out]; exact Hd.out) (by rw [HBn.out]; exact hX.out) (show k < ff.bs.length by rw [Hlb.out, HL.out]; exact hlt) (by rw [HBn.out, blk_at Hget.out]; exact some_hit hY.out (by rw [Hsl.out]; exact hlt2) (st_some Hget2.out He.out h0)))
                go_wp2_with fail
                refine bodyPost_ret (v := .tuple #[.int .i64 k, .int .i64 j, .int .i64 ee]) (by simp [results, Tryz.results80, go_sem]) rfl ?_
                exact retB_mk Hr.out HB3.out
            | true =>
              as_aux_lemma =>
                have h1 : (ee != 0) = false := by show (!(ee == 0)) = false; rw [h0]; rfl
                have Hr := hid (some_step hY.out (st_none (k := k) Hget2.out He.out h0))
                go_wp2_with fail
                go_roundw
                case rel => exact ⟨j + 1, by omega, by go_num, Hr, HN3, HF3, HB3, HG3⟩
                case measure => simp [intOf]; omega
          · as_aux_lemma =>
              obtain rfl : j = yn := by omega
              have Hsl := hid (show bb.ss.length = j by rw [Hss.out, List.length_map]; exact Hyl.out)
              have Hr := hid (some_step hX.out (show blkAt F Bn ff.bs k = none by rw [blk_at Hget.out, Hsl.out]; exact hY.out))
              go_wp2_with fail
              go_roundw
              case rel => exact ⟨k + 1, by omega, by go_num, Hr, hN, hF, hB⟩
              case measure => simp [intOf]; omega
      · as_aux_lemma =>
          obtain rfl : k = n := by omega
          have Hr := hid (blocks_end (F := F) (by rw [HBn.out]; exact Hd.out) (by rw [HBn.out]; exact hX.out) (show k = ff.bs.length by rw [Hlb.out, HL.out]))
          go_wp2_with fail
          refine bodyPost_ret (v := .tuple #[.int .i64 0, .int .i64 0, .int .i64 0]) (by simp [results, Tryz.results80, go_sem]) rfl ?_
          exact retB_mk Hr.out hB.out

/-- The first error that has a place, and its node. -/
def fnAt (F : List ByteArray) (fs : List Fnc) (i : Nat) : Option ((Int × Int × Int × Int) × Int) :=
  match fs[i]? with | some f => if (blocksE F f.bs).2.2 == 0 then none else some ((3, (i : Int), (blocksE F f.bs).1, (blocksE F f.bs).2.1), (blocksE F f.bs).2.2) | none => none
def funcsE (fs : List Fnc) : (Int × Int × Int × Int) × Int :=
  if dupI (fs.map Fnc.name) == -1 then ((List.range fs.length).findSome? (fnAt (fs.map Fnc.name) fs)).getD ((0, 0, 0, 0), 0) else ((1, dupI (fs.map Fnc.name), -1, -1), 6)
theorem fn_none {F : List ByteArray} {fs : List Fnc} {i : Nat} {f : Fnc} {a b e : Int} (h : fs[i]? = some f) (he : blocksE F f.bs = (a, b, e)) (h0 : (e == 0) = true) : fnAt F fs i = none := by
  unfold fnAt; rw [h]; simp only [he, h0]; rfl
theorem fn_some {F : List ByteArray} {fs : List Fnc} {i : Nat} {f : Fnc} {a b e : Int} (h : fs[i]? = some f) (he : blocksE F f.bs = (a, b, e)) (h0 : (e == 0) = false) : fnAt F fs i = some ((3, (i : Int), a, b), e) := by
  unfold fnAt; rw [h]; simp only [he, h0]; rfl
theorem funcs_dup {fs : List Fnc} {d : Int} (h : dupI (fs.map Fnc.name) = d) (hd : 0 ≤ d) : funcsE fs = ((1, d, -1, -1), 6) := by
  unfold funcsE; rw [h]; simp; omega
theorem funcs_hit {fs : List Fnc} {k : Nat} {r : (Int × Int × Int × Int) × Int} (h : dupI (fs.map Fnc.name) = -1) (h0 : (List.range k).findSome? (fnAt (fs.map Fnc.name) fs) = none) (hk : k < fs.length) (hr : fnAt (fs.map Fnc.name) fs k = some r) : funcsE fs = r := by
  unfold funcsE; rw [h, some_hit h0 hk hr]; rfl
theorem funcs_end {fs : List Fnc} {k : Nat} (h : dupI (fs.map Fnc.name) = -1) (h0 : (List.range k).findSome? (fnAt (fs.map Fnc.name) fs) = none) (hk : k = fs.length) : funcsE fs = ((0, 0, 0, 0), 0) := by
  subst hk; unfold funcsE; rw [h, h0]; rfl
def RetNd (w : World) (r : (Int × Int × Int × Int) × Int) (e : Ending) (w' : World) : Prop :=
  e = .returned (.tuple #[.agg #[.int .i64 r.1.1, .int .i64 r.1.2.1, .int .i64 r.1.2.2.1, .int .i64 r.1.2.2.2], .int .i64 r.2]) ∧ Below w.heap.size w w'
theorem retNd_mk {w w' : World} {r : (Int × Int × Int × Int) × Int} {a b c d e : Int} (h : r = ((a, b, c, d), e)) (hb : Below w.heap.size w w') : RetNd w r (.returned (.tuple #[.agg #[.int .i64 a, .int .i64 b, .int .i64 c, .int .i64 d], .int .i64 e])) w' := by subst h; exact ⟨rfl, hb⟩
def nod0 : Array Value := #[.int .i64 0, .int .i64 0, .int .i64 0, .int .i64 0]
theorem info51 : (Tryz.prog.info? 55).map (fun i => (i.zero, i.size, i.bytes)) = some (some (.agg #[.int .i64 0, .int .i64 0, .int .i64 0, .int .i64 0]), 4, 32) := by kernel_rfl
set_option maxHeartbeats 6400000 in
theorem checkFuncs_any (x : PH) (ex : List (Option Nat)) (w : World) (h : PHok w ex x) :
    Calls Tryz.prog 55 #[.slice x.A x.n x.c] w (RetNd w (funcsE x.p)) := by
  have hb0 := (Below.refl w.heap.size w).alloc (Nat.le_refl _) (.cells #[.int .i64 0, .int .i64 0, .int .i64 0, .int .i64 0] 55)
  have HX := hid (PHok.below h hb0)
  have HG0 := hid (Fb.new w #[.int .i64 0, .int .i64 0, .int .i64 0, .int .i64 0] 55)
  have HB0 := hid hb0
  have hn := h.few
  have HL := hid h.len
  have HC := hid (collectF_any x ex _ HX.out)
  have Hns := hid (show (x.p.map Fnc.name) = x.l.map fun y => y.name by simp [PH.p, List.map_map, Function.comp_def, FH.f])
  have Hlb := hid (show x.p.length = x.l.length by simp [PH.p])
  clear h hb0
  obtain ⟨A, n, c, l⟩ := x
  simp only at hn HL HC Hns Hlb
  generalize hbs : PH.p ⟨A, n, c, l⟩ = fs at *
  have Hbs := hid (show fs = l.map FH.f by rw [← hbs]; rfl)
  clear hbs
  go_enter Tryz.func55, Tryz.ntmps55
  go_wp2_with fail
  generalize w.alloc (.cells #[.int .i64 0, .int .i64 0, .int .i64 0, .int .i64 0] 55) = w0 at *
  have hgg : w.heap.size < w0.heap.size := HG0.out.lt
  refine HC.out.mono ?_
  rw [← Hns.out]
  rintro e w1 ⟨b, rfl, hb1, hn1⟩
  have HB1 := hid (below_step HB0.out hb1)
  have HW1 := hid hb1
  have HN1 := hid hn1
  have HG1 := hid (HG0.out.below hb1 HG0.out.lt)
  clear hb1 hn1 HC HB0 HG0
  generalize hd : dupI (fs.map Fnc.name) = d at *
  have Hd := hid hd
  have hdc : d = -1 ∨ 0 ≤ d := hd ▸ dup_cases _
  clear hd
  rcases hdc with hd1 | hd1
  case inr =>
    have t1 : decide (0 ≤ d) = true := by simpa using hd1
    have Hr := hid (funcs_dup Hd.out hd1)
    have HZ := hid (fun a b c d => (((HB1.out.setCell (p := ⟨w.heap.size, 0, none⟩) (Nat.le_refl _) a).setCell (p := ⟨w.heap.size, 1, none⟩) (Nat.le_refl _) b).setCell (p := ⟨w.heap.size, 2, none⟩) (Nat.le_refl _) c).setCell (p := ⟨w.heap.size, 3, none⟩) (Nat.le_refl _) d)
    obtain ⟨g0, g1, g2, g3⟩ := Fb.four HG1.out
    have z0 := HG1.out.frozen 0
    have z1 := HG1.out.frozen 1
    have z2 := HG1.out.frozen 2
    have z3 := HG1.out.frozen 3
    have hlt1 := HG1.out.lt
    clear hd1
    go_wp2_with fail
    refine bodyPost_ret (v := .tuple #[.agg #[.int .i64 1, .int .i64 d, .int .i64 (-1), .int .i64 (-1)], .int .i64 6]) (by simp [results, Tryz.results55, go_sem, g0, g1, g2, g3, z0, z1, z2, z3, hlt1]) rfl ?_
    exact retNd_mk Hr.out (HZ.out _ _ _ _)
  case inl =>
    have HN := hid (HN1.out hd1)
    subst hd1
    clear HN1
    generalize hBn : fs.map Fnc.name = Bn at *
    have HBn := hid hBn
    clear hBn
    go_wp2_with fail
    go_loopw [6, 7, 8, 9, 10, 22] (fun _ _ _ _ _ iv wr => ∃ k : Nat, k ≤ n ∧ iv = .int .i64 k ∧ Hid ((List.range k).findSome? (fnAt Bn fs) = none) ∧ Hid (NS wr b Bn) ∧ Hid (Below w0.heap.size w0 wr) ∧ Hid (Below w.heap.size w wr) ∧ Hid (Fb wr w.heap.size #[.int .i64 0, .int .i64 0, .int .i64 0, .int .i64 0] 55)) (fun _ _ _ _ _ iv _ => n - (intOf iv).toNat)
    case atStart => exact ⟨0, by omega, rfl, hid rfl, HN.out, HW1.out, HB1.out, HG1.out⟩
    case round =>
      clear HN HW1 HB1 HG1
      obtain ⟨k, hk, rfl, hX, hN, hW, hB, hG⟩ := hrel
      by_cases hlt : k < n
      · obtain ⟨y, hy, hym⟩ := get_at HL.out hlt
        have HPr := hid (HX.out.go (Go2.below hW.out))
        obtain ⟨ad, hA, had, hc1, hc2⟩ := FH.cells HPr.out.lies hy
        simp only at hA
        subst hA
        have hb2 := (Below.refl wr.heap.size wr).alloc (Nat.le_refl _) (.cells #[.string y.name, .slice y.A y.n y.c] 75)
        have HN2 := hid (hN.out.below hb2)
        have HW2 := hid (below_step hW.out hb2)
        have HB2 := hid (below_step hB.out hb2)
        have HG2 := hid (hG.out.below hb2 hG.out.lt)
        have HY2 := hid ((HPr.out.all y hym).go (Go2.below hb2))
        have Hget := hid (show fs[k]? = some y.f by rw [Hbs.out, List.getElem?_map, hy]; rfl)
        clear hy hym HPr hb2 hN hW hB hG
        go_wp2_with fail
        refine (checkBlocks_any y ex b Bn _ HY2.out HN2.out).mono ?_
        have hq : ∃ q, blocksE Bn y.f.bs = q := ⟨_, rfl⟩
        obtain ⟨⟨qa, qb, qe⟩, hq⟩ := hq
        rw [hq]
        rintro e w3 ⟨rfl, hb3⟩
        have HN3 := hid (HN2.out.below hb3)
        have HW3 := hid (below_step HW2.out hb3)
        have HB3 := hid (below_step HB2.out hb3)
        have HG3 := hid (HG2.out.below hb3 HG2.out.lt)
        have Hq := hid hq
        clear hb3 HN2 HW2 HB2 HG2 HY2 hc1 hc2 had hq
        cases h0 : (qe == 0) with
        | false =>
          as_aux_lemma =>
            have h1 : (qe != 0) = true := by show (!(qe == 0)) = true; rw [h0]; rfl
            have Hr := hid (funcs_hit (by rw [HBn.out]; exact Hd.out) (by rw [HBn.out]; exact hX.out) (show k < fs.length by rw [Hlb.out, HL.out]; exact hlt) (by rw [HBn.out]; exact fn_some Hget.out Hq.out h0))
            have HZ := hid (fun a b c d => (((HB3.out.setCell (p := ⟨w.heap.size, 0, none⟩) (Nat.le_refl _) a).setCell (p := ⟨w.heap.size, 1, none⟩) (Nat.le_refl _) b).setCell (p := ⟨w.heap.size, 2, none⟩) (Nat.le_refl _) c).setCell (p := ⟨w.heap.size, 3, none⟩) (Nat.le_refl _) d)
            obtain ⟨g0, g1, g2, g3⟩ := Fb.four HG3.out
            have z0 := HG3.out.frozen 0
            have z1 := HG3.out.frozen 1
            have z2 := HG3.out.frozen 2
            have z3 := HG3.out.frozen 3
            have hlt1 := HG3.out.lt
            go_wp2_with fail
            refine bodyPost_ret (v := .tuple #[.agg #[.int .i64 3, .int .i64 k, .int .i64 qa, .int .i64 qb], .int .i64 qe]) (by simp [results, Tryz.results55, go_sem, g0, g1, g2, g3, z0, z1, z2, z3, hlt1]) rfl ?_
            exact retNd_mk Hr.out (HZ.out _ _ _ _)
        | true =>
          as_aux_lemma =>
            have h1 : (qe != 0) = false := by show (!(qe == 0)) = false; rw [h0]; rfl
            have Hr := hid (some_step hX.out (fn_none Hget.out Hq.out h0))
            go_wp2_with fail
            go_roundw
            case rel => exact ⟨k + 1, by omega, by go_num, Hr, HN3, HW3, HB3, HG3⟩
            case measure => simp [intOf]; omega
      · as_aux_lemma =>
          obtain rfl : k = n := by omega
          have Hr := hid (funcs_end (by rw [HBn.out]; exact Hd.out) (by rw [HBn.out]; exact hX.out) (show k = fs.length by rw [Hlb.out, HL.out]))
          have HZ := hid (fun a b c d => (((hB.out.setCell (p := ⟨w.heap.size, 0, none⟩) (Nat.le_refl _) a).setCell (p := ⟨w.heap.size, 1, none⟩) (Nat.le_refl _) b).setCell (p := ⟨w.heap.size, 2, none⟩) (Nat.le_refl _) c).setCell (p := ⟨w.heap.size, 3, none⟩) (Nat.le_refl _) d)
          obtain ⟨g0, g1, g2, g3⟩ := Fb.four hG.out
          have z0 := hG.out.frozen 0
          have z1 := hG.out.frozen 1
          have z2 := hG.out.frozen 2
          have z3 := hG.out.frozen 3
          have hlt1 := hG.out.lt
          go_wp2_with fail
          refine bodyPost_ret (v := .tuple #[.agg #[.int .i64 0, .int .i64 0, .int .i64 0, .int .i64 0], .int .i64 0]) (by simp [results, Tryz.results55, go_sem, g0, g1, g2, g3, z0, z1, z2, z3, hlt1]) rfl ?_
          exact retNd_mk Hr.out (HZ.out _ _ _ _)
end Go.Proofs.YtmbelhdkaepohaaGreatDoor

namespace Go.Proofs.YtmbelhdkaepohaaGreatDoor
set_option maxRecDepth 20000
set_option linter.unusedVariables false
set_option linter.unusedSimpArgs false
open Go.ChangeShapes Go.WideShapes Go.ChangeAt Go.RowKit

def wiB (n l h : Int) : Bool := decide (l ≤ n) && decide (n ≤ h)
theorem within_any (n l h : Int) (w : World) : Calls Tryz.prog 75 #[.int .i64 n, .int .i64 l, .int .i64 h] w fun e w' => e = .returned (.bool (wiB n l h)) ∧ w = w' := by
  unfold wiB
  cases h1 : decide (l ≤ n) with
  | false =>
    go_enter Tryz.func75, Tryz.ntmps75
    go_wp2
    go_ret
    exact ⟨rfl, rfl⟩
  | true =>
    cases h2 : decide (n ≤ h) with
    | false =>
      go_enter Tryz.func75, Tryz.ntmps75
      go_wp2
      go_ret
      exact ⟨rfl, rfl⟩
    | true =>
      go_enter Tryz.func75, Tryz.ntmps75
      go_wp2
      go_ret
      exact ⟨rfl, rfl⟩

set_option maxHeartbeats 1600000 in
theorem allStr_any (A : Option Addr) (n c : Nat) (l : List ByteArray) (w : World) (hA : SArg w A n l) :
    Calls Tryz.prog 120 #[.slice A n c, .func (Fn.func 96) #[] #[]] w fun e w' => e = .returned (.bool (l.all nameB)) ∧ Below w.heap.size w w' := by
  have HA := hid hA
  have hn := hA.few
  have HL := hid hA.len
  clear hA
  go_enter Tryz.func120, Tryz.ntmps120
  go_wp2_with fail
  go_loopw [6, 9] (fun _ iv wr => ∃ k : Nat, k ≤ n ∧ iv = .int .i64 k ∧ Hid ((l.take k).all nameB = true) ∧ Hid (Below w.heap.size w wr)) (fun _ iv _ => n - (intOf iv).toNat)
  case atStart => exact ⟨0, by omega, rfl, hid rfl, Below.refl _ _⟩
  case round =>
    obtain ⟨k, hk, rfl, hX, hB⟩ := hrel
    by_cases hlt : k < n
    · obtain ⟨ad, rfl, hb, hc, hs⟩ := (HA.out.below hB.out).cell hlt
      have Hget := hid (show l[k]? = some (l.getD k ByteArray.empty) by rw [List.getD_eq_getElem?_getD, List.getElem?_eq_getElem (by have := HL.out; omega)]; rfl)
      generalize l.getD k ByteArray.empty = y at *
      go_wp2_with fail
      refine (devIsName_any y _ (by unfold maxLen; omega)).mono ?_
      rintro e w2 ⟨rfl, rfl⟩
      cases hy : nameB y with
      | false =>
        as_aux_lemma =>
          have Hr := hid (all_no (p := nameB) Hget.out hy)
          clear hy
          go_wp2_with fail
          go_ret
          exact ⟨by rw [Hr.out]; rfl, hB.out⟩
      | true =>
        as_aux_lemma =>
          have Hr := hid (take_all (p := nameB) hX.out Hget.out hy)
          clear hy
          go_wp2_with fail
          go_roundw
          case rel => exact ⟨k + 1, by omega, by go_num, Hr, hB⟩
          case measure => simp [intOf]; omega
    · as_aux_lemma =>
        obtain rfl : k = n := by omega
        have Hr := hid (show l.all nameB = true by rw [← List.take_length (l := l), HL.out]; exact hX.out)
        go_wp2_with fail
        go_ret
        exact ⟨by rw [Hr.out]; rfl, hB.out⟩

theorem Shp.pos0 {w : World} (h : Shp w) : 0 < w.heap.size := World.block_lt_of_cell? w _ (h 0 _ rfl)
/-- What validStmt asks of the fields, given a shape. -/
def vwB (df : Bool) (lo hi tg : Int) (t : Stm) : Bool :=
  (if df then nameB t.d else decide (t.d = ⟨#[]⟩)) && (wiB (t.us.length : Nat) lo hi && (t.us.all nameB && (((t.ts.length : Nat) : Int) == tg && t.ts.all nameB)))
theorem shp5 {w : World} (h : Shp w) (j : Nat) {k : ByteArray} {d : Bool} {l m t : Int} (hs : (shpCells.drop (5 * j)).take 5 = shp k d l m t) :
    w.cell? ⟨0, 5 * j, none⟩ = some (.string k) ∧ w.cell? ⟨0, 5 * j + 1, none⟩ = some (.bool d) ∧ w.cell? ⟨0, 5 * j + 2, none⟩ = some (.int .i64 l) ∧ w.cell? ⟨0, 5 * j + 3, none⟩ = some (.int .i64 m) ∧ w.cell? ⟨0, 5 * j + 4, none⟩ = some (.int .i64 t) := by
  have key : ∀ i, i < 5 → ∀ u, (shp k d l m t)[i]? = some u → shpCells[5 * j + i]? = some u := by
    intro i hi u hu
    rw [← hs, List.getElem?_take, if_pos hi, List.getElem?_drop] at hu
    exact hu
  exact ⟨h _ _ (key 0 (by omega) _ rfl), h _ _ (key 1 (by omega) _ rfl), h _ _ (key 2 (by omega) _ rfl), h _ _ (key 3 (by omega) _ rfl), h _ _ (key 4 (by omega) _ rfl)⟩
theorem stm_is1 (d : ByteArray) (us ts : List ByteArray) : stmB ⟨1, d, us, ts⟩ = vwB true 0 4 0 ⟨1, d, us, ts⟩ := by
  unfold stmB namesB vwB wiB okP
  simp only
  generalize us.all nameB = x
  generalize ts.all nameB = y
  generalize nameB d = z
  generalize decide (d = ⟨#[]⟩) = v
  generalize us.length = a
  generalize ts.length = b
  rw [Bool.eq_iff_iff]
  cases x <;> cases y <;> cases z <;> cases v <;> simp <;> omega
theorem stm_is2 (d : ByteArray) (us ts : List ByteArray) : stmB ⟨2, d, us, ts⟩ = vwB false 1 4 0 ⟨2, d, us, ts⟩ := by
  unfold stmB namesB vwB wiB okP
  simp only
  generalize us.all nameB = x
  generalize ts.all nameB = y
  generalize nameB d = z
  generalize decide (d = ⟨#[]⟩) = v
  generalize us.length = a
  generalize ts.length = b
  rw [Bool.eq_iff_iff]
  cases x <;> cases y <;> cases z <;> cases v <;> simp <;> omega
theorem stm_is3 (d : ByteArray) (us ts : List ByteArray) : stmB ⟨3, d, us, ts⟩ = vwB false 0 0 1 ⟨3, d, us, ts⟩ := by
  unfold stmB namesB vwB wiB okP
  simp only
  generalize us.all nameB = x
  generalize ts.all nameB = y
  generalize nameB d = z
  generalize decide (d = ⟨#[]⟩) = v
  generalize us.length = a
  generalize ts.length = b
  rw [Bool.eq_iff_iff]
  cases x <;> cases y <;> cases z <;> cases v <;> simp <;> omega
theorem stm_is4 (d : ByteArray) (us ts : List ByteArray) : stmB ⟨4, d, us, ts⟩ = vwB true 0 0 0 ⟨4, d, us, ts⟩ := by
  unfold stmB namesB vwB wiB okP
  simp only
  generalize us.all nameB = x
  generalize ts.all nameB = y
  generalize nameB d = z
  generalize decide (d = ⟨#[]⟩) = v
  generalize us.length = a
  generalize ts.length = b
  rw [Bool.eq_iff_iff]
  cases x <;> cases y <;> cases z <;> cases v <;> simp <;> omega
theorem stm_is5 (d : ByteArray) (us ts : List ByteArray) : stmB ⟨5, d, us, ts⟩ = vwB false 1 1 0 ⟨5, d, us, ts⟩ := by
  unfold stmB namesB vwB wiB okP
  simp only
  generalize us.all nameB = x
  generalize ts.all nameB = y
  generalize nameB d = z
  generalize decide (d = ⟨#[]⟩) = v
  generalize us.length = a
  generalize ts.length = b
  rw [Bool.eq_iff_iff]
  cases x <;> cases y <;> cases z <;> cases v <;> simp <;> omega
theorem stm_is6 (d : ByteArray) (us ts : List ByteArray) : stmB ⟨6, d, us, ts⟩ = vwB true 0 0 0 ⟨6, d, us, ts⟩ := by
  unfold stmB namesB vwB wiB okP
  simp only
  generalize us.all nameB = x
  generalize ts.all nameB = y
  generalize nameB d = z
  generalize decide (d = ⟨#[]⟩) = v
  generalize us.length = a
  generalize ts.length = b
  rw [Bool.eq_iff_iff]
  cases x <;> cases y <;> cases z <;> cases v <;> simp <;> omega
theorem stm_is7 (d : ByteArray) (us ts : List ByteArray) : stmB ⟨7, d, us, ts⟩ = vwB false 0 0 1 ⟨7, d, us, ts⟩ := by
  unfold stmB namesB vwB wiB okP
  simp only
  generalize us.all nameB = x
  generalize ts.all nameB = y
  generalize nameB d = z
  generalize decide (d = ⟨#[]⟩) = v
  generalize us.length = a
  generalize ts.length = b
  rw [Bool.eq_iff_iff]
  cases x <;> cases y <;> cases z <;> cases v <;> simp <;> omega
theorem stm_is8 (d : ByteArray) (us ts : List ByteArray) : stmB ⟨8, d, us, ts⟩ = vwB false 1 1 2 ⟨8, d, us, ts⟩ := by
  unfold stmB namesB vwB wiB okP
  simp only
  generalize us.all nameB = x
  generalize ts.all nameB = y
  generalize nameB d = z
  generalize decide (d = ⟨#[]⟩) = v
  generalize us.length = a
  generalize ts.length = b
  rw [Bool.eq_iff_iff]
  cases x <;> cases y <;> cases z <;> cases v <;> simp <;> omega
theorem stm_is9 (d : ByteArray) (us ts : List ByteArray) : stmB ⟨9, d, us, ts⟩ = vwB false 0 0 0 ⟨9, d, us, ts⟩ := by
  unfold stmB namesB vwB wiB okP
  simp only
  generalize us.all nameB = x
  generalize ts.all nameB = y
  generalize nameB d = z
  generalize decide (d = ⟨#[]⟩) = v
  generalize us.length = a
  generalize ts.length = b
  rw [Bool.eq_iff_iff]
  cases x <;> cases y <;> cases z <;> cases v <;> simp <;> omega
set_option maxHeartbeats 6400000 in
theorem validStmt_1 (d : ByteArray) (A : Option Addr) (n c : Nat) (B : Option Addr) (m c2 : Nat) (us ts : List ByteArray) (w : World) (h : StArg w 1 d A n B m ⟨1, d, us, ts⟩) (hs : Shp w) :
    Calls Tryz.prog 116 #[.agg #[.int .i64 1, .string d, .slice A n c, .slice B m c2]] w fun e w' => e = .returned (.bool (stmB ⟨1, d, us, ts⟩)) ∧ Below w.heap.size w w' := by
  rw [stm_is1]
  obtain ⟨hU, hT, -, -, hd⟩ := h
  simp only at hU hT
  have Hd := hid (show d.size ≤ maxLen by unfold maxLen; omega)
  have hb2 := ((Below.refl w.heap.size w).alloc (Nat.le_refl _) (.cells #[.int .i64 1, .string d, .slice A n c, .slice B m c2] 101)).alloc (by rw [World.size_alloc]; omega) (.cells (shp noB true 0 4 0).toArray 158)
  have Hf := hid ((Fb.new w #[.int .i64 1, .string d, .slice A n c, .slice B m c2] 101).alloc (.cells (shp noB true 0 4 0).toArray 158))
  have Hg := hid (show Fb ((w.alloc (.cells #[.int .i64 1, .string d, .slice A n c, .slice B m c2] 101)).alloc (.cells (shp noB true 0 4 0).toArray 158)) (w.heap.size + 1) (shp noB true 0 4 0).toArray 158 by have := Fb.new (w.alloc (.cells #[.int .i64 1, .string d, .slice A n c, .slice B m c2] 101)) (shp noB true 0 4 0).toArray 158; rwa [World.size_alloc] at this)
  have HU := hid (hU.below hb2)
  have HT := hid (hT.below hb2)
  have HB := hid hb2
  have HLU := hid (show us.length = n from hU.len)
  have HLT := hid (show ts.length = m from hT.len)
  obtain ⟨z0, z1, z2, z3, z4⟩ := shp5 hs 1 (k := noB) (d := true) (l := 0) (m := 4) (t := 0) rfl
  have z0 : w.cell? ⟨0, 5, none⟩ = some (.string noB) := z0
  have z1 : w.cell? ⟨0, 6, none⟩ = some (.bool true) := z1
  have z2 : w.cell? ⟨0, 7, none⟩ = some (.int .i64 0) := z2
  have z3 : w.cell? ⟨0, 8, none⟩ = some (.int .i64 4) := z3
  have z4 : w.cell? ⟨0, 9, none⟩ = some (.int .i64 0) := z4
  have hw0 : wiB 1 1 9 = true := by decide
  have hn0 := hU.few
  have hm0 := hT.few
  have hpos := hs.pos0
  clear hU hT hb2 hs
  go_enter Tryz.func116, Tryz.ntmps116
  go_wp2_with fail
  refine (within_any _ _ _ _).mono ?_
  rintro e w2 ⟨rfl, rfl⟩
  obtain ⟨a0, a1, a2, a3⟩ := Fb.four Hf.out
  have b1 : _ = some (Value.bool true) := Hg.out.cell 1
  have b2 : _ = some (Value.int .i64 0) := Hg.out.cell 2
  have b3 : _ = some (Value.int .i64 4) := Hg.out.cell 3
  have b4 : _ = some (Value.int .i64 0) := Hg.out.cell 4
  go_wp2_with fail
  skip
  refine (devIsName_any d _ Hd.out).mono ?_
  rintro e w2 ⟨rfl, rfl⟩
  cases hv : nameB d with
  | false =>
    as_aux_lemma =>
      have Hr := hid (show vwB true 0 4 0 ⟨1, d, us, ts⟩ = false by unfold vwB; simp only [hv]; rfl)
      clear hv
      go_wp2_with fail
      go_ret
      exact ⟨by rw [Hr.out]; rfl, HB.out⟩
  | true =>
    have Hv := hid hv
    clear hv
    go_wp2_with fail
    refine (within_any _ _ _ _).mono ?_
    rintro e w3 ⟨rfl, rfl⟩
    cases hx : wiB n 0 4 with
    | false =>
      as_aux_lemma =>
        have Hr := hid (show vwB true 0 4 0 ⟨1, d, us, ts⟩ = false by unfold vwB; simp only [HLU.out, hx]; simp)
        clear hx
        go_wp2_with fail
        go_ret
        exact ⟨by rw [Hr.out]; rfl, HB.out⟩
    | true =>
      have Hx := hid hx
      clear hx
      go_wp2_with fail
      refine (allStr_any A n c us _ HU.out).mono ?_
      rintro e w4 ⟨rfl, hb4⟩
      have Hf4 := hid (Hf.out.below hb4 Hf.out.lt)
      have Hg4 := hid (Hg.out.below hb4 Hg.out.lt)
      have HT4 := hid (HT.out.below hb4)
      have HB4 := hid (below_step HB.out hb4)
      clear hb4 a0 a1 a2 a3 b1 b2 b3 b4 Hf Hg HT HB HU
      obtain ⟨a0, a1, a2, a3⟩ := Fb.four Hf4.out
      have b4 : _ = some (Value.int .i64 0) := Hg4.out.cell 4
      cases hu : us.all nameB with
      | false =>
        as_aux_lemma =>
          have Hr := hid (show vwB true 0 4 0 ⟨1, d, us, ts⟩ = false by unfold vwB; simp only [HLU.out, hu]; simp)
          clear hu
          go_wp2_with fail
          go_ret
          exact ⟨by rw [Hr.out]; rfl, HB4.out⟩
      | true =>
        have Hu := hid hu
        clear hu
        cases hm : ((m : Int) == 0) with
        | false =>
          as_aux_lemma =>
            have Hr := hid (show vwB true 0 4 0 ⟨1, d, us, ts⟩ = false by unfold vwB; simp only [HLT.out, hm]; simp)
            go_wp2_with fail
            go_ret
            exact ⟨by rw [Hr.out]; rfl, HB4.out⟩
        | true =>
          as_aux_lemma =>
            have Hr := hid (show vwB true 0 4 0 ⟨1, d, us, ts⟩ = ts.all nameB by unfold vwB; simp only [HLU.out, HLT.out, hm, Hx.out, Hu.out, Hv.out]; simp)
            go_wp2_with fail
            refine (allStr_any B m c2 ts _ HT4.out).mono ?_
            rintro e w5 ⟨rfl, hb5⟩
            have HB5 := hid (below_step HB4.out hb5)
            clear hb5 hm
            cases hy : ts.all nameB with
            | false =>
              rw [hy] at Hr
              clear hy
              go_wp2_with fail
              go_ret
              exact ⟨by rw [Hr.out]; rfl, HB5.out⟩
            | true =>
              rw [hy] at Hr
              clear hy
              go_wp2_with fail
              go_ret
              exact ⟨by rw [Hr.out]; rfl, HB5.out⟩
set_option maxHeartbeats 6400000 in
theorem validStmt_2 (d : ByteArray) (A : Option Addr) (n c : Nat) (B : Option Addr) (m c2 : Nat) (us ts : List ByteArray) (w : World) (h : StArg w 2 d A n B m ⟨2, d, us, ts⟩) (hs : Shp w) :
    Calls Tryz.prog 116 #[.agg #[.int .i64 2, .string d, .slice A n c, .slice B m c2]] w fun e w' => e = .returned (.bool (stmB ⟨2, d, us, ts⟩)) ∧ Below w.heap.size w w' := by
  rw [stm_is2]
  obtain ⟨hU, hT, -, -, hd⟩ := h
  simp only at hU hT
  have Hd := hid (show d.size ≤ maxLen by unfold maxLen; omega)
  have hb2 := ((Below.refl w.heap.size w).alloc (Nat.le_refl _) (.cells #[.int .i64 2, .string d, .slice A n c, .slice B m c2] 101)).alloc (by rw [World.size_alloc]; omega) (.cells (shp kwUse false 1 4 0).toArray 158)
  have Hf := hid ((Fb.new w #[.int .i64 2, .string d, .slice A n c, .slice B m c2] 101).alloc (.cells (shp kwUse false 1 4 0).toArray 158))
  have Hg := hid (show Fb ((w.alloc (.cells #[.int .i64 2, .string d, .slice A n c, .slice B m c2] 101)).alloc (.cells (shp kwUse false 1 4 0).toArray 158)) (w.heap.size + 1) (shp kwUse false 1 4 0).toArray 158 by have := Fb.new (w.alloc (.cells #[.int .i64 2, .string d, .slice A n c, .slice B m c2] 101)) (shp kwUse false 1 4 0).toArray 158; rwa [World.size_alloc] at this)
  have HU := hid (hU.below hb2)
  have HT := hid (hT.below hb2)
  have HB := hid hb2
  have HLU := hid (show us.length = n from hU.len)
  have HLT := hid (show ts.length = m from hT.len)
  obtain ⟨z0, z1, z2, z3, z4⟩ := shp5 hs 2 (k := kwUse) (d := false) (l := 1) (m := 4) (t := 0) rfl
  have z0 : w.cell? ⟨0, 10, none⟩ = some (.string kwUse) := z0
  have z1 : w.cell? ⟨0, 11, none⟩ = some (.bool false) := z1
  have z2 : w.cell? ⟨0, 12, none⟩ = some (.int .i64 1) := z2
  have z3 : w.cell? ⟨0, 13, none⟩ = some (.int .i64 4) := z3
  have z4 : w.cell? ⟨0, 14, none⟩ = some (.int .i64 0) := z4
  have hw0 : wiB 2 1 9 = true := by decide
  have hn0 := hU.few
  have hm0 := hT.few
  have hpos := hs.pos0
  clear hU hT hb2 hs
  go_enter Tryz.func116, Tryz.ntmps116
  go_wp2_with fail
  refine (within_any _ _ _ _).mono ?_
  rintro e w2 ⟨rfl, rfl⟩
  obtain ⟨a0, a1, a2, a3⟩ := Fb.four Hf.out
  have b1 : _ = some (Value.bool false) := Hg.out.cell 1
  have b2 : _ = some (Value.int .i64 1) := Hg.out.cell 2
  have b3 : _ = some (Value.int .i64 4) := Hg.out.cell 3
  have b4 : _ = some (Value.int .i64 0) := Hg.out.cell 4
  have he1 : (d.toList == ([] : List UInt8)) = decide (d = ⟨#[]⟩) := empty_list d
  have he2 : (d.toList == (⟨#[]⟩ : ByteArray).toList) = decide (d = ⟨#[]⟩) := by rw [show ((⟨#[]⟩ : ByteArray).toList) = [] from toList_data _]; exact empty_list d
  cases hv : decide (d = ⟨#[]⟩) with
  | false =>
    as_aux_lemma =>
      have Hr := hid (show vwB false 1 4 0 ⟨2, d, us, ts⟩ = false by unfold vwB; simp only [hv]; rfl)
      rw [hv] at he1 he2
      clear hv
      go_wp2_with fail
      go_ret
      exact ⟨by rw [Hr.out]; rfl, HB.out⟩
  | true =>
    have Hv := hid hv
    rw [hv] at he1 he2
    clear hv
    go_wp2_with fail
    skip
    refine (within_any _ _ _ _).mono ?_
    rintro e w3 ⟨rfl, rfl⟩
    cases hx : wiB n 1 4 with
    | false =>
      as_aux_lemma =>
        have Hr := hid (show vwB false 1 4 0 ⟨2, d, us, ts⟩ = false by unfold vwB; simp only [HLU.out, hx]; simp)
        clear hx
        go_wp2_with fail
        go_ret
        exact ⟨by rw [Hr.out]; rfl, HB.out⟩
    | true =>
      have Hx := hid hx
      clear hx
      go_wp2_with fail
      refine (allStr_any A n c us _ HU.out).mono ?_
      rintro e w4 ⟨rfl, hb4⟩
      have Hf4 := hid (Hf.out.below hb4 Hf.out.lt)
      have Hg4 := hid (Hg.out.below hb4 Hg.out.lt)
      have HT4 := hid (HT.out.below hb4)
      have HB4 := hid (below_step HB.out hb4)
      clear hb4 a0 a1 a2 a3 b1 b2 b3 b4 Hf Hg HT HB HU
      obtain ⟨a0, a1, a2, a3⟩ := Fb.four Hf4.out
      have b4 : _ = some (Value.int .i64 0) := Hg4.out.cell 4
      cases hu : us.all nameB with
      | false =>
        as_aux_lemma =>
          have Hr := hid (show vwB false 1 4 0 ⟨2, d, us, ts⟩ = false by unfold vwB; simp only [HLU.out, hu]; simp)
          clear hu
          go_wp2_with fail
          go_ret
          exact ⟨by rw [Hr.out]; rfl, HB4.out⟩
      | true =>
        have Hu := hid hu
        clear hu
        cases hm : ((m : Int) == 0) with
        | false =>
          as_aux_lemma =>
            have Hr := hid (show vwB false 1 4 0 ⟨2, d, us, ts⟩ = false by unfold vwB; simp only [HLT.out, hm]; simp)
            go_wp2_with fail
            go_ret
            exact ⟨by rw [Hr.out]; rfl, HB4.out⟩
        | true =>
          as_aux_lemma =>
            have Hr := hid (show vwB false 1 4 0 ⟨2, d, us, ts⟩ = ts.all nameB by unfold vwB; simp only [HLU.out, HLT.out, hm, Hx.out, Hu.out, Hv.out]; simp)
            go_wp2_with fail
            refine (allStr_any B m c2 ts _ HT4.out).mono ?_
            rintro e w5 ⟨rfl, hb5⟩
            have HB5 := hid (below_step HB4.out hb5)
            clear hb5 hm
            cases hy : ts.all nameB with
            | false =>
              rw [hy] at Hr
              clear hy
              go_wp2_with fail
              go_ret
              exact ⟨by rw [Hr.out]; rfl, HB5.out⟩
            | true =>
              rw [hy] at Hr
              clear hy
              go_wp2_with fail
              go_ret
              exact ⟨by rw [Hr.out]; rfl, HB5.out⟩
set_option maxHeartbeats 6400000 in
theorem validStmt_3 (d : ByteArray) (A : Option Addr) (n c : Nat) (B : Option Addr) (m c2 : Nat) (us ts : List ByteArray) (w : World) (h : StArg w 3 d A n B m ⟨3, d, us, ts⟩) (hs : Shp w) :
    Calls Tryz.prog 116 #[.agg #[.int .i64 3, .string d, .slice A n c, .slice B m c2]] w fun e w' => e = .returned (.bool (stmB ⟨3, d, us, ts⟩)) ∧ Below w.heap.size w w' := by
  rw [stm_is3]
  obtain ⟨hU, hT, -, -, hd⟩ := h
  simp only at hU hT
  have Hd := hid (show d.size ≤ maxLen by unfold maxLen; omega)
  have hb2 := ((Below.refl w.heap.size w).alloc (Nat.le_refl _) (.cells #[.int .i64 3, .string d, .slice A n c, .slice B m c2] 101)).alloc (by rw [World.size_alloc]; omega) (.cells (shp kwCall false 0 0 1).toArray 158)
  have Hf := hid ((Fb.new w #[.int .i64 3, .string d, .slice A n c, .slice B m c2] 101).alloc (.cells (shp kwCall false 0 0 1).toArray 158))
  have Hg := hid (show Fb ((w.alloc (.cells #[.int .i64 3, .string d, .slice A n c, .slice B m c2] 101)).alloc (.cells (shp kwCall false 0 0 1).toArray 158)) (w.heap.size + 1) (shp kwCall false 0 0 1).toArray 158 by have := Fb.new (w.alloc (.cells #[.int .i64 3, .string d, .slice A n c, .slice B m c2] 101)) (shp kwCall false 0 0 1).toArray 158; rwa [World.size_alloc] at this)
  have HU := hid (hU.below hb2)
  have HT := hid (hT.below hb2)
  have HB := hid hb2
  have HLU := hid (show us.length = n from hU.len)
  have HLT := hid (show ts.length = m from hT.len)
  obtain ⟨z0, z1, z2, z3, z4⟩ := shp5 hs 3 (k := kwCall) (d := false) (l := 0) (m := 0) (t := 1) rfl
  have z0 : w.cell? ⟨0, 15, none⟩ = some (.string kwCall) := z0
  have z1 : w.cell? ⟨0, 16, none⟩ = some (.bool false) := z1
  have z2 : w.cell? ⟨0, 17, none⟩ = some (.int .i64 0) := z2
  have z3 : w.cell? ⟨0, 18, none⟩ = some (.int .i64 0) := z3
  have z4 : w.cell? ⟨0, 19, none⟩ = some (.int .i64 1) := z4
  have hw0 : wiB 3 1 9 = true := by decide
  have hn0 := hU.few
  have hm0 := hT.few
  have hpos := hs.pos0
  clear hU hT hb2 hs
  go_enter Tryz.func116, Tryz.ntmps116
  go_wp2_with fail
  refine (within_any _ _ _ _).mono ?_
  rintro e w2 ⟨rfl, rfl⟩
  obtain ⟨a0, a1, a2, a3⟩ := Fb.four Hf.out
  have b1 : _ = some (Value.bool false) := Hg.out.cell 1
  have b2 : _ = some (Value.int .i64 0) := Hg.out.cell 2
  have b3 : _ = some (Value.int .i64 0) := Hg.out.cell 3
  have b4 : _ = some (Value.int .i64 1) := Hg.out.cell 4
  have he1 : (d.toList == ([] : List UInt8)) = decide (d = ⟨#[]⟩) := empty_list d
  have he2 : (d.toList == (⟨#[]⟩ : ByteArray).toList) = decide (d = ⟨#[]⟩) := by rw [show ((⟨#[]⟩ : ByteArray).toList) = [] from toList_data _]; exact empty_list d
  cases hv : decide (d = ⟨#[]⟩) with
  | false =>
    as_aux_lemma =>
      have Hr := hid (show vwB false 0 0 1 ⟨3, d, us, ts⟩ = false by unfold vwB; simp only [hv]; rfl)
      rw [hv] at he1 he2
      clear hv
      go_wp2_with fail
      go_ret
      exact ⟨by rw [Hr.out]; rfl, HB.out⟩
  | true =>
    have Hv := hid hv
    rw [hv] at he1 he2
    clear hv
    go_wp2_with fail
    skip
    refine (within_any _ _ _ _).mono ?_
    rintro e w3 ⟨rfl, rfl⟩
    cases hx : wiB n 0 0 with
    | false =>
      as_aux_lemma =>
        have Hr := hid (show vwB false 0 0 1 ⟨3, d, us, ts⟩ = false by unfold vwB; simp only [HLU.out, hx]; simp)
        clear hx
        go_wp2_with fail
        go_ret
        exact ⟨by rw [Hr.out]; rfl, HB.out⟩
    | true =>
      have Hx := hid hx
      clear hx
      go_wp2_with fail
      refine (allStr_any A n c us _ HU.out).mono ?_
      rintro e w4 ⟨rfl, hb4⟩
      have Hf4 := hid (Hf.out.below hb4 Hf.out.lt)
      have Hg4 := hid (Hg.out.below hb4 Hg.out.lt)
      have HT4 := hid (HT.out.below hb4)
      have HB4 := hid (below_step HB.out hb4)
      clear hb4 a0 a1 a2 a3 b1 b2 b3 b4 Hf Hg HT HB HU
      obtain ⟨a0, a1, a2, a3⟩ := Fb.four Hf4.out
      have b4 : _ = some (Value.int .i64 1) := Hg4.out.cell 4
      cases hu : us.all nameB with
      | false =>
        as_aux_lemma =>
          have Hr := hid (show vwB false 0 0 1 ⟨3, d, us, ts⟩ = false by unfold vwB; simp only [HLU.out, hu]; simp)
          clear hu
          go_wp2_with fail
          go_ret
          exact ⟨by rw [Hr.out]; rfl, HB4.out⟩
      | true =>
        have Hu := hid hu
        clear hu
        cases hm : ((m : Int) == 1) with
        | false =>
          as_aux_lemma =>
            have Hr := hid (show vwB false 0 0 1 ⟨3, d, us, ts⟩ = false by unfold vwB; simp only [HLT.out, hm]; simp)
            go_wp2_with fail
            go_ret
            exact ⟨by rw [Hr.out]; rfl, HB4.out⟩
        | true =>
          as_aux_lemma =>
            have Hr := hid (show vwB false 0 0 1 ⟨3, d, us, ts⟩ = ts.all nameB by unfold vwB; simp only [HLU.out, HLT.out, hm, Hx.out, Hu.out, Hv.out]; simp)
            go_wp2_with fail
            refine (allStr_any B m c2 ts _ HT4.out).mono ?_
            rintro e w5 ⟨rfl, hb5⟩
            have HB5 := hid (below_step HB4.out hb5)
            clear hb5 hm
            cases hy : ts.all nameB with
            | false =>
              rw [hy] at Hr
              clear hy
              go_wp2_with fail
              go_ret
              exact ⟨by rw [Hr.out]; rfl, HB5.out⟩
            | true =>
              rw [hy] at Hr
              clear hy
              go_wp2_with fail
              go_ret
              exact ⟨by rw [Hr.out]; rfl, HB5.out⟩
set_option maxHeartbeats 6400000 in
theorem validStmt_4 (d : ByteArray) (A : Option Addr) (n c : Nat) (B : Option Addr) (m c2 : Nat) (us ts : List ByteArray) (w : World) (h : StArg w 4 d A n B m ⟨4, d, us, ts⟩) (hs : Shp w) :
    Calls Tryz.prog 116 #[.agg #[.int .i64 4, .string d, .slice A n c, .slice B m c2]] w fun e w' => e = .returned (.bool (stmB ⟨4, d, us, ts⟩)) ∧ Below w.heap.size w w' := by
  rw [stm_is4]
  obtain ⟨hU, hT, -, -, hd⟩ := h
  simp only at hU hT
  have Hd := hid (show d.size ≤ maxLen by unfold maxLen; omega)
  have hb2 := ((Below.refl w.heap.size w).alloc (Nat.le_refl _) (.cells #[.int .i64 4, .string d, .slice A n c, .slice B m c2] 101)).alloc (by rw [World.size_alloc]; omega) (.cells (shp kwSource true 0 0 0).toArray 158)
  have Hf := hid ((Fb.new w #[.int .i64 4, .string d, .slice A n c, .slice B m c2] 101).alloc (.cells (shp kwSource true 0 0 0).toArray 158))
  have Hg := hid (show Fb ((w.alloc (.cells #[.int .i64 4, .string d, .slice A n c, .slice B m c2] 101)).alloc (.cells (shp kwSource true 0 0 0).toArray 158)) (w.heap.size + 1) (shp kwSource true 0 0 0).toArray 158 by have := Fb.new (w.alloc (.cells #[.int .i64 4, .string d, .slice A n c, .slice B m c2] 101)) (shp kwSource true 0 0 0).toArray 158; rwa [World.size_alloc] at this)
  have HU := hid (hU.below hb2)
  have HT := hid (hT.below hb2)
  have HB := hid hb2
  have HLU := hid (show us.length = n from hU.len)
  have HLT := hid (show ts.length = m from hT.len)
  obtain ⟨z0, z1, z2, z3, z4⟩ := shp5 hs 4 (k := kwSource) (d := true) (l := 0) (m := 0) (t := 0) rfl
  have z0 : w.cell? ⟨0, 20, none⟩ = some (.string kwSource) := z0
  have z1 : w.cell? ⟨0, 21, none⟩ = some (.bool true) := z1
  have z2 : w.cell? ⟨0, 22, none⟩ = some (.int .i64 0) := z2
  have z3 : w.cell? ⟨0, 23, none⟩ = some (.int .i64 0) := z3
  have z4 : w.cell? ⟨0, 24, none⟩ = some (.int .i64 0) := z4
  have hw0 : wiB 4 1 9 = true := by decide
  have hn0 := hU.few
  have hm0 := hT.few
  have hpos := hs.pos0
  clear hU hT hb2 hs
  go_enter Tryz.func116, Tryz.ntmps116
  go_wp2_with fail
  refine (within_any _ _ _ _).mono ?_
  rintro e w2 ⟨rfl, rfl⟩
  obtain ⟨a0, a1, a2, a3⟩ := Fb.four Hf.out
  have b1 : _ = some (Value.bool true) := Hg.out.cell 1
  have b2 : _ = some (Value.int .i64 0) := Hg.out.cell 2
  have b3 : _ = some (Value.int .i64 0) := Hg.out.cell 3
  have b4 : _ = some (Value.int .i64 0) := Hg.out.cell 4
  go_wp2_with fail
  skip
  refine (devIsName_any d _ Hd.out).mono ?_
  rintro e w2 ⟨rfl, rfl⟩
  cases hv : nameB d with
  | false =>
    as_aux_lemma =>
      have Hr := hid (show vwB true 0 0 0 ⟨4, d, us, ts⟩ = false by unfold vwB; simp only [hv]; rfl)
      clear hv
      go_wp2_with fail
      go_ret
      exact ⟨by rw [Hr.out]; rfl, HB.out⟩
  | true =>
    have Hv := hid hv
    clear hv
    go_wp2_with fail
    refine (within_any _ _ _ _).mono ?_
    rintro e w3 ⟨rfl, rfl⟩
    cases hx : wiB n 0 0 with
    | false =>
      as_aux_lemma =>
        have Hr := hid (show vwB true 0 0 0 ⟨4, d, us, ts⟩ = false by unfold vwB; simp only [HLU.out, hx]; simp)
        clear hx
        go_wp2_with fail
        go_ret
        exact ⟨by rw [Hr.out]; rfl, HB.out⟩
    | true =>
      have Hx := hid hx
      clear hx
      go_wp2_with fail
      refine (allStr_any A n c us _ HU.out).mono ?_
      rintro e w4 ⟨rfl, hb4⟩
      have Hf4 := hid (Hf.out.below hb4 Hf.out.lt)
      have Hg4 := hid (Hg.out.below hb4 Hg.out.lt)
      have HT4 := hid (HT.out.below hb4)
      have HB4 := hid (below_step HB.out hb4)
      clear hb4 a0 a1 a2 a3 b1 b2 b3 b4 Hf Hg HT HB HU
      obtain ⟨a0, a1, a2, a3⟩ := Fb.four Hf4.out
      have b4 : _ = some (Value.int .i64 0) := Hg4.out.cell 4
      cases hu : us.all nameB with
      | false =>
        as_aux_lemma =>
          have Hr := hid (show vwB true 0 0 0 ⟨4, d, us, ts⟩ = false by unfold vwB; simp only [HLU.out, hu]; simp)
          clear hu
          go_wp2_with fail
          go_ret
          exact ⟨by rw [Hr.out]; rfl, HB4.out⟩
      | true =>
        have Hu := hid hu
        clear hu
        cases hm : ((m : Int) == 0) with
        | false =>
          as_aux_lemma =>
            have Hr := hid (show vwB true 0 0 0 ⟨4, d, us, ts⟩ = false by unfold vwB; simp only [HLT.out, hm]; simp)
            go_wp2_with fail
            go_ret
            exact ⟨by rw [Hr.out]; rfl, HB4.out⟩
        | true =>
          as_aux_lemma =>
            have Hr := hid (show vwB true 0 0 0 ⟨4, d, us, ts⟩ = ts.all nameB by unfold vwB; simp only [HLU.out, HLT.out, hm, Hx.out, Hu.out, Hv.out]; simp)
            go_wp2_with fail
            refine (allStr_any B m c2 ts _ HT4.out).mono ?_
            rintro e w5 ⟨rfl, hb5⟩
            have HB5 := hid (below_step HB4.out hb5)
            clear hb5 hm
            cases hy : ts.all nameB with
            | false =>
              rw [hy] at Hr
              clear hy
              go_wp2_with fail
              go_ret
              exact ⟨by rw [Hr.out]; rfl, HB5.out⟩
            | true =>
              rw [hy] at Hr
              clear hy
              go_wp2_with fail
              go_ret
              exact ⟨by rw [Hr.out]; rfl, HB5.out⟩
set_option maxHeartbeats 6400000 in
theorem validStmt_5 (d : ByteArray) (A : Option Addr) (n c : Nat) (B : Option Addr) (m c2 : Nat) (us ts : List ByteArray) (w : World) (h : StArg w 5 d A n B m ⟨5, d, us, ts⟩) (hs : Shp w) :
    Calls Tryz.prog 116 #[.agg #[.int .i64 5, .string d, .slice A n c, .slice B m c2]] w fun e w' => e = .returned (.bool (stmB ⟨5, d, us, ts⟩)) ∧ Below w.heap.size w w' := by
  rw [stm_is5]
  obtain ⟨hU, hT, -, -, hd⟩ := h
  simp only at hU hT
  have Hd := hid (show d.size ≤ maxLen by unfold maxLen; omega)
  have hb2 := ((Below.refl w.heap.size w).alloc (Nat.le_refl _) (.cells #[.int .i64 5, .string d, .slice A n c, .slice B m c2] 101)).alloc (by rw [World.size_alloc]; omega) (.cells (shp kwSink false 1 1 0).toArray 158)
  have Hf := hid ((Fb.new w #[.int .i64 5, .string d, .slice A n c, .slice B m c2] 101).alloc (.cells (shp kwSink false 1 1 0).toArray 158))
  have Hg := hid (show Fb ((w.alloc (.cells #[.int .i64 5, .string d, .slice A n c, .slice B m c2] 101)).alloc (.cells (shp kwSink false 1 1 0).toArray 158)) (w.heap.size + 1) (shp kwSink false 1 1 0).toArray 158 by have := Fb.new (w.alloc (.cells #[.int .i64 5, .string d, .slice A n c, .slice B m c2] 101)) (shp kwSink false 1 1 0).toArray 158; rwa [World.size_alloc] at this)
  have HU := hid (hU.below hb2)
  have HT := hid (hT.below hb2)
  have HB := hid hb2
  have HLU := hid (show us.length = n from hU.len)
  have HLT := hid (show ts.length = m from hT.len)
  obtain ⟨z0, z1, z2, z3, z4⟩ := shp5 hs 5 (k := kwSink) (d := false) (l := 1) (m := 1) (t := 0) rfl
  have z0 : w.cell? ⟨0, 25, none⟩ = some (.string kwSink) := z0
  have z1 : w.cell? ⟨0, 26, none⟩ = some (.bool false) := z1
  have z2 : w.cell? ⟨0, 27, none⟩ = some (.int .i64 1) := z2
  have z3 : w.cell? ⟨0, 28, none⟩ = some (.int .i64 1) := z3
  have z4 : w.cell? ⟨0, 29, none⟩ = some (.int .i64 0) := z4
  have hw0 : wiB 5 1 9 = true := by decide
  have hn0 := hU.few
  have hm0 := hT.few
  have hpos := hs.pos0
  clear hU hT hb2 hs
  go_enter Tryz.func116, Tryz.ntmps116
  go_wp2_with fail
  refine (within_any _ _ _ _).mono ?_
  rintro e w2 ⟨rfl, rfl⟩
  obtain ⟨a0, a1, a2, a3⟩ := Fb.four Hf.out
  have b1 : _ = some (Value.bool false) := Hg.out.cell 1
  have b2 : _ = some (Value.int .i64 1) := Hg.out.cell 2
  have b3 : _ = some (Value.int .i64 1) := Hg.out.cell 3
  have b4 : _ = some (Value.int .i64 0) := Hg.out.cell 4
  have he1 : (d.toList == ([] : List UInt8)) = decide (d = ⟨#[]⟩) := empty_list d
  have he2 : (d.toList == (⟨#[]⟩ : ByteArray).toList) = decide (d = ⟨#[]⟩) := by rw [show ((⟨#[]⟩ : ByteArray).toList) = [] from toList_data _]; exact empty_list d
  cases hv : decide (d = ⟨#[]⟩) with
  | false =>
    as_aux_lemma =>
      have Hr := hid (show vwB false 1 1 0 ⟨5, d, us, ts⟩ = false by unfold vwB; simp only [hv]; rfl)
      rw [hv] at he1 he2
      clear hv
      go_wp2_with fail
      go_ret
      exact ⟨by rw [Hr.out]; rfl, HB.out⟩
  | true =>
    have Hv := hid hv
    rw [hv] at he1 he2
    clear hv
    go_wp2_with fail
    skip
    refine (within_any _ _ _ _).mono ?_
    rintro e w3 ⟨rfl, rfl⟩
    cases hx : wiB n 1 1 with
    | false =>
      as_aux_lemma =>
        have Hr := hid (show vwB false 1 1 0 ⟨5, d, us, ts⟩ = false by unfold vwB; simp only [HLU.out, hx]; simp)
        clear hx
        go_wp2_with fail
        go_ret
        exact ⟨by rw [Hr.out]; rfl, HB.out⟩
    | true =>
      have Hx := hid hx
      clear hx
      go_wp2_with fail
      refine (allStr_any A n c us _ HU.out).mono ?_
      rintro e w4 ⟨rfl, hb4⟩
      have Hf4 := hid (Hf.out.below hb4 Hf.out.lt)
      have Hg4 := hid (Hg.out.below hb4 Hg.out.lt)
      have HT4 := hid (HT.out.below hb4)
      have HB4 := hid (below_step HB.out hb4)
      clear hb4 a0 a1 a2 a3 b1 b2 b3 b4 Hf Hg HT HB HU
      obtain ⟨a0, a1, a2, a3⟩ := Fb.four Hf4.out
      have b4 : _ = some (Value.int .i64 0) := Hg4.out.cell 4
      cases hu : us.all nameB with
      | false =>
        as_aux_lemma =>
          have Hr := hid (show vwB false 1 1 0 ⟨5, d, us, ts⟩ = false by unfold vwB; simp only [HLU.out, hu]; simp)
          clear hu
          go_wp2_with fail
          go_ret
          exact ⟨by rw [Hr.out]; rfl, HB4.out⟩
      | true =>
        have Hu := hid hu
        clear hu
        cases hm : ((m : Int) == 0) with
        | false =>
          as_aux_lemma =>
            have Hr := hid (show vwB false 1 1 0 ⟨5, d, us, ts⟩ = false by unfold vwB; simp only [HLT.out, hm]; simp)
            go_wp2_with fail
            go_ret
            exact ⟨by rw [Hr.out]; rfl, HB4.out⟩
        | true =>
          as_aux_lemma =>
            have Hr := hid (show vwB false 1 1 0 ⟨5, d, us, ts⟩ = ts.all nameB by unfold vwB; simp only [HLU.out, HLT.out, hm, Hx.out, Hu.out, Hv.out]; simp)
            go_wp2_with fail
            refine (allStr_any B m c2 ts _ HT4.out).mono ?_
            rintro e w5 ⟨rfl, hb5⟩
            have HB5 := hid (below_step HB4.out hb5)
            clear hb5 hm
            cases hy : ts.all nameB with
            | false =>
              rw [hy] at Hr
              clear hy
              go_wp2_with fail
              go_ret
              exact ⟨by rw [Hr.out]; rfl, HB5.out⟩
            | true =>
              rw [hy] at Hr
              clear hy
              go_wp2_with fail
              go_ret
              exact ⟨by rw [Hr.out]; rfl, HB5.out⟩
set_option maxHeartbeats 6400000 in
theorem validStmt_6 (d : ByteArray) (A : Option Addr) (n c : Nat) (B : Option Addr) (m c2 : Nat) (us ts : List ByteArray) (w : World) (h : StArg w 6 d A n B m ⟨6, d, us, ts⟩) (hs : Shp w) :
    Calls Tryz.prog 116 #[.agg #[.int .i64 6, .string d, .slice A n c, .slice B m c2]] w fun e w' => e = .returned (.bool (stmB ⟨6, d, us, ts⟩)) ∧ Below w.heap.size w w' := by
  rw [stm_is6]
  obtain ⟨hU, hT, -, -, hd⟩ := h
  simp only at hU hT
  have Hd := hid (show d.size ≤ maxLen by unfold maxLen; omega)
  have hb2 := ((Below.refl w.heap.size w).alloc (Nat.le_refl _) (.cells #[.int .i64 6, .string d, .slice A n c, .slice B m c2] 101)).alloc (by rw [World.size_alloc]; omega) (.cells (shp kwSanitize true 0 0 0).toArray 158)
  have Hf := hid ((Fb.new w #[.int .i64 6, .string d, .slice A n c, .slice B m c2] 101).alloc (.cells (shp kwSanitize true 0 0 0).toArray 158))
  have Hg := hid (show Fb ((w.alloc (.cells #[.int .i64 6, .string d, .slice A n c, .slice B m c2] 101)).alloc (.cells (shp kwSanitize true 0 0 0).toArray 158)) (w.heap.size + 1) (shp kwSanitize true 0 0 0).toArray 158 by have := Fb.new (w.alloc (.cells #[.int .i64 6, .string d, .slice A n c, .slice B m c2] 101)) (shp kwSanitize true 0 0 0).toArray 158; rwa [World.size_alloc] at this)
  have HU := hid (hU.below hb2)
  have HT := hid (hT.below hb2)
  have HB := hid hb2
  have HLU := hid (show us.length = n from hU.len)
  have HLT := hid (show ts.length = m from hT.len)
  obtain ⟨z0, z1, z2, z3, z4⟩ := shp5 hs 6 (k := kwSanitize) (d := true) (l := 0) (m := 0) (t := 0) rfl
  have z0 : w.cell? ⟨0, 30, none⟩ = some (.string kwSanitize) := z0
  have z1 : w.cell? ⟨0, 31, none⟩ = some (.bool true) := z1
  have z2 : w.cell? ⟨0, 32, none⟩ = some (.int .i64 0) := z2
  have z3 : w.cell? ⟨0, 33, none⟩ = some (.int .i64 0) := z3
  have z4 : w.cell? ⟨0, 34, none⟩ = some (.int .i64 0) := z4
  have hw0 : wiB 6 1 9 = true := by decide
  have hn0 := hU.few
  have hm0 := hT.few
  have hpos := hs.pos0
  clear hU hT hb2 hs
  go_enter Tryz.func116, Tryz.ntmps116
  go_wp2_with fail
  refine (within_any _ _ _ _).mono ?_
  rintro e w2 ⟨rfl, rfl⟩
  obtain ⟨a0, a1, a2, a3⟩ := Fb.four Hf.out
  have b1 : _ = some (Value.bool true) := Hg.out.cell 1
  have b2 : _ = some (Value.int .i64 0) := Hg.out.cell 2
  have b3 : _ = some (Value.int .i64 0) := Hg.out.cell 3
  have b4 : _ = some (Value.int .i64 0) := Hg.out.cell 4
  go_wp2_with fail
  skip
  refine (devIsName_any d _ Hd.out).mono ?_
  rintro e w2 ⟨rfl, rfl⟩
  cases hv : nameB d with
  | false =>
    as_aux_lemma =>
      have Hr := hid (show vwB true 0 0 0 ⟨6, d, us, ts⟩ = false by unfold vwB; simp only [hv]; rfl)
      clear hv
      go_wp2_with fail
      go_ret
      exact ⟨by rw [Hr.out]; rfl, HB.out⟩
  | true =>
    have Hv := hid hv
    clear hv
    go_wp2_with fail
    refine (within_any _ _ _ _).mono ?_
    rintro e w3 ⟨rfl, rfl⟩
    cases hx : wiB n 0 0 with
    | false =>
      as_aux_lemma =>
        have Hr := hid (show vwB true 0 0 0 ⟨6, d, us, ts⟩ = false by unfold vwB; simp only [HLU.out, hx]; simp)
        clear hx
        go_wp2_with fail
        go_ret
        exact ⟨by rw [Hr.out]; rfl, HB.out⟩
    | true =>
      have Hx := hid hx
      clear hx
      go_wp2_with fail
      refine (allStr_any A n c us _ HU.out).mono ?_
      rintro e w4 ⟨rfl, hb4⟩
      have Hf4 := hid (Hf.out.below hb4 Hf.out.lt)
      have Hg4 := hid (Hg.out.below hb4 Hg.out.lt)
      have HT4 := hid (HT.out.below hb4)
      have HB4 := hid (below_step HB.out hb4)
      clear hb4 a0 a1 a2 a3 b1 b2 b3 b4 Hf Hg HT HB HU
      obtain ⟨a0, a1, a2, a3⟩ := Fb.four Hf4.out
      have b4 : _ = some (Value.int .i64 0) := Hg4.out.cell 4
      cases hu : us.all nameB with
      | false =>
        as_aux_lemma =>
          have Hr := hid (show vwB true 0 0 0 ⟨6, d, us, ts⟩ = false by unfold vwB; simp only [HLU.out, hu]; simp)
          clear hu
          go_wp2_with fail
          go_ret
          exact ⟨by rw [Hr.out]; rfl, HB4.out⟩
      | true =>
        have Hu := hid hu
        clear hu
        cases hm : ((m : Int) == 0) with
        | false =>
          as_aux_lemma =>
            have Hr := hid (show vwB true 0 0 0 ⟨6, d, us, ts⟩ = false by unfold vwB; simp only [HLT.out, hm]; simp)
            go_wp2_with fail
            go_ret
            exact ⟨by rw [Hr.out]; rfl, HB4.out⟩
        | true =>
          as_aux_lemma =>
            have Hr := hid (show vwB true 0 0 0 ⟨6, d, us, ts⟩ = ts.all nameB by unfold vwB; simp only [HLU.out, HLT.out, hm, Hx.out, Hu.out, Hv.out]; simp)
            go_wp2_with fail
            refine (allStr_any B m c2 ts _ HT4.out).mono ?_
            rintro e w5 ⟨rfl, hb5⟩
            have HB5 := hid (below_step HB4.out hb5)
            clear hb5 hm
            cases hy : ts.all nameB with
            | false =>
              rw [hy] at Hr
              clear hy
              go_wp2_with fail
              go_ret
              exact ⟨by rw [Hr.out]; rfl, HB5.out⟩
            | true =>
              rw [hy] at Hr
              clear hy
              go_wp2_with fail
              go_ret
              exact ⟨by rw [Hr.out]; rfl, HB5.out⟩
set_option maxHeartbeats 6400000 in
theorem validStmt_7 (d : ByteArray) (A : Option Addr) (n c : Nat) (B : Option Addr) (m c2 : Nat) (us ts : List ByteArray) (w : World) (h : StArg w 7 d A n B m ⟨7, d, us, ts⟩) (hs : Shp w) :
    Calls Tryz.prog 116 #[.agg #[.int .i64 7, .string d, .slice A n c, .slice B m c2]] w fun e w' => e = .returned (.bool (stmB ⟨7, d, us, ts⟩)) ∧ Below w.heap.size w w' := by
  rw [stm_is7]
  obtain ⟨hU, hT, -, -, hd⟩ := h
  simp only at hU hT
  have Hd := hid (show d.size ≤ maxLen by unfold maxLen; omega)
  have hb2 := ((Below.refl w.heap.size w).alloc (Nat.le_refl _) (.cells #[.int .i64 7, .string d, .slice A n c, .slice B m c2] 101)).alloc (by rw [World.size_alloc]; omega) (.cells (shp kwGoto false 0 0 1).toArray 158)
  have Hf := hid ((Fb.new w #[.int .i64 7, .string d, .slice A n c, .slice B m c2] 101).alloc (.cells (shp kwGoto false 0 0 1).toArray 158))
  have Hg := hid (show Fb ((w.alloc (.cells #[.int .i64 7, .string d, .slice A n c, .slice B m c2] 101)).alloc (.cells (shp kwGoto false 0 0 1).toArray 158)) (w.heap.size + 1) (shp kwGoto false 0 0 1).toArray 158 by have := Fb.new (w.alloc (.cells #[.int .i64 7, .string d, .slice A n c, .slice B m c2] 101)) (shp kwGoto false 0 0 1).toArray 158; rwa [World.size_alloc] at this)
  have HU := hid (hU.below hb2)
  have HT := hid (hT.below hb2)
  have HB := hid hb2
  have HLU := hid (show us.length = n from hU.len)
  have HLT := hid (show ts.length = m from hT.len)
  obtain ⟨z0, z1, z2, z3, z4⟩ := shp5 hs 7 (k := kwGoto) (d := false) (l := 0) (m := 0) (t := 1) rfl
  have z0 : w.cell? ⟨0, 35, none⟩ = some (.string kwGoto) := z0
  have z1 : w.cell? ⟨0, 36, none⟩ = some (.bool false) := z1
  have z2 : w.cell? ⟨0, 37, none⟩ = some (.int .i64 0) := z2
  have z3 : w.cell? ⟨0, 38, none⟩ = some (.int .i64 0) := z3
  have z4 : w.cell? ⟨0, 39, none⟩ = some (.int .i64 1) := z4
  have hw0 : wiB 7 1 9 = true := by decide
  have hn0 := hU.few
  have hm0 := hT.few
  have hpos := hs.pos0
  clear hU hT hb2 hs
  go_enter Tryz.func116, Tryz.ntmps116
  go_wp2_with fail
  refine (within_any _ _ _ _).mono ?_
  rintro e w2 ⟨rfl, rfl⟩
  obtain ⟨a0, a1, a2, a3⟩ := Fb.four Hf.out
  have b1 : _ = some (Value.bool false) := Hg.out.cell 1
  have b2 : _ = some (Value.int .i64 0) := Hg.out.cell 2
  have b3 : _ = some (Value.int .i64 0) := Hg.out.cell 3
  have b4 : _ = some (Value.int .i64 1) := Hg.out.cell 4
  have he1 : (d.toList == ([] : List UInt8)) = decide (d = ⟨#[]⟩) := empty_list d
  have he2 : (d.toList == (⟨#[]⟩ : ByteArray).toList) = decide (d = ⟨#[]⟩) := by rw [show ((⟨#[]⟩ : ByteArray).toList) = [] from toList_data _]; exact empty_list d
  cases hv : decide (d = ⟨#[]⟩) with
  | false =>
    as_aux_lemma =>
      have Hr := hid (show vwB false 0 0 1 ⟨7, d, us, ts⟩ = false by unfold vwB; simp only [hv]; rfl)
      rw [hv] at he1 he2
      clear hv
      go_wp2_with fail
      go_ret
      exact ⟨by rw [Hr.out]; rfl, HB.out⟩
  | true =>
    have Hv := hid hv
    rw [hv] at he1 he2
    clear hv
    go_wp2_with fail
    skip
    refine (within_any _ _ _ _).mono ?_
    rintro e w3 ⟨rfl, rfl⟩
    cases hx : wiB n 0 0 with
    | false =>
      as_aux_lemma =>
        have Hr := hid (show vwB false 0 0 1 ⟨7, d, us, ts⟩ = false by unfold vwB; simp only [HLU.out, hx]; simp)
        clear hx
        go_wp2_with fail
        go_ret
        exact ⟨by rw [Hr.out]; rfl, HB.out⟩
    | true =>
      have Hx := hid hx
      clear hx
      go_wp2_with fail
      refine (allStr_any A n c us _ HU.out).mono ?_
      rintro e w4 ⟨rfl, hb4⟩
      have Hf4 := hid (Hf.out.below hb4 Hf.out.lt)
      have Hg4 := hid (Hg.out.below hb4 Hg.out.lt)
      have HT4 := hid (HT.out.below hb4)
      have HB4 := hid (below_step HB.out hb4)
      clear hb4 a0 a1 a2 a3 b1 b2 b3 b4 Hf Hg HT HB HU
      obtain ⟨a0, a1, a2, a3⟩ := Fb.four Hf4.out
      have b4 : _ = some (Value.int .i64 1) := Hg4.out.cell 4
      cases hu : us.all nameB with
      | false =>
        as_aux_lemma =>
          have Hr := hid (show vwB false 0 0 1 ⟨7, d, us, ts⟩ = false by unfold vwB; simp only [HLU.out, hu]; simp)
          clear hu
          go_wp2_with fail
          go_ret
          exact ⟨by rw [Hr.out]; rfl, HB4.out⟩
      | true =>
        have Hu := hid hu
        clear hu
        cases hm : ((m : Int) == 1) with
        | false =>
          as_aux_lemma =>
            have Hr := hid (show vwB false 0 0 1 ⟨7, d, us, ts⟩ = false by unfold vwB; simp only [HLT.out, hm]; simp)
            go_wp2_with fail
            go_ret
            exact ⟨by rw [Hr.out]; rfl, HB4.out⟩
        | true =>
          as_aux_lemma =>
            have Hr := hid (show vwB false 0 0 1 ⟨7, d, us, ts⟩ = ts.all nameB by unfold vwB; simp only [HLU.out, HLT.out, hm, Hx.out, Hu.out, Hv.out]; simp)
            go_wp2_with fail
            refine (allStr_any B m c2 ts _ HT4.out).mono ?_
            rintro e w5 ⟨rfl, hb5⟩
            have HB5 := hid (below_step HB4.out hb5)
            clear hb5 hm
            cases hy : ts.all nameB with
            | false =>
              rw [hy] at Hr
              clear hy
              go_wp2_with fail
              go_ret
              exact ⟨by rw [Hr.out]; rfl, HB5.out⟩
            | true =>
              rw [hy] at Hr
              clear hy
              go_wp2_with fail
              go_ret
              exact ⟨by rw [Hr.out]; rfl, HB5.out⟩
set_option maxHeartbeats 6400000 in
theorem validStmt_8 (d : ByteArray) (A : Option Addr) (n c : Nat) (B : Option Addr) (m c2 : Nat) (us ts : List ByteArray) (w : World) (h : StArg w 8 d A n B m ⟨8, d, us, ts⟩) (hs : Shp w) :
    Calls Tryz.prog 116 #[.agg #[.int .i64 8, .string d, .slice A n c, .slice B m c2]] w fun e w' => e = .returned (.bool (stmB ⟨8, d, us, ts⟩)) ∧ Below w.heap.size w w' := by
  rw [stm_is8]
  obtain ⟨hU, hT, -, -, hd⟩ := h
  simp only at hU hT
  have Hd := hid (show d.size ≤ maxLen by unfold maxLen; omega)
  have hb2 := ((Below.refl w.heap.size w).alloc (Nat.le_refl _) (.cells #[.int .i64 8, .string d, .slice A n c, .slice B m c2] 101)).alloc (by rw [World.size_alloc]; omega) (.cells (shp kwBranch false 1 1 2).toArray 158)
  have Hf := hid ((Fb.new w #[.int .i64 8, .string d, .slice A n c, .slice B m c2] 101).alloc (.cells (shp kwBranch false 1 1 2).toArray 158))
  have Hg := hid (show Fb ((w.alloc (.cells #[.int .i64 8, .string d, .slice A n c, .slice B m c2] 101)).alloc (.cells (shp kwBranch false 1 1 2).toArray 158)) (w.heap.size + 1) (shp kwBranch false 1 1 2).toArray 158 by have := Fb.new (w.alloc (.cells #[.int .i64 8, .string d, .slice A n c, .slice B m c2] 101)) (shp kwBranch false 1 1 2).toArray 158; rwa [World.size_alloc] at this)
  have HU := hid (hU.below hb2)
  have HT := hid (hT.below hb2)
  have HB := hid hb2
  have HLU := hid (show us.length = n from hU.len)
  have HLT := hid (show ts.length = m from hT.len)
  obtain ⟨z0, z1, z2, z3, z4⟩ := shp5 hs 8 (k := kwBranch) (d := false) (l := 1) (m := 1) (t := 2) rfl
  have z0 : w.cell? ⟨0, 40, none⟩ = some (.string kwBranch) := z0
  have z1 : w.cell? ⟨0, 41, none⟩ = some (.bool false) := z1
  have z2 : w.cell? ⟨0, 42, none⟩ = some (.int .i64 1) := z2
  have z3 : w.cell? ⟨0, 43, none⟩ = some (.int .i64 1) := z3
  have z4 : w.cell? ⟨0, 44, none⟩ = some (.int .i64 2) := z4
  have hw0 : wiB 8 1 9 = true := by decide
  have hn0 := hU.few
  have hm0 := hT.few
  have hpos := hs.pos0
  clear hU hT hb2 hs
  go_enter Tryz.func116, Tryz.ntmps116
  go_wp2_with fail
  refine (within_any _ _ _ _).mono ?_
  rintro e w2 ⟨rfl, rfl⟩
  obtain ⟨a0, a1, a2, a3⟩ := Fb.four Hf.out
  have b1 : _ = some (Value.bool false) := Hg.out.cell 1
  have b2 : _ = some (Value.int .i64 1) := Hg.out.cell 2
  have b3 : _ = some (Value.int .i64 1) := Hg.out.cell 3
  have b4 : _ = some (Value.int .i64 2) := Hg.out.cell 4
  have he1 : (d.toList == ([] : List UInt8)) = decide (d = ⟨#[]⟩) := empty_list d
  have he2 : (d.toList == (⟨#[]⟩ : ByteArray).toList) = decide (d = ⟨#[]⟩) := by rw [show ((⟨#[]⟩ : ByteArray).toList) = [] from toList_data _]; exact empty_list d
  cases hv : decide (d = ⟨#[]⟩) with
  | false =>
    as_aux_lemma =>
      have Hr := hid (show vwB false 1 1 2 ⟨8, d, us, ts⟩ = false by unfold vwB; simp only [hv]; rfl)
      rw [hv] at he1 he2
      clear hv
      go_wp2_with fail
      go_ret
      exact ⟨by rw [Hr.out]; rfl, HB.out⟩
  | true =>
    have Hv := hid hv
    rw [hv] at he1 he2
    clear hv
    go_wp2_with fail
    skip
    refine (within_any _ _ _ _).mono ?_
    rintro e w3 ⟨rfl, rfl⟩
    cases hx : wiB n 1 1 with
    | false =>
      as_aux_lemma =>
        have Hr := hid (show vwB false 1 1 2 ⟨8, d, us, ts⟩ = false by unfold vwB; simp only [HLU.out, hx]; simp)
        clear hx
        go_wp2_with fail
        go_ret
        exact ⟨by rw [Hr.out]; rfl, HB.out⟩
    | true =>
      have Hx := hid hx
      clear hx
      go_wp2_with fail
      refine (allStr_any A n c us _ HU.out).mono ?_
      rintro e w4 ⟨rfl, hb4⟩
      have Hf4 := hid (Hf.out.below hb4 Hf.out.lt)
      have Hg4 := hid (Hg.out.below hb4 Hg.out.lt)
      have HT4 := hid (HT.out.below hb4)
      have HB4 := hid (below_step HB.out hb4)
      clear hb4 a0 a1 a2 a3 b1 b2 b3 b4 Hf Hg HT HB HU
      obtain ⟨a0, a1, a2, a3⟩ := Fb.four Hf4.out
      have b4 : _ = some (Value.int .i64 2) := Hg4.out.cell 4
      cases hu : us.all nameB with
      | false =>
        as_aux_lemma =>
          have Hr := hid (show vwB false 1 1 2 ⟨8, d, us, ts⟩ = false by unfold vwB; simp only [HLU.out, hu]; simp)
          clear hu
          go_wp2_with fail
          go_ret
          exact ⟨by rw [Hr.out]; rfl, HB4.out⟩
      | true =>
        have Hu := hid hu
        clear hu
        cases hm : ((m : Int) == 2) with
        | false =>
          as_aux_lemma =>
            have Hr := hid (show vwB false 1 1 2 ⟨8, d, us, ts⟩ = false by unfold vwB; simp only [HLT.out, hm]; simp)
            go_wp2_with fail
            go_ret
            exact ⟨by rw [Hr.out]; rfl, HB4.out⟩
        | true =>
          as_aux_lemma =>
            have Hr := hid (show vwB false 1 1 2 ⟨8, d, us, ts⟩ = ts.all nameB by unfold vwB; simp only [HLU.out, HLT.out, hm, Hx.out, Hu.out, Hv.out]; simp)
            go_wp2_with fail
            refine (allStr_any B m c2 ts _ HT4.out).mono ?_
            rintro e w5 ⟨rfl, hb5⟩
            have HB5 := hid (below_step HB4.out hb5)
            clear hb5 hm
            cases hy : ts.all nameB with
            | false =>
              rw [hy] at Hr
              clear hy
              go_wp2_with fail
              go_ret
              exact ⟨by rw [Hr.out]; rfl, HB5.out⟩
            | true =>
              rw [hy] at Hr
              clear hy
              go_wp2_with fail
              go_ret
              exact ⟨by rw [Hr.out]; rfl, HB5.out⟩
set_option maxHeartbeats 6400000 in
theorem validStmt_9 (d : ByteArray) (A : Option Addr) (n c : Nat) (B : Option Addr) (m c2 : Nat) (us ts : List ByteArray) (w : World) (h : StArg w 9 d A n B m ⟨9, d, us, ts⟩) (hs : Shp w) :
    Calls Tryz.prog 116 #[.agg #[.int .i64 9, .string d, .slice A n c, .slice B m c2]] w fun e w' => e = .returned (.bool (stmB ⟨9, d, us, ts⟩)) ∧ Below w.heap.size w w' := by
  rw [stm_is9]
  obtain ⟨hU, hT, -, -, hd⟩ := h
  simp only at hU hT
  have Hd := hid (show d.size ≤ maxLen by unfold maxLen; omega)
  have hb2 := ((Below.refl w.heap.size w).alloc (Nat.le_refl _) (.cells #[.int .i64 9, .string d, .slice A n c, .slice B m c2] 101)).alloc (by rw [World.size_alloc]; omega) (.cells (shp kwReturn false 0 0 0).toArray 158)
  have Hf := hid ((Fb.new w #[.int .i64 9, .string d, .slice A n c, .slice B m c2] 101).alloc (.cells (shp kwReturn false 0 0 0).toArray 158))
  have Hg := hid (show Fb ((w.alloc (.cells #[.int .i64 9, .string d, .slice A n c, .slice B m c2] 101)).alloc (.cells (shp kwReturn false 0 0 0).toArray 158)) (w.heap.size + 1) (shp kwReturn false 0 0 0).toArray 158 by have := Fb.new (w.alloc (.cells #[.int .i64 9, .string d, .slice A n c, .slice B m c2] 101)) (shp kwReturn false 0 0 0).toArray 158; rwa [World.size_alloc] at this)
  have HU := hid (hU.below hb2)
  have HT := hid (hT.below hb2)
  have HB := hid hb2
  have HLU := hid (show us.length = n from hU.len)
  have HLT := hid (show ts.length = m from hT.len)
  obtain ⟨z0, z1, z2, z3, z4⟩ := shp5 hs 9 (k := kwReturn) (d := false) (l := 0) (m := 0) (t := 0) rfl
  have z0 : w.cell? ⟨0, 45, none⟩ = some (.string kwReturn) := z0
  have z1 : w.cell? ⟨0, 46, none⟩ = some (.bool false) := z1
  have z2 : w.cell? ⟨0, 47, none⟩ = some (.int .i64 0) := z2
  have z3 : w.cell? ⟨0, 48, none⟩ = some (.int .i64 0) := z3
  have z4 : w.cell? ⟨0, 49, none⟩ = some (.int .i64 0) := z4
  have hw0 : wiB 9 1 9 = true := by decide
  have hn0 := hU.few
  have hm0 := hT.few
  have hpos := hs.pos0
  clear hU hT hb2 hs
  go_enter Tryz.func116, Tryz.ntmps116
  go_wp2_with fail
  refine (within_any _ _ _ _).mono ?_
  rintro e w2 ⟨rfl, rfl⟩
  obtain ⟨a0, a1, a2, a3⟩ := Fb.four Hf.out
  have b1 : _ = some (Value.bool false) := Hg.out.cell 1
  have b2 : _ = some (Value.int .i64 0) := Hg.out.cell 2
  have b3 : _ = some (Value.int .i64 0) := Hg.out.cell 3
  have b4 : _ = some (Value.int .i64 0) := Hg.out.cell 4
  have he1 : (d.toList == ([] : List UInt8)) = decide (d = ⟨#[]⟩) := empty_list d
  have he2 : (d.toList == (⟨#[]⟩ : ByteArray).toList) = decide (d = ⟨#[]⟩) := by rw [show ((⟨#[]⟩ : ByteArray).toList) = [] from toList_data _]; exact empty_list d
  cases hv : decide (d = ⟨#[]⟩) with
  | false =>
    as_aux_lemma =>
      have Hr := hid (show vwB false 0 0 0 ⟨9, d, us, ts⟩ = false by unfold vwB; simp only [hv]; rfl)
      rw [hv] at he1 he2
      clear hv
      go_wp2_with fail
      go_ret
      exact ⟨by rw [Hr.out]; rfl, HB.out⟩
  | true =>
    have Hv := hid hv
    rw [hv] at he1 he2
    clear hv
    go_wp2_with fail
    skip
    refine (within_any _ _ _ _).mono ?_
    rintro e w3 ⟨rfl, rfl⟩
    cases hx : wiB n 0 0 with
    | false =>
      as_aux_lemma =>
        have Hr := hid (show vwB false 0 0 0 ⟨9, d, us, ts⟩ = false by unfold vwB; simp only [HLU.out, hx]; simp)
        clear hx
        go_wp2_with fail
        go_ret
        exact ⟨by rw [Hr.out]; rfl, HB.out⟩
    | true =>
      have Hx := hid hx
      clear hx
      go_wp2_with fail
      refine (allStr_any A n c us _ HU.out).mono ?_
      rintro e w4 ⟨rfl, hb4⟩
      have Hf4 := hid (Hf.out.below hb4 Hf.out.lt)
      have Hg4 := hid (Hg.out.below hb4 Hg.out.lt)
      have HT4 := hid (HT.out.below hb4)
      have HB4 := hid (below_step HB.out hb4)
      clear hb4 a0 a1 a2 a3 b1 b2 b3 b4 Hf Hg HT HB HU
      obtain ⟨a0, a1, a2, a3⟩ := Fb.four Hf4.out
      have b4 : _ = some (Value.int .i64 0) := Hg4.out.cell 4
      cases hu : us.all nameB with
      | false =>
        as_aux_lemma =>
          have Hr := hid (show vwB false 0 0 0 ⟨9, d, us, ts⟩ = false by unfold vwB; simp only [HLU.out, hu]; simp)
          clear hu
          go_wp2_with fail
          go_ret
          exact ⟨by rw [Hr.out]; rfl, HB4.out⟩
      | true =>
        have Hu := hid hu
        clear hu
        cases hm : ((m : Int) == 0) with
        | false =>
          as_aux_lemma =>
            have Hr := hid (show vwB false 0 0 0 ⟨9, d, us, ts⟩ = false by unfold vwB; simp only [HLT.out, hm]; simp)
            go_wp2_with fail
            go_ret
            exact ⟨by rw [Hr.out]; rfl, HB4.out⟩
        | true =>
          as_aux_lemma =>
            have Hr := hid (show vwB false 0 0 0 ⟨9, d, us, ts⟩ = ts.all nameB by unfold vwB; simp only [HLU.out, HLT.out, hm, Hx.out, Hu.out, Hv.out]; simp)
            go_wp2_with fail
            refine (allStr_any B m c2 ts _ HT4.out).mono ?_
            rintro e w5 ⟨rfl, hb5⟩
            have HB5 := hid (below_step HB4.out hb5)
            clear hb5 hm
            cases hy : ts.all nameB with
            | false =>
              rw [hy] at Hr
              clear hy
              go_wp2_with fail
              go_ret
              exact ⟨by rw [Hr.out]; rfl, HB5.out⟩
            | true =>
              rw [hy] at Hr
              clear hy
              go_wp2_with fail
              go_ret
              exact ⟨by rw [Hr.out]; rfl, HB5.out⟩
end Go.Proofs.YtmbelhdkaepohaaGreatDoor

namespace Go.Proofs.YtmbelhdkaepohaaGreatDoor
set_option maxRecDepth 20000
set_option linter.unusedVariables false
set_option linter.unusedSimpArgs false
open Go.ChangeShapes Go.WideShapes Go.ChangeAt Go.RowKit

theorem wi_nat (n h : Nat) : wiB (n : Int) 1 (h : Int) = (decide (1 ≤ n) && decide (n ≤ h)) := by
  unfold wiB
  rw [decide_eq_decide.2 (show (1 : Int) ≤ (n : Int) ↔ 1 ≤ n by omega), decide_eq_decide.2 (show (n : Int) ≤ (h : Int) ↔ n ≤ h by omega)]
theorem stm_off {o : Int} (h : ¬ (1 ≤ o ∧ o ≤ 9)) (d : ByteArray) (us ts : List ByteArray) : stmB ⟨o, d, us, ts⟩ = false := by
  unfold stmB okP
  simp only
  rw [if_neg (by omega), if_neg (by omega), if_neg (by omega), if_neg (by omega), if_neg (by omega), if_neg (by omega), if_neg (by omega)]
  simp
set_option maxHeartbeats 1600000 in
theorem validStmt_any (x : SH) (ex : List (Option Nat)) (w : World) (h : SHok w ex x) (hs : Shp w) :
    Calls Tryz.prog 116 #[.agg #[.int .i64 x.t.op, .string x.t.d, .slice x.A x.n x.c, .slice x.B x.m x.c2]] w fun e w' => e = .returned (.bool (stmB x.t)) ∧ Below w.heap.size w w' := by
  obtain ⟨A, n, c, B, m, c2, ⟨o, d, us, ts⟩⟩ := x
  have ha := h.arg
  simp only at ha
  by_cases h1 : 1 ≤ o ∧ o ≤ 9
  · rcases (show o = 1 ∨ o = 2 ∨ o = 3 ∨ o = 4 ∨ o = 5 ∨ o = 6 ∨ o = 7 ∨ o = 8 ∨ o = 9 by omega) with rfl | rfl | rfl | rfl | rfl | rfl | rfl | rfl | rfl
    · exact validStmt_1 d A n c B m c2 us ts w ha hs
    · exact validStmt_2 d A n c B m c2 us ts w ha hs
    · exact validStmt_3 d A n c B m c2 us ts w ha hs
    · exact validStmt_4 d A n c B m c2 us ts w ha hs
    · exact validStmt_5 d A n c B m c2 us ts w ha hs
    · exact validStmt_6 d A n c B m c2 us ts w ha hs
    · exact validStmt_7 d A n c B m c2 us ts w ha hs
    · exact validStmt_8 d A n c B m c2 us ts w ha hs
    · exact validStmt_9 d A n c B m c2 us ts w ha hs
  · have Hr := hid (stm_off h1 d us ts)
    have hw : wiB o 1 9 = false := by unfold wiB; rw [Bool.and_eq_false_iff]; simp; omega
    have HB := hid ((Below.refl w.heap.size w).alloc (Nat.le_refl _) (.cells #[.int .i64 o, .string d, .slice A n c, .slice B m c2] 101))
    clear h ha h1
    go_enter Tryz.func116, Tryz.ntmps116
    go_wp2_with fail
    refine (within_any _ _ _ _).mono ?_
    rintro e w2 ⟨rfl, rfl⟩
    go_wp2_with fail
    go_ret
    exact ⟨ret_b Hr.out, HB.out⟩
theorem allS_any_t {l : List SH} {k : Nat} {y : SH} (h : (l.take k).all (fun y => stmB y.t) = true) (hy : l[k]? = some y) (hp : stmB y.t = true) : (l.take (k + 1)).all (fun y => stmB y.t) = true := take_all (p := fun y : SH => stmB y.t) h hy hp
theorem allS_any_n {l : List SH} {k : Nat} {y : SH} (hy : l[k]? = some y) (hp : stmB y.t = false) : l.all (fun y => stmB y.t) = false := all_no (p := fun y : SH => stmB y.t) hy hp
set_option maxHeartbeats 1600000 in
theorem allS_any (x : BH) (ex : List (Option Nat)) (w : World) (h : BHok w ex x) (hs : Shp w) :
    Calls Tryz.prog 115 #[.slice x.A x.n x.c, .func (Fn.func 116) #[] #[]] w fun e w' => e = .returned (.bool (x.l.all fun y => stmB y.t)) ∧ Below w.heap.size w w' := by
  have HX := hid h
  have Hs := hid hs
  have hn := h.few
  have HL := hid h.len
  have hpos := hs.pos0
  clear h hs
  obtain ⟨nm, A, n, c, l⟩ := x
  simp only at hn HL
  go_enter Tryz.func115, Tryz.ntmps115
  go_wp2_with fail
  go_loopw [6, 9] (fun _ iv wr => ∃ k : Nat, k ≤ n ∧ iv = .int .i64 k ∧ Hid ((l.take k).all (fun y => stmB y.t) = true) ∧ Hid (Below w.heap.size w wr)) (fun _ iv _ => n - (intOf iv).toNat)
  case atStart => exact ⟨0, by omega, rfl, hid rfl, Below.refl _ _⟩
  case round =>
    obtain ⟨k, hk, rfl, hX, hB⟩ := hrel
    by_cases hlt : k < n
    · obtain ⟨y, hy, hym⟩ := get_at HL.out hlt
      have HPr := hid (HX.out.go (Go2.below hB.out))
      obtain ⟨ad, hA, had, hcs⟩ := SH.cells HPr.out.lies hy
      have Hy := hid (HPr.out.all y hym)
      have Hget := hid hy
      simp only at hA
      subst hA
      have hz := hB.out.size
      have hb2 := (Below.refl wr.heap.size wr).alloc (Nat.le_refl _) (.cells #[.int .i64 y.t.op, .string y.t.d, .slice y.A y.n y.c, .slice y.B y.m y.c2] 101)
      have Hy2 := hid (Hy.out.go (Go2.below hb2))
      have Hs2 := hid ((Hs.out.keep (hB.out.block 0 hpos)).keep (hb2.block 0 (by omega)))
      have HB2 := hid (below_step hB.out hb2)
      clear hy hym HPr hb2 Hy
      obtain ⟨hc1, hc2, hc3, hc4⟩ := hcs
      go_wp2_with fail
      refine (validStmt_any y ex _ Hy2.out Hs2.out).mono ?_
      rintro e w2 ⟨rfl, hb2⟩
      have HB3 := hid (below_step HB2.out hb2)
      clear hb2 Hy2 Hs2 HB2 hc1 hc2 hc3 hc4 had hz
      cases hv : (stmB y.t) with
      | false =>
        as_aux_lemma =>
          have Hr := hid (allS_any_n Hget.out hv)
          clear hv
          go_wp2_with fail
          go_ret
          exact ⟨ret_b Hr.out, HB3.out⟩
      | true =>
        as_aux_lemma =>
          have Hr := hid (allS_any_t hX.out Hget.out hv)
          clear hv
          go_wp2_with fail
          go_roundw
          case rel => exact ⟨k + 1, by omega, by go_num, Hr, HB3⟩
          case measure => simp [intOf]; omega
    · as_aux_lemma =>
        obtain rfl : k = n := by omega
        have Hr := hid (show (l.all fun y => stmB y.t) = true by rw [← List.take_length (l := l), HL.out]; exact hX.out)
        go_wp2_with fail
        go_ret
        exact ⟨ret_b Hr.out, hB.out⟩
set_option maxHeartbeats 1600000 in
theorem validBlock_any (x : BH) (ex : List (Option Nat)) (w : World) (h : BHok w ex x) (hs : Shp w) :
    Calls Tryz.prog 98 #[.agg #[.string x.name, .slice x.A x.n x.c]] w fun e w' => e = .returned (.bool (blkB x.b)) ∧ Below w.heap.size w w' := by
  obtain ⟨nm, A, n, c, l⟩ := x
  have hb2 := (Below.refl w.heap.size w).alloc (Nat.le_refl _) (.cells #[.string nm, .slice A n c] 95)
  have HX := hid (h.go (Go2.below hb2))
  have Hs := hid (hs.keep (hb2.block 0 hs.pos0))
  have Hf := hid (Fb.new w #[.string nm, .slice A n c] 95)
  have HB := hid hb2
  have Hnm := hid (show nm.size ≤ maxLen by have := h.small; simp only at this; unfold maxLen; omega)
  have Hl := hid (show l.length = n from h.len)
  have Hp := hid (show blkB (BH.b ⟨nm, A, n, c, l⟩) = (nameB nm && wiB n 1 32 && l.all fun y => stmB y.t) by
    rw [show wiB (n : Int) 1 32 = (decide (1 ≤ n) && decide (n ≤ 32)) from wi_nat n 32]; unfold blkB; simp [BH.b, Hl.out, List.all_map, Function.comp_def, Bool.and_assoc])
  have hn := h.few
  simp only at hn
  clear hb2 h hs
  go_enter Tryz.func98, Tryz.ntmps98
  go_wp2_with fail
  refine (devIsName_any nm _ Hnm.out).mono ?_
  rintro e w2 ⟨rfl, rfl⟩
  cases hv : nameB nm with
  | false =>
    as_aux_lemma =>
      have Hr := hid (Hp.out.trans (show (nameB nm && wiB n 1 32 && l.all fun y => stmB y.t) = false by rw [hv]; rfl))
      clear hv
      go_wp2_with fail
      go_ret
      exact ⟨ret_b Hr.out, HB.out⟩
  | true =>
    have Hv := hid hv
    clear hv
    obtain ⟨a0, a1⟩ := Hf.out.twoc
    go_wp2_with fail
    refine (within_any _ _ _ _).mono ?_
    rintro e w3 ⟨rfl, rfl⟩
    cases hx : wiB n 1 32 with
    | false =>
      as_aux_lemma =>
        have Hr := hid (Hp.out.trans (by rw [hx]; simp : _ = false))
        clear hx
        go_wp2_with fail
        go_ret
        exact ⟨ret_b Hr.out, HB.out⟩
    | true =>
      have Hr := hid (Hp.out.trans (by rw [hx, Hv.out]; rfl : _ = l.all fun y => stmB y.t))
      clear hx
      go_wp2_with fail
      refine (allS_any ⟨nm, A, n, c, l⟩ ex _ HX.out Hs.out).mono ?_
      rintro e w4 ⟨rfl, hb4⟩
      have HB4 := hid (below_step HB.out hb4)
      clear hb4
      cases hy : (l.all fun y => stmB y.t) with
      | false =>
        as_aux_lemma =>
          rw [hy] at Hr
          clear hy
          go_wp2_with fail
          go_ret
          exact ⟨ret_b Hr.out, HB4.out⟩
      | true =>
        as_aux_lemma =>
          rw [hy] at Hr
          clear hy
          go_wp2_with fail
          go_ret
          exact ⟨ret_b Hr.out, HB4.out⟩
theorem allB_any_t {l : List BH} {k : Nat} {y : BH} (h : (l.take k).all (fun y => blkB y.b) = true) (hy : l[k]? = some y) (hp : blkB y.b = true) : (l.take (k + 1)).all (fun y => blkB y.b) = true := take_all (p := fun y : BH => blkB y.b) h hy hp
theorem allB_any_n {l : List BH} {k : Nat} {y : BH} (hy : l[k]? = some y) (hp : blkB y.b = false) : l.all (fun y => blkB y.b) = false := all_no (p := fun y : BH => blkB y.b) hy hp
set_option maxHeartbeats 1600000 in
theorem allB_any (x : FH) (ex : List (Option Nat)) (w : World) (h : FHok w ex x) (hs : Shp w) :
    Calls Tryz.prog 97 #[.slice x.A x.n x.c, .func (Fn.func 98) #[] #[]] w fun e w' => e = .returned (.bool (x.l.all fun y => blkB y.b)) ∧ Below w.heap.size w w' := by
  have HX := hid h
  have Hs := hid hs
  have hn := h.few
  have HL := hid h.len
  have hpos := hs.pos0
  clear h hs
  obtain ⟨nm, A, n, c, l⟩ := x
  simp only at hn HL
  go_enter Tryz.func97, Tryz.ntmps97
  go_wp2_with fail
  go_loopw [6, 9] (fun _ iv wr => ∃ k : Nat, k ≤ n ∧ iv = .int .i64 k ∧ Hid ((l.take k).all (fun y => blkB y.b) = true) ∧ Hid (Below w.heap.size w wr)) (fun _ iv _ => n - (intOf iv).toNat)
  case atStart => exact ⟨0, by omega, rfl, hid rfl, Below.refl _ _⟩
  case round =>
    obtain ⟨k, hk, rfl, hX, hB⟩ := hrel
    by_cases hlt : k < n
    · obtain ⟨y, hy, hym⟩ := get_at HL.out hlt
      have HPr := hid (HX.out.go (Go2.below hB.out))
      obtain ⟨ad, hA, had, hcs⟩ := BH.cells HPr.out.lies hy
      have Hy := hid (HPr.out.all y hym)
      have Hget := hid hy
      simp only at hA
      subst hA
      have hz := hB.out.size
      have hb2 := (Below.refl wr.heap.size wr).alloc (Nat.le_refl _) (.cells #[.string y.name, .slice y.A y.n y.c] 95)
      have Hy2 := hid (Hy.out.go (Go2.below hb2))
      have Hs2 := hid ((Hs.out.keep (hB.out.block 0 hpos)).keep (hb2.block 0 (by omega)))
      have HB2 := hid (below_step hB.out hb2)
      clear hy hym HPr hb2 Hy
      obtain ⟨hc1, hc2⟩ := hcs
      go_wp2_with fail
      refine (validBlock_any y ex _ Hy2.out Hs2.out).mono ?_
      rintro e w2 ⟨rfl, hb2⟩
      have HB3 := hid (below_step HB2.out hb2)
      clear hb2 Hy2 Hs2 HB2 hc1 hc2 had hz
      cases hv : (blkB y.b) with
      | false =>
        as_aux_lemma =>
          have Hr := hid (allB_any_n Hget.out hv)
          clear hv
          go_wp2_with fail
          go_ret
          exact ⟨ret_b Hr.out, HB3.out⟩
      | true =>
        as_aux_lemma =>
          have Hr := hid (allB_any_t hX.out Hget.out hv)
          clear hv
          go_wp2_with fail
          go_roundw
          case rel => exact ⟨k + 1, by omega, by go_num, Hr, HB3⟩
          case measure => simp [intOf]; omega
    · as_aux_lemma =>
        obtain rfl : k = n := by omega
        have Hr := hid (show (l.all fun y => blkB y.b) = true by rw [← List.take_length (l := l), HL.out]; exact hX.out)
        go_wp2_with fail
        go_ret
        exact ⟨ret_b Hr.out, hB.out⟩
set_option maxHeartbeats 1600000 in
theorem validFunc_any (x : FH) (ex : List (Option Nat)) (w : World) (h : FHok w ex x) (hs : Shp w) :
    Calls Tryz.prog 77 #[.agg #[.string x.name, .slice x.A x.n x.c]] w fun e w' => e = .returned (.bool (fncB x.f)) ∧ Below w.heap.size w w' := by
  obtain ⟨nm, A, n, c, l⟩ := x
  have hb2 := (Below.refl w.heap.size w).alloc (Nat.le_refl _) (.cells #[.string nm, .slice A n c] 75)
  have HX := hid (h.go (Go2.below hb2))
  have Hs := hid (hs.keep (hb2.block 0 hs.pos0))
  have Hf := hid (Fb.new w #[.string nm, .slice A n c] 75)
  have HB := hid hb2
  have Hnm := hid (show nm.size ≤ maxLen by have := h.small; simp only at this; unfold maxLen; omega)
  have Hl := hid (show l.length = n from h.len)
  have Hp := hid (show fncB (FH.f ⟨nm, A, n, c, l⟩) = (nameB nm && wiB n 1 16 && l.all fun y => blkB y.b) by
    rw [show wiB (n : Int) 1 16 = (decide (1 ≤ n) && decide (n ≤ 16)) from wi_nat n 16]; unfold fncB; simp [FH.f, Hl.out, List.all_map, Function.comp_def, Bool.and_assoc])
  have hn := h.few
  simp only at hn
  clear hb2 h hs
  go_enter Tryz.func77, Tryz.ntmps77
  go_wp2_with fail
  refine (devIsName_any nm _ Hnm.out).mono ?_
  rintro e w2 ⟨rfl, rfl⟩
  cases hv : nameB nm with
  | false =>
    as_aux_lemma =>
      have Hr := hid (Hp.out.trans (show (nameB nm && wiB n 1 16 && l.all fun y => blkB y.b) = false by rw [hv]; rfl))
      clear hv
      go_wp2_with fail
      go_ret
      exact ⟨ret_b Hr.out, HB.out⟩
  | true =>
    have Hv := hid hv
    clear hv
    obtain ⟨a0, a1⟩ := Hf.out.twoc
    go_wp2_with fail
    refine (within_any _ _ _ _).mono ?_
    rintro e w3 ⟨rfl, rfl⟩
    cases hx : wiB n 1 16 with
    | false =>
      as_aux_lemma =>
        have Hr := hid (Hp.out.trans (by rw [hx]; simp : _ = false))
        clear hx
        go_wp2_with fail
        go_ret
        exact ⟨ret_b Hr.out, HB.out⟩
    | true =>
      have Hr := hid (Hp.out.trans (by rw [hx, Hv.out]; rfl : _ = l.all fun y => blkB y.b))
      clear hx
      go_wp2_with fail
      refine (allB_any ⟨nm, A, n, c, l⟩ ex _ HX.out Hs.out).mono ?_
      rintro e w4 ⟨rfl, hb4⟩
      have HB4 := hid (below_step HB.out hb4)
      clear hb4
      cases hy : (l.all fun y => blkB y.b) with
      | false =>
        as_aux_lemma =>
          rw [hy] at Hr
          clear hy
          go_wp2_with fail
          go_ret
          exact ⟨ret_b Hr.out, HB4.out⟩
      | true =>
        as_aux_lemma =>
          rw [hy] at Hr
          clear hy
          go_wp2_with fail
          go_ret
          exact ⟨ret_b Hr.out, HB4.out⟩
theorem allF_any_t {l : List FH} {k : Nat} {y : FH} (h : (l.take k).all (fun y => fncB y.f) = true) (hy : l[k]? = some y) (hp : fncB y.f = true) : (l.take (k + 1)).all (fun y => fncB y.f) = true := take_all (p := fun y : FH => fncB y.f) h hy hp
theorem allF_any_n {l : List FH} {k : Nat} {y : FH} (hy : l[k]? = some y) (hp : fncB y.f = false) : l.all (fun y => fncB y.f) = false := all_no (p := fun y : FH => fncB y.f) hy hp
set_option maxHeartbeats 1600000 in
theorem allF_any (x : PH) (ex : List (Option Nat)) (w : World) (h : PHok w ex x) (hs : Shp w) :
    Calls Tryz.prog 76 #[.slice x.A x.n x.c, .func (Fn.func 77) #[] #[]] w fun e w' => e = .returned (.bool (x.l.all fun y => fncB y.f)) ∧ Below w.heap.size w w' := by
  have HX := hid h
  have Hs := hid hs
  have hn := h.few
  have HL := hid h.len
  have hpos := hs.pos0
  clear h hs
  obtain ⟨A, n, c, l⟩ := x
  simp only at hn HL
  go_enter Tryz.func76, Tryz.ntmps76
  go_wp2_with fail
  go_loopw [6, 9] (fun _ iv wr => ∃ k : Nat, k ≤ n ∧ iv = .int .i64 k ∧ Hid ((l.take k).all (fun y => fncB y.f) = true) ∧ Hid (Below w.heap.size w wr)) (fun _ iv _ => n - (intOf iv).toNat)
  case atStart => exact ⟨0, by omega, rfl, hid rfl, Below.refl _ _⟩
  case round =>
    obtain ⟨k, hk, rfl, hX, hB⟩ := hrel
    by_cases hlt : k < n
    · obtain ⟨y, hy, hym⟩ := get_at HL.out hlt
      have HPr := hid (HX.out.go (Go2.below hB.out))
      obtain ⟨ad, hA, had, hcs⟩ := FH.cells HPr.out.lies hy
      have Hy := hid (HPr.out.all y hym)
      have Hget := hid hy
      simp only at hA
      subst hA
      have hz := hB.out.size
      have hb2 := (Below.refl wr.heap.size wr).alloc (Nat.le_refl _) (.cells #[.string y.name, .slice y.A y.n y.c] 75)
      have Hy2 := hid (Hy.out.go (Go2.below hb2))
      have Hs2 := hid ((Hs.out.keep (hB.out.block 0 hpos)).keep (hb2.block 0 (by omega)))
      have HB2 := hid (below_step hB.out hb2)
      clear hy hym HPr hb2 Hy
      obtain ⟨hc1, hc2⟩ := hcs
      go_wp2_with fail
      refine (validFunc_any y ex _ Hy2.out Hs2.out).mono ?_
      rintro e w2 ⟨rfl, hb2⟩
      have HB3 := hid (below_step HB2.out hb2)
      clear hb2 Hy2 Hs2 HB2 hc1 hc2 had hz
      cases hv : (fncB y.f) with
      | false =>
        as_aux_lemma =>
          have Hr := hid (allF_any_n Hget.out hv)
          clear hv
          go_wp2_with fail
          go_ret
          exact ⟨ret_b Hr.out, HB3.out⟩
      | true =>
        as_aux_lemma =>
          have Hr := hid (allF_any_t hX.out Hget.out hv)
          clear hv
          go_wp2_with fail
          go_roundw
          case rel => exact ⟨k + 1, by omega, by go_num, Hr, HB3⟩
          case measure => simp [intOf]; omega
    · as_aux_lemma =>
        obtain rfl : k = n := by omega
        have Hr := hid (show (l.all fun y => fncB y.f) = true by rw [← List.take_length (l := l), HL.out]; exact hX.out)
        go_wp2_with fail
        go_ret
        exact ⟨ret_b Hr.out, hB.out⟩
set_option maxHeartbeats 1600000 in
theorem devValid_any (x : PH) (ex : List (Option Nat)) (w : World) (h : PHok w ex x) (hs : Shp w) :
    Calls Tryz.prog 54 #[.agg #[.slice x.A x.n x.c]] w fun e w' => e = .returned (.bool (prgB x.p)) ∧ Below w.heap.size w w' := by
  obtain ⟨A, n, c, l⟩ := x
  have hb2 := (Below.refl w.heap.size w).alloc (Nat.le_refl _) (.cells #[.slice A n c] 49)
  have HX := hid (h.go (Go2.below hb2))
  have Hs := hid (hs.keep (hb2.block 0 hs.pos0))
  have Hf := hid (Fb.new w #[.slice A n c] 49)
  have HB := hid hb2
  have Hl := hid (show l.length = n from h.len)
  have Hp := hid (show prgB (PH.p ⟨A, n, c, l⟩) = (wiB n 1 8 && l.all fun y => fncB y.f) by
    rw [show wiB (n : Int) 1 8 = (decide (1 ≤ n) && decide (n ≤ 8)) from wi_nat n 8]; unfold prgB; simp [PH.p, Hl.out, List.all_map, Function.comp_def])
  have hn := h.few
  simp only at hn
  clear hb2 h hs
  go_enter Tryz.func54, Tryz.ntmps54
  go_wp2_with fail
  refine (within_any _ _ _ _).mono ?_
  rintro e w3 ⟨rfl, rfl⟩
  have a0 := Hf.out.onec
  cases hx : wiB n 1 8 with
  | false =>
    as_aux_lemma =>
      have Hr := hid (Hp.out.trans (by rw [hx]; simp : _ = false))
      clear hx
      go_wp2_with fail
      go_ret
      exact ⟨ret_b Hr.out, HB.out⟩
  | true =>
    have Hr := hid (Hp.out.trans (by rw [hx]; rfl : _ = l.all fun y => fncB y.f))
    clear hx
    go_wp2_with fail
    refine (allF_any ⟨A, n, c, l⟩ ex _ HX.out Hs.out).mono ?_
    rintro e w4 ⟨rfl, hb4⟩
    have HB4 := hid (below_step HB.out hb4)
    clear hb4
    cases hy : (l.all fun y => fncB y.f) with
    | false =>
      as_aux_lemma =>
        rw [hy] at Hr
        clear hy
        go_wp2_with fail
        go_ret
        exact ⟨ret_b Hr.out, HB4.out⟩
    | true =>
      as_aux_lemma =>
        rw [hy] at Hr
        clear hy
        go_wp2_with fail
        go_ret
        exact ⟨ret_b Hr.out, HB4.out⟩
end Go.Proofs.YtmbelhdkaepohaaGreatDoor

namespace Go.Proofs.YtmbelhdkaepohaaGreatDoor
set_option maxRecDepth 20000
set_option linter.unusedVariables false
set_option linter.unusedSimpArgs false
open Go.ChangeShapes Go.WideShapes Go.ChangeAt Go.RowKit

def fncS (f : Fnc) : List Stm := f.bs.flatMap Blk.ss
def stmtsP (p : List Fnc) : List Stm := if prgB p then p.flatMap fncS else []
theorem blk_parts {b : Blk} (h : blkB b = true) : 1 ≤ b.ss.length ∧ b.ss.length ≤ 32 ∧ ∀ s ∈ b.ss, stmB s = true := by
  unfold blkB at h
  simp only [Bool.and_eq_true, decide_eq_true_eq] at h
  exact ⟨h.1.1.2, h.1.2, fun s hs => List.all_eq_true.1 h.2 s hs⟩
theorem fnc_parts {f : Fnc} (h : fncB f = true) : 1 ≤ f.bs.length ∧ f.bs.length ≤ 16 ∧ ∀ b ∈ f.bs, blkB b = true := by
  unfold fncB at h
  simp only [Bool.and_eq_true, decide_eq_true_eq] at h
  exact ⟨h.1.1.2, h.1.2, fun s hs => List.all_eq_true.1 h.2 s hs⟩
theorem prg_parts {p : List Fnc} (h : prgB p = true) : 1 ≤ p.length ∧ p.length ≤ 8 ∧ ∀ f ∈ p, fncB f = true := by
  unfold prgB at h
  simp only [Bool.and_eq_true, decide_eq_true_eq] at h
  exact ⟨h.1.1, h.1.2, fun s hs => List.all_eq_true.1 h.2 s hs⟩
theorem flat_mem {α β : Type} {f : α → List β} {l : List α} {P : β → Prop} (h : ∀ a ∈ l, ∀ b ∈ f a, P b) : ∀ b ∈ l.flatMap f, P b := by
  intro b hb
  obtain ⟨a, ha, hb⟩ := List.mem_flatMap.1 hb
  exact h a ha b hb
theorem stmts_ok {p : List Fnc} : ∀ s ∈ stmtsP p, stmB s = true := by
  unfold stmtsP
  split
  · next h => exact flat_mem fun f hf => flat_mem fun b hb => (blk_parts ((fnc_parts ((prg_parts h).2.2 f hf)).2.2 b hb)).2.2
  · simp
theorem one_shc2 (l : List SH) : ∀ u ∈ l.flatMap shc, u.oneCell' = true := flat_mem fun x _ => by
  intro u hu
  simp [shc] at hu
  rcases hu with rfl | rfl | rfl | rfl <;> rfl
/-- The statements' list came back. -/
def RetSt (w0 w : World) (p : List Fnc) (e : Ending) (w' : World) : Prop :=
  ∃ (A : Option Addr) (c : Nat) (l : List SH), e = .returned (.slice A l.length c) ∧ l.map SH.t = stmtsP p ∧ l.length ≤ 4096 ∧ (∀ ex : List (Option Nat), (∀ k, some k ∈ ex → k < w.heap.size) → EAt w' ex A (l.flatMap shc)) ∧ (∀ y ∈ l, SHok w0 [] y) ∧ Below w.heap.size w w'
/-- The list of statements that is built, beside what it is built of. -/
structure Stg (w0 w : World) (v : Value) (m : Nat) (L : List SH) (wr : World) : Prop where
  own : wr.ownsRow (w.heap.size + 1) 101 4 v m (L.flatMap shc)
  len : m = L.length
  all : ∀ y ∈ L, SHok w0 [] y
  bel : Below w.heap.size w wr
  siz : w.heap.size + 1 ≤ wr.heap.size
theorem Stg.below {w0 w wr w' : World} {v : Value} {m : Nat} {L : List SH} (h : Stg w0 w v m L wr) (hb : Below wr.heap.size wr w') : Stg w0 w v m L w' :=
  ⟨own_below h.own hb, h.len, h.all, below_step h.bel hb, Nat.le_trans h.siz hb.size⟩
theorem Stg.push {w0 w wr w' : World} {v : Value} {m n g cap : Nat} {L l : List SH} (h : Stg w0 w v m L wr) (hall : ∀ y ∈ l, SHok w0 [] y) (hn : l.length = n)
    (hown : w'.ownsRow (w.heap.size + 1) 101 4 (.slice (some ⟨g, 0, none⟩) (m + n) cap) (m + n) (L.flatMap shc ++ l.flatMap shc)) (hg : wr.grownBy w' v.ownBlock) : Stg w0 w (.slice (some ⟨g, 0, none⟩) (m + n) cap) (m + n) (L ++ l) w' := by
  refine ⟨by rw [List.flatMap_append]; exact hown, by rw [List.length_append, h.len, hn], fun y hy => (List.mem_append.1 hy).elim (h.all y) (hall y), ?_, Nat.le_trans h.siz hg.size⟩
  exact h.bel.grown hg h.bel.size (fun k hk => by have := (h.own.lt k hk).1; omega)
theorem info46 : (Tryz.prog.info? 101).map (fun i => (i.zero, i.size, i.bytes)) = some (some (.agg #[.int .i64 0, .string ⟨#[]⟩, .slice none 0 0, .slice none 0 0]), 4, 72) := by kernel_rfl
set_option maxHeartbeats 6400000 in
theorem statements_any (x : PH) (ex : List (Option Nat)) (wz w : World) (h : PHok wz ex x) (hwz : Below wz.heap.size wz w) (hs : Shp w) :
    Calls Tryz.prog 102 #[.agg #[.slice x.A x.n x.c]] w (RetSt wz w x.p) := by
  obtain ⟨i1, hi, hz0, hz1, hz2⟩ := info_parts info46
  have Hi := hid hi; have Hz0 := hid hz0; have Hz1 := hid hz1; have Hz2 := hid hz2
  clear hi hz0 hz1 hz2
  have hx0 : PHok wz [] x := h.go (Go2.less wz (by simp))
  have Hwz := hid hwz
  have hb0 := (Below.refl w.heap.size w).alloc (Nat.le_refl _) (.cells #[.slice x.A x.n x.c] 49)
  have HX := hid hx0
  have HB0 := hid hb0
  have HG0 := hid (Fb.new w #[.slice x.A x.n x.c] 49)
  have HV := hid (devValid_any x [] _ (PHok.below (PHok.below hx0 hwz) hb0) (hs.keep (hb0.block 0 hs.pos0)))
  have hsz0 := hid (show (w.alloc (.cells #[.slice x.A x.n x.c] 49)).heap.size = w.heap.size + 1 by rw [World.size_alloc])
  have hn := h.few
  have HL := hid h.len
  clear h hb0 hx0 hs hwz
  obtain ⟨A, n, c, l⟩ := x
  simp only at *
  go_enter Tryz.func102, Tryz.ntmps102
  go_wp2_with fail
  generalize w.alloc (.cells #[.slice A n c] 49) = w0 at *
  refine HV.out.mono ?_
  rintro e w1 ⟨rfl, hb1⟩
  have HB1 := hid (below_step HB0.out hb1)
  have HG1 := hid (HG0.out.below hb1 HG0.out.lt)
  have HS1 := hid (show w.heap.size + 1 ≤ w1.heap.size by have := hb1.size; have := hsz0.out; omega)
  clear hb1 HB0 HG0 HV hsz0
  cases hv : prgB (PH.p ⟨A, n, c, l⟩) with
  | false =>
    as_aux_lemma =>
      have Hr := hid (show stmtsP (PH.p ⟨A, n, c, l⟩) = [] by unfold stmtsP; rw [hv]; rfl)
      clear hv
      go_wp2_with fail
      go_ret
      exact ⟨none, 0, [], rfl, by rw [Hr.out]; rfl, by simp, fun _ _ => EAt.nil _ _ _, by simp, HB1.out⟩
  | true =>
    have Hr := hid (show stmtsP (PH.p ⟨A, n, c, l⟩) = l.flatMap (fun y => fncS y.f) by unfold stmtsP PH.p; rw [show prgB (l.map FH.f) = true from hv, if_pos rfl, List.flatMap_map])
    have HP := hid (prg_parts hv)
    have hn8 : n ≤ 8 := by have := HP.out.2.1; have := HL.out; simp [PH.p] at *; omega
    have Hf := hid (fun (y : FH) (hy : y ∈ l) => fnc_parts (HP.out.2.2 y.f (List.mem_map_of_mem hy)))
    clear hv
    have HO := hid (show Stg wz w (.slice none 0 0) 0 [] w1 from ⟨World.ownsRow_nil _ _ _ _, rfl, by simp, HB1.out, HS1.out⟩)
    obtain g0 := HG1.out.onec
    clear HB1 HS1 HP
    go_wp2_with fail
    clear g0 HG1
    go_loopw [3, 5, 7, 14] (fun sv _ _ iv wr => ∃ (k m : Nat) (v : Value) (L : List SH), k ≤ n ∧ iv = .int .i64 k ∧ sv = v ∧ m ≤ k * 512 ∧ Hid (L.map SH.t = (l.take k).flatMap (fun y => fncS y.f)) ∧ Hid (Stg wz w v m L wr)) (fun _ _ _ iv _ => n - (intOf iv).toNat)
    case atStart => exact ⟨0, 0, _, [], by omega, rfl, rfl, by omega, hid rfl, HO.out⟩
    case round =>
      clear HO
      obtain ⟨k, m, v, L, hk, rfl, rfl, hm, hE, hO⟩ := hrel
      by_cases hlt : k < n
      · obtain ⟨y, hy, hym⟩ := get_at HL.out hlt
        have HPr := hid (HX.out.go (Go2.below (below_step Hwz.out hO.out.bel)))
        obtain ⟨ad, hA, had, hc1, hc2⟩ := FH.cells HPr.out.lies hy
        simp only at hA
        subst hA
        have hb2 := (Below.refl wr.heap.size wr).alloc (Nat.le_refl _) (.cells #[.string y.name, .slice y.A y.n y.c] 75)
        have HO2 := hid (hO.out.below hb2)
        have HG2 := hid (Fb.new wr #[.string y.name, .slice y.A y.n y.c] 75)
        have Hy := hid (HX.out.all y hym)
        have Hyl := hid (show y.l.length = y.n from (HX.out.all y hym).len)
        have hyn : y.n ≤ 16 := by have := (Hf.out y hym).2.1; have := Hyl.out; simp [FH.f] at *; omega
        have Hyb := hid (fun (z : BH) (hz : z ∈ y.l) => blk_parts ((Hf.out y hym).2.2 z.b (List.mem_map_of_mem hz)))
        have Hstep := hid (show (l.take (k + 1)).flatMap (fun y => fncS y.f) = (l.take k).flatMap (fun y => fncS y.f) ++ fncS y.f by rw [List.take_add_one, hy, List.flatMap_append]; simp)
        have Hfs := hid (show fncS y.f = y.l.flatMap (fun z => z.b.ss) by unfold fncS FH.f; rw [List.flatMap_map])
        clear hy hym HPr hb2 hO
        obtain ⟨g0, g1⟩ := HG2.out.twoc
        obtain ⟨ynm, yA, yn, yc, yl⟩ := y
        simp only at *
        go_wp2_with fail
        clear g0 g1 hc1 hc2 had HG2
        go_loopw [3, 7, 21] (fun sv _ iv wr => ∃ (j m2 : Nat) (v : Value) (L2 : List SH), j ≤ yn ∧ iv = .int .i64 j ∧ sv = v ∧ m2 ≤ k * 512 + j * 32 ∧ Hid (L2.map SH.t = (l.take k).flatMap (fun y => fncS y.f) ++ (yl.take j).flatMap (fun z => z.b.ss)) ∧ Hid (Stg wz w v m2 L2 wr)) (fun _ _ iv _ => yn - (intOf iv).toNat)
        case atStart => exact ⟨0, m, _, L, by omega, rfl, rfl, by omega, hid (by rw [hE.out]; simp), HO2.out⟩
        case round =>
          clear HO2
          obtain ⟨j, m2, v2, L2, hj, rfl, rfl, hm2, hE2, hO⟩ := hrel
          by_cases hlt2 : j < yn
          · obtain ⟨z, hz, hzm⟩ := get_at Hyl.out hlt2
            have HPr := hid (Hy.out.go (Go2.below (below_step Hwz.out hO.out.bel)))
            obtain ⟨ad2, hA, had, hc1, hc2⟩ := BH.cells HPr.out.lies hz
            simp only at hA
            subst hA
            have hb2 := (Below.refl wr.heap.size wr).alloc (Nat.le_refl _) (.cells #[.string z.name, .slice z.A z.n z.c] 95)
            have HO2 := hid (hO.out.below hb2)
            have HG2 := hid (Fb.new wr #[.string z.name, .slice z.A z.n z.c] 95)
            have HZ := hid ((HPr.out.all z hzm).lies.go (Go2.below hb2))
            have Hza := hid (Hy.out.all z hzm).all
            have Hzl := hid (show z.l.length = z.n from (HPr.out.all z hzm).len)
            have hzn : 1 ≤ z.n ∧ z.n ≤ 32 := by have h1 := (Hyb.out z hzm).1; have h2 := (Hyb.out z hzm).2.1; have := Hzl.out; simp [BH.b] at *; omega
            have Hstep2 := hid (show (yl.take (j + 1)).flatMap (fun z => z.b.ss) = (yl.take j).flatMap (fun z => z.b.ss) ++ z.l.map SH.t by rw [List.take_add_one, hz, List.flatMap_append]; simp [BH.b])
            clear hz hzm HPr hb2 hO
            obtain ⟨g0, g1⟩ := HG2.out.twoc
            obtain ⟨znm, zA, zn, zc, zl⟩ := z
            simp only at *
            obtain ⟨za, rfl, hzs, hzc⟩ : ∃ ad, zA = some ad ∧ Safe _ [] ad.block ∧ ∀ j u, (zl.flatMap shc)[j]? = some u → World.cell? _ (ad.add j) = some u := by
              rcases HZ.out with h | h
              · have := flat_len shc_len zl; rw [h] at this; simp at this; have := Hzl.out; omega
              · exact h
            have Hzc := hid hzc
            have Hnl := hid (show (zl.flatMap shc).length = zn * 4 by rw [flat_len shc_len, Hzl.out])
            clear hzc hzs
            go_wp2_with ((
              at_builtin
              refine wpList_append_lies _ rfl _ _ 93 rfl (w.heap.size + 1) 101 i1 _ 4 72 Tryz.underlying93 Hi.out Hz0.out Hz1.out Hz2.out rfl (by decide) _ m2 (L2.flatMap shc) rfl HO2.out.own za zn zc (zl.flatMap shc) rfl Hnl.out Hzc.out (one_shc2 zl) (by omega) (by unfold maxLen; omega) (by omega) HO2.out.siz _ rfl ?_
              intro g5 cap5 w5 hown5 hgr5 hat5 hlt5
              have H5 := hid (Stg.push HO2.out Hza.out Hzl.out hown5 hgr5)
              clear hown5 hgr5 hat5 hlt5))
            clear g0 g1 hc1 hc2 had HG2 HO2 HZ Hzc
            go_roundw
            case rel => exact ⟨j + 1, m2 + zn, _, L2 ++ zl, by omega, by go_num, rfl, by omega, hid (by rw [List.map_append, hE2.out, Hstep2.out, List.append_assoc]), H5⟩
            case measure => simp [intOf]; omega
          · as_aux_lemma =>
              obtain rfl : j = yn := by omega
              have Hd := hid (show L2.map SH.t = (l.take (k + 1)).flatMap (fun y => fncS y.f) by rw [hE2.out, Hstep.out, Hfs.out, ← Hyl.out, List.take_length])
              go_wp2_with fail
              go_roundw
              case rel => exact ⟨k + 1, m2, _, L2, by omega, by go_num, rfl, by omega, Hd, hO⟩
              case measure => simp [intOf]; omega
      · as_aux_lemma =>
          obtain rfl : k = n := by omega
          have Hd := hid (show L.map SH.t = stmtsP (PH.p ⟨A, k, c, l⟩) by rw [hE.out, Hr.out, ← HL.out, List.take_length])
          obtain ⟨B, cc, hvv⟩ := own_any_slice hO.out.own
          subst hvv
          have hml := hO.out.len
          go_wp2_with fail
          go_ret
          subst hml
          exact ⟨B, cc, L, rfl, Hd.out, by omega, fun ex hex => EAt.own hO.out.own (fun g hg hm => by have := (hO.out.own.lt g hg).1; have := hex g hm; omega), hO.out.all, hO.out.bel⟩
end Go.Proofs.YtmbelhdkaepohaaGreatDoor

namespace Go.Proofs.YtmbelhdkaepohaaGreatDoor
set_option maxRecDepth 20000
set_option linter.unusedVariables false
set_option linter.unusedSimpArgs false
open Go.ChangeShapes Go.WideShapes Go.ChangeAt Go.RowKit

def nodO (o : Int) : Nat := if o == 3 then 2 else 1
def edgO (o : Int) : Nat := if o == 3 then 3 else if o == 8 then 2 else 1
theorem nod_any (o : Int) (w : World) : Calls Tryz.prog 103 #[.int .i64 o] w fun e w' => e = .returned (.int .i64 (nodO o : Nat)) ∧ w = w' := by
  unfold nodO
  cases h1 : (o == 3) with
  | true =>
    go_enter Tryz.func103, Tryz.ntmps103
    go_wp2
    go_ret
    exact ⟨rfl, rfl⟩
  | false =>
    go_enter Tryz.func103, Tryz.ntmps103
    go_wp2
    go_ret
    exact ⟨rfl, rfl⟩
theorem edg_any (o : Int) (w : World) : Calls Tryz.prog 104 #[.int .i64 o] w fun e w' => e = .returned (.int .i64 (edgO o : Nat)) ∧ w = w' := by
  unfold edgO
  cases h1 : (o == 3) with
  | true =>
    go_enter Tryz.func104, Tryz.ntmps104
    go_wp2
    go_ret
    exact ⟨rfl, rfl⟩
  | false =>
    cases h2 : (o == 8) with
    | true =>
      go_enter Tryz.func104, Tryz.ntmps104
      go_wp2
      go_ret
      exact ⟨rfl, rfl⟩
    | false =>
      go_enter Tryz.func104, Tryz.ntmps104
      go_wp2
      go_ret
      exact ⟨rfl, rfl⟩
theorem nod_le (o : Int) : nodO o ≤ 2 := by unfold nodO; split <;> omega
theorem edg_le (o : Int) : edgO o ≤ 3 := by unfold edgO; split; omega; split <;> omega
def sumP (f : Int → Nat) (l : List Stm) : Nat := (l.map fun t => f t.op).sum
theorem sum_take {f : Int → Nat} {l : List Stm} {k : Nat} {t : Stm} (h : l[k]? = some t) : sumP f (l.take (k + 1)) = sumP f (l.take k) + f t.op := by
  unfold sumP; rw [List.take_add_one, h]; simp
theorem sumP_le {f : Int → Nat} {b : Nat} (hf : ∀ o, f o ≤ b) (l : List Stm) : sumP f l ≤ l.length * b := by
  unfold sumP
  induction l with
  | nil => simp
  | cons t l ih => simp only [List.map_cons, List.sum_cons, List.length_cons, Nat.succ_mul]; have := hf t.op; omega
/-- How many nodes and edges. -/
def sizesP (p : List Fnc) : Nat × Nat := if (stmtsP p).length = 0 then (0, 0) else (2 * p.length + sumP nodO (stmtsP p), p.length + sumP edgO (stmtsP p))
def RetSz (w : World) (r : Nat × Nat) (e : Ending) (w' : World) : Prop := e = .returned (.tuple #[.int .i64 (r.1 : Nat), .int .i64 (r.2 : Nat)]) ∧ Below w.heap.size w w'
theorem retSz_mk {w w' : World} {r : Nat × Nat} {a b : Nat} {x y : Int} (h : r = (a, b)) (hx : x = a) (hy : y = b) (hb : Below w.heap.size w w') : RetSz w r (.returned (.tuple #[.int .i64 x, .int .i64 y])) w' := by subst h; subst hx; subst hy; exact ⟨rfl, hb⟩
theorem sizes_none {p : List Fnc} (h : (stmtsP p).length = 0) : sizesP p = (0, 0) := by unfold sizesP; rw [if_pos h]
theorem sizes_some {p : List Fnc} {n a b : Nat} (h : (stmtsP p).length ≠ 0) (hn : p.length = n) (ha : sumP nodO (stmtsP p) = a) (hb : sumP edgO (stmtsP p) = b) : sizesP p = (2 * n + a, n + b) := by unfold sizesP; rw [if_neg h, hn, ha, hb]
set_option maxHeartbeats 3200000 in
theorem sizes_any (x : PH) (ex : List (Option Nat)) (w : World) (h : PHok w ex x) (hs : Shp w) :
    Calls Tryz.prog 81 #[.agg #[.slice x.A x.n x.c]] w (RetSz w (sizesP x.p)) := by
  have hb0 := (Below.refl w.heap.size w).alloc (Nat.le_refl _) (.cells #[.slice x.A x.n x.c] 49)
  have HB0 := hid hb0
  have HG0 := hid (Fb.new w #[.slice x.A x.n x.c] 49)
  have HS := hid (statements_any x ex _ _ (PHok.below h hb0) (Below.refl _ _) (hs.keep (hb0.block 0 hs.pos0)))
  have Hpl := hid (show x.p.length = x.n by unfold PH.p; rw [List.length_map]; exact h.len)
  have hn := h.few
  clear h hb0 hs
  obtain ⟨A, n, c, l⟩ := x
  simp only at *
  generalize PH.p ⟨A, n, c, l⟩ = p at *
  go_enter Tryz.func81, Tryz.ntmps81
  go_wp2_with fail
  generalize w.alloc (.cells #[.slice A n c] 49) = w0 at *
  refine HS.out.mono ?_
  rintro e w1 ⟨B, d, L, rfl, hL, hL4, hE, hall, hb1⟩
  have HB1 := hid (below_step HB0.out hb1)
  have HG1 := hid (HG0.out.below hb1 HG0.out.lt)
  have HL := hid hL
  have HE := hid (hE [] (by simp))
  have Hln := hid (show (stmtsP p).length = L.length by rw [← hL, List.length_map])
  clear hb1 HB0 HG0 HS hL hE hall
  by_cases h0 : L.length = 0
  · as_aux_lemma =>
      have Hr := hid (sizes_none (p := p) (by rw [Hln.out]; exact h0))
      have t0 : ((L.length : Int) == 0) = true := by simp [h0]
      have Hh := hid h0
      clear h0
      go_wp2_with fail
      go_ret2
      exact retSz_mk Hr.out rfl rfl HB1.out
  · have t0 : ((L.length : Int) == 0) = false := by simpa using h0
    have Hh := hid h0
    have hpos : 0 < L.length := by omega
    obtain g0 := HG1.out.onec
    have hm1 : IntKind.i64.wrap (2 * (n : Int)) = 2 * (n : Int) := IntWalk.i64_in _ (by omega)
    clear h0
    go_wp2_with fail
    go_quiet (fail)
    go_wp2_with fail
    clear g0 HG1 hm1 t0
    have HB2 := hid (fun q => below_drewN HB1.out q)
    have HW2 := hid (fun q => below_drewN (Below.refl w1.heap.size w1) q)
    go_loopw [5, 6, 8, 23] (fun a b _ iv wr => ∃ (k : Nat) (za zb : Int), k ≤ L.length ∧ iv = .int .i64 k ∧ a = .int .i64 za ∧ b = .int .i64 zb ∧ 0 ≤ za ∧ za ≤ 80 + 2 * k ∧ 0 ≤ zb ∧ zb ≤ 40 + 3 * k ∧ Hid (za = ((2 * n + sumP nodO ((L.map SH.t).take k) : Nat) : Int)) ∧ Hid (zb = ((n + sumP edgO ((L.map SH.t).take k) : Nat) : Int)) ∧ Hid (Below w.heap.size w wr) ∧ Hid (Below w1.heap.size w1 wr)) (fun _ _ _ iv _ => L.length - (intOf iv).toNat)
    case atStart => exact ⟨0, _, _, by omega, rfl, rfl, rfl, by omega, by omega, by omega, by omega, hid (by show (2 * (n : Int)) = ((2 * n + 0 : Nat) : Int); simp), hid (by show (n : Int) = ((n + 0 : Nat) : Int); simp), hid (HB2.out _), hid (HW2.out _)⟩
    case round =>
      clear HB2 HW2
      obtain ⟨k, za, zb, hk, rfl, rfl, rfl, hz0, hz1, hz2, hz3, hza, hzb, hB, hW⟩ := hrel
      by_cases hlt : k < L.length
      · obtain ⟨y, hy, hym⟩ := get_at (rfl : L.length = L.length) hlt
        obtain ⟨ad, hA, had, hc1, hc2, hc3, hc4⟩ := SH.cells (HE.out.go (Go2.below hW.out)) hy
        subst hA
        have hb2 := (Below.refl wr.heap.size wr).alloc (Nat.le_refl _) (.cells #[.int .i64 y.t.op, .string y.t.d, .slice y.A y.n y.c, .slice y.B y.m y.c2] 101)
        have HB2 := hid (below_step hB.out hb2)
        have HW2 := hid (below_step hW.out hb2)
        have HG2 := hid (Fb.new wr #[.int .i64 y.t.op, .string y.t.d, .slice y.A y.n y.c, .slice y.B y.m y.c2] 101)
        have Hget := hid (show (L.map SH.t)[k]? = some y.t by rw [List.getElem?_map, hy]; rfl)
        have hq1 := nod_le y.t.op
        have hq2 := edg_le y.t.op
        have Hq1 := hid (sum_take (f := nodO) Hget.out)
        have Hq2 := hid (sum_take (f := edgO) Hget.out)
        have H1 := hid (nod_any y.t.op)
        have H2 := hid (edg_any y.t.op)
        generalize nodO y.t.op = q1 at *
        generalize edgO y.t.op = q2 at *
        clear hy hym hb2 hB hW
        obtain ⟨g0, g1, g2, g3⟩ := Fb.four HG2.out
        have hL2 := hL4
        go_wp2_with fail
        refine (H1.out _).mono ?_
        rintro e w3 ⟨rfl, rfl⟩
        go_wp2_with fail
        refine (H2.out _).mono ?_
        rintro e w3 ⟨rfl, rfl⟩
        as_aux_lemma =>
          clear g0 g1 g2 g3 H1 H2
          go_wp2_with fail
          go_roundw
          case rel => exact ⟨k + 1, za + q1, zb + q2, by omega, by go_num, by go_num, by go_num, by omega, by omega, by omega, by omega, hid (by rw [hza.out, Hq1.out]; simp only [Int.natCast_add]; omega), hid (by rw [hzb.out, Hq2.out]; simp only [Int.natCast_add]; omega), HB2, HW2⟩
          case measure => simp [intOf]; omega
      · as_aux_lemma =>
          obtain rfl : k = L.length := by omega
          have Hr := hid (sizes_some (p := p) (by rw [Hln.out]; exact Hh.out) Hpl.out rfl rfl)
          have Ha := hid (show za = ((2 * n + sumP nodO (stmtsP p) : Nat) : Int) by rw [← HL.out, hza.out, List.take_of_length_le (by simp)])
          have Hb := hid (show zb = ((n + sumP edgO (stmtsP p) : Nat) : Int) by rw [← HL.out, hzb.out, List.take_of_length_le (by simp)])
          go_wp2_with fail
          go_ret2
          exact retSz_mk Hr.out Ha.out Hb.out hB.out
end Go.Proofs.YtmbelhdkaepohaaGreatDoor

namespace Go.Proofs.YtmbelhdkaepohaaGreatDoor
set_option maxRecDepth 20000
set_option linter.unusedVariables false
set_option linter.unusedSimpArgs false
open Go.ChangeShapes Go.WideShapes Go.ChangeAt Go.RowKit

def defB (o : Int) : Bool := o == 1 || (o == 4 || o == 6)
set_option maxHeartbeats 1600000 in
theorem defines_any (o : Int) (d : ByteArray) (A : Option Addr) (n c : Nat) (B : Option Addr) (m c2 : Nat) (w : World) :
    Calls Tryz.prog 118 #[.agg #[.int .i64 o, .string d, .slice A n c, .slice B m c2]] w fun e w' => e = .returned (.bool (defB o)) ∧ Below w.heap.size w w' := by
  have HB := hid ((Below.refl w.heap.size w).alloc (Nat.le_refl _) (.cells #[.int .i64 o, .string d, .slice A n c, .slice B m c2] 101))
  unfold defB
  cases h1 : (o == 1) with
  | true =>
    go_enter Tryz.func118, Tryz.ntmps118
    go_wp2
    go_ret
    exact ⟨rfl, HB.out⟩
  | false =>
    cases h2 : (o == 4) with
    | true =>
      go_enter Tryz.func118, Tryz.ntmps118
      go_wp2
      go_ret
      exact ⟨rfl, HB.out⟩
    | false =>
      cases h3 : (o == 6) with
      | true =>
        go_enter Tryz.func118, Tryz.ntmps118
        go_wp2
        go_ret
        exact ⟨rfl, HB.out⟩
      | false =>
        go_enter Tryz.func118, Tryz.ntmps118
        go_wp2
        go_ret
        exact ⟨rfl, HB.out⟩
/-- The variables of a statement in the order of its text. -/
def occP (t : Stm) : List ByteArray := if defB t.op then t.d :: t.us else t.us
def RetO (w : World) (ex : List (Option Nat)) (L : List ByteArray) (e : Ending) (w' : World) : Prop :=
  ∃ (A : Option Addr) (n c : Nat), e = .returned (.slice A n c) ∧ SSafe w' ex A n L ∧ Below w.heap.size w w'
theorem one_strs (l : List ByteArray) : ∀ u ∈ l.map Value.string, u.oneCell' = true := by
  intro u hu
  obtain ⟨x, _, rfl⟩ := List.mem_map.1 hu
  rfl
set_option maxHeartbeats 3200000 in
theorem occ_any (x : SH) (ex : List (Option Nat)) (w : World) (h : SHok w ex x) (hn4 : x.n ≤ 4) (hex : ∀ k, some k ∈ ex → k < w.heap.size) :
    Calls Tryz.prog 105 #[.agg #[.int .i64 x.t.op, .string x.t.d, .slice x.A x.n x.c, .slice x.B x.m x.c2]] w (RetO w ex (occP x.t)) := by
  obtain ⟨A, n, c, B, m, c2, ⟨o, d, us, ts⟩⟩ := x
  obtain ⟨i0, hi, hz0, hz1, hz2⟩ := info_parts info9
  have Hi := hid hi; have Hz0 := hid hz0; have Hz1 := hid hz1; have Hz2 := hid hz2
  clear hi hz0 hz1 hz2
  have hb0 := (Below.refl w.heap.size w).alloc (Nat.le_refl _) (.cells #[.int .i64 o, .string d, .slice A n c, .slice B m c2] 101)
  have HS := hid (h.uses.go (Go2.below hb0))
  have HB0 := hid hb0
  have HG0 := hid (Fb.new w #[.int .i64 o, .string d, .slice A n c, .slice B m c2] 101)
  have Hd := hid (show d.size ≤ 1000 from h.small)
  have Hsz := hid (show w.heap.size ≤ (w.alloc (.cells #[.int .i64 o, .string d, .slice A n c, .slice B m c2] 101)).heap.size by rw [World.size_alloc]; omega)
  have Hex := hid hex
  simp only at hn4
  clear hb0 h hex
  go_enter Tryz.func105, Tryz.ntmps105
  go_wp2_with fail
  generalize w.alloc (.cells #[.int .i64 o, .string d, .slice A n c, .slice B m c2] 101) = w0 at *
  refine (defines_any o d A n c B m c2 _).mono ?_
  rintro e w1 ⟨rfl, hb1⟩
  have HS1 := hid (HS.out.go (Go2.below hb1))
  have HB1 := hid (below_step HB0.out hb1)
  have HG1 := hid (HG0.out.below hb1 HG0.out.lt)
  have Hsz1 := hid (Nat.le_trans Hsz.out hb1.size)
  clear hb1 HS HB0 HG0 Hsz
  obtain ⟨g0, g1, g2, g3⟩ := Fb.four HG1.out
  cases ho : defB o with
  | false =>
    as_aux_lemma =>
      have Hr := hid (show occP ⟨o, d, us, ts⟩ = us by unfold occP; simp only [ho]; rfl)
      clear ho
      go_wp2_with fail
      go_ret
      rw [Hr.out]
      exact ⟨A, n, c, rfl, HS1.out, HB1.out⟩
  | true =>
    have Hr := hid (show occP ⟨o, d, us, ts⟩ = d :: us by unfold occP; simp only [ho]; rfl)
    clear ho
    have hb2 := (Below.refl w1.heap.size w1).alloc (Nat.le_refl _) (.cells #[.string d] 9)
    have HB2 := hid (below_step HB1.out hb2)
    have HS2 := hid (HS1.out.go (Go2.below hb2))
    have HF2 := hid (Fb.new w1 #[.string d] 9)
    have HO2 := hid (World.ownsRow_lit (base := w1.heap.size) (e := 9) (size := 1) w1 #[.string d] 1 (Nat.le_refl _) (by unfold maxLen; omega) rfl)
    have hlt := HG1.out.lt
    clear hb2
    by_cases h0 : n = 0
    · subst h0
      have Hus := hid (show us = [] from List.length_eq_zero_iff.1 HS1.out.len)
      rcases A with _ | a0
      all_goals
        go_wp2_with fail
        go_ret
        rw [Hr.out, Hus.out]
        refine ⟨_, 1, _, rfl, ⟨EAt.fb HF2.out (fun hm => by have := Hex.out _ hm; have := Hsz1.out; omega) (fun j u hu => by simpa using hu), rfl, by omega, ?_⟩, HB2.out⟩
        intro y hy
        simp at hy
        subst hy
        exact Hd.out
    · obtain ⟨ad, rfl, hs2, hc2⟩ : ∃ ad, A = some ad ∧ Safe (w1.alloc (.cells #[.string d] 9)) ex ad.block ∧ ∀ j u, (us.map Value.string)[j]? = some u → (w1.alloc (.cells #[.string d] 9)).cell? (ad.add j) = some u := by
        rcases HS2.out.lies with h | h
        · have := congrArg List.length h; have h2 := HS2.out.len; simp at this; subst this; simp at h2; omega
        · exact h
      have Hc2 := hid hc2
      have Hul := hid (show (us.map Value.string).length = n * 1 by rw [List.length_map, HS2.out.len]; omega)
      have hpos : 0 < n := by omega
      clear hs2 hc2
      go_wp2_with ((
        at_builtin
        go_must (refine wpList_append_lies _ rfl _ _ 99 rfl w1.heap.size 9 i0 _ 1 16 Tryz.underlying99 Hi.out Hz0.out Hz1.out Hz2.out rfl (by decide) _ 1 [.string d] rfl HO2.out ad n c (us.map Value.string) rfl Hul.out Hc2.out (one_strs us) hpos (by unfold maxLen; omega) (by omega) (by rw [World.size_alloc]; omega) _ rfl ?_)
        intro g5 cap5 w5 hown5 hgr5 hat5 hlt5))
      as_aux_lemma =>
        have hz := Hsz1.out
        have HB5 := hid (HB2.out.grown hgr5 HB2.out.size (fun k hk => by have := (HO2.out.lt k hk).1; omega))
        have HE := hid (EAt.own (ex := ex) hown5 (fun g hg hm => by have := (hown5.lt g hg).1; have := Hex.out _ hm; omega))
        clear hown5 hgr5 hat5 hlt5
        go_wp2_with fail
        go_ret
        rw [Hr.out]
        refine ⟨_, 1 + n, _, rfl, ⟨HE.out, by rw [List.length_cons, HS2.out.len]; omega, by omega, ?_⟩, HB5.out⟩
        intro y hy
        rcases List.mem_cons.1 hy with rfl | hy
        · exact Hd.out
        · exact HS2.out.small y hy
/-- The variables, each where it occurs first. -/
def addV (V : List ByteArray) (x : ByteArray) : List ByteArray := if inB x V then V else V ++ [x]
def varsP (p : List Fnc) : List ByteArray := ((stmtsP p).flatMap occP).foldl addV []
theorem go2_new {w wr : World} {ex : List (Option Nat)} (hb : Below w.heap.size w wr) (hex : ∀ k, some k ∈ ex → w.heap.size ≤ k) : Go2 w [] wr ex :=
  fun k hk => ⟨hb.block k hk.1, Nat.lt_of_lt_of_le hk.1 hb.size, fun h => by have := hex k h; have := hk.1; omega⟩
def exV (b : Nat) (v : Value) : List (Option Nat) := match v.ownBlock with | none => [some b] | some g => [some b, some g]
theorem exV_own {b : Nat} {v : Value} : v.ownBlock = none ∨ v.ownBlock ∈ exV b v := by
  unfold exV; cases v.ownBlock <;> simp
theorem exV_b {b : Nat} {v : Value} : some b ∈ exV b v := by unfold exV; cases v.ownBlock <;> simp
theorem exV_mem {b k : Nat} {v : Value} (h : some k ∈ exV b v) : k = b ∨ v.ownBlock = some k := by
  unfold exV at h
  cases hv : v.ownBlock with
  | none => rw [hv] at h; simp at h; exact .inl h
  | some g => rw [hv] at h; simp at h; rcases h with h | h; exact .inl h; exact .inr (by rw [h])
/-- The set and the list of the variables that were found, beside what is read. -/
structure Vst (w : World) (b : Nat) (v : Value) (m : Nat) (V : List ByteArray) (wr : World) : Prop where
  own : wr.ownsRow (w.heap.size + 2) 9 1 v m (V.map Value.string)
  len : m = V.length
  set : NS wr b V
  bel : Below w.heap.size w wr
  siz : w.heap.size + 2 ≤ wr.heap.size
  isb : b = w.heap.size + 1
  small : ∀ x ∈ V, x.size ≤ 1000
theorem Vst.ex {w wr : World} {b m : Nat} {v : Value} {V : List ByteArray} (h : Vst w b v m V wr) : (∀ k, some k ∈ exV b v → k < wr.heap.size) ∧ (∀ k, some k ∈ exV b v → w.heap.size ≤ k) := by
  constructor
  · intro k hk
    rcases exV_mem hk with rfl | hk
    · exact h.set.lt
    · exact (h.own.lt k hk).2
  · intro k hk
    rcases exV_mem hk with rfl | hk
    · have := h.isb; omega
    · have := (h.own.lt k hk).1; omega
theorem Vst.below {w wr w' : World} {b m : Nat} {v : Value} {V : List ByteArray} (h : Vst w b v m V wr) (hb : Below wr.heap.size wr w') : Vst w b v m V w' :=
  ⟨own_below h.own hb, h.len, h.set.below hb, below_step h.bel hb, Nat.le_trans h.siz hb.size, h.isb, h.small⟩
theorem below_row {w wr w' : World} {row : Option Nat} (h : Below w.heap.size w wr) (hg : wr.grownBy w' row) (hr : ∀ k, row = some k → w.heap.size ≤ k) : Below w.heap.size w w' := h.grown hg h.size hr
/-- What was put into the set but not into the list yet. -/
structure Vmid (w : World) (b : Nat) (v : Value) (m : Nat) (V : List ByteArray) (x : ByteArray) (wr : World) : Prop where
  own : wr.ownsRow (w.heap.size + 2) 9 1 v m (V.map Value.string)
  len : m = V.length
  set : NS wr b (x :: V)
  bel : Below w.heap.size w wr
  siz : w.heap.size + 2 ≤ wr.heap.size
  isb : b = w.heap.size + 1
  small : ∀ x ∈ V, x.size ≤ 1000
theorem Vst.put {w wr w' : World} {b m : Nat} {v : Value} {V : List ByteArray} {x : ByteArray} (h : Vst w b v m V wr) (hn : NS w' b (x :: V)) (hg : wr.grownBy w' (some b)) :
    Vmid w b v m V x w' ∧ Go2 wr (exV b v) w' (exV b v) := by
  have hb := h.isb
  refine ⟨⟨h.own.kept hg (.inr (fun e => by have := (h.own.lt b e).1; omega)), h.len, hn, below_row h.bel hg (fun k hk => by injection hk with hk; omega), Nat.le_trans h.siz hg.size, hb, h.small⟩, Go2.same hg (.inr exV_b)⟩
theorem Vmid.alloc {w wr : World} {b m : Nat} {v : Value} {V : List ByteArray} {x : ByteArray} (h : Vmid w b v m V x wr) (o : Obj) : Vmid w b v m V x (wr.alloc o) := by
  have hb := (Below.refl wr.heap.size wr).alloc (Nat.le_refl _) o
  exact ⟨own_below h.own hb, h.len, h.set.below hb, below_step h.bel hb, Nat.le_trans h.siz hb.size, h.isb, h.small⟩
theorem Vmid.push {w wr w' : World} {b m g cap : Nat} {v : Value} {V : List ByteArray} {x : ByteArray} (h : Vmid w b v m V x wr) (hx : x.size ≤ 1000)
    (hown : w'.ownsRow (w.heap.size + 2) 9 1 (.slice (some ⟨g, 0, none⟩) (m + 1) cap) (m + 1) (V.map Value.string ++ [.string x])) (hg : wr.grownBy w' v.ownBlock) (hat : v.ownBlock = some g ∨ g = wr.heap.size) :
    Vst w b (.slice (some ⟨g, 0, none⟩) (m + 1) cap) (m + 1) (V ++ [x]) w' ∧ Go2 wr (exV b v) w' (exV b (.slice (some ⟨g, 0, none⟩) (m + 1) cap)) := by
  have hb := h.isb
  refine ⟨⟨by rw [List.map_append]; exact hown, by rw [List.length_append, h.len]; rfl, (h.set.kept hg (fun e => by have := (h.own.lt b e.symm).1; omega)).congr (by simp) (fun k => by simp [or_comm]), below_row h.bel hg (fun k hk => by have := (h.own.lt k hk).1; omega), Nat.le_trans h.siz hg.size, hb, fun y hy => (List.mem_append.1 hy).elim (h.small y) (fun hy => by simp at hy; subst hy; exact hx)⟩, ?_⟩
  refine Go2.grown hg exV_own fun k hk hm => ?_
  rcases exV_mem hm with rfl | hm
  · exact exV_b
  · have e : g = k := by simpa [Value.ownBlock] using hm
    subst e
    rcases hat with h1 | h1
    · rcases exV_own (b := b) (v := v) with h2 | h2
      · rw [h2] at h1; cases h1
      · rw [← h1]; exact h2
    · omega
/-- The variables came back, in new memory. -/
def RetV2 (w : World) (V : List ByteArray) (e : Ending) (w' : World) : Prop :=
  ∃ (A : Option Addr) (c : Nat), e = .returned (.slice A V.length c) ∧ SArg w' A V.length V ∧ Below w.heap.size w w' ∧ ∀ ex : List (Option Nat), (∀ k, some k ∈ ex → k < w.heap.size) → EAt w' ex A (V.map Value.string)
def RetV (w : World) (V : List ByteArray) (e : Ending) (w' : World) : Prop :=
  ∃ (A : Option Addr) (c : Nat), e = .returned (.slice A V.length c) ∧ SArg w' A V.length V ∧ Below w.heap.size w w'
theorem add_no {V : List ByteArray} {x : ByteArray} (h : inB x V = true) : addV V x = V := by unfold addV; rw [h]; rfl
theorem add_yes {V : List ByteArray} {x : ByteArray} (h : inB x V = false) : addV V x = V ++ [x] := by unfold addV; rw [h]; rfl
theorem fold_take {l : List ByteArray} {k : Nat} {x : ByteArray} {V0 : List ByteArray} (h : l[k]? = some x) : (l.take (k + 1)).foldl addV V0 = addV ((l.take k).foldl addV V0) x := by
  rw [List.take_add_one, h, List.foldl_append]; rfl
theorem fold_stm {l : List Stm} {k : Nat} {t : Stm} (h : l[k]? = some t) : ((l.take (k + 1)).flatMap occP).foldl addV [] = (occP t).foldl addV (((l.take k).flatMap occP).foldl addV []) := by
  rw [List.take_add_one, h, List.flatMap_append, List.foldl_append]; simp
theorem us_4 {t : Stm} (h : stmB t = true) : t.us.length ≤ 4 := by
  unfold stmB namesB at h
  simp only [Bool.and_eq_true, decide_eq_true_eq] at h
  omega
set_option maxHeartbeats 6400000 in
theorem variables2_any (x : PH) (ex : List (Option Nat)) (w : World) (h : PHok w ex x) (hs : Shp w) :
    Calls Tryz.prog 82 #[.agg #[.slice x.A x.n x.c]] w (RetV2 w (varsP x.p)) := by
  obtain ⟨i0, hi, hz0, hz1, hz2⟩ := info_parts info9
  have Hi := hid hi; have Hz0 := hid hz0; have Hz1 := hid hz1; have Hz2 := hid hz2
  clear hi hz0 hz1 hz2
  have hb0 := (Below.refl w.heap.size w).alloc (Nat.le_refl _) (.cells #[.slice x.A x.n x.c] 49)
  have hb1 : Below w.heap.size w ((w.alloc (.cells #[.slice x.A x.n x.c] 49)).alloc (.map #[] 0)) := hb0.alloc hb0.size _
  have HB1 := hid hb1
  have HS := hid (statements_any x ex w _ h hb1 (hs.keep (hb1.block 0 hs.pos0)))
  have HG := hid ((Fb.new w #[.slice x.A x.n x.c] 49).alloc (.map #[] 0))
  have HN := hid (show NS ((w.alloc (.cells #[.slice x.A x.n x.c] 49)).alloc (.map #[] 0)) (w.heap.size + 1) [] by have := NS.made (w.alloc (.cells #[.slice x.A x.n x.c] 49)); rwa [World.size_alloc] at this)
  have Hsz := hid (show ((w.alloc (.cells #[.slice x.A x.n x.c] 49)).alloc (.map #[] 0)).heap.size = w.heap.size + 2 by rw [World.size_alloc, World.size_alloc])
  clear h hb0 hb1 hs
  obtain ⟨A, n, c, l⟩ := x
  simp only at *
  generalize PH.p ⟨A, n, c, l⟩ = p at *
  have hmm := @run_makeMap Tryz.prog
  go_enter Tryz.func82, Tryz.ntmps82
  go_wp2_with fail
  clear hmm
  generalize (w.alloc (.cells #[.slice A n c] 49)).alloc (.map #[] 0) = w0 at *
  refine HS.out.mono ?_
  rintro e w1 ⟨B, d, L, rfl, hL, hL4, hE, hall, hb1⟩
  have HV := hid (show Vst w (w.heap.size + 1) (.slice none 0 0) 0 [] w1 from ⟨World.ownsRow_nil _ _ _ _, rfl, HN.out.below hb1, below_step HB1.out hb1, by have := Hsz.out; have := hb1.size; omega, rfl, by simp⟩)
  have HE := hid (show EAt w1 (exV (w.heap.size + 1) (.slice none 0 0)) B (L.flatMap shc) from hE _ (fun k hk => by rcases exV_mem hk with rfl | hk; have := Hsz.out; omega; cases hk))
  have Hall := hid hall
  have HL := hid hL
  clear hb1 HS hL hE hall HG HN HB1 Hsz
  go_wp2_with fail
  obtain ⟨b, hb⟩ : ∃ b, w.heap.size + 1 = b := ⟨_, rfl⟩
  rw [hb] at HV HE
  rw [hb]
  clear hb
  go_loopw [3, 6, 8, 13] (fun sv _ _ iv wr => ∃ (k m : Nat) (v : Value) (V : List ByteArray), k ≤ L.length ∧ iv = .int .i64 k ∧ sv = v ∧ m ≤ k * 5 ∧ Hid (V = (((L.map SH.t).take k).flatMap occP).foldl addV []) ∧ Hid (Vst w b v m V wr) ∧ Hid (EAt wr (exV b v) B (L.flatMap shc))) (fun _ _ _ iv _ => L.length - (intOf iv).toNat)
  case atStart => exact ⟨0, 0, _, [], by omega, rfl, rfl, by omega, hid rfl, HV.out, HE.out⟩
  case round =>
    clear HV HE
    obtain ⟨k, m, v, V, hk, rfl, rfl, hm, hVe, hV, hE⟩ := hrel
    by_cases hlt : k < L.length
    · obtain ⟨y, hy, hym⟩ := get_at (rfl : L.length = L.length) hlt
      obtain ⟨ad, hA, had, hc1, hc2, hc3, hc4⟩ := SH.cells hE.out hy
      subst hA
      have hb2 := (Below.refl wr.heap.size wr).alloc (Nat.le_refl _) (.cells #[.int .i64 y.t.op, .string y.t.d, .slice y.A y.n y.c, .slice y.B y.m y.c2] 101)
      have HV2 := hid (hV.out.below hb2)
      have HE2 := hid (hE.out.go (Go2.below hb2))
      have HG2 := hid (Fb.new wr #[.int .i64 y.t.op, .string y.t.d, .slice y.A y.n y.c, .slice y.B y.m y.c2] 101)
      have HY2 := hid ((Hall.out y hym).go (go2_new HV2.out.bel HV2.out.ex.2))
      have Hget := hid (show (L.map SH.t)[k]? = some y.t by rw [List.getElem?_map, hy]; rfl)
      have hyn : y.n ≤ 4 := by
        have h1 : y.t.us.length = y.n := HY2.out.uses.len
        have h2 := us_4 (stmts_ok y.t (by rw [← HL.out]; exact List.mem_map_of_mem hym))
        omega
      have Hfo := hid (fold_stm Hget.out)
      clear hy hym hb2 hV hE
      obtain ⟨g0, g1, g2, g3⟩ := Fb.four HG2.out
      go_wp2_with fail
      refine (occ_any y _ _ HY2.out hyn HV2.out.ex.1).mono ?_
      rintro e w3 ⟨OA, on, oc, rfl, hso, hb3⟩
      have HV3 := hid (HV2.out.below hb3)
      have HE3 := hid (HE2.out.go (Go2.below hb3))
      have HO3 := hid hso
      have HOl := hid hso.len
      have hon : on ≤ 5 := by have h1 := hso.len; have h2 : (occP y.t).length ≤ y.t.us.length + 1 := by { unfold occP; split <;> simp }; have h3 : y.t.us.length = y.n := HY2.out.uses.len; omega
      clear hb3 hso HV2 HE2 HG2 HY2 g0 g1 g2 g3 hc1 hc2 hc3 hc4 had
      generalize occP y.t = O at *
      go_wp2_with fail
      go_loopw [3, 8, 20] (fun sv _ iv wr => ∃ (j m2 : Nat) (v : Value) (V2 : List ByteArray), j ≤ on ∧ iv = .int .i64 j ∧ sv = v ∧ m2 ≤ k * 5 + j ∧ Hid (V2 = (O.take j).foldl addV V) ∧ Hid (Vst w b v m2 V2 wr) ∧ Hid (EAt wr (exV b v) (some ad) (L.flatMap shc)) ∧ Hid (SSafe wr (exV b v) OA on O)) (fun _ _ iv _ => on - (intOf iv).toNat)
      case atStart => exact ⟨0, m, _, V, by omega, rfl, rfl, by omega, hid rfl, HV3.out, HE3.out, HO3.out⟩
      case round =>
        clear HV3 HE3 HO3
        obtain ⟨j, m2, v2, V2, hj, rfl, rfl, hm2, hVe2, hV, hE, hO⟩ := hrel
        by_cases hlt2 : j < on
        · obtain ⟨od, rfl, hod, hoc, hos⟩ := hO.out.arg.cell hlt2
          have Hgo := hid (show O[j]? = some (O.getD j ByteArray.empty) by rw [List.getD_eq_getElem?_getD, List.getElem?_eq_getElem (by have := HOl.out; omega)]; rfl)
          have Hosm := hid (hO.out.small _ (List.mem_of_getElem? Hgo.out))
          generalize O.getD j ByteArray.empty = z at *
          have Hft := hid (fold_take (V0 := V) Hgo.out)
          have hlook := NS.look hV.out.set (show z.size ≤ maxLen by unfold maxLen; omega)
          cases hv : inB z V2 with
          | true =>
            as_aux_lemma =>
              rw [hv] at hlook
              have Hr := hid (show V2 = (O.take (j + 1)).foldl addV V by rw [Hft.out, ← hVe2.out, add_no hv])
              clear hv
              go_wp2_with fail
              go_roundw
              case rel => exact ⟨j + 1, m2, _, V2, by omega, by go_num, rfl, by omega, Hr, hV, hE, hO⟩
              case measure => simp [intOf]; omega
          | false =>
            rw [hv] at hlook
            have Hr := hid (show V2 ++ [z] = (O.take (j + 1)).foldl addV V by rw [Hft.out, ← hVe2.out, add_yes hv])
            have Hvl := hid (show V2.length < maxLen by have := hV.out.len; unfold maxLen; omega)
            clear hv
            as_aux_lemma =>
              go_wp2_with (
                first
                | (at_mapUpdate; go_loud (
                   go_must (refine wp_put rfl _ _ _ rfl b _ rfl hV.out.set Hvl.out z (by unfold maxLen; omega) rfl rfl ?_)
                   intro w5 hn5 hg5
                   have H5 := hid (hV.out.put hn5 hg5)
                   have H6 := hid (H5.out.1.alloc (.cells #[.string z] 9))
                   have HE5 := hid ((hE.out.go H5.out.2).go (Go2.below ((Below.refl w5.heap.size w5).alloc (Nat.le_refl _) (.cells #[.string z] 9))))
                   have HO5 := hid ((hO.out.go H5.out.2).go (Go2.below ((Below.refl w5.heap.size w5).alloc (Nat.le_refl _) (.cells #[.string z] 9))))
                   clear hn5 hg5 hlook))
                | (at_builtin
                   go_must (refine wpList_append_lies _ rfl _ _ 99 rfl (w.heap.size + 2) 9 i0 _ 1 16 Tryz.underlying99 Hi.out Hz0.out Hz1.out Hz2.out rfl (by decide) _ m2 (V2.map Value.string) rfl H6.out.own ⟨w5.heap.size, 0, none⟩ 1 1 [.string z] rfl rfl (one_str _ _ _) (one_strc _) (by omega) (by unfold maxLen; omega) (by omega) H6.out.siz _ rfl ?_)
                   intro g7 cap7 w7 hown7 hgr7 hat7 hlt7
                   have H7 := hid (Vmid.push H6.out Hosm.out hown7 hgr7 hat7)
                   have HE7 := hid (HE5.out.go H7.out.2)
                   have HO7 := hid (HO5.out.go H7.out.2)
                   clear hown7 hgr7 hat7 hlt7))
              go_roundw
              case rel => exact ⟨j + 1, m2 + 1, _, V2 ++ [z], by omega, by go_num, rfl, by omega, Hr, hid H7.out.1, HE7, HO7⟩
              case measure => simp [intOf]; omega
        · as_aux_lemma =>
            obtain rfl : j = on := by omega
            have Hr := hid (show V2 = (((L.map SH.t).take (k + 1)).flatMap occP).foldl addV [] by rw [Hfo.out, ← hVe.out, hVe2.out, List.take_of_length_le (by have := HOl.out; omega)])
            go_wp2_with fail
            go_roundw
            case rel => exact ⟨k + 1, m2, _, V2, by omega, by go_num, rfl, by omega, Hr, hV, hE⟩
            case measure => simp [intOf]; omega
    · as_aux_lemma =>
        obtain rfl : k = L.length := by omega
        have Hr := hid (show V = varsP p by unfold varsP; rw [hVe.out, HL.out, List.take_of_length_le (by rw [← HL.out]; simp)])
        obtain ⟨A2, cc, hvv⟩ := own_any_slice hV.out.own
        subst hvv
        have hml := hV.out.len
        go_wp2_with fail
        go_ret
        rw [← Hr.out]
        subst hml
        exact ⟨A2, cc, rfl, ⟨own_at hV.out.own, rfl, by omega, fun y hy => by have := hV.out.small y hy; omega⟩, hV.out.bel, fun ex hex => EAt.own hV.out.own fun g hg hm => by have := (hV.out.own.lt g hg).1; have := hex g hm; omega⟩
theorem variables_any (x : PH) (ex : List (Option Nat)) (w : World) (h : PHok w ex x) (hs : Shp w) :
    Calls Tryz.prog 82 #[.agg #[.slice x.A x.n x.c]] w (RetV w (varsP x.p)) :=
  (variables2_any x ex w h hs).mono fun _ _ ⟨A, c, h1, h2, h3, _⟩ => ⟨A, c, h1, h2, h3⟩
end Go.Proofs.YtmbelhdkaepohaaGreatDoor

namespace Go.Proofs.YtmbelhdkaepohaaGreatDoor
set_option maxRecDepth 20000
set_option linter.unusedVariables false
set_option linter.unusedSimpArgs false
open Go.ChangeShapes Go.WideShapes Go.ChangeAt Go.RowKit

def fitB (p : List Fnc) : Bool := decide ((varsP p).length ≤ 64) && (decide ((sizesP p).1 ≤ 256) && decide ((sizesP p).2 ≤ 1024))
set_option maxHeartbeats 3200000 in
theorem fits_any (x : PH) (ex : List (Option Nat)) (w : World) (h : PHok w ex x) (hs : Shp w) :
    Calls Tryz.prog 56 #[.agg #[.slice x.A x.n x.c]] w fun e w' => e = .returned (.bool (fitB x.p)) ∧ Below w.heap.size w w' := by
  have hb0 := (Below.refl w.heap.size w).alloc (Nat.le_refl _) (.cells #[.slice x.A x.n x.c] 49)
  have HB0 := hid hb0
  have HG0 := hid (Fb.new w #[.slice x.A x.n x.c] 49)
  have HX0 := hid (PHok.below h hb0)
  have HS0 := hid (hs.keep (hb0.block 0 hs.pos0))
  have Hfit := hid (show fitB x.p = (decide ((varsP x.p).length ≤ 64) && (decide ((sizesP x.p).1 ≤ 256) && decide ((sizesP x.p).2 ≤ 1024))) from rfl)
  generalize fitB x.p = fb at *
  clear h hb0 hs
  go_enter Tryz.func56, Tryz.ntmps56
  go_wp2_with fail
  generalize w.alloc (.cells #[.slice x.A x.n x.c] 49) = w0 at *
  refine (sizes_any x ex _ HX0.out HS0.out).mono ?_
  generalize sizesP x.p = sz at *
  obtain ⟨n1, n2⟩ := sz
  rintro e w1 ⟨rfl, hb1⟩
  have HB1 := hid (below_step HB0.out hb1)
  have HG1 := hid (HG0.out.below hb1 HG0.out.lt)
  have HX1 := hid (PHok.below HX0.out hb1)
  have HS1 := hid (HS0.out.keep (hb1.block 0 HS0.out.pos0))
  clear hb1 HB0 HG0 HX0 HS0
  have g0 := HG1.out.onec
  simp only
  go_wp2_with fail
  refine (variables_any x ex _ HX1.out HS1.out).mono ?_
  generalize varsP x.p = V at *
  rintro e w2 ⟨A, c, rfl, ha, hb2⟩
  have HB2 := hid (below_step HB1.out hb2)
  clear hb2 ha g0 HX1 HS1 HG1
  cases h1 : decide (V.length ≤ 64) with
  | false =>
    as_aux_lemma =>
      have Hr := hid (show fb = false by rw [Hfit.out, h1]; rfl)
      have t1 : decide ((V.length : Int) ≤ 64) = false := by simp at h1 ⊢; omega
      clear h1
      go_wp2_with fail
      go_ret
      exact ⟨ret_b Hr.out, HB2.out⟩
  | true =>
    have t1 : decide ((V.length : Int) ≤ 64) = true := by simp at h1 ⊢; omega
    have Hfit2 := hid (show fb = (decide (n1 ≤ 256) && decide (n2 ≤ 1024)) by rw [Hfit.out, h1]; rfl)
    clear h1
    cases h2 : decide (n1 ≤ 256) with
    | false =>
      as_aux_lemma =>
        have Hr := hid (show fb = false by rw [Hfit2.out, h2]; rfl)
        have t2 : decide ((n1 : Int) ≤ 256) = false := by simp at h2 ⊢; omega
        clear h2
        go_wp2_with fail
        go_ret
        exact ⟨ret_b Hr.out, HB2.out⟩
    | true =>
      have t2 : decide ((n1 : Int) ≤ 256) = true := by simp at h2 ⊢; omega
      have Hfit3 := hid (show fb = decide (n2 ≤ 1024) by rw [Hfit2.out, h2]; rfl)
      clear h2
      cases h3 : decide (n2 ≤ 1024) with
      | false =>
        as_aux_lemma =>
          have Hr := hid (show fb = false by rw [Hfit3.out, h3])
          have t3 : decide ((n2 : Int) ≤ 1024) = false := by simp at h3 ⊢; omega
          clear h3
          go_wp2_with fail
          go_ret
          exact ⟨ret_b Hr.out, HB2.out⟩
      | true =>
        as_aux_lemma =>
          have Hr := hid (show fb = true by rw [Hfit3.out, h3])
          have t3 : decide ((n2 : Int) ≤ 1024) = true := by simp at h3 ⊢; omega
          clear h3
          go_wp2_with fail
          go_ret
          exact ⟨ret_b Hr.out, HB2.out⟩
/-- P6.1. -/
def checkP (p : List Fnc) : (Int × Int × Int × Int) × Int :=
  if prgB p then (if (funcsE p).2 == 0 then (if fitB p then ((0, 0, 0, 0), 0) else ((0, 0, 0, 0), 7)) else funcsE p) else ((0, 0, 0, 0), 1)
theorem chk_bad {p : List Fnc} (h : prgB p = false) : checkP p = ((0, 0, 0, 0), 1) := by unfold checkP; rw [h]; rfl
theorem chk_err {p : List Fnc} {r : (Int × Int × Int × Int) × Int} (h : prgB p = true) (hr : funcsE p = r) (h0 : (r.2 == 0) = false) : checkP p = r := by unfold checkP; rw [h, hr]; simp only [h0]; rfl
theorem chk_full {p : List Fnc} {r : (Int × Int × Int × Int) × Int} (h : prgB p = true) (hr : funcsE p = r) (h0 : (r.2 == 0) = true) (hf : fitB p = false) : checkP p = ((0, 0, 0, 0), 7) := by unfold checkP; rw [h, hr, hf]; simp only [h0]; rfl
theorem chk_fine {p : List Fnc} {r : (Int × Int × Int × Int) × Int} (h : prgB p = true) (hr : funcsE p = r) (h0 : (r.2 == 0) = true) (hf : fitB p = true) : checkP p = ((0, 0, 0, 0), 0) := by unfold checkP; rw [h, hr, hf]; simp only [h0]; rfl
set_option maxHeartbeats 3200000 in
theorem check_any (x : PH) (ex : List (Option Nat)) (w : World) (h : PHok w ex x) (hs : Shp w) :
    Calls Tryz.prog 40 #[.agg #[.slice x.A x.n x.c]] w (RetNd w (checkP x.p)) := by
  have hb0 : Below w.heap.size w ((w.alloc (.cells #[.slice x.A x.n x.c] 49)).alloc (.cells #[.int .i64 0, .int .i64 0, .int .i64 0, .int .i64 0] 55)) := ((Below.refl w.heap.size w).alloc (Nat.le_refl _) _).alloc (by rw [World.size_alloc]; omega) _
  have HB0 := hid hb0
  have HG0 := hid ((Fb.new w #[.slice x.A x.n x.c] 49).alloc (.cells #[.int .i64 0, .int .i64 0, .int .i64 0, .int .i64 0] 55))
  have HN0 := hid (show Fb ((w.alloc (.cells #[.slice x.A x.n x.c] 49)).alloc (.cells #[.int .i64 0, .int .i64 0, .int .i64 0, .int .i64 0] 55)) (w.heap.size + 1) #[.int .i64 0, .int .i64 0, .int .i64 0, .int .i64 0] 55 by have := Fb.new (w.alloc (.cells #[.slice x.A x.n x.c] 49)) #[.int .i64 0, .int .i64 0, .int .i64 0, .int .i64 0] 55; rwa [World.size_alloc] at this)
  have HX0 := hid (PHok.below h hb0)
  have HS0 := hid (hs.keep (hb0.block 0 hs.pos0))
  clear h hb0 hs
  go_enter Tryz.func40, Tryz.ntmps40
  have HQ : Hid (∀ {v : World} (h : Below w.heap.size w v) (a b c d : Value), Below w.heap.size w ((((v.setCell ⟨w.heap.size + 1, 0, none⟩ a).setCell ⟨w.heap.size + 1, 1, none⟩ b).setCell ⟨w.heap.size + 1, 2, none⟩ c).setCell ⟨w.heap.size + 1, 3, none⟩ d)) :=
    hid (fun h a b c d => (((h.setCell (p := ⟨w.heap.size + 1, 0, none⟩) (Nat.le_succ _) a).setCell (p := ⟨w.heap.size + 1, 1, none⟩) (Nat.le_succ _) b).setCell (p := ⟨w.heap.size + 1, 2, none⟩) (Nat.le_succ _) c).setCell (p := ⟨w.heap.size + 1, 3, none⟩) (Nat.le_succ _) d)
  go_wp2_with fail
  generalize (w.alloc (.cells #[.slice x.A x.n x.c] 49)).alloc (.cells #[.int .i64 0, .int .i64 0, .int .i64 0, .int .i64 0] 55) = w0 at *
  refine (devValid_any x ex _ HX0.out HS0.out).mono ?_
  rintro e w1 ⟨rfl, hb1⟩
  have HB1 := hid (below_step HB0.out hb1)
  have HG1 := hid (HG0.out.below hb1 HG0.out.lt)
  have HN1 := hid (HN0.out.below hb1 HN0.out.lt)
  have HX1 := hid (PHok.below HX0.out hb1)
  have HS1 := hid (HS0.out.keep (hb1.block 0 HS0.out.pos0))
  clear hb1 HB0 HG0 HX0 HS0 HN0
  have g0 := HG1.out.onec
  cases hv : prgB x.p with
  | false =>
    as_aux_lemma =>
      have Hr := hid (chk_bad hv)
      obtain ⟨c0, c1, c2, c3⟩ := Fb.four HN1.out
      have z0 := HN1.out.frozen 0
      have z1 := HN1.out.frozen 1
      have z2 := HN1.out.frozen 2
      have z3 := HN1.out.frozen 3
      have hlt1 := HN1.out.lt
      clear hv
      go_wp2_with fail
      refine bodyPost_ret (v := .tuple #[.agg #[.int .i64 0, .int .i64 0, .int .i64 0, .int .i64 0], .int .i64 1]) (by simp [results, Tryz.results40, go_sem, c0, c1, c2, c3, z0, z1, z2, z3, hlt1]) rfl ?_
      exact retNd_mk Hr.out (HQ.out HB1.out _ _ _ _)
  | true =>
    have Hv := hid hv
    clear hv
    go_wp2_with fail
    refine (checkFuncs_any x ex _ HX1.out).mono ?_
    have hq : ∃ q, funcsE x.p = q := ⟨_, rfl⟩
    obtain ⟨⟨⟨qa, qb, qc, qd⟩, qe⟩, hq⟩ := hq
    rw [hq]
    have Hq := hid hq
    clear hq
    rintro e w2 ⟨rfl, hb2⟩
    have ha2 := (Below.refl w2.heap.size w2).alloc (Nat.le_refl _) (.cells #[.int .i64 qa, .int .i64 qb, .int .i64 qc, .int .i64 qd] 55)
    have hb3 := below_step hb2 ha2
    have HB3 := hid (below_step HB1.out hb3)
    have HG3 := hid (HG1.out.below hb3 HG1.out.lt)
    have HN3 := hid (HN1.out.below hb3 HN1.out.lt)
    have HX3 := hid (PHok.below HX1.out hb3)
    have HS3 := hid (HS1.out.keep (hb3.block 0 HS1.out.pos0))
    have HM3 := hid (Fb.new w2 #[.int .i64 qa, .int .i64 qb, .int .i64 qc, .int .i64 qd] 55)
    clear hb2 ha2 hb3 HB1 HG1 HN1 HX1 HS1 g0
    simp only
    cases h0 : (qe == 0) with
    | false =>
      as_aux_lemma =>
        have h1 : (qe != 0) = true := by show (!(qe == 0)) = true; rw [h0]; rfl
        have Hr := hid (chk_err Hv.out Hq.out h0)
        obtain ⟨c0, c1, c2, c3⟩ := Fb.four HN3.out
        obtain ⟨m0, m1, m2, m3⟩ := Fb.four HM3.out
        have z0 := HN3.out.frozen 0
        have z1 := HN3.out.frozen 1
        have z2 := HN3.out.frozen 2
        have z3 := HN3.out.frozen 3
        have hlt1 := HN3.out.lt
        go_wp2_with fail
        refine bodyPost_ret (v := .tuple #[.agg #[.int .i64 qa, .int .i64 qb, .int .i64 qc, .int .i64 qd], .int .i64 qe]) (by simp [results, Tryz.results40, go_sem, c0, c1, c2, c3, z0, z1, z2, z3, hlt1]) rfl ?_
        exact retNd_mk Hr.out (HQ.out HB3.out _ _ _ _)
    | true =>
      have h1 : (qe != 0) = false := by show (!(qe == 0)) = false; rw [h0]; rfl
      have Hh := hid h0
      have g0 := HG3.out.onec
      clear h0
      go_wp2_with fail
      refine (fits_any x ex _ HX3.out HS3.out).mono ?_
      rintro e w4 ⟨rfl, hb4⟩
      have HB4 := hid (below_step HB3.out hb4)
      have HN4 := hid (HN3.out.below hb4 HN3.out.lt)
      clear hb4 g0 HX3 HS3 HG3 HM3 HB3 HN3
      obtain ⟨c0, c1, c2, c3⟩ := Fb.four HN4.out
      have z0 := HN4.out.frozen 0
      have z1 := HN4.out.frozen 1
      have z2 := HN4.out.frozen 2
      have z3 := HN4.out.frozen 3
      have hlt1 := HN4.out.lt
      cases hf : fitB x.p with
      | false =>
        as_aux_lemma =>
          have Hr := hid (chk_full Hv.out Hq.out Hh.out hf)
          clear hf
          go_wp2_with fail
          refine bodyPost_ret (v := .tuple #[.agg #[.int .i64 0, .int .i64 0, .int .i64 0, .int .i64 0], .int .i64 7]) (by simp [results, Tryz.results40, go_sem, c0, c1, c2, c3, z0, z1, z2, z3, hlt1]) rfl ?_
          exact retNd_mk Hr.out (HQ.out HB4.out _ _ _ _)
      | true =>
        as_aux_lemma =>
          have Hr := hid (chk_fine Hv.out Hq.out Hh.out hf)
          clear hf
          go_wp2_with fail
          refine bodyPost_ret (v := .tuple #[.agg #[.int .i64 0, .int .i64 0, .int .i64 0, .int .i64 0], .int .i64 0]) (by simp [results, Tryz.results40, go_sem, c0, c1, c2, c3, z0, z1, z2, z3, hlt1]) rfl ?_
          exact retNd_mk Hr.out (HQ.out HB4.out _ _ _ _)
end Go.Proofs.YtmbelhdkaepohaaGreatDoor

namespace Go.Proofs.YtmbelhdkaepohaaGreatDoor
set_option maxRecDepth 20000
set_option linter.unusedVariables false
set_option linter.unusedSimpArgs false
open Go.ChangeShapes Go.WideShapes Go.ChangeAt Go.RowKit

def ndS (f b j : Nat) (t : Stm) : List Nd := if t.op == 3 then [⟨3, f, b, j⟩, ⟨4, f, b, j⟩] else [⟨3, f, b, j⟩]
def ndSs (f b : Nat) (ss : List Stm) (j : Nat) : List Nd := match ss[j]? with | some t => ndS f b j t | none => []
def ndB (f b : Nat) (x : Blk) : List Nd := (List.range x.ss.length).flatMap (ndSs f b x.ss)
def ndBs (f : Nat) (bs : List Blk) (b : Nat) : List Nd := match bs[b]? with | some x => ndB f b x | none => []
def ndF (f : Nat) (x : Fnc) : List Nd := ⟨1, f, -1, -1⟩ :: (List.range x.bs.length).flatMap (ndBs f x.bs) ++ [⟨2, f, -1, -1⟩]
def ndFs (fs : List Fnc) (f : Nat) : List Nd := match fs[f]? with | some x => ndF f x | none => []
/-- P7.1. -/
def listN (p : List Fnc) : List Nd := if (checkP p).2 == 0 then (List.range p.length).flatMap (ndFs p) else []
theorem range_flat {f : Nat → List Nd} {k : Nat} : (List.range (k + 1)).flatMap f = (List.range k).flatMap f ++ f k := by rw [List.range_succ, List.flatMap_append]; simp
theorem ndSs_at {f b : Nat} {ss : List Stm} {j : Nat} {t : Stm} (h : ss[j]? = some t) : ndSs f b ss j = ndS f b j t := by unfold ndSs; rw [h]
theorem ndBs_at {f : Nat} {bs : List Blk} {b : Nat} {x : Blk} (h : bs[b]? = some x) : ndBs f bs b = ndB f b x := by unfold ndBs; rw [h]
theorem ndFs_at {fs : List Fnc} {f : Nat} {x : Fnc} (h : fs[f]? = some x) : ndFs fs f = ndF f x := by unfold ndFs; rw [h]
/-- The list of nodes came back: it lies in a block of its own. -/
def RetLn (w : World) (L : List Nd) (e : Ending) (w' : World) : Prop :=
  ∃ (A : Option Addr) (c : Nat), e = .returned (.slice A L.length c) ∧ (∀ ex : List (Option Nat), (∀ k, some k ∈ ex → k < w.heap.size) → EAt w' ex A (L.flatMap ndc)) ∧ L.length ≤ 200000 ∧ Below w.heap.size w w'
/-- The list that is built. -/
structure Ng (w : World) (v : Value) (m : Nat) (L : List Nd) (wr : World) : Prop where
  own : wr.ownsRow (w.heap.size + 1) 55 4 v m (L.flatMap ndc)
  len : m = L.length
  bel : Below w.heap.size w wr
  siz : w.heap.size + 1 ≤ wr.heap.size
theorem Ng.below {w wr w' : World} {v : Value} {m : Nat} {L : List Nd} (h : Ng w v m L wr) (hb : Below wr.heap.size wr w') : Ng w v m L w' :=
  ⟨own_below h.own hb, h.len, below_step h.bel hb, Nat.le_trans h.siz hb.size⟩
theorem Ng.alloc {w wr : World} {v : Value} {m : Nat} {L : List Nd} (h : Ng w v m L wr) (o : Obj) : Ng w v m L (wr.alloc o) := h.below ((Below.refl _ _).alloc (Nat.le_refl _) o)
theorem Ng.push {w wr w' : World} {v : Value} {m g cap : Nat} {L : List Nd} {x : Nd} (h : Ng w v m L wr)
    (hown : w'.ownsRow (w.heap.size + 1) 55 4 (.slice (some ⟨g, 0, none⟩) (m + 1) cap) (m + 1) (L.flatMap ndc ++ ndc x)) (hg : wr.grownBy w' v.ownBlock) : Ng w (.slice (some ⟨g, 0, none⟩) (m + 1) cap) (m + 1) (L ++ [x]) w' := by
  refine ⟨by rw [List.flatMap_append]; simpa using hown, by rw [List.length_append, h.len]; rfl, ?_, Nat.le_trans h.siz hg.size⟩
  exact h.bel.grown hg h.bel.size (fun k hk => by have := (h.own.lt k hk).1; omega)
/-- A block of one's own stays while the list grows. -/
theorem Ng.keep {w wr w' : World} {v : Value} {m g t : Nat} {L : List Nd} {cs : Array Value} (h : Ng w v m L wr) (hf : Fb wr g cs t) (ht : t ≠ 55) (hg : wr.grownBy w' v.ownBlock) : Fb w' g cs t := hf.grown hg (fb_ne_own hf h.own ht)
set_option maxHeartbeats 16000000 in
theorem list_any (x : PH) (ex : List (Option Nat)) (w : World) (h : PHok w ex x) (hs : Shp w) :
    Calls Tryz.prog 41 #[.agg #[.slice x.A x.n x.c]] w (RetLn w (listN x.p)) := by
  obtain ⟨i1, hi, hz0, hz1, hz2⟩ := info_parts info51
  have Hi := hid hi; have Hz0 := hid hz0; have Hz1 := hid hz1; have Hz2 := hid hz2
  clear hi hz0 hz1 hz2
  have hx0 : PHok w [] x := h.go (Go2.less w (by simp))
  have hb0 := (Below.refl w.heap.size w).alloc (Nat.le_refl _) (.cells #[.slice x.A x.n x.c] 49)
  have HX := hid hx0
  have HB0 := hid hb0
  have HG0 := hid (Fb.new w #[.slice x.A x.n x.c] 49)
  have HC := hid (check_any x [] _ (PHok.below hx0 hb0) (hs.keep (hb0.block 0 hs.pos0)))
  have hsz0 := hid (show (w.alloc (.cells #[.slice x.A x.n x.c] 49)).heap.size = w.heap.size + 1 by rw [World.size_alloc])
  have hn := h.few
  have HL := hid h.len
  have Hpl := hid (show x.p.length = x.l.length by simp [PH.p])
  have Hpa := hid (fun (k : Nat) (y : FH) (hy : x.l[k]? = some y) => show x.p[k]? = some y.f by unfold PH.p; rw [List.getElem?_map, hy]; rfl)
  clear h hb0 hx0 hs
  obtain ⟨A, n, c, l⟩ := x
  simp only at *
  generalize hp : PH.p ⟨A, n, c, l⟩ = p at *
  have hq : ∃ q, checkP p = q := ⟨_, rfl⟩
  obtain ⟨⟨⟨qa, qb, qc, qd⟩, qe⟩, hq⟩ := hq
  have Hq := hid (show listN p = if qe == 0 then (List.range p.length).flatMap (ndFs p) else [] by unfold listN; rw [hq])
  rw [hq] at HC
  clear hq hp
  go_enter Tryz.func41, Tryz.ntmps41
  go_wp2_with fail
  generalize w.alloc (.cells #[.slice A n c] 49) = w0 at *
  refine HC.out.mono ?_
  rintro e w1 ⟨rfl, hb1⟩
  have ha1 := (Below.refl w1.heap.size w1).alloc (Nat.le_refl _) (.cells #[.int .i64 qa, .int .i64 qb, .int .i64 qc, .int .i64 qd] 55)
  have hb2 := below_step hb1 ha1
  have HB2 := hid (below_step HB0.out hb2)
  have HG2 := hid (HG0.out.below hb2 HG0.out.lt)
  have HS2 := hid (show w.heap.size + 1 ≤ (w1.alloc (.cells #[.int .i64 qa, .int .i64 qb, .int .i64 qc, .int .i64 qd] 55)).heap.size by have := hb2.size; have := hsz0.out; omega)
  clear hb1 ha1 hb2 HB0 HG0 HC hsz0
  simp only
  cases h0 : (qe == 0) with
  | false =>
    as_aux_lemma =>
      have h1 : (qe != 0) = true := by show (!(qe == 0)) = true; rw [h0]; rfl
      have Hr := hid (show listN p = [] by rw [Hq.out, h0]; rfl)
      clear h0
      go_wp2_with fail
      go_ret
      rw [Hr.out]
      exact ⟨none, 0, rfl, fun _ _ => EAt.nil _ _ _, by simp, HB2.out⟩
  | true =>
    have h1 : (qe != 0) = false := by show (!(qe == 0)) = false; rw [h0]; rfl
    have Hr := hid (show listN p = (List.range p.length).flatMap (ndFs p) by rw [Hq.out, h0]; rfl)
    clear h0
    have HO := hid (show Ng w (.slice none 0 0) 0 [] (w1.alloc (.cells #[.int .i64 qa, .int .i64 qb, .int .i64 qc, .int .i64 qd] 55)) from ⟨World.ownsRow_nil _ _ _ _, rfl, HB2.out, HS2.out⟩)
    obtain g0 := HG2.out.onec
    clear HB2 HS2 Hq
    go_wp2_with fail
    clear g0 HG2 h1
    generalize w1.alloc (.cells #[.int .i64 qa, .int .i64 qb, .int .i64 qc, .int .i64 qd] 55) = w2 at HO ⊢
    go_loopw [5, 6, 7, 8, 9, 10, 11, 22] (fun sv _ _ _ _ _ _ iv wr => ∃ (k m : Nat) (v : Value) (L : List Nd), k ≤ n ∧ iv = .int .i64 k ∧ sv = v ∧ m ≤ k * 3202 ∧ Hid (L = (List.range k).flatMap (ndFs p)) ∧ Hid (Ng w v m L wr)) (fun _ _ _ _ _ _ _ iv _ => n - (intOf iv).toNat)
    case atStart => exact ⟨0, 0, _, [], by omega, rfl, rfl, by omega, hid rfl, HO.out⟩
    case round =>
      clear HO
      obtain ⟨k, m, v, L, hk, rfl, rfl, hm, hE, hO⟩ := hrel
      by_cases hlt : k < n
      · obtain ⟨y, hy, hym⟩ := get_at HL.out hlt
        have HPr := hid (HX.out.go (Go2.below hO.out.bel))
        obtain ⟨ad, hA, had, hc1, hc2⟩ := FH.cells HPr.out.lies hy
        simp only at hA
        subst hA
        have Hya := hid (fun (v : World) (h : Below w.heap.size w v) => (HX.out.go (Go2.below h)).all y hym)
        have Hget := hid (Hpa.out k y hy)
        have hyn : y.n ≤ 40 := (HPr.out.all y hym).few
        have Hyl := hid (show y.l.length = y.n from (HPr.out.all y hym).len)
        have Hyb := hid (show y.f.bs.length = y.n by show (y.l.map BH.b).length = y.n; rw [List.length_map]; exact (HPr.out.all y hym).len)
        have Hyg := hid (fun (j : Nat) (z : BH) (hz : y.l[j]? = some z) => show y.f.bs[j]? = some z.b by show (y.l.map BH.b)[j]? = _; rw [List.getElem?_map, hz]; rfl)
        have H1 := hid (hO.out.alloc (.cells #[.string y.name, .slice y.A y.n y.c] 75))
        have HG1 := hid ((Fb.new wr #[.string y.name, .slice y.A y.n y.c] 75).alloc (Obj.cells #[Value.int .i64 1, Value.int .i64 (k : Int), Value.int .i64 (-1), Value.int .i64 (-1)] 55))
        have H2 := hid (H1.out.alloc (Obj.cells #[Value.int .i64 1, Value.int .i64 (k : Int), Value.int .i64 (-1), Value.int .i64 (-1)] 55))
        have HN1 := hid (show ∀ j u, (ndc (⟨1, k, -1, -1⟩ : Nd))[j]? = some u → ((wr.alloc (.cells #[.string y.name, .slice y.A y.n y.c] 75)).alloc (Obj.cells #[Value.int .i64 1, Value.int .i64 (k : Int), Value.int .i64 (-1), Value.int .i64 (-1)] 55)).cell? ((⟨wr.heap.size + 1, 0, none⟩ : Addr).add j) = some u by have := nd_new (wr.alloc (.cells #[.string y.name, .slice y.A y.n y.c] 75)) (⟨1, k, -1, -1⟩ : Nd); rw [World.size_alloc] at this; exact this)
        clear hy hym HPr H1
        generalize y.f = ff at *
        obtain ⟨ynm, yA, yn, yc, yl⟩ := y
        simp only at *
        go_wp2_with ((
          at_builtin
          go_must (refine wpList_append_lies _ rfl _ _ 23 rfl (w.heap.size + 1) 55 i1 _ 4 32 Tryz.underlying23 Hi.out Hz0.out Hz1.out Hz2.out rfl (by decide) _ m (L.flatMap ndc) rfl H2.out.own ⟨wr.heap.size + 1, 0, none⟩ 1 1 (ndc (⟨1, k, -1, -1⟩ : Nd)) rfl rfl HN1.out (one_ndc _) (by omega) (by unfold maxLen; omega) (by omega) H2.out.siz _ rfl ?_)
          intro g5 cap5 w5 hown5 hgr5 hat5 hlt5
          have H5 := hid (Ng.push H2.out hown5 hgr5)
          obtain ⟨y0, y1⟩ := Fb.twoc (Ng.keep H2.out HG1.out (by decide) hgr5)
          clear hown5 hgr5 hat5 hlt5))
        clear y0 y1 hc1 hc2 had HG1 H2 HN1 hO
        go_loopw [5, 8, 9, 10, 11, 35] (fun sv _ _ _ _ iv wr => ∃ (j m2 : Nat) (v : Value) (L2 : List Nd), j ≤ yn ∧ iv = .int .i64 j ∧ sv = v ∧ m2 ≤ k * 3202 + 1 + j * 80 ∧ Hid (L2 = (L ++ [(⟨1, k, -1, -1⟩ : Nd)]) ++ (List.range j).flatMap (ndBs k ff.bs)) ∧ Hid (Ng w v m2 L2 wr)) (fun _ _ _ _ _ iv _ => yn - (intOf iv).toNat)
        case atStart => exact ⟨0, m + 1, _, L ++ [(⟨1, k, -1, -1⟩ : Nd)], by omega, rfl, rfl, by omega, hid (by simp), H5.out⟩
        case round =>
          clear H5
          obtain ⟨j, m2, v2, L2, hj, rfl, rfl, hm2, hE2, hO⟩ := hrel
          by_cases hlt2 : j < yn
          · obtain ⟨z, hz, hzm⟩ := get_at Hyl.out hlt2
            have HPr := hid (Hya.out _ hO.out.bel)
            obtain ⟨ad2, hA, had, hc1, hc2⟩ := BH.cells HPr.out.lies hz
            simp only at hA
            subst hA
            have Hza := hid (fun (v : World) (h : Below w.heap.size w v) => (Hya.out v h).all z hzm)
            have Hgz := hid (Hyg.out j z hz)
            have hzn : z.n ≤ 40 := (HPr.out.all z hzm).few
            have Hzl := hid (show z.l.length = z.n from (HPr.out.all z hzm).len)
            have Hzb := hid (show z.b.ss.length = z.n by show (z.l.map SH.t).length = z.n; rw [List.length_map]; exact (HPr.out.all z hzm).len)
            have Hzg := hid (fun (i : Nat) (s : SH) (hs : z.l[i]? = some s) => show z.b.ss[i]? = some s.t by show (z.l.map SH.t)[i]? = _; rw [List.getElem?_map, hs]; rfl)
            have H1 := hid (hO.out.alloc (.cells #[.string z.name, .slice z.A z.n z.c] 95))
            have HG1 := hid (Fb.new wr #[.string z.name, .slice z.A z.n z.c] 95)
            clear hz hzm HPr
            generalize z.b = bb at *
            obtain ⟨znm, zA, zn, zc, zl⟩ := z
            simp only at *
            obtain ⟨y0, y1⟩ := HG1.out.twoc
            go_wp2_with fail
            clear y0 y1 hc1 hc2 had HG1 hO
            go_loopw [5, 10, 11, 43] (fun sv _ _ iv wr => ∃ (i m3 : Nat) (v : Value) (L3 : List Nd), i ≤ zn ∧ iv = .int .i64 i ∧ sv = v ∧ m3 ≤ m2 + i * 2 ∧ Hid (L3 = L2 ++ (List.range i).flatMap (ndSs k j bb.ss)) ∧ Hid (Ng w v m3 L3 wr)) (fun _ _ _ iv _ => zn - (intOf iv).toNat)
            case atStart => exact ⟨0, m2, _, L2, by omega, rfl, rfl, by omega, hid (by simp), H1.out⟩
            case round =>
              clear H1
              obtain ⟨i, m3, v3, L3, hi, rfl, rfl, hm3, hE3, hO⟩ := hrel
              by_cases hlt3 : i < zn
              · obtain ⟨s, hs, hsm⟩ := get_at Hzl.out hlt3
                have HPr := hid (Hza.out _ hO.out.bel)
                obtain ⟨ad3, hA, had, hc1, hc2, hc3, hc4⟩ := SH.cells HPr.out.lies hs
                simp only at hA
                subst hA
                have Hgs := hid (ndSs_at (f := k) (b := j) (Hzg.out i s hs))
                have H1 := hid (hO.out.alloc (.cells #[.int .i64 s.t.op, .string s.t.d, .slice s.A s.n s.c, .slice s.B s.m s.c2] 101))
                have HG1 := hid ((Fb.new wr #[.int .i64 s.t.op, .string s.t.d, .slice s.A s.n s.c, .slice s.B s.m s.c2] 101).alloc (Obj.cells #[Value.int .i64 3, Value.int .i64 (k : Int), Value.int .i64 (j : Int), Value.int .i64 (i : Int)] 55))
                have H2 := hid (H1.out.alloc (Obj.cells #[Value.int .i64 3, Value.int .i64 (k : Int), Value.int .i64 (j : Int), Value.int .i64 (i : Int)] 55))
                have HN1 := hid (show ∀ j_1 u, (ndc (⟨3, k, j, i⟩ : Nd))[j_1]? = some u → ((wr.alloc (.cells #[.int .i64 s.t.op, .string s.t.d, .slice s.A s.n s.c, .slice s.B s.m s.c2] 101)).alloc (Obj.cells #[Value.int .i64 3, Value.int .i64 (k : Int), Value.int .i64 (j : Int), Value.int .i64 (i : Int)] 55)).cell? ((⟨wr.heap.size + 1, 0, none⟩ : Addr).add j_1) = some u by have := nd_new (wr.alloc (.cells #[.int .i64 s.t.op, .string s.t.d, .slice s.A s.n s.c, .slice s.B s.m s.c2] 101)) (⟨3, k, j, i⟩ : Nd); rw [World.size_alloc] at this; exact this)
                clear hs hsm HPr H1
                cases ho : (s.t.op == 3) with
                | false =>
                  have Hst := hid (show ndSs k j bb.ss i = [(⟨3, k, j, i⟩ : Nd)] by rw [Hgs.out]; unfold ndS; rw [ho]; rfl)
                  go_wp2_with ((
                    at_builtin
                    go_must (refine wpList_append_lies _ rfl _ _ 23 rfl (w.heap.size + 1) 55 i1 _ 4 32 Tryz.underlying23 Hi.out Hz0.out Hz1.out Hz2.out rfl (by decide) _ m3 (L3.flatMap ndc) rfl H2.out.own ⟨wr.heap.size + 1, 0, none⟩ 1 1 (ndc (⟨3, k, j, i⟩ : Nd)) rfl rfl HN1.out (one_ndc _) (by omega) (by unfold maxLen; omega) (by omega) H2.out.siz _ rfl ?_)
                    intro g5 cap5 w5 hown5 hgr5 hat5 hlt5
                    have H5 := hid (Ng.push H2.out hown5 hgr5)
                    obtain ⟨y0, y1, y2, y3⟩ := Fb.four (Ng.keep H2.out HG1.out (by decide) hgr5)
                    clear hown5 hgr5 hat5 hlt5))
                  as_aux_lemma =>
                    go_roundw
                    case rel => exact ⟨i + 1, m3 + 1, _, L3 ++ [(⟨3, k, j, i⟩ : Nd)], by omega, by go_num, rfl, by omega, hid (by rw [hE3.out, range_flat, Hst.out, List.append_assoc]), H5⟩
                    case measure => simp [intOf]; omega
                | true =>
                  have Hst := hid (show ndSs k j bb.ss i = [(⟨3, k, j, i⟩ : Nd), (⟨4, k, j, i⟩ : Nd)] by rw [Hgs.out]; unfold ndS; rw [ho]; rfl)
                  go_wp2_with (
                    first
                    | (
                     at_builtin
                     refine wpList_append_lies _ rfl _ _ 23 rfl (w.heap.size + 1) 55 i1 _ 4 32 Tryz.underlying23 Hi.out Hz0.out Hz1.out Hz2.out rfl (by decide) _ m3 (L3.flatMap ndc) rfl H2.out.own ⟨wr.heap.size + 1, 0, none⟩ 1 1 (ndc (⟨3, k, j, i⟩ : Nd)) rfl rfl HN1.out (one_ndc _) (by omega) (by unfold maxLen; omega) (by omega) H2.out.siz _ rfl ?_
                     intro g5 cap5 w5 hown5 hgr5 hat5 hlt5
                     have H5 := hid (Ng.push H2.out hown5 hgr5)
                     obtain ⟨y0, y1, y2, y3⟩ := Fb.four (Ng.keep H2.out HG1.out (by decide) hgr5)
                     have H6 := hid (H5.out.alloc (Obj.cells #[Value.int .i64 4, Value.int .i64 (k : Int), Value.int .i64 (j : Int), Value.int .i64 (i : Int)] 55))
                     have HN4 := hid (nd_new w5 (⟨4, k, j, i⟩ : Nd))
                     clear H2
                     clear hown5 hgr5 hat5 hlt5)
                    | (
                     at_builtin
                     go_must (refine wpList_append_lies _ rfl _ _ 23 rfl (w.heap.size + 1) 55 i1 _ 4 32 Tryz.underlying23 Hi.out Hz0.out Hz1.out Hz2.out rfl (by decide) _ (m3 + 1) ((L3 ++ [(⟨3, k, j, i⟩ : Nd)]).flatMap ndc) rfl H6.out.own ⟨w5.heap.size, 0, none⟩ 1 1 (ndc (⟨4, k, j, i⟩ : Nd)) rfl rfl HN4.out (one_ndc _) (by omega) (by unfold maxLen; omega) (by omega) H6.out.siz _ rfl ?_)
                     intro g7 cap7 w7 hown7 hgr7 hat7 hlt7
                     have H7 := hid (Ng.push H6.out hown7 hgr7)
                     clear hown7 hgr7 hat7 hlt7))
                  as_aux_lemma =>
                    go_roundw
                    case rel => exact ⟨i + 1, m3 + 1 + 1, _, (L3 ++ [(⟨3, k, j, i⟩ : Nd)]) ++ [(⟨4, k, j, i⟩ : Nd)], by omega, by go_num, rfl, by omega, hid (by rw [hE3.out, range_flat, Hst.out]; simp), H7⟩
                    case measure => simp [intOf]; omega
              · as_aux_lemma =>
                  obtain rfl : i = zn := by omega
                  have Hd := hid (show L3 = (L ++ [(⟨1, k, -1, -1⟩ : Nd)]) ++ (List.range (j + 1)).flatMap (ndBs k ff.bs) by rw [hE3.out, hE2.out, range_flat, ndBs_at Hgz.out, List.append_assoc]; unfold ndB; rw [Hzb.out])
                  go_wp2_with fail
                  go_roundw
                  case rel => exact ⟨j + 1, m3, _, L3, by omega, by go_num, rfl, by omega, Hd, hO⟩
                  case measure => simp [intOf]; omega
          · obtain rfl : j = yn := by omega
            have H2 := hid (hO.out.alloc (Obj.cells #[Value.int .i64 2, Value.int .i64 (k : Int), Value.int .i64 (-1), Value.int .i64 (-1)] 55))
            have HN1 := hid (nd_new wr (⟨2, k, -1, -1⟩ : Nd))
            have Hd := hid (show L2 ++ [(⟨2, k, -1, -1⟩ : Nd)] = (List.range (k + 1)).flatMap (ndFs p) by rw [hE2.out, range_flat, ← hE.out, ndFs_at Hget.out]; unfold ndF; rw [Hyb.out]; simp)
            as_aux_lemma =>
              go_wp2_with ((
                at_builtin
                go_must (refine wpList_append_lies _ rfl _ _ 23 rfl (w.heap.size + 1) 55 i1 _ 4 32 Tryz.underlying23 Hi.out Hz0.out Hz1.out Hz2.out rfl (by decide) _ m2 (L2.flatMap ndc) rfl H2.out.own ⟨wr.heap.size, 0, none⟩ 1 1 (ndc (⟨2, k, -1, -1⟩ : Nd)) rfl rfl HN1.out (one_ndc _) (by omega) (by unfold maxLen; omega) (by omega) H2.out.siz _ rfl ?_)
                intro g5 cap5 w5 hown5 hgr5 hat5 hlt5
                have H5 := hid (Ng.push H2.out hown5 hgr5)
                clear hown5 hgr5 hat5 hlt5))
              go_roundw
              case rel => exact ⟨k + 1, m2 + 1, _, L2 ++ [(⟨2, k, -1, -1⟩ : Nd)], by omega, by go_num, rfl, by omega, Hd, H5⟩
              case measure => simp [intOf]; omega
      · as_aux_lemma =>
          obtain rfl : k = n := by omega
          have Hd := hid (show L = listN p by rw [hE.out, Hr.out, Hpl.out, HL.out])
          obtain ⟨B, cc, hvv⟩ := own_any_slice hO.out.own
          subst hvv
          have hml := hO.out.len
          go_wp2_with fail
          go_ret
          rw [← Hd.out]
          subst hml
          exact ⟨B, cc, rfl, fun ex hex => EAt.own hO.out.own (fun g hg hm => by have := (hO.out.own.lt g hg).1; have := hex g hm; omega), by omega, hO.out.bel⟩
end Go.Proofs.YtmbelhdkaepohaaGreatDoor

namespace Go.Proofs.YtmbelhdkaepohaaGreatDoor
set_option maxRecDepth 20000
set_option linter.unusedVariables false
set_option linter.unusedSimpArgs false
open Go.ChangeShapes Go.WideShapes Go.ChangeAt Go.RowKit

def agN (x : Nd) : Value := .agg #[.int .i64 x.kd, .int .i64 x.fn, .int .i64 x.bk, .int .i64 x.st]
def findAt (L : List Nd) (n : Nd) (i : Nat) : Option Int := if L[i]? = some n then some (i : Int) else none
/-- P7.2. -/
def findI (L : List Nd) (n : Nd) : Int := ((List.range L.length).findSome? (findAt L n)).getD (-1)
theorem find_no {L : List Nd} {n y : Nd} {i : Nat} (h : L[i]? = some y) (hne : y ≠ n) : findAt L n i = none := by unfold findAt; rw [h, if_neg (by simpa using hne)]
theorem find_yes {L : List Nd} {n : Nd} {i : Nat} (h : L[i]? = some n) : findAt L n i = some (i : Int) := by unfold findAt; rw [if_pos h]
theorem find_hit {L : List Nd} {n : Nd} {k : Nat} (h0 : (List.range k).findSome? (findAt L n) = none) (hk : k < L.length) (h : L[k]? = some n) : findI L n = k := by unfold findI; rw [some_hit h0 hk (find_yes h)]; rfl
theorem find_end {L : List Nd} {n : Nd} {k : Nat} (h0 : (List.range k).findSome? (findAt L n) = none) (hk : k = L.length) : findI L n = -1 := by subst hk; unfold findI; rw [h0]; rfl
theorem Nd.cells {w : World} {ex : List (Option Nat)} {A : Option Addr} {l : List Nd} (h : EAt w ex A (l.flatMap ndc)) {i : Nat} {x : Nd} (hx : l[i]? = some x) :
    ∃ ad : Addr, A = some ad ∧ ad.block < w.heap.size ∧ w.cell? (ad.add (i * 4)) = some (.int .i64 x.kd) ∧ w.cell? ⟨(ad.add (i * 4)).block, (ad.add (i * 4)).off + 1, none⟩ = some (.int .i64 x.fn) ∧
      w.cell? ⟨(ad.add (i * 4)).block, (ad.add (i * 4)).off + 2, none⟩ = some (.int .i64 x.bk) ∧ w.cell? ⟨(ad.add (i * 4)).block, (ad.add (i * 4)).off + 3, none⟩ = some (.int .i64 x.st) := by
  obtain ⟨ad, e, hs, hc⟩ := h.part ndc_len (by omega) hx
  exact ⟨ad, e, hs.1, hc 0 _ rfl, by rw [cell_next ad (i * 4) 0]; exact hc 1 _ rfl, by rw [cell_next ad (i * 4) 1]; exact hc 2 _ rfl, by rw [cell_next ad (i * 4) 2]; exact hc 3 _ rfl⟩
theorem list_few {L : List Nd} (h : L.length ≤ 200000) : L.length ≤ 200000 := h
end Go.Proofs.YtmbelhdkaepohaaGreatDoor

namespace Go.Proofs.YtmbelhdkaepohaaGreatDoor
set_option maxRecDepth 20000
set_option linter.unusedVariables false
set_option linter.unusedSimpArgs false
open Go.ChangeShapes Go.WideShapes Go.ChangeAt Go.RowKit

def pre1 (p : List Fnc) (k : Nat) : List Nd := (List.range k).flatMap (ndFs p)
def pre2 (p : List Fnc) (k : Nat) (bs : List Blk) (b : Nat) : List Nd := (pre1 p k ++ [⟨1, k, -1, -1⟩]) ++ (List.range b).flatMap (ndBs k bs)
def pre3 (p : List Fnc) (k : Nat) (bs : List Blk) (b : Nat) (ss : List Stm) (i : Nat) : List Nd := pre2 p k bs b ++ (List.range i).flatMap (ndSs k b ss)
theorem range_pre {f : Nat → List Nd} {k n : Nat} (h : k ≤ n) : (List.range k).flatMap f <+: (List.range n).flatMap f := by
  obtain ⟨d, rfl⟩ := Nat.exists_eq_add_of_le h
  induction d with
  | zero => exact List.prefix_refl _
  | succ d ih => exact (ih (by omega)).trans (by rw [← Nat.add_assoc, range_flat]; exact List.prefix_append _ _)
theorem pre2_zero (p : List Fnc) (k : Nat) (bs : List Blk) : (pre2 p k bs 0).length = (pre1 p k).length + 1 := by simp [pre2]
theorem pre3_zero (p : List Fnc) (k : Nat) (bs : List Blk) (b : Nat) (ss : List Stm) : (pre3 p k bs b ss 0).length = (pre2 p k bs b).length := by simp [pre3]
theorem pre3_succ {p : List Fnc} {k : Nat} {bs : List Blk} {b : Nat} {ss : List Stm} {i : Nat} {t : Stm} (h : ss[i]? = some t) : pre3 p k bs b ss (i + 1) = pre3 p k bs b ss i ++ ndS k b i t := by
  unfold pre3
  rw [range_flat, ndSs_at h, List.append_assoc]
theorem pre3_all {p : List Fnc} {k : Nat} {bs : List Blk} {b : Nat} {x : Blk} (h : bs[b]? = some x) : pre3 p k bs b x.ss x.ss.length = pre2 p k bs (b + 1) := by
  unfold pre3 pre2
  rw [range_flat, ndBs_at h]
  simp [ndB]
theorem pre2_all {p : List Fnc} {k : Nat} {x : Fnc} (h : p[k]? = some x) : pre2 p k x.bs x.bs.length ++ [⟨2, k, -1, -1⟩] = pre1 p (k + 1) := by
  unfold pre2 pre1
  rw [range_flat, ndFs_at h]
  simp [ndF]
theorem pre2_mono {p : List Fnc} {k : Nat} {bs : List Blk} {b c : Nat} (h : b ≤ c) : pre2 p k bs b <+: pre2 p k bs c := (List.prefix_append_right_inj _).2 (range_pre h)
theorem pre3_mono {p : List Fnc} {k : Nat} {bs : List Blk} {b : Nat} {ss : List Stm} {i j : Nat} (h : i ≤ j) : pre3 p k bs b ss i <+: pre3 p k bs b ss j := (List.prefix_append_right_inj _).2 (range_pre h)
/-- A statement's nodes stand at their places. -/
theorem node_at {p : List Fnc} {k b i : Nat} {F : Fnc} {B : Blk} {t : Stm} (h1 : p[k]? = some F) (h2 : F.bs[b]? = some B) (h3 : B.ss[i]? = some t) {q : Nat} {nd : Nd} (hq : (ndS k b i t)[q]? = some nd) :
    (pre1 p p.length)[(pre3 p k F.bs b B.ss i).length + q]? = some nd := by
  have e1 : pre3 p k F.bs b B.ss i ++ ndS k b i t <+: pre3 p k F.bs b B.ss B.ss.length := by
    rw [← pre3_succ h3]
    exact pre3_mono (by have := (List.getElem?_eq_some_iff.1 h3).1; omega)
  rw [pre3_all h2] at e1
  have e2 := e1.trans (pre2_mono (p := p) (k := k) (bs := F.bs) (c := F.bs.length) (by have := (List.getElem?_eq_some_iff.1 h2).1; omega))
  have e3 : pre2 p k F.bs F.bs.length <+: pre1 p (k + 1) := by rw [← pre2_all h1]; exact List.prefix_append _ _
  have e4 : pre1 p (k + 1) <+: pre1 p p.length := range_pre (by have := (List.getElem?_eq_some_iff.1 h1).1; omega)
  obtain ⟨r, hr⟩ := (e2.trans e3).trans e4
  rw [← hr, List.append_assoc, List.getElem?_append_right (by omega), Nat.add_sub_cancel_left, List.getElem?_append_left (List.getElem?_eq_some_iff.1 hq).1]
  exact hq
/-- What stands in the list is found. -/
theorem find_has {L : List Nd} {n : Nd} {i : Nat} (h : L[i]? = some n) : ∃ j : Nat, findI L n = (j : Int) := by
  unfold findI
  cases hs : (List.range L.length).findSome? (findAt L n) with
  | none =>
    rw [List.findSome?_eq_none_iff] at hs
    have := hs i (List.mem_range.2 (List.getElem?_eq_some_iff.1 h).1)
    rw [find_yes h] at this
    cases this
  | some v =>
    obtain ⟨j, -, hj⟩ := List.exists_of_findSome?_eq_some hs
    unfold findAt at hj
    split at hj
    · injection hj with hj; exact ⟨j, by rw [← hj]; rfl⟩
    · cases hj
theorem ndS_kind {f b j : Nat} {t : Stm} {q : Nat} (h : q < (ndS f b j t).length) : ∃ kd : Int, (ndS f b j t)[q]? = some ⟨kd, f, b, j⟩ ∧ (kd == 1) = false ∧ (kd == 2) = false := by
  unfold ndS at h ⊢
  split at h
  · next ho =>
    rw [if_pos ho]
    have : q = 0 ∨ q = 1 := by simp at h; omega
    rcases this with rfl | rfl
    · exact ⟨3, rfl, rfl, rfl⟩
    · exact ⟨4, rfl, rfl, rfl⟩
  · next ho =>
    rw [if_neg ho]
    obtain rfl : q = 0 := by simp at h; omega
    exact ⟨3, rfl, rfl, rfl⟩
theorem ndS_len_yes {f b j : Nat} {t : Stm} (h : (t.op == 3) = true) : (ndS f b j t).length = 2 := by unfold ndS; rw [if_pos h]; rfl
theorem ndS_len_no {f b j : Nat} {t : Stm} (h : (t.op == 3) = false) : (ndS f b j t).length = 1 := by unfold ndS; rw [if_neg (by rw [h]; decide)]; rfl
end Go.Proofs.YtmbelhdkaepohaaGreatDoor

namespace Go.Proofs.YtmbelhdkaepohaaGreatDoor
set_option maxRecDepth 20000
set_option linter.unusedVariables false
set_option linter.unusedSimpArgs false
open Go.ChangeShapes Go.WideShapes Go.ChangeAt Go.RowKit

theorem flat_nodup {f : Nat → List Nd} {key : Nd → Int} (h1 : ∀ i, (f i).Nodup) (h2 : ∀ i, ∀ x ∈ f i, key x = i) : ∀ n : Nat, ((List.range n).flatMap f).Nodup := by
  intro n
  induction n with
  | zero => exact List.nodup_nil
  | succ n ih =>
    rw [range_flat, List.nodup_append]
    refine ⟨ih, h1 n, ?_⟩
    intro a ha b hb e
    subst e
    obtain ⟨i, hi, hx⟩ := List.mem_flatMap.1 ha
    have e1 := h2 i a hx
    have e2 := h2 n a hb
    have := List.mem_range.1 hi
    omega
theorem ndS_mem {f b j : Nat} {t : Stm} {x : Nd} (h : x ∈ ndS f b j t) : (x.kd = 3 ∨ x.kd = 4) ∧ x.fn = f ∧ x.bk = b ∧ x.st = j := by
  unfold ndS at h
  split at h
  · simp at h
    rcases h with rfl | rfl
    · exact ⟨.inl rfl, rfl, rfl, rfl⟩
    · exact ⟨.inr rfl, rfl, rfl, rfl⟩
  · simp at h
    subst h
    exact ⟨.inl rfl, rfl, rfl, rfl⟩
theorem ndSs_mem {f b j : Nat} {ss : List Stm} {x : Nd} (h : x ∈ ndSs f b ss j) : (x.kd = 3 ∨ x.kd = 4) ∧ x.fn = f ∧ x.bk = b ∧ x.st = j := by
  unfold ndSs at h
  split at h
  · exact ndS_mem h
  · cases h
theorem ndSs_nodup (f b : Nat) (ss : List Stm) (j : Nat) : (ndSs f b ss j).Nodup := by
  unfold ndSs
  split
  · unfold ndS
    split
    · simp
    · simp
  · exact List.nodup_nil
theorem ndB_mem {f b : Nat} {y : Blk} {x : Nd} (h : x ∈ ndB f b y) : (x.kd = 3 ∨ x.kd = 4) ∧ x.fn = f ∧ x.bk = b := by
  obtain ⟨i, -, hx⟩ := List.mem_flatMap.1 h
  obtain ⟨h1, h2, h3, -⟩ := ndSs_mem hx
  exact ⟨h1, h2, h3⟩
theorem ndBs_mem {f b : Nat} {bs : List Blk} {x : Nd} (h : x ∈ ndBs f bs b) : (x.kd = 3 ∨ x.kd = 4) ∧ x.fn = f ∧ x.bk = b := by
  unfold ndBs at h
  split at h
  · exact ndB_mem h
  · cases h
theorem ndBs_nodup (f : Nat) (bs : List Blk) (b : Nat) : (ndBs f bs b).Nodup := by
  unfold ndBs
  split
  · exact flat_nodup (key := Nd.st) (ndSs_nodup f b _) (fun i x h => (ndSs_mem h).2.2.2) _
  · exact List.nodup_nil
theorem ndF_nodup (f : Nat) (y : Fnc) : (ndF f y).Nodup := by
  unfold ndF
  have h1 : ((List.range y.bs.length).flatMap (ndBs f y.bs)).Nodup := flat_nodup (key := Nd.bk) (ndBs_nodup f y.bs) (fun i x h => (ndBs_mem h).2.2) _
  have h2 : ∀ x ∈ (List.range y.bs.length).flatMap (ndBs f y.bs), x.kd = 3 ∨ x.kd = 4 := by
    intro x hx
    obtain ⟨i, -, hx⟩ := List.mem_flatMap.1 hx
    exact (ndBs_mem hx).1
  rw [List.cons_append, List.nodup_cons, List.nodup_append]
  refine ⟨?_, h1, by simp, ?_⟩
  · intro h
    rcases List.mem_append.1 h with h | h
    · rcases h2 _ h with e | e <;> cases e
    · simp at h
  · intro a ha b hb e
    subst e
    simp at hb
    subst hb
    rcases h2 _ ha with e | e <;> cases e
theorem ndF_mem {f : Nat} {y : Fnc} {x : Nd} (h : x ∈ ndF f y) : x.fn = f := by
  unfold ndF at h
  rw [List.cons_append, List.mem_cons, List.mem_append] at h
  rcases h with rfl | h | h
  · rfl
  · obtain ⟨i, -, hx⟩ := List.mem_flatMap.1 h
    exact (ndBs_mem hx).2.1
  · simp at h
    subst h
    rfl
theorem ndFs_mem {fs : List Fnc} {f : Nat} {x : Nd} (h : x ∈ ndFs fs f) : x.fn = f := by
  unfold ndFs at h
  split at h
  · exact ndF_mem h
  · cases h
theorem ndFs_nodup (fs : List Fnc) (f : Nat) : (ndFs fs f).Nodup := by
  unfold ndFs
  split
  · exact ndF_nodup f _
  · exact List.nodup_nil
theorem list_nodup (p : List Fnc) : (listN p).Nodup := by
  unfold listN
  split
  · exact flat_nodup (key := Nd.fn) (ndFs_nodup p) (fun i x h => ndFs_mem h) _
  · exact List.nodup_nil
/-- P7.2: a node is found at its index. -/
theorem find_index {L : List Nd} (hd : L.Nodup) {n : Nd} {i : Nat} (h : L[i]? = some n) : findI L n = i := by
  have hi := (List.getElem?_eq_some_iff.1 h).1
  refine find_hit (k := i) ?_ hi h
  rw [List.findSome?_eq_none_iff]
  intro j hj
  have hji := List.mem_range.1 hj
  unfold findAt
  rw [if_neg]
  intro e
  have hj2 : j < L.length := by omega
  exact List.pairwise_iff_getElem.1 hd j i hj2 hi hji ((List.getElem?_eq_some_iff.1 e).2.trans (List.getElem?_eq_some_iff.1 h).2.symm)
end Go.Proofs.YtmbelhdkaepohaaGreatDoor

namespace Go.Proofs.YtmbelhdkaepohaaGreatDoor
set_option linter.unusedVariables false
open Go.ChangeShapes Go.WideShapes Go.ChangeAt Go.RowKit

/-- The statement's tape and the table of shapes stand, and nothing old has changed. -/
structure GoS (w : World) (T : Nat) (wr : World) : Prop where
  go : Going w T wr
  shp : Shp wr
  pos : 0 < w.heap.size
theorem GoS.step {w wr w' : World} {T : Nat} (h : GoS w T wr) (hg : Going w T w') (hw : wr.grownBy w' (some T)) : GoS w T w' :=
  ⟨hg, h.shp.keep (hw.block 0 h.shp.pos0 (by have := h.go.2.2; have := h.pos; intro e; injection e with e; omega)), h.pos⟩
theorem GoS.stepT {w wr w' : World} {T : Nat} (h : GoS w T wr) (ht : Tape w' T) (hw : wr.grownBy w' (some T)) : GoS w T w' := h.step (h.go.step ht hw) hw
theorem GoS.below {w wr w' : World} {T : Nat} (h : GoS w T wr) (hb : Below wr.heap.size wr w') : GoS w T w' := h.step (h.go.below hb) (grown_of_below hb _)
theorem GoS.alloc {w wr : World} {T : Nat} (h : GoS w T wr) (o : Obj) : GoS w T (wr.alloc o) := h.below ((Below.refl _ _).alloc (Nat.le_refl _) o)

end Go.Proofs.YtmbelhdkaepohaaGreatDoor
