/- ConeClosed holds for every input: a cone is closed and is contained in every closed set that contains its root. No condition: every list of numbers, in whatever memory, on every schedule. -/
import Derived.Test.YtopkmeceakjocaaConeAlla
import Derived.Deep.DeepCutAuto
import Derived.Deep.AppendLies
import Derived.Test.YtopkmeceakjocaaEq1
import Derived.Deep.QuietTactic
import Derived.BigQuiet
import Derived.Test.YtopkmeceakjocaaDvT
import Derived.Test.YtopkmeceakjocaaTimg
import Derived.Test.YtopkmeceakjocaaDSet
import Derived.Test.YtopkmeceakjocaaGen
import Derived.Test.YtopkmeceakjocaaMembers
import Derived.Lib.SmallJoins
import Derived.ShutString
import Derived.ChangeOld
namespace Go.Proofs.Ytopkmeceakjocaa
set_option maxRecDepth 20000
set_option linter.unusedVariables false
set_option linter.unusedSimpArgs false
open Go.ChangeShapes Go.WideShapes Go.ChangeAt Go.RowKit

/-- The functions and the sets of a line: of width 0. -/
def zF (F : FH) : Prop := F.G.W = 0 ∧ F.G.ws = [] ∧ F.G.n = 0 ∧ F.K.W = 0 ∧ F.K.ws = [] ∧ F.K.n = 0 ∧ F.cs = [] ∧ F.k = 0
def zZ (z : ZH) : Prop := z.W = 0 ∧ z.ws = [] ∧ z.n = 0
/-- The rows of dependencies of a line. -/
def dLn (j : Nat) (y : RH) (u : World) : Prop := (j = 0 ∧ y = ⟨none, 0, 0, []⟩) ∨ (0 < j ∧ ∃ g, y = ⟨some ⟨g, 0, none⟩, 1, 1, [(j : Int) - 1]⟩ ∧ Fb u g #[.int .i64 ((j : Int) - 1)] 3)
theorem dLn.stp {j t : Nat} {y : RH} {u u' : World} (h : dLn j y u) (hs : Stp1 t u u') (ht : 3 ≠ t) : dLn j y u' := by
  rcases h with h | ⟨h1, g, h2, h3⟩
  · exact .inl h
  · exact .inr ⟨h1, g, h2, hs.fb h3 ht⟩
theorem dLn.ok {j : Nat} {y : RH} {u : World} (h : dLn j y u) : RHok u [] y := by
  rcases h with ⟨_, rfl⟩ | ⟨_, g, rfl, h⟩
  · exact ⟨EAt.nil _ _ _, rfl, by show 0 ≤ 9223372036854775807; omega⟩
  · exact ⟨EAt.fb h (by simp) (fun j x hx => by simpa [ints] using hx), rfl, by show 1 ≤ 9223372036854775807; omega⟩
theorem zF.ok {F : FH} (h : zF F) (u : World) : FHok u [] F := by
  obtain ⟨h1, h2, h3, h4, h5, h6, h7, h8⟩ := h
  exact ⟨⟨by rw [h2]; exact EAt.nil _ _ _, by rw [h2, h3]; rfl, by rw [h2]; simp⟩, ⟨by rw [h5]; exact EAt.nil _ _ _, by rw [h5, h6]; rfl, by rw [h5]; simp⟩, by rw [h7]; exact EAt.nil _ _ _, by rw [h7, h8]; rfl⟩
theorem zZ.ok {z : ZH} (h : zZ z) (u : World) : ZHok u [] z := by
  obtain ⟨h1, h2, h3⟩ := h
  exact ⟨by rw [h2]; exact EAt.nil _ _ _, by rw [h2, h3]; rfl, by rw [h2]; simp⟩
def tyL (j : Nat) : Nat := if j = 4 then 22 else if j = 9 then 61 else if j = 14 then 50 else 27
def cO (j : Nat) : Nat := if j = 16 then 1 else if j = 18 then 2 else if j = 20 then 3 else 9
theorem tyL_4 {j : Nat} (h : j ≠ 4) : 22 ≠ tyL j := by
  unfold tyL
  repeat' split
  all_goals first | omega | decide
theorem tyL_9 {j : Nat} (h : j ≠ 9) : 61 ≠ tyL j := by
  unfold tyL
  repeat' split
  all_goals first | omega | decide
theorem tyL_14 {j : Nat} (h : j ≠ 14) : 50 ≠ tyL j := by
  unfold tyL
  repeat' split
  all_goals first | omega | decide
theorem tyL_i (j : Nat) : 3 ≠ tyL j := by
  unfold tyL
  repeat' split
  all_goals first | omega | decide
theorem cO_1 {j : Nat} (h : j ≠ 16) : 1 ≠ cO j := by
  unfold cO
  repeat' split
  all_goals first | omega | decide
theorem cO_2 {j : Nat} (h : j ≠ 18) : 2 ≠ cO j := by
  unfold cO
  repeat' split
  all_goals first | omega | decide
theorem cO_3 {j : Nat} (h : j ≠ 20) : 3 ≠ cO j := by
  unfold cO
  repeat' split
  all_goals first | omega | decide
/-- What an operation of the long statement changes. -/
def lnR (w : World) (j : Nat) (u u' : World) : Prop := Stp1 (tyL j) u u' ∧ ∀ k, k ≠ cO j → u'.cell? ⟨w.heap.size + 1, k, none⟩ = u.cell? ⟨w.heap.size + 1, k, none⟩
/-- What stands all the while. -/
structure LnB (w : World) (d : RH) (lD : List RH) (u : World) : Prop where
  rx : Fb u w.heap.size #[.int .i64 0, .slice none 0 0, .slice none 0 0, .slice none 0 0] 27
  sx : ∃ X Y Z, Fb u (w.heap.size + 1) #[.int .i64 0, X, Y, Z] 27
  eD : ∀ j y, lD[j]? = some y → dLn j y u
  hd : dLn lD.length d u
  bel : Below w.heap.size w u
theorem stp_cel {u : World} {g t : Nat} {cs : Array Value} (hf : Fb u g cs t) (k : Nat) (v : Value) : Stp1 t u (u.setCell ⟨g, k, none⟩ v) := ⟨some g, setCell_grown u ⟨g, k, none⟩ v, fun k' e => by obtain rfl := Option.some.inj e; exact hf.typ⟩
section
variable {w u u' : World} {d : RH} {lD : List RH}
theorem LnB.lt (h : LnB w d lD u) : w.heap.size + 1 < u.heap.size := by obtain ⟨X, Y, Z, h⟩ := h.sx; exact h.lt
theorem LnB.sz (h : LnB w d lD u) : w.heap.size + 2 ≤ u.heap.size := h.lt
theorem LnB.stp {t : Nat} (h : LnB w d lD u) (hs : Stp1 t u u') (h1 : 27 ≠ t) (h2 : 3 ≠ t) (hb : Below w.heap.size w u') : LnB w d lD u' := by
  obtain ⟨X, Y, Z, hx⟩ := h.sx
  exact ⟨hs.fb h.rx h1, ⟨X, Y, Z, hs.fb hx h1⟩, fun j y hy => (h.eD j y hy).stp hs h2, h.hd.stp hs h2, hb⟩
theorem LnB.below (h : LnB w d lD u) (hb : Below u.heap.size u u') : LnB w d lD u' := h.stp (Stp1.below (t := 0) hb) (by decide) (by decide) (below_step h.bel hb)
theorem LnB.app {v : Value} {ty k n : Nat} {xs : List Value} (h : LnB w d lD u) (ho : u.ownsRow (w.heap.size + 2) ty k v n xs) (hg : u.grownBy u' v.ownBlock) (h1 : 27 ≠ ty) (h2 : 3 ≠ ty) : LnB w d lD u' :=
  h.stp ⟨_, hg, fun k e => own_typ ho e⟩ h1 h2 (h.bel.grown hg h.bel.size (fun k e => by have := (ho.lt k e).1; omega))
theorem LnB.R_below {j : Nat} (h : LnB w d lD u) (hb : Below u.heap.size u u') : lnR w j u u' := ⟨Stp1.below hb, fun k _ => hb.cell h.lt⟩
theorem LnB.R_app {v : Value} {ty k n j : Nat} {xs : List Value} (h : LnB w d lD u) (ho : u.ownsRow (w.heap.size + 2) ty k v n xs) (hg : u.grownBy u' v.ownBlock) (h1 : 27 ≠ ty) (hj : tyL j = ty) : lnR w j u u' := by
  obtain ⟨X, Y, Z, hx⟩ := h.sx
  have hs : Stp1 ty u u' := ⟨_, hg, fun k e => own_typ ho e⟩
  exact ⟨hj ▸ hs, fun k _ => World.cell?_of_block (hs.block hx.typ h1 hx.lt)⟩
theorem LnB.stored (h : LnB w d lD u) (k : Nat) (v : Value) (hs : ∃ X Y Z, Fb (u.setCell ⟨w.heap.size + 1, k, none⟩ v) (w.heap.size + 1) #[.int .i64 0, X, Y, Z] 27) : LnB w d lD (u.setCell ⟨w.heap.size + 1, k, none⟩ v) := by
  obtain ⟨X, Y, Z, hx⟩ := h.sx
  have hp := stp_cel hx k v
  exact ⟨h.rx.far (by show w.heap.size ≠ w.heap.size + 1; omega) _, hs, fun j y hy => (h.eD j y hy).stp hp (by decide), h.hd.stp hp (by decide), h.bel.setCell (by show w.heap.size ≤ w.heap.size + 1; omega) _⟩
theorem LnB.put1 (h : LnB w d lD u) (v : Value) : LnB w d lD (u.setCell ⟨w.heap.size + 1, 1, none⟩ v) := by
  obtain ⟨X, Y, Z, hx⟩ := h.sx
  exact h.stored 1 v ⟨v, Y, Z, hx.set 1 v⟩
theorem LnB.put2 (h : LnB w d lD u) (v : Value) : LnB w d lD (u.setCell ⟨w.heap.size + 1, 2, none⟩ v) := by
  obtain ⟨X, Y, Z, hx⟩ := h.sx
  exact h.stored 2 v ⟨X, v, Z, hx.set 2 v⟩
theorem LnB.put3 (h : LnB w d lD u) (v : Value) : LnB w d lD (u.setCell ⟨w.heap.size + 1, 3, none⟩ v) := by
  obtain ⟨X, Y, Z, hx⟩ := h.sx
  exact h.stored 3 v ⟨X, Y, v, hx.set 3 v⟩
theorem LnB.other (h : LnB w d lD u) {k k' : Nat} (v : Value) (hk : k ≠ k') : (u.setCell ⟨w.heap.size + 1, k', none⟩ v).cell? ⟨w.heap.size + 1, k, none⟩ = u.cell? ⟨w.heap.size + 1, k, none⟩ := by
  obtain ⟨X, Y, Z, hx⟩ := h.sx
  rw [(hx.set k' v).cell k, hx.cell k]
  exact Array.getElem?_setIfInBounds_ne (Ne.symm hk)
theorem LnB.putR1 (h : LnB w d lD u) (v : Value) : lnR w 16 u (u.setCell ⟨w.heap.size + 1, 1, none⟩ v) := by
  obtain ⟨X, Y, Z, hx⟩ := h.sx
  exact ⟨stp_cel hx 1 v, fun k hk => h.other v hk⟩
theorem LnB.putR2 (h : LnB w d lD u) (v : Value) : lnR w 18 u (u.setCell ⟨w.heap.size + 1, 2, none⟩ v) := by
  obtain ⟨X, Y, Z, hx⟩ := h.sx
  exact ⟨stp_cel hx 2 v, fun k hk => h.other v hk⟩
theorem LnB.putR3 (h : LnB w d lD u) (v : Value) : lnR w 20 u (u.setCell ⟨w.heap.size + 1, 3, none⟩ v) := by
  obtain ⟨X, Y, Z, hx⟩ := h.sx
  exact ⟨stp_cel hx 3 v, fun k hk => h.other v hk⟩
theorem LnB.cell1 (h : LnB w d lD u) (v : Value) : (u.setCell ⟨w.heap.size + 1, 1, none⟩ v).cell? ⟨w.heap.size + 1, 1, none⟩ = some v := by
  obtain ⟨X, Y, Z, hx⟩ := h.sx
  exact (hx.set 1 v).cell 1
theorem LnB.cell2 (h : LnB w d lD u) (v : Value) : (u.setCell ⟨w.heap.size + 1, 2, none⟩ v).cell? ⟨w.heap.size + 1, 2, none⟩ = some v := by
  obtain ⟨X, Y, Z, hx⟩ := h.sx
  exact (hx.set 2 v).cell 2
theorem LnB.cell3 (h : LnB w d lD u) (v : Value) : (u.setCell ⟨w.heap.size + 1, 3, none⟩ v).cell? ⟨w.heap.size + 1, 3, none⟩ = some v := by
  obtain ⟨X, Y, Z, hx⟩ := h.sx
  exact (hx.set 3 v).cell 3
end
/-- What stands between the rounds. -/
structure Ln (w : World) (D Tr B : Value) (lD : List RH) (lT : List FH) (lB : List ZH) (u : World) : Prop where
  rx : Fb u w.heap.size #[.int .i64 0, .slice none 0 0, .slice none 0 0, .slice none 0 0] 27
  sx : Fb u (w.heap.size + 1) #[.int .i64 0, D, Tr, B] 27
  eD : ∀ j y, lD[j]? = some y → dLn j y u
  oD : u.ownsRow (w.heap.size + 2) 22 1 D lD.length (lD.flatMap lhc)
  oT : u.ownsRow (w.heap.size + 2) 61 5 Tr lT.length (lT.flatMap FH.cells)
  oB : u.ownsRow (w.heap.size + 2) 50 2 B lB.length (lB.flatMap ZH.cs)
  zT : ∀ F ∈ lT, zF F
  zB : ∀ z ∈ lB, zZ z
  bel : Below w.heap.size w u
section
variable {w u u' : World} {d : RH} {D Tr B : Value} {lD : List RH} {lT : List FH} {lB : List ZH}
theorem Ln.below (h : Ln w D Tr B lD lT lB u) (hb : Below u.heap.size u u') : Ln w D Tr B lD lT lB u' :=
  ⟨h.rx.below hb h.rx.lt, h.sx.below hb h.sx.lt, fun j y hy => (h.eD j y hy).stp (Stp1.below (t := 0) hb) (by decide), (Stp1.below (t := 0) hb).own h.oD (by decide), (Stp1.below (t := 0) hb).own h.oT (by decide), (Stp1.below (t := 0) hb).own h.oB (by decide), h.zT, h.zB, below_step h.bel hb⟩
theorem Ln.b (h : Ln w D Tr B lD lT lB u) (hd : dLn lD.length d u) : LnB w d lD u := ⟨h.rx, ⟨_, _, _, h.sx⟩, h.eD, hd, h.bel⟩
theorem LnB.done {w1 : World} {g4 q4 g9 q9 g14 q14 : Nat} {F : FH} {z : ZH} (h : LnB w d lD u)
    (c1 : u.cell? ⟨w.heap.size + 1, 1, none⟩ = some (.slice (some ⟨g4, 0, none⟩) (lD.length + 1) q4)) (c2 : u.cell? ⟨w.heap.size + 1, 2, none⟩ = some (.slice (some ⟨g9, 0, none⟩) (lT.length + 1) q9)) (c3 : u.cell? ⟨w.heap.size + 1, 3, none⟩ = some (.slice (some ⟨g14, 0, none⟩) (lB.length + 1) q14))
    (o4 : u.ownsRow (w.heap.size + 2) 22 1 (.slice (some ⟨g4, 0, none⟩) (lD.length + 1) q4) (lD.length + 1) (lD.flatMap lhc ++ lhc d))
    (o9 : u.ownsRow (w.heap.size + 2) 61 5 (.slice (some ⟨g9, 0, none⟩) (lT.length + 1) q9) (lT.length + 1) (lT.flatMap FH.cells ++ F.cells))
    (o14 : u.ownsRow (w.heap.size + 2) 50 2 (.slice (some ⟨g14, 0, none⟩) (lB.length + 1) q14) (lB.length + 1) (lB.flatMap ZH.cs ++ z.cs)) (hF : zF F) (hZ : zZ z) (hL : Ln w D Tr B lD lT lB w1) :
    Ln w (.slice (some ⟨g4, 0, none⟩) (lD.length + 1) q4) (.slice (some ⟨g9, 0, none⟩) (lT.length + 1) q9) (.slice (some ⟨g14, 0, none⟩) (lB.length + 1) q14) (lD ++ [d]) (lT ++ [F]) (lB ++ [z]) u := by
  have fl : ∀ {α : Type} (l : List α) (x : α) (f : α → List Value), (l ++ [x]).flatMap f = l.flatMap f ++ f x := fun l x f => by rw [List.flatMap_append]; simp
  obtain ⟨X, Y, Z, hx⟩ := h.sx
  have e1 := (hx.cell 1).symm.trans c1
  have e2 := (hx.cell 2).symm.trans c2
  have e3 := (hx.cell 3).symm.trans c3
  obtain rfl : X = _ := Option.some.inj e1
  obtain rfl : Y = _ := Option.some.inj e2
  obtain rfl : Z = _ := Option.some.inj e3
  refine ⟨h.rx, hx, fun j y hy => ?_, by rw [List.length_append, fl]; exact o4, by rw [List.length_append, fl]; exact o9, by rw [List.length_append, fl]; exact o14, fun x hx => ?_, fun x hx => ?_, h.bel⟩
  · rcases Nat.lt_or_ge j lD.length with hj | hj
    · rw [List.getElem?_append_left hj] at hy
      exact h.eD j y hy
    · have hj2 := (List.getElem?_eq_some_iff.1 hy).1
      rw [List.length_append, List.length_singleton] at hj2
      obtain rfl : j = lD.length := by omega
      rw [List.getElem?_append_right (Nat.le_refl _), Nat.sub_self] at hy
      obtain rfl := Option.some.inj hy
      exact h.hd
  · rcases List.mem_append.1 hx with hx | hx
    · exact hL.zT x hx
    · rw [List.mem_singleton.1 hx]; exact hF
  · rcases List.mem_append.1 hx with hx | hx
    · exact hL.zB x hx
    · rw [List.mem_singleton.1 hx]; exact hZ
end
def lnF (w : World) (D Tr B : Value) (d : RH) (lD : List RH) (lT : List FH) (lB : List ZH) : Nat → (Nat → Value) → World → Prop
  | 0, f, u => f 0 = .pointer (some ⟨w.heap.size + 1, 1, none⟩)
  | 1, f, u => f 1 = D
  | 2, f, u => f 2 = .slice d.A d.n d.c
  | 3, f, u => ∃ g : Nat, f 3 = .slice (some ⟨g, 0, none⟩) 1 1 ∧ Fb u g #[.slice d.A d.n d.c] 22
  | 4, f, u => ∃ g q : Nat, f 4 = .slice (some ⟨g, 0, none⟩) (lD.length + 1) q ∧ u.ownsRow (w.heap.size + 2) 22 1 (.slice (some ⟨g, 0, none⟩) (lD.length + 1) q) (lD.length + 1) (lD.flatMap lhc ++ lhc d)
  | 5, f, u => f 5 = .pointer (some ⟨w.heap.size + 1, 2, none⟩)
  | 6, f, u => f 6 = Tr
  | 7, f, u => ∃ F : FH, f 7 = .agg #[.int .i64 F.G.W, .slice F.G.A F.G.n F.G.c, .int .i64 F.K.W, .slice F.K.A F.K.n F.K.c, .slice F.C F.k F.q] ∧ zF F
  | 8, f, u => ∃ (F : FH) (g : Nat), f 8 = .slice (some ⟨g, 0, none⟩) 1 1 ∧ Fb u g #[.int .i64 F.G.W, .slice F.G.A F.G.n F.G.c, .int .i64 F.K.W, .slice F.K.A F.K.n F.K.c, .slice F.C F.k F.q] 61 ∧ zF F
  | 9, f, u => ∃ (F : FH) (g q : Nat), f 9 = .slice (some ⟨g, 0, none⟩) (lT.length + 1) q ∧ u.ownsRow (w.heap.size + 2) 61 5 (.slice (some ⟨g, 0, none⟩) (lT.length + 1) q) (lT.length + 1) (lT.flatMap FH.cells ++ F.cells) ∧ zF F
  | 10, f, u => f 10 = .pointer (some ⟨w.heap.size + 1, 3, none⟩)
  | 11, f, u => f 11 = B
  | 12, f, u => ∃ z : ZH, f 12 = .agg #[.int .i64 z.W, .slice z.A z.n z.c] ∧ zZ z
  | 13, f, u => ∃ (z : ZH) (g : Nat), f 13 = .slice (some ⟨g, 0, none⟩) 1 1 ∧ Fb u g #[.int .i64 z.W, .slice z.A z.n z.c] 50 ∧ zZ z
  | 14, f, u => ∃ (z : ZH) (g q : Nat), f 14 = .slice (some ⟨g, 0, none⟩) (lB.length + 1) q ∧ u.ownsRow (w.heap.size + 2) 50 2 (.slice (some ⟨g, 0, none⟩) (lB.length + 1) q) (lB.length + 1) (lB.flatMap ZH.cs ++ z.cs) ∧ zZ z
  | 15, f, u => f 15 = .pointer (some ⟨w.heap.size + 1, 1, none⟩)
  | 16, f, u => u.cell? ⟨w.heap.size + 1, 1, none⟩ = some (f 4)
  | 17, f, u => f 17 = .pointer (some ⟨w.heap.size + 1, 2, none⟩)
  | 18, f, u => u.cell? ⟨w.heap.size + 1, 2, none⟩ = some (f 9)
  | 19, f, u => f 19 = .pointer (some ⟨w.heap.size + 1, 3, none⟩)
  | 20, f, u => u.cell? ⟨w.heap.size + 1, 3, none⟩ = some (f 14)
  | _, _, _ => True
def lnU : Nat → Option Nat
  | 3 => some 4
  | 8 => some 9
  | 13 => some 14
  | _ => none
theorem lnF_st {w : World} {D Tr B : Value} {d : RH} {lD : List RH} {lT : List FH} {lB : List ZH} {ops : Array Oper} (hq16_4 : ∀ j, (reachL ops 5 16).contains j = false → j ≠ 4) (hq18_9 : ∀ j, (reachL ops 5 18).contains j = false → j ≠ 9) (hq20_14 : ∀ j, (reachL ops 5 20).contains j = false → j ≠ 14)  (jx : Nat) (vx : Value) (u u' : World) (ix : Nat) (f : Nat → Value) (hR : lnR w jx u u') (hne : ix ≠ jx) (hu : lnU ix ≠ some jx) (hc : (reachL ops 5 ix).contains jx = false) (h : lnF w D Tr B d lD lT lB ix f u) : lnF w D Tr B d lD lT lB ix (updV f jx vx) u' := by
  match ix, hne, hu, hc, h with
  | 0, hne, hu, hc, h => exact (updV_ne f vx hne).trans h
  | 1, hne, hu, hc, h => exact (updV_ne f vx hne).trans h
  | 2, hne, hu, hc, h => exact (updV_ne f vx hne).trans h
  | 3, hne, hu, hc, h => obtain ⟨g, hf, i0⟩ := h; exact ⟨g, (updV_ne f vx hne).trans hf, hR.1.fb i0 (tyL_4 fun e => hu (by rw [e]; rfl))⟩
  | 4, hne, hu, hc, h => obtain ⟨g, q, hf, i0⟩ := h; exact ⟨g, q, (updV_ne f vx hne).trans hf, hR.1.own i0 (tyL_4 (Ne.symm hne))⟩
  | 5, hne, hu, hc, h => exact (updV_ne f vx hne).trans h
  | 6, hne, hu, hc, h => exact (updV_ne f vx hne).trans h
  | 7, hne, hu, hc, h => obtain ⟨F, hf, i0⟩ := h; exact ⟨F, (updV_ne f vx hne).trans hf, i0⟩
  | 8, hne, hu, hc, h => obtain ⟨F, g, hf, i0, i1⟩ := h; exact ⟨F, g, (updV_ne f vx hne).trans hf, hR.1.fb i0 (tyL_9 fun e => hu (by rw [e]; rfl)), i1⟩
  | 9, hne, hu, hc, h => obtain ⟨F, g, q, hf, i0, i1⟩ := h; exact ⟨F, g, q, (updV_ne f vx hne).trans hf, hR.1.own i0 (tyL_9 (Ne.symm hne)), i1⟩
  | 10, hne, hu, hc, h => exact (updV_ne f vx hne).trans h
  | 11, hne, hu, hc, h => exact (updV_ne f vx hne).trans h
  | 12, hne, hu, hc, h => obtain ⟨z, hf, i0⟩ := h; exact ⟨z, (updV_ne f vx hne).trans hf, i0⟩
  | 13, hne, hu, hc, h => obtain ⟨z, g, hf, i0, i1⟩ := h; exact ⟨z, g, (updV_ne f vx hne).trans hf, hR.1.fb i0 (tyL_14 fun e => hu (by rw [e]; rfl)), i1⟩
  | 14, hne, hu, hc, h => obtain ⟨z, g, q, hf, i0, i1⟩ := h; exact ⟨z, g, q, (updV_ne f vx hne).trans hf, hR.1.own i0 (tyL_14 (Ne.symm hne)), i1⟩
  | 15, hne, hu, hc, h => exact (updV_ne f vx hne).trans h
  | 16, hne, hu, hc, h =>
      have n4 : 4 ≠ jx := (hq16_4 jx hc).symm
      show u'.cell? ⟨w.heap.size + 1, 1, none⟩ = some (updV f jx vx 4)
      rw [updV_ne f vx n4, hR.2 1 (cO_1 hne.symm)]
      exact h
  | 17, hne, hu, hc, h => exact (updV_ne f vx hne).trans h
  | 18, hne, hu, hc, h =>
      have n9 : 9 ≠ jx := (hq18_9 jx hc).symm
      show u'.cell? ⟨w.heap.size + 1, 2, none⟩ = some (updV f jx vx 9)
      rw [updV_ne f vx n9, hR.2 2 (cO_2 hne.symm)]
      exact h
  | 19, hne, hu, hc, h => exact (updV_ne f vx hne).trans h
  | 20, hne, hu, hc, h =>
      have n14 : 14 ≠ jx := (hq20_14 jx hc).symm
      show u'.cell? ⟨w.heap.size + 1, 3, none⟩ = some (updV f jx vx 14)
      rw [updV_ne f vx n14, hR.2 3 (cO_3 hne.symm)]
      exact h
  | ix + 21, _, _, _, _ => trivial
/-- The line of four unknowns came back. -/
def RetLine (w : World) (e : Ending) (w' : World) : Prop :=
  ∃ s : SY, e = .returned s.a ∧ SYok w' [] s ∧ SOk s 0 4 ∧ s.D.v = [[], [0], [1], [2]] ∧ Below w.heap.size w w'
theorem Ln.rows {w u : World} {D Tr B : Value} {lD : List RH} {lT : List FH} {lB : List ZH} (h : Ln w D Tr B lD lT lB u) (hl : lD.length = 4) : lD.map RH.l = [[], [0], [1], [2]] := by
  match lD, hl, h.eD with
  | [a, b, c, d], _, h =>
    have e : ∀ (j : Nat) (y : RH), [a, b, c, d][j]? = some y → y.l = if j = 0 then [] else [(j : Int) - 1] := fun j y hy => by
      rcases h j y hy with ⟨rfl, rfl⟩ | ⟨h1, g, rfl, -⟩
      · rfl
      · rw [if_neg (by omega)]
    have e0 := e 0 a rfl
    have e1 := e 1 b rfl
    have e2 := e 2 c rfl
    have e3 := e 3 d rfl
    simp only [List.map_cons, List.map_nil, e0, e1, e2, e3]
    rfl
theorem dLn.ris {j N : Nat} {y : RH} {u : World} (h : dLn j y u) (hj : j < N) : RisP N y.l := by
  rcases h with ⟨_, rfl⟩ | ⟨h1, g, rfl, h⟩
  · exact RisP.nil _
  · exact ⟨by simp, fun x hx => by rw [List.mem_singleton.1 hx]; omega⟩
theorem Ln.fin {w u : World} {lD : List RH} {lT : List FH} {lB : List ZH} {A1 A2 A3 : Option Addr} {c1 c2 c3 : Nat} (h : Ln w (.slice A1 4 c1) (.slice A3 4 c3) (.slice A2 4 c2) lD lT lB u) (h1 : lD.length = 4) (h2 : lB.length = 4) (h3 : lT.length = 4) :
    RetLine w (.returned (.agg #[.int .i64 0, .slice A1 4 c1, .slice A3 4 c3, .slice A2 4 c2])) ((((u.setCell ⟨w.heap.size, 0, none⟩ (.int .i64 0)).setCell ⟨w.heap.size, 1, none⟩ (.slice A1 4 c1)).setCell ⟨w.heap.size, 2, none⟩ (.slice A3 4 c3)).setCell ⟨w.heap.size, 3, none⟩ (.slice A2 4 c2)) := by
  have hg : ∀ (v : World) (k : Nat) (x : Value) {cs : Array Value}, Fb v w.heap.size cs 27 → Stp1 27 v (v.setCell ⟨w.heap.size, k, none⟩ x) := fun v k x cs hx => stp_cel hx k x
  have s1 := hg u 0 (.int .i64 0) h.rx
  have r1 := h.rx.set 0 (.int .i64 0)
  have s2 := hg _ 1 (.slice A1 4 c1) r1
  have r2 := r1.set 1 (.slice A1 4 c1)
  have s3 := hg _ 2 (.slice A3 4 c3) r2
  have r3 := r2.set 2 (.slice A3 4 c3)
  have s4 := hg _ 3 (.slice A2 4 c2) r3
  have hb : Below w.heap.size w ((((u.setCell ⟨w.heap.size, 0, none⟩ (.int .i64 0)).setCell ⟨w.heap.size, 1, none⟩ (.slice A1 4 c1)).setCell ⟨w.heap.size, 2, none⟩ (.slice A3 4 c3)).setCell ⟨w.heap.size, 3, none⟩ (.slice A2 4 c2)) :=
    (((h.bel.setCell (p := ⟨w.heap.size, 0, none⟩) (Nat.le_refl _) _).setCell (p := ⟨w.heap.size, 1, none⟩) (Nat.le_refl _) _).setCell (p := ⟨w.heap.size, 2, none⟩) (Nat.le_refl _) _).setCell (p := ⟨w.heap.size, 3, none⟩) (Nat.le_refl _) _
  have oD := s4.own (s3.own (s2.own (s1.own h.oD (by decide)) (by decide)) (by decide)) (by decide)
  have oT := s4.own (s3.own (s2.own (s1.own h.oT (by decide)) (by decide)) (by decide)) (by decide)
  have oB := s4.own (s3.own (s2.own (s1.own h.oB (by decide)) (by decide)) (by decide)) (by decide)
  have eD : ∀ j y, lD[j]? = some y → dLn j y _ := fun j y hy => ((((h.eD j y hy).stp s1 (by decide)).stp s2 (by decide)).stp s3 (by decide)).stp s4 (by decide)
  rw [h1, flat_lhc] at oD
  rw [h2] at oB
  rw [h3] at oT
  have hrows : LH.v ⟨A1, 4, c1, lD⟩ = [[], [0], [1], [2]] := h.rows h1
  refine ⟨⟨0, ⟨A1, 4, c1, lD⟩, ⟨A3, 4, c3, lT⟩, ⟨A2, 4, c2, lB⟩⟩, rfl,
    ⟨⟨EAt.own oD (by simp), h1, by show 4 ≤ 9223372036854775807; omega, fun y hy => ?_⟩, ⟨EAt.own oT (by simp), h3, by show 4 ≤ 9223372036854775807; omega, fun y hy => (h.zT y hy).ok _⟩, ⟨EAt.own oB (by simp), h2, by show 4 ≤ 9223372036854775807; omega, fun y hy => (h.zB y hy).ok _⟩⟩,
    ⟨rfl, by omega, by omega, by omega, rfl, rfl, rfl, fun y hy => ?_, by show tot (LH.v ⟨A1, 4, c1, lD⟩) ≤ 1024; rw [hrows]; decide, fun y hy => ?_, fun y hy => ?_⟩, hrows, hb⟩
  · obtain ⟨j, hj⟩ := List.mem_iff_getElem?.1 hy
    exact (eD j y hj).ok
  · obtain ⟨j, hj⟩ := List.mem_iff_getElem?.1 hy
    exact (eD j y hj).ris (by have h5 := (List.getElem?_eq_some_iff.1 hj).1; have h6 : lD.length = 4 := h1; have h7 : j < lD.length := h5; omega)
  · obtain ⟨a1, a2, a3, a4, a5, a6, a7, a8⟩ := h.zT y hy
    refine ⟨by rw [a1]; rfl, by rw [a4]; rfl, ?_⟩
    rw [a2, a5, a7]; kernel_rfl
  · obtain ⟨a1, a2, a3⟩ := h.zB y hy
    exact ⟨by rw [a1]; rfl, by rw [a2]; exact Bs.fit_emp 0⟩
set_option maxHeartbeats 12800000 in
theorem line_any (w : World) : Calls Try.prog 37 #[.int .i64 4] w (RetLine w) := by
  obtain ⟨iD, hi, hz0, hz1, hz2⟩ := info_parts info22
  have HD := hid hi; have HD0 := hid hz0; have HD1 := hid hz1; have HD2 := hid hz2
  clear hi hz0 hz1 hz2
  obtain ⟨iB, hi, hz0, hz1, hz2⟩ := info_parts info41
  have HB := hid hi; have HB0 := hid hz0; have HB1 := hid hz1; have HB2 := hid hz2
  clear hi hz0 hz1 hz2
  obtain ⟨iT, hi, hz0, hz1, hz2⟩ := info_parts info70
  have HT := hid hi; have HT0 := hid hz0; have HT1 := hid hz1; have HT2 := hid hz2
  clear hi hz0 hz1 hz2
  have hb1 := (Below.refl w.heap.size w).alloc (Nat.le_refl _) (.cells #[.int .i64 0, .slice none 0 0, .slice none 0 0, .slice none 0 0] 27)
  have hb2 := hb1.alloc hb1.size (.cells #[.int .i64 0, .slice none 0 0, .slice none 0 0, .slice none 0 0] 27)
  have HL0 := hid (show Ln w (.slice none 0 0) (.slice none 0 0) (.slice none 0 0) [] [] [] ((w.alloc (.cells #[.int .i64 0, .slice none 0 0, .slice none 0 0, .slice none 0 0] 27)).alloc (.cells #[.int .i64 0, .slice none 0 0, .slice none 0 0, .slice none 0 0] 27)) from
    ⟨(Fb.new w _ _).alloc _, by
      have := Fb.new (w.alloc (.cells #[.int .i64 0, .slice none 0 0, .slice none 0 0, .slice none 0 0] 27)) #[.int .i64 0, .slice none 0 0, .slice none 0 0, .slice none 0 0] 27
      rwa [World.size_alloc] at this, fun j y hy => by simp at hy, World.ownsRow_nil _ _ _ _, World.ownsRow_nil _ _ _ _, World.ownsRow_nil _ _ _ _, by simp, by simp, hb2⟩)
  clear hb1 hb2
  go_enter Try.func37, Try.ntmps37
  go_upto_region 2 with fail
  generalize (w.alloc (.cells #[.int .i64 0, .slice none 0 0, .slice none 0 0, .slice none 0 0] 27)).alloc (.cells #[.int .i64 0, .slice none 0 0, .slice none 0 0, .slice none 0 0] 27) = w2 at *
  go_wp2_with fail
  go_loopw [4] (fun iv wr => ∃ (i : Nat) (D Tr B : Value) (lD : List RH) (lT : List FH) (lB : List ZH), i ≤ 4 ∧ iv = .int .i64 i ∧ Hid (lD.length = i ∧ lT.length = i ∧ lB.length = i) ∧ Hid (Ln w D Tr B lD lT lB wr)) (fun iv _ => 4 - (intOf iv).toNat)
  case atStart => exact ⟨0, _, _, _, [], [], [], by omega, rfl, hid ⟨rfl, rfl, rfl⟩, HL0⟩
  case round =>
    clear HL0
    obtain ⟨i, D, Tr, B, lD, lT, lB, hi, rfl, HN, HLr⟩ := hrel
    by_cases hlt : i < 4
    · go_upto_if 12 with fail
      go_cut [5] (fun dv wd => ∃ d : RH, dv = .slice d.A d.n d.c ∧ Hid (dLn i d wd) ∧ Hid (Ln w D Tr B lD lT lB wd))
      case first =>
        by_cases h0 : 0 < i
        · have Hb := hid ((Below.refl wr.heap.size wr).alloc (Nat.le_refl _) (.cells #[.int .i64 ((i : Int) - 1)] 3))
          have Hn := hid (Fb.new wr #[.int .i64 ((i : Int) - 1)] 3)
          have hw : IntKind.i64.wrap ((i : Int) - 1) = (i : Int) - 1 := IntWalk.i64_in _ (by omega)
          have t5 : decide (0 < (i : Int)) = true := by simp; omega
          go_wp2_with fail
          go_meet
          exact ⟨⟨some ⟨wr.heap.size, 0, none⟩, 1, 1, [(i : Int) - 1]⟩, rfl, hid (.inr ⟨h0, _, rfl, Hn.out⟩), hid (HLr.out.below Hb.out)⟩
        · have t5 : decide (0 < (i : Int)) = false := by simp; omega
          have e0 : i = 0 := by omega
          go_wp2_with fail
          go_meet
          exact ⟨⟨none, 0, 0, []⟩, rfl, hid (.inl ⟨e0, rfl⟩), HLr⟩
      case rest =>
        obtain ⟨d, rfl, Hd, HL⟩ := hcut
        clear HLr
        go_upto_region 8 with fail
        rename_i Kx hKx
        obtain ⟨n1, n2, n3⟩ := HN.out
        have l1 : lD.length ≤ 4 := by omega
        have l2 : lT.length ≤ 4 := by omega
        have l3 : lB.length ≤ 4 := by omega
        subst n1
        have HN2 := hid (show (lD ++ [d]).length = lD.length + 1 ∧ ∀ (F : FH) (z : ZH), (lT ++ [F]).length = lD.length + 1 ∧ (lB ++ [z]).length = lD.length + 1 from ⟨by simp, fun F z => ⟨by simp [n2], by simp [n3]⟩⟩)
        clear n2 n3 HN
        refine wp_region_factsI (fun j u => ((j = 1 ∨ j = 16) → u.cell? ⟨w.heap.size + 1, 1, none⟩ = some (D)) ∧ ((j = 6 ∨ j = 18) → u.cell? ⟨w.heap.size + 1, 2, none⟩ = some (Tr)) ∧ ((j = 11 ∨ j = 20) → u.cell? ⟨w.heap.size + 1, 3, none⟩ = some (B)) ∧ (j = 4 → u.ownsRow (w.heap.size + 2) 22 1 D lD.length (lD.flatMap lhc)) ∧ (j = 9 → u.ownsRow (w.heap.size + 2) 61 5 Tr lT.length (lT.flatMap FH.cells)) ∧ (j = 14 → u.ownsRow (w.heap.size + 2) 50 2 B lB.length (lB.flatMap ZH.cs))) (lnF w D Tr B d lD lT lB) (fun u => LnB w d lD u) lnU (lnR w) Kx (fun _ _ h => h) 21 21 (some 16 :: some 17 :: some 18 :: some 19 :: some 20 :: some 21 :: some 22 :: some 23 :: some 24 :: some 25 :: some 26 :: some 27 :: some 28 :: some 29 :: some 30 :: some 31 :: none :: some 32 :: none :: some 33 :: none :: []) (by kernel_rfl) (by kernel_rfl) (by kernel_rfl) (by kernel_rfl) (by kernel_rfl) (by kernel_rfl) (by decide)
          ?st ?bs ?gb ?gs ?ar ?en
        case st => exact fun jx vx u u' ix f hR hne hu hc h => lnF_st (fun j h e => by subst e; exact Bool.false_ne_true (h.symm.trans (by kernel_rfl))) (fun j h e => by subst e; exact Bool.false_ne_true (h.symm.trans (by kernel_rfl))) (fun j h e => by subst e; exact Bool.false_ne_true (h.symm.trans (by kernel_rfl))) jx vx u u' ix f hR hne hu hc h
        case bs => exact (HL.out.b (by exact Hd.out)).below (Below.refl _ _).drew
        case gb =>
          exact fun c => ⟨fun _ => HL.out.sx.cell 1, fun _ => HL.out.sx.cell 2, fun _ => HL.out.sx.cell 3, fun _ => (Stp1.below (t := 0) (Below.refl _ _).drew).own HL.out.oD (by decide), fun _ => (Stp1.below (t := 0) (Below.refl _ _).drew).own HL.out.oT (by decide), fun _ => (Stp1.below (t := 0) (Below.refl _ _).drew).own HL.out.oB (by decide)⟩
        case gs =>
          intro j u u' c hR hne hnr hG
          refine ⟨fun hc => ?_, fun hc => ?_, fun hc => ?_, fun hc => ?_, fun hc => ?_, fun hc => ?_⟩
          · rw [hR.2 1 (cO_1 (by
              rintro rfl
              rcases hc with rfl | rfl
              · exact Bool.false_ne_true (hnr.symm.trans (by kernel_rfl))
              · exact hne rfl))]
            exact hG.1 hc
          · rw [hR.2 2 (cO_2 (by
              rintro rfl
              rcases hc with rfl | rfl
              · exact Bool.false_ne_true (hnr.symm.trans (by kernel_rfl))
              · exact hne rfl))]
            exact hG.2.1 hc
          · rw [hR.2 3 (cO_3 (by
              rintro rfl
              rcases hc with rfl | rfl
              · exact Bool.false_ne_true (hnr.symm.trans (by kernel_rfl))
              · exact hne rfl))]
            exact hG.2.2.1 hc
          · subst hc; exact hR.1.own (hG.2.2.2.1 rfl) (tyL_4 hne.symm)
          · subst hc; exact hR.1.own (hG.2.2.2.2.1 rfl) (tyL_9 hne.symm)
          · subst hc; exact hR.1.own (hG.2.2.2.2.2 rfl) (tyL_14 hne.symm)
        case ar =>
          intro j o f u ho hi hB hG hpre K hK
          match j, ho, hG, hpre, hK with
          | 0, ho, hG, hpre, hK =>
            obtain rfl := Option.some.inj ho
            refine wpOp_step rfl fun K' hK' => ?_
            simp only [putL, updV]
            go_simp
            have hz := hK' _ _ (hK (.pointer (some ⟨w.heap.size + 1, 1, none⟩)) (u) (hB) (hB.R_below (Below.refl _ _)) (rfl))
            refine Eq.mp (congrArg (fun act => K' act (u)) ?_) hz
            kernel_rfl
          | 1, ho, hG, hpre, hK =>
            obtain rfl := Option.some.inj ho
            have y0 := hG.1 (.inl rfl)
            have hlt := hB.lt
            have e0 : f 0 = .pointer (some ⟨w.heap.size + 1, 1, none⟩) := hpre ⟨0, .data⟩ (by simp) rfl (.inl rfl)
            obtain ⟨f, rfl⟩ := fixG f 0 _ e0
            clear e0
            refine wpOp_step rfl fun K' hK' => ?_
            simp only [putL, updV]
            go_simp
            have hz := hK' _ _ (hK (D) (u) (hB) (hB.R_below (Below.refl _ _)) (rfl))
            refine Eq.mp (congrArg (fun act => K' act (u)) ?_) hz
            kernel_rfl
          | 2, ho, hG, hpre, hK =>
            obtain rfl := Option.some.inj ho
            refine wpOp_step rfl fun K' hK' => ?_
            simp only [putL, updV]
            go_simp
            have hz := hK' _ _ (hK (.slice d.A d.n d.c) (u) (hB) (hB.R_below (Below.refl _ _)) (rfl))
            refine Eq.mp (congrArg (fun act => K' act (u)) ?_) hz
            kernel_rfl
          | 3, ho, hG, hpre, hK =>
            obtain rfl := Option.some.inj ho
            have e2 : f 2 = .slice d.A d.n d.c := hpre ⟨2, .data⟩ (by simp) rfl (.inl rfl)
            obtain ⟨f, rfl⟩ := fixG f 2 _ e2
            clear e2
            refine wpOp_step rfl fun K' hK' => ?_
            simp only [putL, updV]
            go_simp
            have hb := (Below.refl u.heap.size u).alloc (Nat.le_refl _) (.cells #[.slice d.A d.n d.c] 22)
            have hz := hK' _ _ (hK (.slice (some ⟨u.heap.size, 0, none⟩) 1 1) (u.alloc (.cells #[.slice d.A d.n d.c] 22)) (hB.below hb) (hB.R_below hb) (⟨_, rfl, Fb.new u _ _⟩))
            refine Eq.mp (congrArg (fun act => K' act (u.alloc (.cells #[.slice d.A d.n d.c] 22))) ?_) hz
            kernel_rfl
          | 4, ho, hG, hpre, hK =>
            obtain rfl := Option.some.inj ho
            have e1 : f 1 = D := hpre ⟨1, .data⟩ (by simp) rfl (.inl rfl)
            obtain ⟨g3, e3, q3⟩ : ∃ g : Nat, f 3 = .slice (some ⟨g, 0, none⟩) 1 1 ∧ Fb u g #[.slice d.A d.n d.c] 22 := hpre ⟨3, .data⟩ (by simp) rfl (.inr rfl)
            have ho := hG.2.2.2.1 rfl
            have hbase : w.heap.size + 2 ≤ u.heap.size := hB.sz
            obtain ⟨f, rfl⟩ := fixG f 1 _ e1
            rw [updV_ne _ _ (by decide)] at e3
            obtain ⟨f, rfl⟩ := fixG f 3 _ e3
            clear e1 e3
            refine wpOp_step rfl fun K' hK' => ?_
            refine step_append_lies _ rfl (.tmp 17) (.tmp 19) 23 rfl (w.heap.size + 2) 22 iD _ 1 24 Try.underlying23 HD.out HD0.out HD1.out HD2.out rfl (by decide) D lD.length (lD.flatMap lhc) (by kernel_rfl) ho ⟨g3, 0, none⟩ 1 1 (lhc d) (by kernel_rfl) rfl (fun j x hx => World.news_of_block q3 j x hx) (one_lhc d) (by omega) (by unfold maxLen; omega) (by omega) hbase _ rfl ?_
            intro g9 q9 w9 hown hgr hat _
            have hz := hK' _ _ (hK (.slice (some ⟨g9, 0, none⟩) (lD.length + 1) q9) w9 (hB.app ho hgr (by decide) (by decide)) (hB.R_app ho hgr (by decide) rfl) (⟨g9, q9, rfl, hown⟩))
            refine Eq.mp (congrArg (fun act => K' act w9) ?_) hz
            kernel_rfl
          | 5, ho, hG, hpre, hK =>
            obtain rfl := Option.some.inj ho
            refine wpOp_step rfl fun K' hK' => ?_
            simp only [putL, updV]
            go_simp
            have hz := hK' _ _ (hK (.pointer (some ⟨w.heap.size + 1, 2, none⟩)) (u) (hB) (hB.R_below (Below.refl _ _)) (rfl))
            refine Eq.mp (congrArg (fun act => K' act (u)) ?_) hz
            kernel_rfl
          | 6, ho, hG, hpre, hK =>
            obtain rfl := Option.some.inj ho
            have y0 := hG.2.1 (.inl rfl)
            have hlt := hB.lt
            have e5 : f 5 = .pointer (some ⟨w.heap.size + 1, 2, none⟩) := hpre ⟨5, .data⟩ (by simp) rfl (.inl rfl)
            obtain ⟨f, rfl⟩ := fixG f 5 _ e5
            clear e5
            refine wpOp_step rfl fun K' hK' => ?_
            simp only [putL, updV]
            go_simp
            have hz := hK' _ _ (hK (Tr) (u) (hB) (hB.R_below (Below.refl _ _)) (rfl))
            refine Eq.mp (congrArg (fun act => K' act (u)) ?_) hz
            kernel_rfl
          | 7, ho, hG, hpre, hK =>
            obtain rfl := Option.some.inj ho
            refine wpOp_step rfl fun K' hK' => ?_
            simp only [putL, updV]
            go_simp
            go_at_call 64
            refine (refIdentity_any 0 u (by omega)).mono ?_
            rintro e u5 ⟨g1, g2, rfl, -, -, hb⟩
            have hz := hK' _ _ (hK (.agg #[.int .i64 ((0 : Nat) : Int), .slice (some ⟨g1, 0, none⟩) (Bs.nw 0) (Bs.nw 0), .int .i64 ((0 : Nat) : Int), .slice (some ⟨g2, 0, none⟩) (Bs.nw 0) (Bs.nw 0), .slice none 0 0]) (u5) (hB.below hb) (hB.R_below hb) (⟨⟨⟨0, some ⟨g1, 0, none⟩, Bs.nw 0, Bs.nw 0, []⟩, ⟨0, some ⟨g2, 0, none⟩, Bs.nw 0, Bs.nw 0, []⟩, none, 0, 0, []⟩, rfl, rfl, rfl, rfl, rfl, rfl, rfl, rfl, rfl⟩))
            refine Eq.mp (congrArg (fun act => K' act (u5)) ?_) hz
            kernel_rfl
          | 8, ho, hG, hpre, hK =>
            obtain rfl := Option.some.inj ho
            obtain ⟨F, e7, hF⟩ : ∃ F : FH, f 7 = .agg #[.int .i64 F.G.W, .slice F.G.A F.G.n F.G.c, .int .i64 F.K.W, .slice F.K.A F.K.n F.K.c, .slice F.C F.k F.q] ∧ zF F := hpre ⟨7, .data⟩ (by simp) rfl (.inl rfl)
            obtain ⟨f, rfl⟩ := fixG f 7 _ e7
            clear e7
            refine wpOp_step rfl fun K' hK' => ?_
            simp only [putL, updV]
            go_simp
            have hb := (Below.refl u.heap.size u).alloc (Nat.le_refl _) (.cells #[.int .i64 F.G.W, .slice F.G.A F.G.n F.G.c, .int .i64 F.K.W, .slice F.K.A F.K.n F.K.c, .slice F.C F.k F.q] 61)
            have hz := hK' _ _ (hK (.slice (some ⟨u.heap.size, 0, none⟩) 1 1) (u.alloc (.cells #[.int .i64 F.G.W, .slice F.G.A F.G.n F.G.c, .int .i64 F.K.W, .slice F.K.A F.K.n F.K.c, .slice F.C F.k F.q] 61)) (hB.below hb) (hB.R_below hb) (⟨F, _, rfl, Fb.new u _ _, hF⟩))
            refine Eq.mp (congrArg (fun act => K' act (u.alloc (.cells #[.int .i64 F.G.W, .slice F.G.A F.G.n F.G.c, .int .i64 F.K.W, .slice F.K.A F.K.n F.K.c, .slice F.C F.k F.q] 61))) ?_) hz
            kernel_rfl
          | 9, ho, hG, hpre, hK =>
            obtain rfl := Option.some.inj ho
            have e6 : f 6 = Tr := hpre ⟨6, .data⟩ (by simp) rfl (.inl rfl)
            obtain ⟨F, g8, e8, q8, hF⟩ : ∃ (F : FH) (g : Nat), f 8 = .slice (some ⟨g, 0, none⟩) 1 1 ∧ Fb u g #[.int .i64 F.G.W, .slice F.G.A F.G.n F.G.c, .int .i64 F.K.W, .slice F.K.A F.K.n F.K.c, .slice F.C F.k F.q] 61 ∧ zF F := hpre ⟨8, .data⟩ (by simp) rfl (.inr rfl)
            have ho := hG.2.2.2.2.1 rfl
            have hbase : w.heap.size + 2 ≤ u.heap.size := hB.sz
            obtain ⟨f, rfl⟩ := fixG f 6 _ e6
            rw [updV_ne _ _ (by decide)] at e8
            obtain ⟨f, rfl⟩ := fixG f 8 _ e8
            clear e6 e8
            refine wpOp_step rfl fun K' hK' => ?_
            refine step_append_lies _ rfl (.tmp 22) (.tmp 24) 24 rfl (w.heap.size + 2) 61 iT _ 5 88 Try.underlying24 HT.out HT0.out HT1.out HT2.out rfl (by decide) Tr lT.length (lT.flatMap FH.cells) (by kernel_rfl) ho ⟨g8, 0, none⟩ 1 1 (F.cells) (by kernel_rfl) rfl (fun j x hx => World.news_of_block q8 j x hx) (one_fcells F) (by omega) (by unfold maxLen; omega) (by omega) hbase _ rfl ?_
            intro g9 q9 w9 hown hgr hat _
            have hz := hK' _ _ (hK (.slice (some ⟨g9, 0, none⟩) (lT.length + 1) q9) w9 (hB.app ho hgr (by decide) (by decide)) (hB.R_app ho hgr (by decide) rfl) (⟨F, g9, q9, rfl, hown, hF⟩))
            refine Eq.mp (congrArg (fun act => K' act w9) ?_) hz
            kernel_rfl
          | 10, ho, hG, hpre, hK =>
            obtain rfl := Option.some.inj ho
            refine wpOp_step rfl fun K' hK' => ?_
            simp only [putL, updV]
            go_simp
            have hz := hK' _ _ (hK (.pointer (some ⟨w.heap.size + 1, 3, none⟩)) (u) (hB) (hB.R_below (Below.refl _ _)) (rfl))
            refine Eq.mp (congrArg (fun act => K' act (u)) ?_) hz
            kernel_rfl
          | 11, ho, hG, hpre, hK =>
            obtain rfl := Option.some.inj ho
            have y0 := hG.2.2.1 (.inl rfl)
            have hlt := hB.lt
            have e10 : f 10 = .pointer (some ⟨w.heap.size + 1, 3, none⟩) := hpre ⟨10, .data⟩ (by simp) rfl (.inl rfl)
            obtain ⟨f, rfl⟩ := fixG f 10 _ e10
            clear e10
            refine wpOp_step rfl fun K' hK' => ?_
            simp only [putL, updV]
            go_simp
            have hz := hK' _ _ (hK (B) (u) (hB) (hB.R_below (Below.refl _ _)) (rfl))
            refine Eq.mp (congrArg (fun act => K' act (u)) ?_) hz
            kernel_rfl
          | 12, ho, hG, hpre, hK =>
            obtain rfl := Option.some.inj ho
            refine wpOp_step rfl fun K' hK' => ?_
            simp only [putL, updV]
            go_simp
            go_at_call 28
            refine (refEmpty_any 0 u (by omega)).mono ?_
            rintro e u5 ⟨g1, rfl, -, -, hb⟩
            rw [len_emp]
            have hz := hK' _ _ (hK (.agg #[.int .i64 ((0 : Nat) : Int), .slice (some ⟨g1, 0, none⟩) (Bs.nw 0) (Bs.nw 0)]) (u5) (hB.below hb) (hB.R_below hb) (⟨⟨0, some ⟨g1, 0, none⟩, Bs.nw 0, Bs.nw 0, []⟩, rfl, rfl, rfl, rfl⟩))
            refine Eq.mp (congrArg (fun act => K' act (u5)) ?_) hz
            kernel_rfl
          | 13, ho, hG, hpre, hK =>
            obtain rfl := Option.some.inj ho
            obtain ⟨z, e12, hZ⟩ : ∃ z : ZH, f 12 = .agg #[.int .i64 z.W, .slice z.A z.n z.c] ∧ zZ z := hpre ⟨12, .data⟩ (by simp) rfl (.inl rfl)
            obtain ⟨f, rfl⟩ := fixG f 12 _ e12
            clear e12
            refine wpOp_step rfl fun K' hK' => ?_
            simp only [putL, updV]
            go_simp
            have hb := (Below.refl u.heap.size u).alloc (Nat.le_refl _) (.cells #[.int .i64 z.W, .slice z.A z.n z.c] 50)
            have hz := hK' _ _ (hK (.slice (some ⟨u.heap.size, 0, none⟩) 1 1) (u.alloc (.cells #[.int .i64 z.W, .slice z.A z.n z.c] 50)) (hB.below hb) (hB.R_below hb) (⟨z, _, rfl, Fb.new u _ _, hZ⟩))
            refine Eq.mp (congrArg (fun act => K' act (u.alloc (.cells #[.int .i64 z.W, .slice z.A z.n z.c] 50))) ?_) hz
            kernel_rfl
          | 14, ho, hG, hpre, hK =>
            obtain rfl := Option.some.inj ho
            have e11 : f 11 = B := hpre ⟨11, .data⟩ (by simp) rfl (.inl rfl)
            obtain ⟨z, g13, e13, q13, hZ⟩ : ∃ (z : ZH) (g : Nat), f 13 = .slice (some ⟨g, 0, none⟩) 1 1 ∧ Fb u g #[.int .i64 z.W, .slice z.A z.n z.c] 50 ∧ zZ z := hpre ⟨13, .data⟩ (by simp) rfl (.inr rfl)
            have ho := hG.2.2.2.2.2 rfl
            have hbase : w.heap.size + 2 ≤ u.heap.size := hB.sz
            obtain ⟨f, rfl⟩ := fixG f 11 _ e11
            rw [updV_ne _ _ (by decide)] at e13
            obtain ⟨f, rfl⟩ := fixG f 13 _ e13
            clear e11 e13
            refine wpOp_step rfl fun K' hK' => ?_
            refine step_append_lies _ rfl (.tmp 27) (.tmp 29) 25 rfl (w.heap.size + 2) 50 iB _ 2 32 Try.underlying25 HB.out HB0.out HB1.out HB2.out rfl (by decide) B lB.length (lB.flatMap ZH.cs) (by kernel_rfl) ho ⟨g13, 0, none⟩ 1 1 (z.cs) (by kernel_rfl) rfl (fun j x hx => World.news_of_block q13 j x hx) (one_zcs z) (by omega) (by unfold maxLen; omega) (by omega) hbase _ rfl ?_
            intro g9 q9 w9 hown hgr hat _
            have hz := hK' _ _ (hK (.slice (some ⟨g9, 0, none⟩) (lB.length + 1) q9) w9 (hB.app ho hgr (by decide) (by decide)) (hB.R_app ho hgr (by decide) rfl) (⟨z, g9, q9, rfl, hown, hZ⟩))
            refine Eq.mp (congrArg (fun act => K' act w9) ?_) hz
            kernel_rfl
          | 15, ho, hG, hpre, hK =>
            obtain rfl := Option.some.inj ho
            refine wpOp_step rfl fun K' hK' => ?_
            simp only [putL, updV]
            go_simp
            have hz := hK' _ _ (hK (.pointer (some ⟨w.heap.size + 1, 1, none⟩)) (u) (hB) (hB.R_below (Below.refl _ _)) (rfl))
            refine Eq.mp (congrArg (fun act => K' act (u)) ?_) hz
            kernel_rfl
          | 16, ho, hG, hpre, hK =>
            obtain rfl := Option.some.inj ho
            have e15 : f 15 = .pointer (some ⟨w.heap.size + 1, 1, none⟩) := hpre ⟨15, .data⟩ (by simp) rfl (.inl rfl)
            obtain ⟨g4, q4, e4, o4⟩ : ∃ g q : Nat, f 4 = .slice (some ⟨g, 0, none⟩) (lD.length + 1) q ∧ u.ownsRow (w.heap.size + 2) 22 1 (.slice (some ⟨g, 0, none⟩) (lD.length + 1) q) (lD.length + 1) (lD.flatMap lhc ++ lhc d) := hpre ⟨4, .data⟩ (by simp) rfl (.inl rfl)
            have y1 := hG.1 (by omega)
            obtain ⟨X, Y, Z, hx⟩ := hB.sx
            obtain ⟨f, rfl⟩ := fixG f 15 _ e15
            rw [updV_ne _ _ (by decide)] at e4
            obtain ⟨f, rfl⟩ := fixG f 4 _ e4
            clear e15 e4
            have f1 := hx.frozen 1
            have hl := hx.lt
            refine wpOp_step rfl fun K' hK' => ?_
            simp only [putL, updV]
            go_simp
            have hz := hK' _ _ (hK (undef) (u.setCell ⟨w.heap.size + 1, 1, none⟩ (.slice (some ⟨g4, 0, none⟩) (lD.length + 1) q4)) (hB.put1 _) (hB.putR1 _) (hB.cell1 _))
            refine Eq.mp (congrArg (fun act => K' act (u.setCell ⟨w.heap.size + 1, 1, none⟩ (.slice (some ⟨g4, 0, none⟩) (lD.length + 1) q4))) ?_) hz
            kernel_rfl
          | 17, ho, hG, hpre, hK =>
            obtain rfl := Option.some.inj ho
            refine wpOp_step rfl fun K' hK' => ?_
            simp only [putL, updV]
            go_simp
            have hz := hK' _ _ (hK (.pointer (some ⟨w.heap.size + 1, 2, none⟩)) (u) (hB) (hB.R_below (Below.refl _ _)) (rfl))
            refine Eq.mp (congrArg (fun act => K' act (u)) ?_) hz
            kernel_rfl
          | 18, ho, hG, hpre, hK =>
            obtain rfl := Option.some.inj ho
            have e17 : f 17 = .pointer (some ⟨w.heap.size + 1, 2, none⟩) := hpre ⟨17, .data⟩ (by simp) rfl (.inl rfl)
            obtain ⟨F, g9, q9, e9, o9, hF⟩ : ∃ (F : FH) (g q : Nat), f 9 = .slice (some ⟨g, 0, none⟩) (lT.length + 1) q ∧ u.ownsRow (w.heap.size + 2) 61 5 (.slice (some ⟨g, 0, none⟩) (lT.length + 1) q) (lT.length + 1) (lT.flatMap FH.cells ++ F.cells) ∧ zF F := hpre ⟨9, .data⟩ (by simp) rfl (.inl rfl)
            have y2 := hG.2.1 (by omega)
            obtain ⟨X, Y, Z, hx⟩ := hB.sx
            obtain ⟨f, rfl⟩ := fixG f 17 _ e17
            rw [updV_ne _ _ (by decide)] at e9
            obtain ⟨f, rfl⟩ := fixG f 9 _ e9
            clear e17 e9
            have f2 := hx.frozen 2
            have hl := hx.lt
            refine wpOp_step rfl fun K' hK' => ?_
            simp only [putL, updV]
            go_simp
            have hz := hK' _ _ (hK (undef) (u.setCell ⟨w.heap.size + 1, 2, none⟩ (.slice (some ⟨g9, 0, none⟩) (lT.length + 1) q9)) (hB.put2 _) (hB.putR2 _) (hB.cell2 _))
            refine Eq.mp (congrArg (fun act => K' act (u.setCell ⟨w.heap.size + 1, 2, none⟩ (.slice (some ⟨g9, 0, none⟩) (lT.length + 1) q9))) ?_) hz
            kernel_rfl
          | 19, ho, hG, hpre, hK =>
            obtain rfl := Option.some.inj ho
            refine wpOp_step rfl fun K' hK' => ?_
            simp only [putL, updV]
            go_simp
            have hz := hK' _ _ (hK (.pointer (some ⟨w.heap.size + 1, 3, none⟩)) (u) (hB) (hB.R_below (Below.refl _ _)) (rfl))
            refine Eq.mp (congrArg (fun act => K' act (u)) ?_) hz
            kernel_rfl
          | 20, ho, hG, hpre, hK =>
            obtain rfl := Option.some.inj ho
            have e19 : f 19 = .pointer (some ⟨w.heap.size + 1, 3, none⟩) := hpre ⟨19, .data⟩ (by simp) rfl (.inl rfl)
            obtain ⟨z, g14, q14, e14, o14, hZ⟩ : ∃ (z : ZH) (g q : Nat), f 14 = .slice (some ⟨g, 0, none⟩) (lB.length + 1) q ∧ u.ownsRow (w.heap.size + 2) 50 2 (.slice (some ⟨g, 0, none⟩) (lB.length + 1) q) (lB.length + 1) (lB.flatMap ZH.cs ++ z.cs) ∧ zZ z := hpre ⟨14, .data⟩ (by simp) rfl (.inl rfl)
            have y3 := hG.2.2.1 (by omega)
            obtain ⟨X, Y, Z, hx⟩ := hB.sx
            obtain ⟨f, rfl⟩ := fixG f 19 _ e19
            rw [updV_ne _ _ (by decide)] at e14
            obtain ⟨f, rfl⟩ := fixG f 14 _ e14
            clear e19 e14
            have f3 := hx.frozen 3
            have hl := hx.lt
            refine wpOp_step rfl fun K' hK' => ?_
            simp only [putL, updV]
            go_simp
            have hz := hK' _ _ (hK (undef) (u.setCell ⟨w.heap.size + 1, 3, none⟩ (.slice (some ⟨g14, 0, none⟩) (lB.length + 1) q14)) (hB.put3 _) (hB.putR3 _) (hB.cell3 _))
            refine Eq.mp (congrArg (fun act => K' act (u.setCell ⟨w.heap.size + 1, 3, none⟩ (.slice (some ⟨g14, 0, none⟩) (lB.length + 1) q14))) ?_) hz
            kernel_rfl
          | j + 21, ho, hG, hpre, hK => exact absurd hi (by omega)
        case en =>
          intro Q2 hQ2 f u hB hF
          obtain ⟨g4, q4, e4, o4⟩ : ∃ g q : Nat, f 4 = .slice (some ⟨g, 0, none⟩) (lD.length + 1) q ∧ u.ownsRow (w.heap.size + 2) 22 1 (.slice (some ⟨g, 0, none⟩) (lD.length + 1) q) (lD.length + 1) (lD.flatMap lhc ++ lhc d) := hF 4 (by decide) rfl
          obtain ⟨F, g9, q9, e9, o9, hF9⟩ : ∃ (F : FH) (g q : Nat), f 9 = .slice (some ⟨g, 0, none⟩) (lT.length + 1) q ∧ u.ownsRow (w.heap.size + 2) 61 5 (.slice (some ⟨g, 0, none⟩) (lT.length + 1) q) (lT.length + 1) (lT.flatMap FH.cells ++ F.cells) ∧ zF F := hF 9 (by decide) rfl
          obtain ⟨z, g14, q14, e14, o14, hZ⟩ : ∃ (z : ZH) (g q : Nat), f 14 = .slice (some ⟨g, 0, none⟩) (lB.length + 1) q ∧ u.ownsRow (w.heap.size + 2) 50 2 (.slice (some ⟨g, 0, none⟩) (lB.length + 1) q) (lB.length + 1) (lB.flatMap ZH.cs ++ z.cs) ∧ zZ z := hF 14 (by decide) rfl
          have c1 : u.cell? ⟨w.heap.size + 1, 1, none⟩ = some (f 4) := hF 16 (by decide) rfl
          have c2 : u.cell? ⟨w.heap.size + 1, 2, none⟩ = some (f 9) := hF 18 (by decide) rfl
          have c3 : u.cell? ⟨w.heap.size + 1, 3, none⟩ = some (f 14) := hF 20 (by decide) rfl
          rw [e4] at c1
          rw [e9] at c2
          rw [e14] at c3
          have HLn := hid (hB.done c1 c2 c3 o4 o9 o14 hF9 hZ HL.out)
          obtain ⟨f, rfl⟩ := fixG f 4 _ e4
          rw [updV_ne _ _ (by decide)] at e9
          rw [updV_ne _ _ (by decide)] at e14
          obtain ⟨f, rfl⟩ := fixG f 9 _ e9
          rw [updV_ne _ _ (by decide)] at e14
          obtain ⟨f, rfl⟩ := fixG f 14 _ e14
          clear e4 e9 e14
          clear hF
          show wpAny _ _ _ _ 0 (tailArr 21 21) _ _
          refine ⟨by kernel_rfl, hQ2 _ _ (hKx _ _ ?_)⟩
          simp only [putL, updV]
          clear c1 c2 c3 o4 o9 o14 hF9 hZ hB HL
          go_wp2_with fail
          go_roundw
          case rel => exact ⟨lD.length + 1, _, _, _, lD ++ [d], lT ++ [F], lB ++ [z], by omega, by go_num, hid ⟨HN2.out.1, HN2.out.2 F z⟩, HLn⟩
          case measure => simp [intOf]; omega
    · obtain rfl : i = 4 := by omega
      obtain ⟨hlD, hlT, hlB⟩ := HN.out
      obtain ⟨b0, b1, b2, b3⟩ := HLr.out.sx.four
      obtain ⟨r0, r1, r2, r3⟩ := HLr.out.rx.four
      have f0 := HLr.out.rx.frozen 0
      have f1 := HLr.out.rx.frozen 1
      have f2 := HLr.out.rx.frozen 2
      have f3 := HLr.out.rx.frozen 3
      have hlr := HLr.out.rx.lt
      have hls := HLr.out.sx.lt
      obtain ⟨A1, c1, e1⟩ := own_slice3 HLr.out.oD
      obtain ⟨A2, c2, e2⟩ := own_slice3 HLr.out.oB
      obtain ⟨A3, c3, e3⟩ := own_slice3 HLr.out.oT
      rw [hlD] at e1
      rw [hlB] at e2
      rw [hlT] at e3
      subst e1
      subst e2
      subst e3
      have Hfin := hid (HLr.out.fin hlD hlB hlT)
      clear hlD hlB hlT
      go_wp2_with fail
      refine bodyPost_ret (v := .agg #[.int .i64 0, .slice A1 4 c1, .slice A3 4 c3, .slice A2 4 c2]) (by simp [results, Try.results37, go_sem, b0, b1, b2, b3, r0, r1, r2, r3]) rfl ?_
      exact Hfin.out
end Go.Proofs.Ytopkmeceakjocaa

namespace Go.Proofs.Ytopkmeceakjocaa
set_option maxRecDepth 20000
set_option linter.unusedVariables false
set_option linter.unusedSimpArgs false
open Go.ChangeShapes Go.WideShapes Go.ChangeAt Go.RowKit

section
variable {α : Type} [DecidableEq α]
def eqD (l m : List α) : Bool := decide (l = m)
theorem eqD_len {l m : List α} (h : l.length ≠ m.length) : eqD l m = false := by unfold eqD; rw [decide_eq_false_iff_not]; rintro rfl; exact h rfl
theorem eqD_no {l m : List α} {k : Nat} {a b : α} (ha : l[k]? = some a) (hb : m[k]? = some b) (h : a ≠ b) : eqD l m = false := by
  unfold eqD; rw [decide_eq_false_iff_not]; rintro rfl; rw [ha] at hb; exact h (Option.some.inj hb)
theorem eqD_yes {l m : List α} {n : Nat} (hl : l.length = n) (hm : m.length = n) (h : ∀ j, j < n → l[j]? = m[j]?) : eqD l m = true := by
  unfold eqD; rw [decide_eq_true_eq]
  apply List.ext_getElem?
  intro j
  by_cases hj : j < n
  · exact h j hj
  · rw [List.getElem?_eq_none (by omega), List.getElem?_eq_none (by omega)]
omit [DecidableEq α] in
theorem eqD_step {l m : List α} {k : Nat} {a b : α} (h : ∀ j, j < k → l[j]? = m[j]?) (ha : l[k]? = some a) (hb : m[k]? = some b) (e : a = b) : ∀ j, j < k + 1 → l[j]? = m[j]? := by
  intro j hj
  by_cases e2 : j = k
  · subst e2; rw [ha, hb, e]
  · exact h j (by omega)
end
/-- It returned this, and only draws were made. -/
def RetQ (w : World) (v : Value) (e : Ending) (w' : World) : Prop := e = .returned v ∧ ∃ q : Nat, w' = w.drewN q
theorem RetQ.mk {w : World} {b c : Bool} {q : Nat} (h : c = b) : RetQ w (.bool c) (.returned (.bool b)) (w.drewN q) := ⟨by rw [h], q, rfl⟩
theorem RetQ.mk2 {w : World} {b c : Bool} {q r : Nat} (h : c = b) : RetQ w (.bool c) (.returned (.bool b)) ((w.drewN q).drewN r) := ⟨by rw [h], q + r, World.drewN_drewN _ _ _⟩
theorem RetQ.mk0 {w : World} {b c : Bool} (h : c = b) : RetQ w (.bool c) (.returned (.bool b)) w := ⟨by rw [h], 0, rfl⟩
set_option maxHeartbeats 1600000 in
theorem ints7_any (x y : RH) (ex ey : List (Option Nat)) (w : World) (hx : RHok w ex x) (hy : RHok w ey y) :
    Calls Try.prog 33 #[.slice x.A x.n x.c, .slice y.A y.n y.c] w (RetQ w (.bool (eqD x.l y.l))) := by
  have hn := hx.few
  have hm := hy.few
  have HX := hid hx
  have HY := hid hy
  have HL := hid hx.len
  have HM := hid hy.len
  clear hx hy
  obtain ⟨A, n, c, l⟩ := x
  obtain ⟨B, m, c2, l2⟩ := y
  simp only at *
  by_cases hlen : n = m
  · subst hlen
    go_enter Try.func33, Try.ntmps33
    go_wp2_with fail
    go_loopw [5] (fun iv wr => ∃ (k q : Nat), k ≤ n ∧ iv = .int .i64 k ∧ wr = w.drewN q ∧ Hid (∀ j, j < k → l[j]? = l2[j]?)) (fun iv _ => n - (intOf iv).toNat)
    case atStart => exact ⟨0, 0, by omega, rfl, rfl, hid (fun j h => by omega)⟩
    case round =>
      obtain ⟨k, q, hk, rfl, rfl, hE⟩ := hrel
      by_cases hlt : k < n
      · obtain ⟨a, ha, -⟩ := get_at HL.out hlt
        obtain ⟨b, hb, -⟩ := get_at HM.out hlt
        obtain ⟨ad, hA, had, hc⟩ := HX.out.cell ha
        obtain ⟨ad2, hB, had2, hc2⟩ := HY.out.cell hb
        simp only at hA hB
        subst hA
        subst hB
        have Ha := hid ha
        have Hb := hid hb
        clear ha hb
        by_cases h1 : a = b
        · subst h1
          have Hr := hid (eqD_step hE.out Ha.out Hb.out rfl)
          clear hE
          go_wp2_with fail
          go_quiet (fail)
          go_wp2_with fail
          go_roundw
          case rel => exact ⟨k + 1, _, by omega, by go_num, rfl, Hr⟩
          case measure => simp [intOf]; omega
        · have Hr := hid (eqD_no Ha.out Hb.out h1)
          have t1 : (a == b) = false := by simpa using h1
          have t2 : (a != b) = true := by simpa using h1
          clear hE h1
          go_wp2_with fail
          go_quiet (fail)
          go_wp2_with fail
          go_ret
          exact RetQ.mk2 Hr.out
      · obtain rfl : k = n := by omega
        have Hr := hid (eqD_yes HL.out HM.out hE.out)
        clear hE
        go_wp2_with fail
        go_ret
        exact RetQ.mk Hr.out
  · have Hr := hid (eqD_len (l := l) (m := l2) (by rw [HL.out, HM.out]; exact hlen))
    have t1 : ((n : Int) == (m : Int)) = false := by simp; omega
    have t2 : ((n : Int) != (m : Int)) = true := by simp; omega
    clear hlen
    go_enter Try.func33, Try.ntmps33
    go_wp2_with fail
    go_ret
    exact RetQ.mk0 Hr.out
def hasI (l : List Int) (n : Int) : Bool := l.contains n
theorem hasI_hit {l : List Int} {k : Nat} {a : Int} (h : l[k]? = some a) : hasI l a = true := by
  unfold hasI; simp; exact List.mem_of_getElem? h
theorem hasI_none {l : List Int} {n : Int} {m : Nat} (hl : l.length = m) (h : ∀ j x, j < m → l[j]? = some x → x ≠ n) : hasI l n = false := by
  unfold hasI
  simp only [List.contains_eq_mem, decide_eq_false_iff_not]
  intro hm
  obtain ⟨j, hj⟩ := List.getElem?_of_mem hm
  exact h j n (by have := (List.getElem?_eq_some_iff.1 hj).1; omega) hj rfl
theorem hasI_step {l : List Int} {k : Nat} {a n : Int} (h : ∀ j x, j < k → l[j]? = some x → x ≠ n) (ha : l[k]? = some a) (e : a ≠ n) : ∀ j x, j < k + 1 → l[j]? = some x → x ≠ n := by
  intro j x hj hx
  by_cases e2 : j = k
  · subst e2; rw [ha] at hx; exact Option.some.inj hx ▸ e
  · exact h j x (by omega) hx
set_option maxHeartbeats 1600000 in
theorem has_any (x : RH) (v : Int) (ex : List (Option Nat)) (w : World) (h : RHok w ex x) :
    Calls Try.prog 18 #[.slice x.A x.n x.c, .int .i64 v] w fun e w' => e = .returned (.bool (hasI x.l v)) ∧ w = w' := by
  have hn := h.few
  have HX := hid h
  have HL := hid h.len
  clear h
  obtain ⟨A, n, c, l⟩ := x
  simp only at *
  go_enter Try.func18, Try.ntmps18
  go_wp2_with fail
  go_loop [5] (fun iv => ∃ (k : Nat), k ≤ n ∧ iv = .int .i64 k ∧ Hid (∀ j x, j < k → l[j]? = some x → x ≠ v)) (fun iv => n - (intOf iv).toNat)
  case atStart => exact ⟨0, by omega, rfl, hid (fun j x h => by omega)⟩
  case round =>
    obtain ⟨k, hk, rfl, hE⟩ := hrel
    by_cases hlt : k < n
    · obtain ⟨a, ha, -⟩ := get_at HL.out hlt
      obtain ⟨ad, hA, had, hc⟩ := HX.out.cell ha
      simp only at hA
      subst hA
      have Ha := hid ha
      clear ha
      by_cases h1 : a = v
      · subst h1
        have Hr := hid (hasI_hit Ha.out)
        clear hE
        go_wp2_with fail
        go_ret
        exact ⟨ret_b Hr.out, rfl⟩
      · have Hr := hid (hasI_step hE.out Ha.out h1)
        have t1 : (a == v) = false := by simpa using h1
        clear hE h1
        go_wp2_with fail
        go_round
        case rel => exact ⟨k + 1, by omega, by go_num, Hr⟩
        case measure => simp [intOf]; omega
    · obtain rfl : k = n := by omega
      have Hr := hid (hasI_none HL.out hE.out)
      clear hE
      go_wp2_with fail
      go_ret
      exact ⟨ret_b Hr.out, rfl⟩
end Go.Proofs.Ytopkmeceakjocaa

namespace Go.Proofs.Ytopkmeceakjocaa
set_option maxRecDepth 20000
set_option linter.unusedVariables false
set_option linter.unusedSimpArgs false
open Go.ChangeShapes Go.WideShapes Go.ChangeAt Go.RowKit

theorem SOk.valid3 {s : SY} {v N : Nat} {w : World} {ex : List (Option Nat)} (h : SOk s v N) (hs : SYok w ex s) : sysB s = true := by
  have hl : s.D.v.length = N := by rw [LH.vlen, hs.d.len, h.dn]
  have h1 : linkB s.D.v = true := by
    unfold linkB
    rw [hl]
    simp only [Bool.and_eq_true, decide_eq_true_eq, List.all_eq_true]
    refine ⟨⟨⟨h.n1, h.n256⟩, fun l hm => ?_⟩, h.tt⟩
    obtain ⟨y, hy, rfl⟩ := List.mem_map.1 hm
    exact risB_iff.2 (h.d y hy)
  unfold sysB
  rw [h1]
  simp only [Bool.and_eq_true, decide_eq_true_eq, List.all_eq_true, h.tn, h.dn, h.bn, true_and, and_true]
  refine ⟨fun z hz => ?_, fun f hf => ?_⟩
  · obtain ⟨a, b⟩ := h.b z hz
    unfold zfitB
    rw [a, Bs.valid_of_fit b h.v256, h.w]; simp
  · obtain ⟨a, b, c⟩ := h.t f hf
    unfold ffitB FH.vB
    rw [a, b, c, h.w]; simp
theorem ints_rh (w : World) (l : List Int) (hl : l.length ≤ 100) : RHok (w.alloc (.cells (l.map (Value.int .i64)).toArray 3)) [] ⟨some ⟨w.heap.size, 0, none⟩, l.length, l.length, l⟩ :=
  ⟨EAt.fb (Fb.new w _ _) (by simp) (fun j x hx => by unfold ints at hx; simpa using hx), rfl, by show l.length ≤ _; omega⟩
theorem ex14a : coneP [[], [0], [1], [2]] [] 2 = ([2, 1, 0], 5) := by kernel_rfl
theorem ex14b : coneP [[], [0], [1], [2]] [1] 2 = ([2, 1], 3) := by kernel_rfl
theorem ex14c : coneP [[], [0], [1], [2]] [2] 2 = ([2], 1) := by kernel_rfl
theorem lineOf (s : SY) (rl : RH) (l : List Int) (t : Nat) (w : World) (hs : SYok w [] s) (ho : SOk s 0 4) (hd : s.D.v = [[], [0], [1], [2]]) (hr : RHok w [] rl) (hi : inR 4 rl.l = true) (hc : coneP [[], [0], [1], [2]] rl.l 2 = (l, t)) :
    Calls Try.prog 16 #[s.a, .int .i64 2, .slice rl.A rl.n rl.c] w fun e w' => ∃ y : RH, e = .returned (.tuple #[.slice y.A y.n y.c, .int .i64 t, .int .i64 0]) ∧ y.l = l ∧ RHok w' [] y ∧ Below w.heap.size w w' := by
  refine (coneOf_any s 0 4 2 rl [] [] w hs ho hr hi (ho.valid3 hs) (by omega) (by omega)).mono ?_
  rintro e w' ⟨y, h1, h2, h3, -, h5⟩
  rw [hd, hc] at h1 h2
  exact ⟨y, h1, h2, h3 [] (by simp), h5⟩
theorem drewB (w : World) (q : Nat) : Below w.heap.size w (w.drewN q) := ⟨rfl, rfl, rfl, Nat.le_refl _, fun _ _ => rfl⟩
theorem intsYes (y : RH) (l : List Int) (g n : Nat) (w : World) (hy : RHok w [] y) (he : y.l = l) (hg : RHok w [] ⟨some ⟨g, 0, none⟩, n, n, l⟩) :
    Calls Try.prog 33 #[.slice y.A y.n y.c, .slice (some ⟨g, 0, none⟩) n n] w fun e w' => e = .returned (.bool true) ∧ Below w.heap.size w w' := by
  refine (ints7_any y ⟨some ⟨g, 0, none⟩, n, n, l⟩ [] [] w hy hg).mono ?_
  rintro e w' ⟨rfl, q, rfl⟩
  exact ⟨by rw [he]; unfold eqD; simp, drewB _ _⟩
set_option maxHeartbeats 12800000 in
theorem sane14_any (w : World) : Calls Try.prog 15 #[] w fun e w' => e = .returned (.bool true) ∧ Below w.heap.size w w' := by
  go_enter Try.func15, Try.ntmps15
  go_wp2_with fail
  refine (line_any w).mono ?_
  rintro e w1 ⟨s, rfl, hs, ho, hd, hb1⟩
  have HC := hid (lineOf s ⟨none, 0, 0, []⟩ _ _ w1 hs ho hd ⟨EAt.nil _ _ _, rfl, by show 0 ≤ 9223372036854775807; omega⟩ rfl ex14a)
  have HB1 := hid hb1
  clear hs ho hd hb1
  generalize s.a = sv at *
  go_wp2_with fail
  refine HC.out.mono ?_
  rintro e w2 ⟨y1, rfl, hl1, hy1, hb2⟩
  have HB2 := hid (below_step HB1.out hb2)
  have Hl1 := hid hl1
  have Hy1 := hid hy1
  clear hl1 hy1 hb2 HB1 HC
  go_wp2_with fail
  refine (line_any w2).mono ?_
  rintro e w3 ⟨s, rfl, hs, ho, hd, hb3⟩
  have hba := (Below.refl w3.heap.size w3).alloc (Nat.le_refl _) (.cells #[.int .i64 1] 3)
  have HC := hid (lineOf s ⟨some ⟨w3.heap.size, 0, none⟩, 1, 1, [1]⟩ _ _ (w3.alloc (.cells #[.int .i64 1] 3)) (hs.below hba) ho hd (ints_rh w3 [1] (by simp)) rfl ex14b)
  have HB3 := hid (below_step HB2.out (below_step hb3 hba))
  have Hy2 := hid (Hy1.out.below (below_step hb3 hba))
  clear hs ho hd hb3 hba HB2 Hy1
  generalize s.a = sv at *
  go_wp2_with fail
  refine HC.out.mono ?_
  generalize w3.alloc (.cells #[.int .i64 1] 3) = w3a at *
  rintro e w4 ⟨y2, rfl, hl2, hy2, hb4⟩
  have HB4 := hid (below_step HB3.out hb4)
  have Hy14 := hid (Hy2.out.below hb4)
  have Hl2 := hid hl2
  have Hy24 := hid hy2
  clear hl2 hy2 hb4 HB3 HC Hy2
  go_wp2_with fail
  refine (line_any w4).mono ?_
  rintro e w5 ⟨s, rfl, hs, ho, hd, hb5⟩
  have hba := (Below.refl w5.heap.size w5).alloc (Nat.le_refl _) (.cells #[.int .i64 2] 3)
  have HC := hid (lineOf s ⟨some ⟨w5.heap.size, 0, none⟩, 1, 1, [2]⟩ _ _ (w5.alloc (.cells #[.int .i64 2] 3)) (hs.below hba) ho hd (ints_rh w5 [2] (by simp)) rfl ex14c)
  have HB5 := hid (below_step HB4.out (below_step hb5 hba))
  have Hy15 := hid (Hy14.out.below (below_step hb5 hba))
  have Hy25 := hid (Hy24.out.below (below_step hb5 hba))
  clear hs ho hd hb5 hba HB4 Hy14 Hy24
  generalize s.a = sv at *
  go_wp2_with fail
  refine HC.out.mono ?_
  generalize w5.alloc (.cells #[.int .i64 2] 3) = w5a at *
  rintro e w6 ⟨y3, rfl, hl3, hy3, hb6⟩
  have HB6 := hid (below_step HB5.out hb6)
  have hba := (Below.refl w6.heap.size w6).alloc (Nat.le_refl _) (.cells #[.int .i64 2, .int .i64 1, .int .i64 0] 3)
  have HI := hid (intsYes y1 _ w6.heap.size 3 (w6.alloc (.cells #[.int .i64 2, .int .i64 1, .int .i64 0] 3)) (Hy15.out.below (below_step hb6 hba)) Hl1.out (ints_rh w6 [2, 1, 0] (by simp)))
  have HB7 := hid (below_step HB6.out hba)
  have Hy27 := hid (Hy25.out.below (below_step hb6 hba))
  have Hy37 := hid (hy3.below hba)
  have Hl3 := hid hl3
  clear hl3 hy3 hb6 hba HB5 HB6 HC Hy15 Hy25 Hl1
  go_wp2_with fail
  refine HI.out.mono ?_
  generalize w6.alloc (.cells #[.int .i64 2, .int .i64 1, .int .i64 0] 3) = w7 at *
  rintro _ w8 ⟨rfl, hb8⟩
  have hba := (Below.refl w8.heap.size w8).alloc (Nat.le_refl _) (.cells #[.int .i64 2, .int .i64 1] 3)
  have HI2 := hid (intsYes y2 _ w8.heap.size 2 (w8.alloc (.cells #[.int .i64 2, .int .i64 1] 3)) (Hy27.out.below (below_step hb8 hba)) Hl2.out (ints_rh w8 [2, 1] (by simp)))
  have HB9 := hid (below_step HB7.out (below_step hb8 hba))
  have Hy39 := hid (Hy37.out.below (below_step hb8 hba))
  clear hb8 hba HB7 Hy27 Hy37 Hl2 HI
  go_wp2_with fail
  refine HI2.out.mono ?_
  generalize w8.alloc (.cells #[.int .i64 2, .int .i64 1] 3) = w9 at *
  rintro _ w10 ⟨rfl, hb10⟩
  have hba := (Below.refl w10.heap.size w10).alloc (Nat.le_refl _) (.cells #[.int .i64 2] 3)
  have HI3 := hid (intsYes y3 _ w10.heap.size 1 (w10.alloc (.cells #[.int .i64 2] 3)) (Hy39.out.below (below_step hb10 hba)) Hl3.out (ints_rh w10 [2] (by simp)))
  have HB11 := hid (below_step HB9.out (below_step hb10 hba))
  clear hb10 hba HB9 Hy39 Hl3 HI2
  go_wp2_with fail
  refine HI3.out.mono ?_
  generalize w10.alloc (.cells #[.int .i64 2] 3) = w11 at *
  rintro _ w12 ⟨rfl, hb12⟩
  have HB12 := hid (below_step HB11.out hb12)
  clear hb12 HB11 HI3
  go_wp2_with fail
  go_ret
  exact ⟨rfl, HB12.out⟩
end Go.Proofs.Ytopkmeceakjocaa

namespace Go.Proofs.Ytopkmeceakjocaa
set_option maxRecDepth 20000
open Go.ChangeShapes Go.WideShapes Go.ChangeAt Go.RowKit

/-- The bits that the copies from members lead to. -/
def tgt (W : Int) (ss : List Nat) (cs : List (Int × Int)) : List Int := (cs.filter fun p => Bs.hasB W ss p.1).map (·.2)
theorem tgt_snoc (W : Int) (ss : List Nat) (cs : List (Int × Int)) (p : Int × Int) : tgt W ss (cs ++ [p]) = tgt W ss cs ++ (if Bs.hasB W ss p.1 then [p.2] else []) := by
  unfold tgt; rw [List.filter_append, List.map_append]
  by_cases h : Bs.hasB W ss p.1 <;> simp [h]
theorem tgt_len (W : Int) (ss : List Nat) (cs : List (Int × Int)) : (tgt W ss cs).length ≤ cs.length := by
  unfold tgt; rw [List.length_map]; exact List.length_filter_le _ _
theorem mem_tgt {W : Int} {ss : List Nat} {cs : List (Int × Int)} {b : Int} : b ∈ tgt W ss cs ↔ ∃ a, (a, b) ∈ cs ∧ Bs.hasB W ss a = true := by
  unfold tgt; simp only [List.mem_map, List.mem_filter]
  constructor
  · rintro ⟨⟨a, c⟩, ⟨h1, h2⟩, rfl⟩; exact ⟨a, h1, h2⟩
  · rintro ⟨a, h1, h2⟩; exact ⟨(a, b), ⟨h1, h2⟩, rfl⟩

theorem mixR_ok (f : Bool → Bool → Bool) {W : Nat} {ws xs : List Nat} (hW : W ≤ 256) (h1 : Bs.Fit W ws) (h2 : Bs.Fit W xs) :
    mixR f W ws W xs = ((W : Int), Bs.ofP W (fun i => f (Bs.bit ws i) (Bs.bit xs i)) W, 0) := by
  unfold mixR
  rw [if_neg (by simp [Bs.valid_of_fit h1 hW, Bs.valid_of_fit h2 hW]), if_neg (by simp), Int.toNat_natCast]

theorem dev_value {W : Nat} (hW : W ≤ 256) {gs ks ss : List Nat} {cs : List (Int × Int)} (hk : Bs.Fit W ks) (hs : Bs.Fit W ss) (hc : ∀ p ∈ cs, inW W p = true) :
    orR W gs (orR W (Bs.ofP W (fun i => flag true false false (Bs.bit ss i) (Bs.bit ks i)) W) (Bs.ofP W (fun i => decide ((i : Int) ∈ tgt W ss cs)) W)) = valR gs ss (folB W ks cs) W := by
  unfold orR valR
  refine Bs.ofP_congr fun i hi => ?_
  rw [Bs.bit_ofP _ _ _ (Nat.le_refl _), Bs.bit_ofP _ _ _ (Nat.le_refl _), Bs.bit_ofP _ _ _ (Nat.le_refl _)]
  congr 1
  simp only [hi, decide_true, Bool.true_and]
  apply Bool.eq_iff_iff.2
  rw [List.any_eq_true]
  simp only [Bool.or_eq_true, decide_eq_true_eq, mem_tgt]
  constructor
  · rintro (h | ⟨a, ha, hb⟩)
    · refine ⟨i, List.mem_range.2 hi, ?_⟩
      unfold folB
      rw [Bs.hasB_nat hk hW]
      revert h
      cases Bs.bit ss i <;> cases Bs.bit ks i <;> simp [flag]
    · have h1 := hc _ ha
      simp [inW] at h1
      obtain ⟨x, rfl⟩ := Int.eq_ofNat_of_zero_le h1.1.1
      rw [Bs.hasB_nat hs hW] at hb
      refine ⟨x, List.mem_range.2 (by omega), ?_⟩
      unfold folB
      simp [hb, ha]
  · rintro ⟨x, hx, h⟩
    rw [List.mem_range] at hx
    unfold folB at h
    rw [Bs.hasB_nat hk hW] at h
    simp only [Bool.and_eq_true, Bool.or_eq_true, decide_eq_true_eq, Bool.not_eq_true'] at h
    obtain ⟨h1, ⟨h2, h3⟩ | h2⟩ := h
    · have : x = i := by omega
      subst this
      left; simp [flag, h1, h3]
    · exact .inr ⟨x, h2, by rw [Bs.hasB_nat hs hW]; exact h1⟩
theorem tgt_of {W : Nat} (hW : W ≤ 256) {ss : List Nat} {cs : List (Int × Int)} (hc : ∀ p ∈ cs, inW W p = true) :
    ofR W (tgt W ss cs) = ((W : Int), Bs.ofP W (fun i => decide ((i : Int) ∈ tgt W ss cs)) W, 0) := by
  unfold ofR
  rw [if_neg (by omega), if_neg, Int.toNat_natCast]
  intro h
  obtain ⟨b, hb, h2⟩ := List.any_eq_true.1 h
  obtain ⟨a, ha, _⟩ := mem_tgt.1 hb
  have h1 := hc _ ha
  simp [inW] at h1
  simp at h2
  omega
theorem inW_of_ok {W : Int} {cs : List (Int × Int)} (h : ∀ i, i < cs.length → okAt W cs i = true) : ∀ p ∈ cs, inW W p = true := by
  intro p hp
  obtain ⟨i, hi, e⟩ := List.getElem_of_mem hp
  have := h i hi
  unfold okAt at this
  rw [List.getD_eq_getElem?_getD, List.getElem?_eq_getElem hi, Option.getD_some, e] at this
  simp only [Bool.and_eq_true] at this
  exact this.1

section
variable {w : World} {W V X : Int} {A B C D : Option Addr} {n c m d k q x y : Nat} {wr w' : World}
theorem Applying.grown {row : Option Nat} (h : Applying w W V X A B C D n c m d k q x y wr) (hg : wr.grownBy w' row) (hr : ∀ g, row = some g → w.heap.size + 3 ≤ g) : Applying w W V X A B C D n c m d k q x y w' := by
  have ne : ∀ b, b < w.heap.size + 3 → some b ≠ row := fun b hb e => by have := hr b e.symm; omega
  exact ⟨h.1.grown hg (ne _ (by omega)), h.2.1.grown hg (ne _ (by omega)), h.2.2.1.grown hg (ne _ (by omega)), h.2.2.2.grown hg h.2.2.2.size (fun g e => by have := hr g e; omega)⟩
end
/-- While the targets are gathered. -/
def Aiming (w : World) (W V X : Int) (A B C D : Option Addr) (n c m d k q x y : Nat) (v : Value) (l : List Int) (wr : World) : Prop :=
  Applying w W V X A B C D n c m d k q x y wr ∧ wr.ownsRow (w.heap.size + 3) 3 1 v l.length (ints l) ∧ w.heap.size + 3 ≤ wr.heap.size
theorem Aiming.below {w : World} {W V X : Int} {A B C D : Option Addr} {n c m d k q x y : Nat} {v : Value} {l : List Int} {wr w' : World} (h : Aiming w W V X A B C D n c m d k q x y v l wr) (hb : Below wr.heap.size wr w') :
    Aiming w W V X A B C D n c m d k q x y v l w' := ⟨h.1.below hb, own_below h.2.1 hb, by have := hb.size; have := h.2.2; omega⟩
theorem Aiming.push {w : World} {W V X : Int} {A B C D : Option Addr} {n c m d k q x y : Nat} {v v' : Value} {l : List Int} {b : Int} {o : Obj} {wr w' : World} (h : Aiming w W V X A B C D n c m d k q x y v l wr)
    (ho : w'.ownsRow (w.heap.size + 3) 3 1 v' (l.length + 1) (ints l ++ [.int .i64 b])) (hg : (wr.alloc o).grownBy w' v.ownBlock) : Aiming w W V X A B C D n c m d k q x y v' (l ++ [b]) w' := by
  have h' := h.below ((Below.refl _ _).alloc (Nat.le_refl _) o)
  refine ⟨h'.1.grown hg (fun g e => (h.2.1.lt g e).1), ?_, ?_⟩
  · rw [ints_snoc, List.length_append]; exact ho
  · have := hg.size; have := h'.2.2; omega

set_option maxHeartbeats 1600000 in
theorem devApply_any (W V X : Int) (A B C D : Option Addr) (n c m d k q x y : Nat) (gs ks ss : List Nat) (cs : List (Int × Int)) (w : World)
    (hA : Arg w A n gs) (hB : Arg w B m ks) (hC : ArgC w C k cs) (hD : Arg w D x ss) :
    Calls Try.prog 97 #[.agg #[.int .i64 W, .slice A n c, .int .i64 V, .slice B m d, .slice C k q], .agg #[.int .i64 X, .slice D x y]] w
      (RetErr w (applyR W gs V ks cs X ss)) := by
  obtain ⟨i0, hi, hz0, hz1, hz2⟩ := info_parts info3
  have Hi := hid hi; have Hz0 := hid hz0; have Hz1 := hid hz1; have Hz2 := hid hz2
  have HA := hid hA; have HB := hid hB; have HC := hid hC; have HD := hid hD
  have H0 := hid (Applying.start w W V X A B C D n c m d k q x y)
  clear hA hB hC hD hi hz0 hz1 hz2
  go_enter Try.func97, Try.ntmps97
  go_wp2_with fail
  refine (devValidT_any W V A B C n c m d k q gs ks cs _ (HA.out.below H0.out.2.2.2) (HB.out.below H0.out.2.2.2) (HC.out.below H0.out.2.2.2)).mono ?_
  cases hv : validT W gs V ks cs with
  | false =>
    rintro e w1 ⟨rfl, hb1⟩
    have H1 := hid (H0.out.below hb1)
    have Hr := hid (show applyR W gs V ks cs X ss = (0, [], 1) by unfold applyR; rw [if_pos (.inl hv)])
    clear hb1 hv
    obtain ⟨⟨r0, r1⟩, f0, f1⟩ := H1.out.res
    go_wp2_with fail
    refine bodyPost_ret (v := .tuple #[.agg #[.int .i64 0, .slice none 0 0], .int .i64 1]) (by simp [results, Try.results97, go_sem, r0, r1]) rfl ?_
    rw [Hr.out]
    exact ⟨_, _, _, rfl, Arg.nil _ _, H1.out.stored _ _ _ _⟩
  | true =>
    have Hv := hid hv
    obtain ⟨h1, h2, h3, h4, h5⟩ := validT_iff hv
    have hk64 : k ≤ 64 := by rw [HC.out.len] at h4; exact h4
    have HK := hid hk64
    have Hin := hid (inW_of_ok h5)
    rintro e w1 ⟨rfl, hb1⟩
    have H1 := hid (H0.out.below hb1)
    clear hb1 hv h4 h5
    obtain ⟨s0, s1⟩ := And.intro H1.out.2.1.c0 H1.out.2.1.c1
    go_wp2_with fail
    refine (devValid_any X D x y ss _ (HD.out.below H1.out.2.2.2)).mono ?_
    clear s0 s1
    cases hs : Bs.validB X ss with
    | false =>
      rintro e w2 ⟨rfl, hb2⟩
      have H2 := hid (H1.out.below hb2)
      have Hr := hid (show applyR W gs V ks cs X ss = (0, [], 1) by unfold applyR; rw [if_pos (.inr hs)])
      clear hb2 hs h1 h2 h3
      obtain ⟨⟨r0, r1⟩, f0, f1⟩ := H2.out.res
      go_wp2_with fail
      refine bodyPost_ret (v := .tuple #[.agg #[.int .i64 0, .slice none 0 0], .int .i64 1]) (by simp [results, Try.results97, go_sem, r0, r1]) rfl ?_
      rw [Hr.out]
      exact ⟨_, _, _, rfl, Arg.nil _ _, H2.out.stored _ _ _ _⟩
    | true =>
      rintro e w2 ⟨rfl, hb2⟩
      have H2 := hid (H1.out.below hb2)
      have hz2 : w.heap.size + 3 ≤ w2.heap.size := by
        have e1 := H1.out.2.2.1.lt; have e2 := hb2.size; omega
      clear hb2
      obtain ⟨⟨r0, r1⟩, f0, f1⟩ := H2.out.res
      obtain ⟨s0, s1⟩ := And.intro H2.out.2.1.c0 H2.out.2.1.c1
      obtain ⟨t0, t1, t2, t3, t4⟩ := H2.out.1.five
      by_cases hWX : W = X
      · subst hWX
        subst h3
        have Hr := hid (show applyR W gs W ks cs W ss = (W, valR gs ss (folB W ks cs) W.toNat, 0) by unfold applyR; rw [if_neg (by simp [Hv.out, hs]), if_neg (by simp)])
        have hfg := Bs.fit_of_valid h1 HA.out.ok
        have hfk := Bs.fit_of_valid h2 HB.out.ok
        have hfs := Bs.fit_of_valid hs HD.out.ok
        obtain ⟨v, rfl⟩ := Int.eq_ofNat_of_zero_le (Bs.validB_iff.1 h1).1
        have hv256 : v ≤ 256 := by have := (Bs.validB_iff.1 h1).2.1; omega
        rw [Int.toNat_natCast] at hfg hfs hfk
        have Hfg := hid hfg; have Hfs := hid hfs; have Hfk := hid hfk; have Hv2 := hid hv256
        have Hst := hid (show Aiming w v v v A B C D n c m d k q x y (.slice none 0 0) (tgt v ss (cs.take 0)) w2 from ⟨H2.out, World.ownsRow_nil _ _ _ _, hz2⟩)
        clear h1 h2 hs hfg hfs hfk hv256 r0 r1 f0 f1 hz2
        go_wp2_with fail
        clear s0 s1 t0 t1 t2 t3 t4
        go_loopw [6, 8, 34] (fun u _ i wr => ∃ j : Nat, j ≤ k ∧ i = .int .i64 j ∧ Hid (Aiming w v v v A B C D n c m d k q x y u (tgt v ss (cs.take j)) wr)) (fun _ _ i _ => k - (intOf i).toNat)
        case atStart => exact ⟨0, by omega, rfl, Hst⟩
        case round =>
          obtain ⟨j, hj, rfl, hG⟩ := hrel
          clear Hst
          by_cases hlt : j < k
          · have hjl : j < cs.length := by rw [HC.out.len]; exact hlt
            have hget : cs[j]? = some cs[j] := List.getElem?_eq_getElem _
            have hsn := take_snoc cs j hjl
            generalize cs[j] = p at hget hsn
            obtain ⟨p1, p2⟩ := p
            obtain ⟨ad, rfl, had, g1, g2⟩ := (HC.out.below hG.out.1.2.2.2).cell hget
            have Hsn := hid hsn
            have hle := tgt_len v ss (cs.take j)
            rw [List.length_take] at hle
            have hle2 : (tgt (v : Int) ss (cs.take j)).length ≤ 64 := by have := HK.out; omega
            clear hget hsn hle
            have H5 := hid (hG.out.below ((Below.refl _ _).alloc (Nat.le_refl _) (.cells #[.int .i64 p1, .int .i64 p2] 89)))
            have Hbx := hid (Fb.new wr #[.int .i64 p1, .int .i64 p2] 89)
            obtain ⟨s0, s1⟩ := And.intro H5.out.1.2.1.c0 H5.out.1.2.1.c1
            obtain ⟨b0, b1⟩ := Hbx.out.two
            go_wp2_with fail
            clear g1 g2
            generalize wr.alloc (.cells #[.int .i64 p1, .int .i64 p2] 89) = wv at *
            generalize wr.heap.size = gv at *
            refine (devHas_any v D x y ss p1 _ (HD.out.below H5.out.1.2.2.2)).mono ?_
            rintro e w6 ⟨rfl, hb6⟩
            have H6 := hid (H5.out.below hb6)
            have hbx6 := hid (Hbx.out.below hb6 Hbx.out.lt)
            clear s0 s1 b0 b1 hb6
            obtain ⟨b0, b1⟩ := hbx6.out.two
            cases hh : Bs.hasB v ss p1 with
            | false =>
              have Hl := hid (show tgt v ss (cs.take (j + 1)) = tgt v ss (cs.take j) by rw [Hsn.out, tgt_snoc]; simp [hh])
              clear hh
              go_wp2_with fail
              go_roundw
              case rel => exact ⟨j + 1, by omega, by go_num, by rw [Hl.out]; exact H6⟩
              case measure => simp [intOf]; omega
            | true =>
              have Hl := hid (show tgt v ss (cs.take (j + 1)) = tgt v ss (cs.take j) ++ [p2] by rw [Hsn.out, tgt_snoc]; simp [hh])
              clear hh
              have Hle := hid hle2
              go_wp2_with (first
                | (at_builtin
                   refine wpList_append_own _ rfl _ _ 22 rfl (w.heap.size + 3) 3 i0 (.int .i64 0) 1 8 Try.underlying22 Hi.out Hz0.out Hz1.out Hz2.out rfl (by decide) _ _ _ rfl (H6.out.2.1.alloc _) ⟨w6.heap.size, 0, none⟩ 1 1 [.int .i64 p2] rfl rfl (new_one _ _ _) (one_int _ _) (by unfold maxLen; omega) (by omega) (by have := H6.out.2.2; rw [World.size_alloc]; omega) ?_
                   intro v' w7 hown7 hgr7 hnil7
                   have H7 := hid (H6.out.push hown7 hgr7)
                   clear hown7 hgr7 hnil7))
              go_roundw
              case rel => exact ⟨j + 1, by omega, by go_num, by rw [Hl.out]; exact H7⟩
              case measure => simp [intOf]; omega
          · have hjk : j = k := by omega
            subst hjk
            have hall : cs.take j = cs := List.take_of_length_le (by rw [HC.out.len]; omega)
            rw [hall] at hG
            have hle := tgt_len v ss cs
            have Hle := hid (show (tgt (v : Int) ss cs).length ≤ maxLen by have := HK.out; have := HC.out.len; unfold maxLen; omega)
            clear hall hle
            obtain ⟨A', c', e', hat, _⟩ := own_slice hG.out.2.1
            subst e'
            have Hat := hid (show IArg wr A' (tgt (v : Int) ss cs).length (tgt v ss cs) from ⟨hat, rfl⟩)
            clear hat
            obtain ⟨s0, s1⟩ := And.intro hG.out.1.2.1.c0 hG.out.1.2.1.c1
            obtain ⟨t0, t1, t2, t3, t4⟩ := hG.out.1.1.five
            go_wp2_with fail
            refine (devDiff_any v v D B x y m d ss ks _ (HD.out.below hG.out.1.2.2.2) (HB.out.below hG.out.1.2.2.2)).mono ?_
            rw [mixR_ok _ Hv2.out Hfs.out Hfk.out]
            generalize hS1 : Bs.ofP v (fun i => flag true false false (Bs.bit ss i) (Bs.bit ks i)) v = z1
            have Hz1f := hid (show Bs.Fit v z1 by rw [← hS1]; exact Bs.fit_ofP _ _ _ (Nat.le_refl _))
            have HS1 := hid hS1
            rintro e wd1 ⟨A1, n1, c1, rfl, ha1, hb1⟩
            have HG1 := hid (hG.out.below hb1)
            have Hat1 := hid (Hat.out.below hb1)
            have Ha1 := hid ha1
            clear ha1 hb1 s0 s1 t0 t1 t2 t3 t4 Hat hS1 hG
            have HG2 := hid (HG1.out.below ((Below.refl _ _).alloc (Nat.le_refl _) (.cells #[.int .i64 (v : Int), .slice A1 n1 c1] 50)))
            have Hat2 := hid (Hat1.out.alloc (.cells #[.int .i64 (v : Int), .slice A1 n1 c1] 50))
            have Ha2 := hid (Ha1.out.alloc (.cells #[.int .i64 (v : Int), .slice A1 n1 c1] 50))
            have HB1 := hid (Box.new wd1 (v : Int) A1 n1 c1)
            obtain ⟨s0, s1⟩ := And.intro HG2.out.1.2.1.c0 HG2.out.1.2.1.c1
            go_wp2_with fail
            clear HG1 Hat1 Ha1
            generalize wd1.alloc (.cells #[.int .i64 (v : Int), .slice A1 n1 c1] 50) = wd2 at *
            generalize wd1.heap.size = b1 at *
            refine (devOf_any v A' _ c' (tgt (v : Int) ss cs) _ Hat2.out Hle.out).mono ?_
            rw [tgt_of Hv2.out Hin.out]
            generalize hS2 : Bs.ofP v (fun i => decide ((i : Int) ∈ tgt v ss cs)) v = z2
            have Hz2f := hid (show Bs.Fit v z2 by rw [← hS2]; exact Bs.fit_ofP _ _ _ (Nat.le_refl _))
            have HS2 := hid hS2
            rintro e wd3 ⟨A2, n2, c2, rfl, ha2, hb2⟩
            have HG3 := hid (HG2.out.below hb2)
            have Ha3 := hid (Ha2.out.below hb2)
            have HB3 := hid (HB1.out.below hb2 HB1.out.lt)
            have Hb2 := hid ha2
            clear ha2 hb2 s0 s1 hS2 Hat2 Ha2 HB1 HG2
            have HG4 := hid (HG3.out.below ((Below.refl _ _).alloc (Nat.le_refl _) (.cells #[.int .i64 (v : Int), .slice A2 n2 c2] 50)))
            have Ha4 := hid (Ha3.out.alloc (.cells #[.int .i64 (v : Int), .slice A2 n2 c2] 50))
            have Hb4 := hid (Hb2.out.alloc (.cells #[.int .i64 (v : Int), .slice A2 n2 c2] 50))
            have HB4 := hid (HB3.out.alloc (.cells #[.int .i64 (v : Int), .slice A2 n2 c2] 50))
            have HC4 := hid (Box.new wd3 (v : Int) A2 n2 c2)
            obtain ⟨p0, p1⟩ := And.intro HB4.out.c0 HB4.out.c1
            obtain ⟨q0, q1⟩ := And.intro HC4.out.c0 HC4.out.c1
            go_wp2_with fail
            clear HG3 Ha3 HB3 Hb2
            generalize wd3.alloc (.cells #[.int .i64 (v : Int), .slice A2 n2 c2] 50) = wd4 at *
            generalize wd3.heap.size = b2 at *
            refine (devUnion_any v v A1 A2 n1 c1 n2 c2 z1 z2 _ Ha4.out Hb4.out).mono ?_
            rw [mixR_or Hv2.out Hz1f.out Hz2f.out]
            generalize hS3 : orR v z1 z2 = z3
            have Hz3f := hid (show Bs.Fit v z3 by rw [← hS3]; exact fit_orR _ _ _)
            have HS3 := hid hS3
            rintro e wd5 ⟨A3, n3, c3, rfl, ha3, hb3⟩
            have HG5 := hid (HG4.out.below hb3)
            have Ha5 := hid ha3
            clear ha3 hb3 hS3 p0 p1 q0 q1 Ha4 Hb4 HB4 HC4 HG4
            have HG6 := hid (HG5.out.below ((Below.refl _ _).alloc (Nat.le_refl _) (.cells #[.int .i64 (v : Int), .slice A3 n3 c3] 50)))
            have Ha6 := hid (Ha5.out.alloc (.cells #[.int .i64 (v : Int), .slice A3 n3 c3] 50))
            have HB6 := hid (Box.new wd5 (v : Int) A3 n3 c3)
            obtain ⟨t0, t1, t2, t3, t4⟩ := HG6.out.1.1.five
            obtain ⟨p0, p1⟩ := And.intro HB6.out.c0 HB6.out.c1
            go_wp2_with fail
            clear HG5 Ha5
            generalize wd5.alloc (.cells #[.int .i64 (v : Int), .slice A3 n3 c3] 50) = wd6 at *
            generalize wd5.heap.size = b3 at *
            refine (devUnion_any v v A A3 n c n3 c3 gs z3 _ (HA.out.below HG6.out.1.2.2.2) Ha6.out).mono ?_
            rw [mixR_or Hv2.out Hfg.out Hz3f.out]
            have hfin := dev_value Hv2.out Hfk.out Hfs.out Hin.out (gs := gs)
            rw [HS1.out, HS2.out, HS3.out] at hfin
            rw [hfin]
            rw [Int.toNat_natCast] at Hr
            clear hfin
            generalize valR gs ss (folB (v : Int) ks cs) v = z4 at *
            rintro e wd7 ⟨A4, n4, c4, rfl, ha4, hb4⟩
            have HG7 := hid (HG6.out.1.below hb4)
            have Ha7 := hid ha4
            clear ha4 hb4 t0 t1 t2 t3 t4 p0 p1 HG6 Ha6 HB6
            obtain ⟨⟨r0, r1⟩, f0, f1⟩ := HG7.out.res
            go_wp2_with fail
            refine bodyPost_ret (v := .tuple #[.agg #[.int .i64 v, .slice A4 n4 c4], .int .i64 0]) (by simp [results, Try.results97, go_sem, r0, r1]) rfl ?_
            rw [Hr.out]
            exact ⟨_, _, _, rfl, Ha7.out.store HG7.out.2.2.1 _ _ _ _, HG7.out.stored _ _ _ _⟩
      · have Hr := hid (show applyR W gs V ks cs X ss = (0, [], 2) by unfold applyR; rw [if_neg (by simp [Hv.out, hs]), if_pos hWX])
        have t : (W != X) = true := by simp [hWX]
        clear hWX h1 h2 h3 hs
        go_wp2_with fail
        refine bodyPost_ret (v := .tuple #[.agg #[.int .i64 0, .slice none 0 0], .int .i64 2]) (by simp [results, Try.results97, go_sem, r0, r1]) rfl ?_
        rw [Hr.out]
        exact ⟨_, _, _, rfl, Arg.nil _ _, H2.out.stored _ _ _ _⟩
end Go.Proofs.Ytopkmeceakjocaa

namespace Go.Proofs.Ytopkmeceakjocaa
set_option maxRecDepth 20000
open Go.ChangeShapes Go.WideShapes Go.ChangeAt Go.RowKit

theorem ex1a : applyR 2 [0] 2 [2] [(0, 1)] 2 [1] = (2, [3], 0) := by rfl
theorem ex1b : applyR 2 [0] 2 [2] [(0, 1)] 2 [2] = (2, [0], 0) := by rfl
theorem put0 : Bs.put (Bs.emp 2) 0 = [1] := by rfl
theorem put1 : Bs.put (Bs.emp 2) 1 = [2] := by rfl
theorem emp2 : Bs.emp 2 = [0] := by rfl
theorem full2 : Bs.ofP 2 (fun _ => true) 2 = [3] := by rfl

/-- A function in a variable: its block, its words, its copies. -/
structure VarT (w : World) (b : Nat) (W : Int) (gs ks : List Nat) (cs : List (Int × Int)) (A : Option Addr) (n c : Nat) (B : Option Addr) (m d : Nat) (C : Option Addr) (k q : Nat) : Prop where
  box : Fb w b #[.int .i64 W, .slice A n c, .int .i64 W, .slice B m d, .slice C k q] 61
  gen : Arg w A n gs
  kill : Arg w B m ks
  cops : ArgC w C k cs
theorem VarT.below {w w' : World} {b : Nat} {W : Int} {gs ks : List Nat} {cs : List (Int × Int)} {A : Option Addr} {n c : Nat} {B : Option Addr} {m d : Nat} {C : Option Addr} {k q : Nat} (h : VarT w b W gs ks cs A n c B m d C k q) (hb : Below w.heap.size w w') :
    VarT w' b W gs ks cs A n c B m d C k q := ⟨h.box.below hb h.box.lt, h.gen.below hb, h.kill.below hb, h.cops.below hb⟩
theorem pairs_lit (w : World) (cs : List (Int × Int)) (xs : Array Value) (h : xs.toList = pairs cs) : ArgC (w.alloc (.cells xs 89)) (some ⟨w.heap.size, 0, none⟩) cs.length cs := by
  refine ⟨.inr ⟨_, rfl, by simp, fun j u hu => ?_⟩, rfl⟩
  rw [add_of, World.cell?_alloc_at _ _ _ _ rfl]
  rw [← h] at hu
  simpa using hu


theorem Box.four {w : World} {b : Nat} {W : Int} {A : Option Addr} {n c : Nat} (h : Box w b W A n c) : w.cell? ⟨b, 0, none⟩ = some (.int .i64 W) ∧ w.cell? ⟨b, 1, none⟩ = some (.slice A n c) ∧ w.frozen? ⟨b, 0, none⟩ = false ∧ w.frozen? ⟨b, 1, none⟩ = false := ⟨h.c0, h.c1, h.f 0, h.f 1⟩
/-- The result's variable, made before a call. -/
def Fresh (W w : World) (b : Nat) : Prop := Box w b 0 none 0 0 ∧ W.heap.size ≤ b
theorem Fresh.mk {W w0 w1 : World} (h0 : Below W.heap.size W w0) (hb : Below (w0.alloc (.cells #[.int .i64 0, .slice none 0 0] 50)).heap.size (w0.alloc (.cells #[.int .i64 0, .slice none 0 0] 50)) w1) : Fresh W w1 w0.heap.size :=
  ⟨(Box.new w0 0 none 0 0).below hb (by simp), h0.size⟩
theorem Fresh.mkD {w0 w1 : World} (hb : Below (w0.alloc (.cells #[.int .i64 0, .slice none 0 0] 50)).drew.heap.size (w0.alloc (.cells #[.int .i64 0, .slice none 0 0] 50)).drew w1) : Fresh w0 w1 w0.heap.size :=
  ⟨(show Box (w0.alloc (.cells #[.int .i64 0, .slice none 0 0] 50)).drew w0.heap.size 0 none 0 0 from Box.new w0 0 none 0 0).below hb (by show w0.heap.size < (w0.alloc _).heap.size; simp), Nat.le_refl _⟩
theorem Fresh.below {W w w1 : World} {b : Nat} (h : Fresh W w b) (hb : Below w.heap.size w w1) : Fresh W w1 b := ⟨h.1.below hb h.1.lt, h.2⟩
theorem Fresh.stored {W w : World} {b : Nat} (h : Fresh W w b) (hb : Below W.heap.size W w) (V : Int) (B : Option Addr) (m d : Nat) : Below W.heap.size W ((w.setCell ⟨b, 0, none⟩ (.int .i64 V)).setCell ⟨b, 1, none⟩ (.slice B m d)) :=
  (hb.setCell (by exact h.2) _).setCell (by exact h.2) _

end Go.Proofs.Ytopkmeceakjocaa

namespace Go.Proofs.Ytopkmeceakjocaa
set_option maxRecDepth 20000
open Go.ChangeShapes Go.WideShapes Go.ChangeAt Go.RowKit

theorem new_any (A : Option Addr) (n c : Nat) (w : World) :
    Calls Try.prog 7 #[.slice A n c] w fun e w' => e = .returned (.pointer (some ⟨w.heap.size, 0, none⟩)) ∧ w.alloc (.cells #[.slice A n c, .int .i64 0] 57) = w' := by
  go_enter Try.func7, Try.ntmps7
  go_wp2
  go_ret
  exact ⟨rfl, rfl⟩
theorem tape_new {w : World} {A : Option Addr} {n c : Nat} {zs : List Int} (h : IArg w A n zs) (hn : n ≤ maxLen) : Tape (w.alloc (.cells #[.slice A n c, .int .i64 0] 57)) w.heap.size :=
  ⟨A, n, c, 0, zs, heap_alloc_new w _, h.len, hn, Nat.zero_le _, h.lies.keep (fun p hp => World.cell?_alloc_lt w _ p hp) (Nat.le_refl _)⟩

/-- The statement's tape stands, and nothing old has changed. -/
def Going (w : World) (T : Nat) (wr : World) : Prop := Tape wr T ∧ Below w.heap.size w wr ∧ w.heap.size ≤ T
theorem Going.step {w wr w' : World} {T : Nat} (h : Going w T wr) (ht : Tape w' T) (hg : wr.grownBy w' (some T)) : Going w T w' :=
  ⟨ht, after_app h.2.1 hg h.2.2, h.2.2⟩
theorem Going.below {w wr w' : World} {T : Nat} (h : Going w T wr) (hb : Below wr.heap.size wr w') : Going w T w' :=
  h.step (h.1.below hb h.1.lt) (grown_of_below hb _)
theorem Going.alloc {w wr : World} {T : Nat} (h : Going w T wr) (o : Obj) : Going w T (wr.alloc o) := h.below ((Below.refl _ _).alloc (Nat.le_refl _) o)

/-- Copies do not lie in a tape: there two numbers never lie side by side. -/
theorem ArgC.tape {w w' : World} {T : Nat} {A : Option Addr} {n : Nat} {cs : List (Int × Int)} (h : ArgC w A n cs) (ht : Tape w T) (hg : w.grownBy w' (some T)) : ArgC w' A n cs := by
  refine ⟨?_, h.len⟩
  rcases h.lies with h0 | ⟨ad, e, hb, hc⟩
  · exact .inl h0
  · cases cs with
    | nil => exact .inl rfl
    | cons p cs =>
      have hne : ad.block ≠ T := by
        intro he
        have c0 := hc 0 (.int .i64 p.1) rfl
        have c1 := hc 1 (.int .i64 p.2) rfl
        obtain ⟨A', n', c', k', zs, h1, _⟩ := ht
        have ha : ad.add 0 = ad := by unfold Addr.add; simp
        rw [ha] at c0
        unfold World.cell? at c0 c1
        rw [he, h1] at c0
        rw [show (ad.add 1).block = T from by rw [add_block]; exact he, h1] at c1
        have e1 : (ad.add 1).off = ad.off + 1 := by unfold Addr.add; simp
        have e2 : (ad.add 1).spot = none := by unfold Addr.add; simp
        simp only [e1, e2] at c1
        simp only at c0
        split at c0
        · cases c0
        · match hoff : ad.off, c0 with
          | 0, c0 => simp at c0
          | 1, c0 => rw [hoff] at c1; simp at c1
          | n + 2, c0 => simp at c0
      refine .inr ⟨ad, e, by have := hg.size; omega, fun j u hu => hg.cell (hc j u hu) (by rw [add_block]; intro h; injection h with h; exact hne h)⟩
end Go.Proofs.Ytopkmeceakjocaa

namespace Go.Proofs.Ytopkmeceakjocaa
set_option maxRecDepth 20000
set_option linter.unusedVariables false
set_option linter.unusedSimpArgs false
open Go.ChangeShapes Go.WideShapes Go.ChangeAt Go.RowKit

/-- What stands in the law: the tape, the system in its box, lists of numbers. -/
structure CcS (w : World) (s : SY) (bx : Nat) (ls : List RH) (u : World) : Prop where
  tp : Tape u w.heap.size
  bx : Fb u bx s.box 27
  sy : SYok u [some w.heap.size] s
  ls : ∀ y ∈ ls, RHok u [some w.heap.size] y
  bel : Below w.heap.size w u
section
variable {w u u' : World} {s : SY} {bx : Nat} {ls : List RH}
theorem CcS.below (h : CcS w s bx ls u) (hb : Below u.heap.size u u') : CcS w s bx ls u' :=
  ⟨h.tp.below hb h.tp.lt, h.bx.below hb h.bx.lt, h.sy.below hb, fun y hy => (h.ls y hy).below hb, below_step h.bel hb⟩
theorem CcS.tape (h : CcS w s bx ls u) (ht : Tape u' w.heap.size) (hg : u.grownBy u' (some w.heap.size)) : CcS w s bx ls u' :=
  ⟨ht, h.bx.grown hg fun e => (h.bx.typ.ne h.tp.typ (by decide)) (Option.some.inj e), h.sy.go (Go2.same hg (.inr (by simp))), fun y hy => (h.ls y hy).go (Go2.same hg (.inr (by simp))), after_app h.bel hg (Nat.le_refl _)⟩
theorem CcS.push {y : RH} (h : CcS w s bx ls u) (hy : RHok u [some w.heap.size] y) : CcS w s bx (y :: ls) u :=
  ⟨h.tp, h.bx, h.sy, fun z hz => by rcases List.mem_cons.1 hz with rfl | hz; exact hy; exact h.ls z hz, h.bel⟩
theorem CcS.less {ls' : List RH} (h : CcS w s bx ls u) (hl : ∀ y ∈ ls', y ∈ ls) : CcS w s bx ls' u := ⟨h.tp, h.bx, h.sy, fun z hz => h.ls z (hl z hz), h.bel⟩
end
theorem rh_one (w : World) (x : Int) (r : Nat) (ex : List (Option Nat)) (hr : r ≤ 1) (hex : some w.heap.size ∉ ex) : RHok (w.alloc (.cells #[.int .i64 x] 3)) ex ⟨some ⟨w.heap.size, 0, none⟩, r, 1, [x].take r⟩ := by
  refine ⟨EAt.fb (Fb.new w _ _) hex (fun j y hx => ?_), ?_, by show r ≤ _; omega⟩
  · unfold ints at hx
    rw [List.map_take, List.getElem?_take] at hx
    split at hx
    · simpa using hx
    · cases hx
  · show ([x].take r).length = r
    rw [List.length_take, List.length_singleton]; omega
/-- The answers of the law's calls. -/
theorem lawClosed_yes {D : List (List Int)} {lf S c : List Int} {N : Nat} {root n : Int} {i : Nat} (h : IsCone D lf N root c) (hS : decide (closedP D lf S) = true) (hr : root ∈ S) (hi : c[i]? = some n) : hasI S n = true := by
  unfold hasI
  simp only [List.contains_eq_mem, decide_eq_true_eq]
  exact h.least S (of_decide_eq_true hS) hr n (List.mem_of_getElem? hi)
set_option maxHeartbeats 25600000 in
theorem lawCone (At : Option Addr) (nt ct : Nat) (zs : List Int) (w : World) (ht : IArg w At nt zs) (hnt : nt ≤ maxLen) :
    Calls Try.prog 4 #[.slice At nt ct] w fun e w' => e = .returned (.bool true) ∧ Below w.heap.size w w' := by
  have HT := hid (tape_new (c := ct) ht hnt)
  have HB := hid ((Below.refl w.heap.size w).alloc (Nat.le_refl _) (.cells #[.slice At nt ct, .int .i64 0] 57))
  clear ht
  go_enter Try.func4, Try.ntmps4
  go_wp2_with fail
  refine (new_any At nt ct w).mono ?_
  rintro e w0 ⟨rfl, rfl⟩
  go_wp2_with fail
  refine (system_any w.heap.size 7 _ HT.out (by omega) (by omega)).mono ?_
  rintro e w1 ⟨s, v, N, rfl, hs, hg, hN, htp, hgr⟩
  have ho := hg.ok hs (by omega)
  have hN1 := hg.n1
  have hba := (Below.refl w1.heap.size w1).alloc (Nat.le_refl _) (.cells s.box 27)
  have HS2 := hid (show CcS w s w1.heap.size [] (w1.alloc (.cells s.box 27)) from
    ⟨htp.below hba htp.lt, Fb.new w1 _ _, hs.below hba, by simp, below_step (after_app HB.out hgr (Nat.le_refl _)) hba⟩)
  have HV := hid (ho.valid3 hs)
  have Ho := hid ho
  have HDl := hid (show s.D.v.length = N by rw [LH.vlen, hs.d.len, ho.dn])
  have HDr := hid (show ∀ l ∈ s.D.v, RisP N l from fun l hl => by obtain ⟨y, hy, rfl⟩ := List.mem_map.1 hl; exact ho.d y hy)
  have hdn := ho.dn
  clear hs hg htp hgr ho hba HB HT
  have HCO := hid (fun (root : Int) (rl : RH) (u : World) (hs : SYok u [some w.heap.size] s) => coneOf_any s v N root rl _ [some w.heap.size] u hs Ho.out)
  have HCC := hid (fun (rs rl : RH) (u : World) (hs : SYok u [some w.heap.size] s) => closedC_any s v N rs rl _ [some w.heap.size] [some w.heap.size] u hs Ho.out)
  unfold SY.a at *
  subst hdn
  go_upto_region 3 with fail
  have HSA : Hid (CcS w s w1.heap.size [] (w1.alloc (.cells #[.int .i64 s.W, .slice s.D.A s.D.n s.D.c, .slice s.T.A s.T.n s.T.c, .slice s.B.A s.B.n s.B.c] 27))) := HS2
  clear HS2
  generalize w1.alloc (.cells #[.int .i64 s.W, .slice s.D.A s.D.n s.D.c, .slice s.T.A s.T.n s.T.c, .slice s.B.A s.B.n s.B.c] 27) = w2 at *
  generalize w1.heap.size = bx at *
  have HX := hid (fun (ls : List RH) (u : World) (h : CcS w s bx ls u) => show Fb u bx #[.int .i64 s.W, .slice s.D.A s.D.n s.D.c, .slice s.T.A s.T.n s.T.c, .slice s.B.A s.B.n s.B.c] 27 from h.bx)
  generalize s.D.v = D at *
  obtain ⟨c0, c1, c2, c3⟩ := (HX.out _ _ HSA.out).four
  go_wp2_with fail
  refine (next_any w.heap.size s.D.n w2 HSA.out.tp (by omega)).mono ?_
  rintro e w3 ⟨root, rfl, h0, h1, ht3, hg3, -⟩
  have hr1 : root < (s.D.n : Int) := by omega
  have HR := hid (And.intro h0 hr1)
  have HS3 := hid (HSA.out.tape ht3 hg3)
  clear h0 h1 hr1 ht3 hg3 HSA c0 c1 c2 c3
  obtain ⟨c0, c1, c2, c3⟩ := (HX.out _ _ HS3.out).four
  go_wp2_with fail
  refine (next_any w.heap.size s.D.n w3 HS3.out.tp (by omega)).mono ?_
  rintro e w4 ⟨x, rfl, h0, h1, ht4, hg4, -⟩
  have Hx := hid (show 0 ≤ x ∧ x < (s.D.n : Int) by omega)
  have hba := (Below.refl w4.heap.size w4).alloc (Nat.le_refl _) (.cells #[.int .i64 x] 3)
  have HS4 := hid ((HS3.out.tape ht4 hg4).below hba)
  have Hlt := hid (show w.heap.size < w4.heap.size from (HS3.out.tape ht4 hg4).tp.lt)
  have H1 := hid (fun (r : Nat) (hr : r ≤ 1) => rh_one w4 x r [some w.heap.size] hr (by simp; have := Hlt.out; omega))
  clear h0 h1 ht4 hg4 HS3 c0 c1 c2 c3 hba
  go_wp2_with fail
  refine (next_any w.heap.size 2 _ HS4.out.tp (by omega)).mono ?_
  rintro e w5 ⟨r, rfl, h0, h1, ht5, hg5, -⟩
  obtain ⟨r, rfl⟩ := Int.eq_ofNat_of_zero_le h0
  have hr : r ≤ 1 := by omega
  have HS5 := hid ((HS4.out.push (H1.out r hr)).tape ht5 hg5)
  have Hrl := hid (show inR s.D.n ([x].take r) = true from inR_iff.2 fun y hy => by
    have := List.mem_of_mem_take hy
    rw [List.mem_singleton.1 this]; exact Hx.out)
  have hl5 : w4.heap.size < w5.heap.size := by have := hg5.size; rw [World.size_alloc] at this; omega
  clear h0 h1 ht5 hg5 HS4 H1 Hlt
  generalize hg4 : w4.heap.size = g4 at *
  clear hg4
  obtain ⟨c0, c1, c2, c3⟩ := (HX.out _ _ HS5.out).four
  have r0 : (0 : Int) ≤ r := by omega
  have r1 : (r : Int) ≤ 1 := by omega
  have r2 : (r : Int).toNat = r := by omega
  go_upto_region 5 with fail
  go_wp2_with fail
  refine (HCO.out root ⟨some ⟨g4, 0, none⟩, r, 1, [x].take r⟩ w5 HS5.out.sy (HS5.out.ls _ (by simp)) Hrl.out HV.out HR.out.1 HR.out.2).mono ?_
  rintro e w6 ⟨y, rfl, hyl, hyr, hyn, hb6⟩
  have Hc := hid (show IsCone D ([x].take r) s.D.n root y.l from by rw [hyl]; exact coneP_is HDl.out HDr.out HR.out.1 HR.out.2)
  have Hyl := hid (hyr [] (by simp)).len
  have HS6 := hid ((HS5.out.below hb6).push (hyr [some w.heap.size] (fun k hk => by simp at hk; subst hk; exact HS5.out.tp.lt)))
  have Hyi := hid (inR_iff.2 Hc.out.k.rg)
  have Hroot := hid Hc.out.root
  clear hyl hyr hb6 HS5 c0 c1 c2 c3 hl5
  generalize [x].take r = lf at *
  obtain ⟨c0, c1, c2, c3⟩ := (HX.out _ _ HS6.out).four
  go_wp2_with fail
  have HC1 := HCC.out y ⟨some ⟨g4, 0, none⟩, r, 1, lf⟩ w6 HS6.out.sy (HS6.out.ls _ (by simp)) (HS6.out.ls _ (by simp)) Hyi.out Hrl.out HV.out
  rw [decide_eq_true Hc.out.closed] at HC1
  refine HC1.mono ?_
  rintro _ w7 ⟨rfl, hb7⟩
  have HS7 := hid (HS6.out.below hb7)
  have HC2 := has_any y root _ w7 (HS7.out.ls y (by simp))
  rw [show hasI y.l root = true by unfold hasI; simp [Hroot.out]] at HC2
  have HC2 := hid HC2
  clear HC1 hb7 HS6 c0 c1 c2 c3
  go_wp2_with fail
  refine HC2.out.mono ?_
  rintro _ w8 ⟨rfl, rfl⟩
  have hba := (Below.refl w7.heap.size w7).alloc (Nat.le_refl _) (.cells #[.int .i64 root] 3)
  have HS8 := hid ((HS7.out.below hba).push (rh_one w7 root 1 [some w.heap.size] (Nat.le_refl _) (by simp; have := HS7.out.tp.lt; omega)))
  clear HC2 HS7 hba
  go_upto_region 9 with fail
  generalize w7.alloc (.cells #[.int .i64 root] 3) = w9 at *
  generalize w7.heap.size = g9 at *
  have HI0 := hid (show inR s.D.n [root] = true from inR_iff.2 fun z hz => by rw [List.mem_singleton.1 hz]; exact HR.out)
  have Hm0 := hid (show root ∈ [root] by simp)
  have hN7 := hN
  go_wp2_with fail
  go_loopw [10, 11] (fun sv iv wr => ∃ (i : Nat) (z : RH), i ≤ s.D.n ∧ sv = .slice z.A z.n z.c ∧ iv = .int .i64 i ∧ z.n ≤ z.c ∧ z.n ≤ i + 1 ∧ Hid (inR s.D.n z.l = true) ∧ Hid (root ∈ z.l) ∧ Hid (CcS w s bx [z, y, ⟨some ⟨g4, 0, none⟩, r, 1, lf⟩] wr)) (fun _ iv _ => s.D.n - (intOf iv).toNat)
  case atStart => exact ⟨0, ⟨some ⟨g9, 0, none⟩, 1, 1, [root]⟩, by omega, rfl, rfl, Nat.le_refl _, Nat.le_refl _, HI0, Hm0, HS8⟩
  case round =>
    clear HS8 HI0 Hm0
    obtain ⟨i, z, hi, rfl, rfl, hzc, hzn, HI, Hm, HS⟩ := hrel
    obtain ⟨c0, c1, c2, c3⟩ := (HX.out _ _ HS.out).four
    by_cases hlt : i < s.D.n
    · go_wp2_with fail
      refine (next_any w.heap.size 2 wr HS.out.tp (by omega)).mono ?_
      rintro e wa ⟨q, rfl, h0, h1, hta, hga, -⟩
      have HSa := hid (HS.out.tape hta hga)
      clear hta hga HS c0 c1 c2 c3
      by_cases hq : q = 1
      · subst hq
        have HIn := hid (insert_any z i [some w.heap.size] wa (HSa.out.ls z (by simp)) hzc (by omega) (fun k hk => by simp at hk; subst hk; exact HSa.out.tp.lt))
        go_wp2_with fail
        refine HIn.out.mono ?_
        rintro e wb ⟨z', rfl, hzl, hzo, hzc', hbb⟩
        have HSb := hid (((HSa.out.below hbb).less (ls' := [y, ⟨some ⟨g4, 0, none⟩, r, 1, lf⟩]) (by simp)).push hzo)
        have HI2 := hid (show inR s.D.n z'.l = true from inR_iff.2 fun k hk => by
          rw [hzl] at hk
          rcases mem_insI.1 hk with rfl | hk
          · omega
          · exact inR_iff.1 HI.out k hk)
        have Hm2 := hid (show root ∈ z'.l from by rw [hzl]; exact mem_insI.2 (.inr Hm.out))
        have hzn2 : z'.n ≤ i + 1 + 1 := by
          have h1 := insI_len z.l i
          have h2 := (HSa.out.ls z (by simp)).len
          have h3 := hzo.len
          rw [hzl] at h3
          omega
        clear hzl hzo hbb HSa HI Hm HIn
        go_wp2_with fail
        go_roundw
        case rel => exact ⟨i + 1, z', by omega, rfl, by go_num, hzc', hzn2, HI2, Hm2, HSb⟩
        case measure => simp [intOf]; omega
      · have t : (q == 1) = false := by simp [hq]
        clear hq
        go_wp2_with fail
        go_roundw
        case rel => exact ⟨i + 1, z, by omega, rfl, by go_num, hzc, by omega, HI, Hm, HSa⟩
        case measure => simp [intOf]; omega
    · have e : i = s.D.n := by omega
      have hzn3 : z.n ≤ 100 := by omega
      clear e
      go_wp2_with fail
      clear c0 c1 c2 c3
      go_loopw [12] (fun jv wr => ∃ j : Nat, j ≤ y.n ∧ jv = .int .i64 j ∧ Hid (CcS w s bx [z, y, ⟨some ⟨g4, 0, none⟩, r, 1, lf⟩] wr)) (fun jv _ => y.n - (intOf jv).toNat)
      case atStart => exact ⟨0, by omega, rfl, HS⟩
      case round =>
        clear HS
        obtain ⟨j, hj, rfl, HSr⟩ := hrel
        obtain ⟨c0, c1, c2, c3⟩ := (HX.out _ _ HSr.out).four
        have HC1 := hid (HCC.out z ⟨some ⟨g4, 0, none⟩, r, 1, lf⟩ wr HSr.out.sy (HSr.out.ls _ (by simp)) (HSr.out.ls _ (by simp)) HI.out Hrl.out HV.out)
        go_wp2_with fail
        refine HC1.out.mono ?_
        cases hb : decide (closedP D lf z.l) with
        | false =>
          rintro _ wa ⟨rfl, hba⟩
          have HBa := hid (below_step HSr.out.bel hba)
          clear hba hb HC1 HSr c0 c1 c2 c3
          as_aux_lemma =>
            go_wp2_with fail
            refine (sane14_any _).mono ?_
            rintro e wb ⟨rfl, hbb⟩
            have HBb := hid (below_step HBa.out hbb)
            clear hbb
            go_wp2_with fail
            go_ret
            exact ⟨rfl, HBb.out⟩
        | true =>
          rintro _ wa ⟨rfl, hba⟩
          have HSa := hid (HSr.out.below hba)
          have Hb := hid hb
          clear hba hb HC1 HSr c0 c1 c2 c3
          by_cases hjl : j < y.n
          · obtain ⟨n, hn, -⟩ := get_at Hyl.out hjl
            obtain ⟨ad, hA, hal, q0⟩ := (HSa.out.ls y (by simp)).cell hn
            have HC2 := has_any z n _ wa (HSa.out.ls z (by simp))
            rw [lawClosed_yes Hc.out Hb.out Hm.out hn] at HC2
            have HC2 := hid HC2
            have j0 : (0 : Int) ≤ j := by omega
            have j1 : (j : Int) < y.n := by omega
            have j2 : (j : Int).toNat = j := by omega
            have HAd := hid hA
            clear hn
            rw [hA]
            clear hA
            go_wp2_with fail
            refine HC2.out.mono ?_
            rintro _ wb ⟨rfl, rfl⟩
            go_wp2_with fail
            rw [← HAd.out]
            go_roundw
            case rel => exact ⟨j + 1, by omega, by go_num, HSa⟩
            case measure => simp [intOf]; omega
          · have e : j = y.n := by omega
            have HBa := hid HSa.out.bel
            clear hjl Hb HSa
            as_aux_lemma =>
              go_wp2_with fail
              refine (sane14_any _).mono ?_
              rintro e wb ⟨rfl, hbb⟩
              have HBb := hid (below_step HBa.out hbb)
              clear hbb
              go_wp2_with fail
              go_ret
              exact ⟨rfl, HBb.out⟩
end Go.Proofs.Ytopkmeceakjocaa

namespace Go.Proofs.Ytopkmeceakjocaa
set_option maxRecDepth 10000
open Go.ChangeShapes Go.WideShapes Go.ChangeAt Go.RowKit Go.Joins

theorem cells3 : Try.prog.cellsOf 3 = 1 := by kernel_rfl
theorem cells25 : Try.prog.cellsOf 50 = 2 := by kernel_rfl
theorem cells62 : Try.prog.cellsOf 93 = 1 := by kernel_rfl

theorem cell_in {w : World} {a : Addr} {v : Value} (h : w.cell? a = some v) : a.block < w.heap.size := by
  rcases Nat.lt_or_ge a.block w.heap.size with hlt | hge
  · exact hlt
  · unfold World.cell? at h; rw [Array.getElem?_eq_none hge] at h; cases h

theorem wf_u64 {z : Int} (h : (Lit.int .u64 z).wf = true) : 0 ≤ z ∧ z ≤ 18446744073709551615 := by
  have m0 : IntKind.u64.min = 0 := by decide
  have m1 : IntKind.u64.max = 18446744073709551615 := by decide
  simp [Lit.wf] at h
  omega
theorem open_list {H : Type} {enc : TypeId × Value → H} {W : World} {b0 base : Nat} {spare : Nat → Bool} {held : Bool} {v : Value} {d : DataW H} {p : List MemPlace}
    (hv : Value.okWide Try.prog W .any b0 22 v) (h : DataW.Trod enc Try.prog W base spare held 22 v d p) :
    ∃ (A : Option Addr) (n c : Nat) (l : List Int), v = .slice A n c ∧ IArg W A n l ∧ n ≤ maxLen := by
  obtain ⟨A, n, c, rfl⟩ := okWide_slice Try.underlying22 hv
  obtain ⟨fuel, hf⟩ := h
  rcases open_ints Try.underlying22 Try.underlying3 cells3 hf with ⟨hcs, _⟩ | ⟨x, l, c', zs, hcs, _, hl, hm, hz, _, hcell, hwz⟩
  · simp [Value.cells] at hcs
    obtain ⟨rfl, rfl, rfl⟩ := hcs
    exact ⟨none, 0, 0, [], rfl, ⟨.inl rfl, rfl⟩, by simp [maxLen]⟩
  · simp [Value.cells] at hcs
    obtain ⟨rfl, rfl, rfl⟩ := hcs
    have hle : n ≤ zs.length := by rw [hz]; split <;> omega
    refine ⟨some x, n, c, zs.take n, rfl, ⟨?_, by rw [List.length_take]; omega⟩, Nat.le_trans hl hm⟩
    by_cases h0 : n = 0
    · subst h0; exact .inl rfl
    · refine .inr ⟨x, rfl, ?_, fun j u hu => ?_⟩
      · have := cell_in (hcell 0 (by omega)); rwa [add_block] at this
      · unfold ints at hu
        rw [List.getElem?_map] at hu
        have hj : j < n := by
          rcases Nat.lt_or_ge j n with h | h
          · exact h
          · rw [List.getElem?_eq_none (by rw [List.length_take]; omega)] at hu; simp at hu
        rw [List.getElem?_take, if_pos hj, List.getElem?_eq_getElem (by omega)] at hu
        have := hcell j (by omega)
        rw [List.getD_eq_getElem?_getD, List.getElem?_eq_getElem (by omega)] at this
        rw [this]; simpa using hu

theorem open_set {H : Type} {enc : TypeId × Value → H} {W : World} {b0 base : Nat} {spare : Nat → Bool} {held : Bool} {v : Value} {d : DataW H} {p : List MemPlace}
    (hv : Value.okWide Try.prog W .any b0 50 v) (h : DataW.Trod enc Try.prog W base spare held 50 v d p) :
    ∃ (Wd : Int) (A : Option Addr) (n c : Nat) (ws : List Nat), v = .agg #[.int .i64 Wd, .slice A n c] ∧ Arg W A n ws ∧ n ≤ maxLen := by
  obtain ⟨c0, c1, y0, y1, m, rfl, rfl, rfl, hy0, hy1⟩ := open_agg2 Try.underlying50 (by kernel_rfl) cells25 hv h
  obtain ⟨a, e0, _, _⟩ := DataW.trod_int Try.underlying3 hy0
  simp at e0
  subst e0
  rcases open_ints Try.underlying48 Try.underlying93 cells62 hy1 with ⟨hcs, _⟩ | ⟨x, l, c', zs, hcs, _, hl, hm, hz, _, hcell, hwz⟩
  · simp at hcs
    subst hcs
    exact ⟨a, none, 0, 0, [], rfl, Arg.nil _ _, by simp [maxLen]⟩
  · simp at hcs
    subst hcs
    have hle : l ≤ zs.length := by rw [hz]; split <;> omega
    refine ⟨a, some x, l, c', (zs.take l).map Int.toNat, rfl, ⟨?_, by rw [List.length_map, List.length_take]; omega, ?_⟩, Nat.le_trans hl hm⟩
    · by_cases h0 : l = 0
      · subst h0; exact .inl rfl
      · refine .inr ⟨x, rfl, ?_, fun j u hu => ?_⟩
        · have := cell_in (hcell 0 (by omega)); rwa [add_block] at this
        · unfold words at hu
          rw [List.getElem?_map, List.getElem?_map] at hu
          have hj : j < l := by
            rcases Nat.lt_or_ge j l with h | h
            · exact h
            · rw [List.getElem?_eq_none (by rw [List.length_take]; omega)] at hu; simp at hu
          rw [List.getElem?_take, if_pos hj, List.getElem?_eq_getElem (by omega)] at hu
          have := hcell j (by omega)
          rw [List.getD_eq_getElem?_getD, List.getElem?_eq_getElem (by omega)] at this
          have hw := hwz zs[j] (List.getElem_mem _)
          rw [this]
          simp [u64] at hu ⊢
          rw [← hu]
          have h0 := wf_u64 hw
          simp; omega
    · intro y hy
      obtain ⟨z, hz1, rfl⟩ := List.mem_map.1 hy
      have hw := hwz z (List.mem_of_mem_take hz1)
      unfold Bs.W64
      have h0 := wf_u64 hw
      omega
end Go.Proofs.Ytopkmeceakjocaa

namespace Go.Proofs.Ytopkmeceakjocaa.coneClosed
open Go.ChangeShapes Go.WideShapes Go.ChangeAt Go.RowKit
open Go.ChangeMaps (open_string)
set_option linter.unusedVariables false

theorem own : ownKnob Try.prog.godebug = none := by kernel_rfl
theorem laidOut : laidOutB Try.prog = true := by kernel_rfl

set_option maxRecDepth 100000 in
theorem lifted (os : Os) (started : os.Started) (H : Type) (enc : TypeId × Value → H) :
    ReturnsInHanded {} Try.checked os 4 .any (Rows.coneClosedSpec.pre6 enc Try.prog Try.f4 Rows.coneClosedRow.domain false) (Rows.coneClosedSpec.post enc Try.prog Try.f4 false true false false) := by
  refine returnsInHanded_of_change (C := Try.checked) own started (by kernel_rfl) Try.func4
    (ChangeSpec.witness6 (enc := enc) (C := Try.checked) false ⟨#[], #[.slice none 0 0], []⟩ 8 (by kernel_rfl) (by kernel_rfl) (by kernel_rfl) (by kernel_rfl)) ?_
  intro W base args ds gs before hval0 hW hcnd _
  have hval : ∀ (j : Nat) t v, Try.f4.params[j]? = some t → args[j]? = some v → Value.okWide Try.prog W .any base t v := hval0
  have hW' := hW
  obtain ⟨p, q, hA0, hV, rfl, hfz, hnd⟩ := hW
  have hA : DataW.TrodAll enc Try.prog W 0 (fun _ => true) true Try.f4.params.toList args.toList ds p := hA0
  rw [Try.params4] at hA hval
  obtain ⟨v0, vs0, d0, ds0, p0, q0, hargs, rfl, rfl, h0, r0⟩ := trodAll_cons hA
  obtain ⟨rfl, rfl, rfl⟩ := trodAll_nil r0
  obtain rfl : args = #[v0] := by cases args; simp_all
  obtain ⟨rfl, rfl⟩ := trodVars_none hV
  have k0 := h0
  have lt0 : ∀ x ∈ p0, x.block < W.heap.size := by obtain ⟨m, hm⟩ := k0; exact DataW.trod_lt m _ _ _ hm
  obtain ⟨a0, n0, c0, l0, rfl, g0, m0⟩ := open_list (hval 0 22 v0 rfl rfl) h0
  clear hA0 hval0
  refine (lawCone a0 n0 c0 l0 W g0 m0).mono fun e W' ⟨he, bel⟩ => ?_
  subst he
  exact ⟨_, rfl, _, _, _, [], _, [], hW', trodAll_mk1 (shut_bool Try.underlying4 _), (trodAll_cons_mk (Below.trod laidOut (by kernel_rfl) (of_decide_eq_true (by kernel_rfl)) k0 bel lt0) trodAll_mk0), rfl, bel.frame _, fun h => by cases h⟩

theorem over : Rows.coneClosedRow.holds Try.pinned (OpenSpec.ofChange Rows.coneClosedSpec) :=
  OpenClaim.holds_of_wide 4 Try.f4 rfl rfl rfl rfl rfl rfl rfl ⟨rfl, rfl, rfl, rfl, rfl⟩ rfl rfl rfl rfl rfl (by kernel_rfl) Try.func4 (by kernel_rfl)
    (of_decide_eq_true (by kernel_rfl)) (by unfold Func.isWrapper; first | (rw [if_pos (by decide +kernel)]; kernel_rfl) | (rw [if_neg (by decide +kernel)]; exact ⟨rfl, rfl⟩))
    (fun os started H enc _ => lifted os started H enc)

theorem proved : Rows.ConeClosedSaid := over
#print axioms proved
end Go.Proofs.Ytopkmeceakjocaa.coneClosed
