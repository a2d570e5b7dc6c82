/- Texts that the proof leans on, merged. -/
import Derived.Test.YtadkjnjibefocaaCa
import Derived.Test.YtadkjnjibefocaaCb
import Derived.Test.YtadkjnjibefocaaRgv
import Derived.Test.YtadkjnjibefocaaRgg
import Derived.Deep.DeepCutAuto
import Derived.Deep.AppendLies
import Derived.Test.YtadkjnjibefocaaRgk
import Derived.Deep.RegionLawGrows
import Derived.Test.YtadkjnjibefocaaPut
namespace Go.Proofs.Ytadkjnjibefocaa
set_option maxRecDepth 20000
set_option linter.unusedVariables false
set_option linter.unusedSimpArgs false
open Go.ChangeShapes Go.WideShapes Go.ChangeAt Go.RowKit

def exS (T R bS : Nat) (D B Tr : Value) : List (Option Nat) := [some T, some R, some bS, D.ownBlock, B.ownBlock, Tr.ownBlock]
def lhc (y : RH) : List Value := [.slice y.A y.n y.c]
/-- A generated row of dependencies, set, function. -/
def gD (N : Nat) (y : RH) : Prop := RisP N y.l ∧ y.n ≤ 3
def gB (W : Nat) (y : ZH) : Prop := y.W = W ∧ Bs.Fit W y.ws ∧ ∃ g, y.A = some ⟨g, 0, none⟩
def gT (W : Nat) (y : FH) : Prop := FOk W y ∧ y.k ≤ 12 ∧ (∃ g, y.G.A = some ⟨g, 0, none⟩) ∧ (∃ g, y.K.A = some ⟨g, 0, none⟩) ∧ y.G.n = Bs.nw W ∧ y.K.n = Bs.nw W
structure Sg (w : World) (T bS W N : Nat) (D B Tr : Value) (lD : List RH) (lB : List ZH) (lT : List FH) (u : World) : Prop where
  tp : Tape u T
  hT : T < w.heap.size
  hb : w.heap.size < bS
  gr : w.grownBy u (some T)
  rx : Fb u w.heap.size #[.int .i64 0, .slice none 0 0, .slice none 0 0, .slice none 0 0] 27
  bx : Fb u bS #[.int .i64 W, D, Tr, B] 27
  oD : u.ownsRow (bS + 1) 22 1 D lD.length (lD.flatMap lhc)
  oB : u.ownsRow (bS + 1) 47 2 B lB.length (lB.flatMap ZH.cs)
  oT : u.ownsRow (bS + 1) 51 5 Tr lT.length (lT.flatMap FH.cells)
  eD : ∀ y ∈ lD, RHok u (exS T w.heap.size bS D B Tr) y
  eB : ∀ y ∈ lB, ZHok u (exS T w.heap.size bS D B Tr) y
  eT : ∀ y ∈ lT, FHok u (exS T w.heap.size bS D B Tr) y
  okD : ∀ y ∈ lD, gD N y
  okB : ∀ y ∈ lB, gB W y
  okT : ∀ y ∈ lT, gT W y
section
variable {w u u' : World} {T bS W N : Nat} {D B Tr : Value} {lD : List RH} {lB : List ZH} {lT : List FH}
theorem Sg.far {v : Value} {ty k n b : Nat} {xs : List Value} (h : u.ownsRow b ty k v n xs) {j : Nat} (hj : j < b) : v.ownBlock = none ∨ v.ownBlock ≠ some j := by
  cases hv : v.ownBlock with
  | none => exact .inl rfl
  | some g => exact .inr fun e => by have := (h.lt g hv).1; have := Option.some.inj e; omega
theorem Sg.step (h : Sg w T bS W N D B Tr lD lB lT u) (ht : Tape u' T) (hg : u.grownBy u' (some T)) : Sg w T bS W N D B Tr lD lB lT u' := by
  have hT := h.hT; have hb := h.hb
  have hG : Go2 u (exS T w.heap.size bS D B Tr) u' (exS T w.heap.size bS D B Tr) := Go2.same hg (.inr (by simp [exS]))
  exact ⟨ht, hT, hb, grown_trans h.gr hg, h.rx.grown hg (by simp; omega), h.bx.grown hg (by simp; omega), h.oD.kept hg (Sg.far h.oD (by omega)), h.oB.kept hg (Sg.far h.oB (by omega)), h.oT.kept hg (Sg.far h.oT (by omega)),
    fun y hy => (h.eD y hy).go hG, fun y hy => (h.eB y hy).go hG, fun y hy => (h.eT y hy).go hG, h.okD, h.okB, h.okT⟩
theorem Sg.below (h : Sg w T bS W N D B Tr lD lB lT u) (hb : Below u.heap.size u u') : Sg w T bS W N D B Tr lD lB lT u' := h.step (h.tp.below hb h.tp.lt) (grown_of_below hb _)
theorem Sg.exlt (h : Sg w T bS W N D B Tr lD lB lT u) : ∀ k, some k ∈ exS T w.heap.size bS D B Tr → k < u.heap.size := by
  intro k hk
  simp only [exS, List.mem_cons, Option.some.injEq, List.not_mem_nil, or_false] at hk
  rcases hk with rfl | rfl | rfl | hk | hk | hk
  · exact h.tp.lt
  · exact h.rx.lt
  · exact h.bx.lt
  · exact (h.oD.lt k hk.symm).2
  · exact (h.oB.lt k hk.symm).2
  · exact (h.oT.lt k hk.symm).2
theorem Sg.ges (h : Sg w T bS W N D B Tr lD lB lT u) : ∀ k, some k ∈ exS T w.heap.size bS D B Tr → k = T ∨ w.heap.size ≤ k := by
  have hb := h.hb
  intro k hk
  simp only [exS, List.mem_cons, Option.some.injEq, List.not_mem_nil, or_false] at hk
  rcases hk with rfl | rfl | rfl | hk | hk | hk
  · exact .inl rfl
  · exact .inr (Nat.le_refl _)
  · exact .inr (by omega)
  · exact .inr (by have := (h.oD.lt k hk.symm).1; omega)
  · exact .inr (by have := (h.oB.lt k hk.symm).1; omega)
  · exact .inr (by have := (h.oT.lt k hk.symm).1; omega)
/-- No block of these holds words or copies. -/
theorem ex_typ {w u : World} {T bS nD nB nT b : Nat} {cs cs' : Array Value} {D B Tr : Value} {xD xB xT : List Value} (ht : Tape u T) (hr : Fb u w.heap.size cs' 27) (hb : Fb u bS cs 27) (oD : u.ownsRow b 22 1 D nD xD) (oB : u.ownsRow b 47 2 B nB xB) (oT : u.ownsRow b 51 5 Tr nT xT) :
    ∀ k, some k ∈ exS T w.heap.size bS D B Tr → ¬ Typ u k 72 ∧ ¬ Typ u k 62 := by
  intro k hk
  simp only [exS, List.mem_cons, Option.some.injEq, List.not_mem_nil, or_false] at hk
  rcases hk with rfl | rfl | rfl | hk | hk | hk
  · exact ⟨fun h => h.ne ht.typ (by decide) rfl, fun h => h.ne ht.typ (by decide) rfl⟩
  · exact ⟨fun h => h.ne hr.typ (by decide) rfl, fun h => h.ne hr.typ (by decide) rfl⟩
  · exact ⟨fun h => h.ne hb.typ (by decide) rfl, fun h => h.ne hb.typ (by decide) rfl⟩
  · exact ⟨fun h => h.ne (own_typ oD hk.symm) (by decide) rfl, fun h => h.ne (own_typ oD hk.symm) (by decide) rfl⟩
  · exact ⟨fun h => h.ne (own_typ oB hk.symm) (by decide) rfl, fun h => h.ne (own_typ oB hk.symm) (by decide) rfl⟩
  · exact ⟨fun h => h.ne (own_typ oT hk.symm) (by decide) rfl, fun h => h.ne (own_typ oT hk.symm) (by decide) rfl⟩
theorem Sg.set (h : Sg w T bS W N D B Tr lD lB lT u) {g : Nat} {ws : List Nat} (hr : Row u g ws) (hf : Bs.Fit W ws) : ZHok u (exS T w.heap.size bS D B Tr) ⟨W, some ⟨g, 0, none⟩, Bs.nw W, Bs.nw W, ws⟩ :=
  ⟨EAt.fb hr (fun hm => (ex_typ h.tp h.rx h.bx h.oD h.oB h.oT g hm).1 hr.typ) (fun j x hx => by simpa using hx), by have := hf.len; simpa using this, hf.ok⟩
theorem Sg.drow (h : Sg w T bS W N D B Tr lD lB lT u) {y : RH} (hy : RHok u (exS T w.heap.size bS D B Tr) y) (ht : Tape u' T) (hg : u.grownBy u' (some T)) : RHok u' (exS T w.heap.size bS D B Tr) y := hy.go (Go2.same hg (.inr (by simp [exS])))
theorem Sg.zset (h : Sg w T bS W N D B Tr lD lB lT u) {y : ZH} (hy : ZHok u (exS T w.heap.size bS D B Tr) y) (ht : Tape u' T) (hg : u.grownBy u' (some T)) : ZHok u' (exS T w.heap.size bS D B Tr) y := hy.go (Go2.same hg (.inr (by simp [exS])))
end
theorem info22 : (Try.prog.info? 22).map (fun i => (i.zero, i.size, i.bytes)) = some (some (.slice none 0 0), 1, 24) := by kernel_rfl
theorem info41 : (Try.prog.info? 47).map (fun i => (i.zero, i.size, i.bytes)) = some (some (.agg #[.int .i64 0, .slice none 0 0]), 2, 32) := by kernel_rfl
theorem info70 : (Try.prog.info? 51).map (fun i => (i.zero, i.size, i.bytes)) = some (some (.agg #[.int .i64 0, .slice none 0 0, .int .i64 0, .slice none 0 0, .slice none 0 0]), 5, 88) := by kernel_rfl
theorem one_lhc (y : RH) : ∀ u ∈ lhc y, u.oneCell' = true := by intro u hu; simp [lhc] at hu; subst hu; rfl
theorem one_zcs (y : ZH) : ∀ u ∈ y.cs, u.oneCell' = true := by intro u hu; simp [ZH.cs] at hu; rcases hu with rfl | rfl <;> rfl
theorem one_fcells (y : FH) : ∀ u ∈ y.cells, u.oneCell' = true := by intro u hu; simp [FH.cells] at hu; rcases hu with rfl | rfl | rfl | rfl | rfl <;> rfl
/-- The types of the blocks that the statement's operations write. -/
def tyO (j : Nat) : Nat := if j = 4 then 22 else if j = 9 then 47 else if j = 17 then 51 else 42
theorem tyO_4 {j : Nat} (h : j ≠ 4) : 22 ≠ tyO j := by unfold tyO; rw [if_neg h]; split; decide; split; decide; decide
theorem tyO_9 {j : Nat} (h : j ≠ 9) : 47 ≠ tyO j := by unfold tyO; rw [if_neg h]; split; decide; split; decide; decide
theorem tyO_17 {j : Nat} (h : j ≠ 17) : 51 ≠ tyO j := by unfold tyO; rw [if_neg h]; split; decide; split; decide; decide
theorem tyO_u (j : Nat) : 72 ≠ tyO j := by unfold tyO; split; decide; split; decide; split; decide; decide
theorem tyO_c (j : Nat) : 62 ≠ tyO j := by unfold tyO; split; decide; split; decide; split; decide; decide
/-- What the operations of the statement leave, one by one. -/
def sgF (w1 : World) (T bS W : Nat) (D B Tr : Value) (lD : List RH) (lB : List ZH) (lT : List FH) (d : RH) (b : ZH) : Nat → Value → World → Prop
  | 0, v, _ => v = .pointer (some ⟨bS, 1, none⟩)
  | 1, v, _ => v = D
  | 2, v, _ => v = .slice d.A d.n d.c
  | 3, v, u => ∃ g, v = .slice (some ⟨g, 0, none⟩) 1 1 ∧ Fb u g (lhc d).toArray 22
  | 4, v, u => ∃ g q, v = .slice (some ⟨g, 0, none⟩) (lD.length + 1) q ∧ u.ownsRow (bS + 1) 22 1 (.slice (some ⟨g, 0, none⟩) (lD.length + 1) q) (lD.length + 1) (lD.flatMap lhc ++ lhc d) ∧ (D.ownBlock = some g ∨ w1.heap.size ≤ g)
  | 5, v, _ => v = .pointer (some ⟨bS, 3, none⟩)
  | 6, v, _ => v = B
  | 7, v, _ => v = b.a
  | 8, v, u => ∃ g, v = .slice (some ⟨g, 0, none⟩) 1 1 ∧ Fb u g b.cs.toArray 47
  | 9, v, u => ∃ g q, v = .slice (some ⟨g, 0, none⟩) (lB.length + 1) q ∧ u.ownsRow (bS + 1) 47 2 (.slice (some ⟨g, 0, none⟩) (lB.length + 1) q) (lB.length + 1) (lB.flatMap ZH.cs ++ b.cs) ∧ (B.ownBlock = some g ∨ w1.heap.size ≤ g)
  | 10, v, _ => v = .pointer (some ⟨bS, 2, none⟩)
  | 11, v, _ => v = Tr
  | 12, v, _ => v = .pointer (some ⟨T, 0, none⟩)
  | 13, v, _ => v = .pointer (some ⟨bS, 0, none⟩)
  | 14, v, _ => v = .int .i64 W
  | 15, v, u => ∃ F : FH, v = F.a ∧ Ft u W F
  | 16, v, u => ∃ (F : FH) (g : Nat), v = .slice (some ⟨g, 0, none⟩) 1 1 ∧ Fb u g F.cells.toArray 51 ∧ Ft u W F
  | 17, v, u => ∃ (F : FH) (g q : Nat), v = .slice (some ⟨g, 0, none⟩) (lT.length + 1) q ∧ u.ownsRow (bS + 1) 51 5 (.slice (some ⟨g, 0, none⟩) (lT.length + 1) q) (lT.length + 1) (lT.flatMap FH.cells ++ F.cells) ∧ (Tr.ownBlock = some g ∨ w1.heap.size ≤ g) ∧ Ft u W F
  | 18, v, _ => v = .pointer (some ⟨bS, 1, none⟩)
  | _, _, _ => True
def sgU : Nat → Option Nat
  | 3 => some 4
  | 8 => some 9
  | 16 => some 17
  | _ => none
theorem sgF_st {w1 : World} {T bS W : Nat} {D B Tr : Value} {lD : List RH} {lB : List ZH} {lT : List FH} {d : RH} {b : ZH} (j : Nat) (u u' : World) (i : Nat) (v : Value) (hR : Stp1 (tyO j) u u') (hne : i ≠ j) (hu : sgU i ≠ some j) (h : sgF w1 T bS W D B Tr lD lB lT d b i v u) : sgF w1 T bS W D B Tr lD lB lT d b i v u' := by
  match i, hne, hu, h with
  | 0, _, _, h => exact h
  | 1, _, _, h => exact h
  | 2, _, _, h => exact h
  | 3, _, hu, h => obtain ⟨g, h1, h2⟩ := h; exact ⟨g, h1, hR.fb h2 (tyO_4 fun e => hu (by rw [e]; rfl))⟩
  | 4, hne, _, h => obtain ⟨g, q, h1, h2, h3⟩ := h; exact ⟨g, q, h1, hR.own h2 (tyO_4 hne.symm), h3⟩
  | 5, _, _, h => exact h
  | 6, _, _, h => exact h
  | 7, _, _, h => exact h
  | 8, _, hu, h => obtain ⟨g, h1, h2⟩ := h; exact ⟨g, h1, hR.fb h2 (tyO_9 fun e => hu (by rw [e]; rfl))⟩
  | 9, hne, _, h => obtain ⟨g, q, h1, h2, h3⟩ := h; exact ⟨g, q, h1, hR.own h2 (tyO_9 hne.symm), h3⟩
  | 10, _, _, h => exact h
  | 11, _, _, h => exact h
  | 12, _, _, h => exact h
  | 13, _, _, h => exact h
  | 14, _, _, h => exact h
  | 15, _, _, h => obtain ⟨F, h1, h2⟩ := h; exact ⟨F, h1, hR.ft h2 (tyO_u j) (tyO_c j)⟩
  | 16, _, hu, h => obtain ⟨F, g, h1, h2, h3⟩ := h; exact ⟨F, g, h1, hR.fb h2 (tyO_17 fun e => hu (by rw [e]; rfl)), hR.ft h3 (tyO_u j) (tyO_c j)⟩
  | 17, hne, _, h => obtain ⟨F, g, q, h1, h2, h3, h4⟩ := h; exact ⟨F, g, q, h1, hR.own h2 (tyO_17 hne.symm), h3, hR.ft h4 (tyO_u j) (tyO_c j)⟩
  | 18, _, _, h => exact h
  | i + 19, _, _, h => trivial
/-- What stands till an operation uses it up. -/
def sgG (bS : Nat) (D B Tr : Value) (lD : List RH) (lB : List ZH) (lT : List FH) : Nat → World → Prop
  | 4, u => u.ownsRow (bS + 1) 22 1 D lD.length (lD.flatMap lhc)
  | 9, u => u.ownsRow (bS + 1) 47 2 B lB.length (lB.flatMap ZH.cs)
  | 17, u => u.ownsRow (bS + 1) 51 5 Tr lT.length (lT.flatMap FH.cells)
  | _, _ => True
theorem sgG_st {bS : Nat} {D B Tr : Value} {lD : List RH} {lB : List ZH} {lT : List FH} (j : Nat) (u u' : World) (c : Nat) (hR : Stp1 (tyO j) u u') (hne : c ≠ j) (h : sgG bS D B Tr lD lB lT c u) : sgG bS D B Tr lD lB lT c u' := by
  by_cases h4 : c = 4
  · subst h4; exact hR.own (show u.ownsRow _ _ _ _ _ _ from h) (tyO_4 hne.symm)
  · by_cases h9 : c = 9
    · subst h9; exact hR.own (show u.ownsRow _ _ _ _ _ _ from h) (tyO_9 hne.symm)
    · by_cases h17 : c = 17
      · subst h17; exact hR.own (show u.ownsRow _ _ _ _ _ _ from h) (tyO_17 hne.symm)
      · unfold sgG; split <;> first | omega | trivial
theorem Sg.sgG {w u : World} {T bS W N : Nat} {D B Tr : Value} {lD : List RH} {lB : List ZH} {lT : List FH} (h : Sg w T bS W N D B Tr lD lB lT u) (c : Nat) : sgG bS D B Tr lD lB lT c u := by
  unfold Ytadkjnjibefocaa.sgG
  split
  · exact h.oD
  · exact h.oB
  · exact h.oT
  · trivial
/-- What stands below while the statement runs. -/
structure SgB (w w1 : World) (T bS W : Nat) (D B Tr : Value) (bb : Nat) (b : ZH) (u : World) : Prop where
  gx : GrX w1 (exS T w.heap.size bS D B Tr) u
  tp : Tape u T
  rx : Fb u w.heap.size #[.int .i64 0, .slice none 0 0, .slice none 0 0, .slice none 0 0] 27
  bx : Fb u bS #[.int .i64 W, D, Tr, B] 27
  bb : Fb u bb b.cs.toArray 47
section
variable {w w1 u u' : World} {T bS W N bb : Nat} {D B Tr : Value} {lD : List RH} {lB : List ZH} {lT : List FH} {d : RH} {b : ZH}
theorem SgB.below (h : SgB w w1 T bS W D B Tr bb b u) (hb : Below u.heap.size u u') : SgB w w1 T bS W D B Tr bb b u' :=
  ⟨h.gx.below hb, h.tp.below hb h.tp.lt, h.rx.below hb h.rx.lt, h.bx.below hb h.bx.lt, h.bb.below hb h.bb.lt⟩
theorem SgB.tape (h : SgB w w1 T bS W D B Tr bb b u) (hs : Sg w T bS W N D B Tr lD lB lT w1) (ht : Tape u' T) (hg : u.grownBy u' (some T)) : SgB w w1 T bS W D B Tr bb b u' := by
  have hT := hs.hT; have hb := hs.hb
  exact ⟨h.gx.step hg (fun g e => .inl (by simp [exS])), ht, h.rx.grown hg (by simp; omega), h.bx.grown hg (by simp; omega), h.bb.grown hg fun e => (h.bb.typ.ne h.tp.typ (by decide)) (Option.some.inj e)⟩
/-- An append to one of the three rows. -/
theorem SgB.app {v : Value} {ty k n : Nat} {xs : List Value} (h : SgB w w1 T bS W D B Tr bb b u) (hs : Sg w T bS W N D B Tr lD lB lT w1) (hv : v = D ∨ v = B ∨ v = Tr) (ho : u.ownsRow (bS + 1) ty k v n xs) (hbb : v.ownBlock ≠ some bb) (hg : u.grownBy u' v.ownBlock) : SgB w w1 T bS W D B Tr bb b u' := by
  have hT := hs.hT; have hb := hs.hb
  have far : ∀ j, j < bS + 1 → some j ≠ v.ownBlock := fun j hj e => by have := (ho.lt j e.symm).1; omega
  refine ⟨h.gx.step hg fun g e => .inl ?_, h.tp.keep fun k hk => hg.block k (by have := h.tp.lt; omega) (far k (by omega)), h.rx.grown hg (far _ (by omega)), h.bx.grown hg (far _ (by omega)), h.bb.grown hg (Ne.symm hbb)⟩
  rcases hv with rfl | rfl | rfl <;> simp [exS]
theorem Sg.sgB (h : Sg w T bS W N D B Tr lD lB lT w1) (hb : Fb w1 bb b.cs.toArray 47) : SgB w w1 T bS W D B Tr bb b w1 := ⟨GrX.refl _ _, h.tp, h.rx, h.bx, hb⟩
/-- The three stores. -/
structure TlI (D' B' T' : Value) (bS : Nat) (u0 : World) (L : Nat → Bool) (f : Nat → Value) (u : World) : Prop where
  pre : ∀ i, i < 19 → L i = true
  v4 : f 4 = D'
  v9 : f 9 = B'
  v17 : f 17 = T'
  a18 : L 18 = true → f 18 = .pointer (some ⟨bS, 1, none⟩)
  a20 : L 20 = true → f 20 = .pointer (some ⟨bS, 3, none⟩)
  a22 : L 22 = true → f 22 = .pointer (some ⟨bS, 2, none⟩)
  c21 : L 21 = true → L 19 = true
  c23 : L 23 = true → L 21 = true
  w0 : L 19 = false → u = u0
  w1 : L 19 = true → L 21 = false → u = u0.setCell ⟨bS, 1, none⟩ D'
  w2 : L 21 = true → L 23 = false → u = (u0.setCell ⟨bS, 1, none⟩ D').setCell ⟨bS, 3, none⟩ B'
  w3 : L 23 = true → u = ((u0.setCell ⟨bS, 1, none⟩ D').setCell ⟨bS, 3, none⟩ B').setCell ⟨bS, 2, none⟩ T'
end
section
variable {D' B' T' : Value} {bS : Nat} {u0 : World} {L : Nat → Bool} {f : Nat → Value} {u : World}
theorem TlI.op20 (h : TlI D' B' T' bS u0 L f u) : TlI D' B' T' bS u0 (updL L 20) (updV f 20 (.pointer (some ⟨bS, 3, none⟩))) u := by
  obtain ⟨h1, h2, h3, h4, h5, h6, h7, h8, h9, h10, h11, h12, h13⟩ := h
  exact ⟨fun i hi => by rw [updL_ne _ (by omega)]; exact h1 i hi, by simpa [updV] using h2, by simpa [updV] using h3, by simpa [updV] using h4, by simpa [updV, updL] using h5, fun _ => updV_self _ _ _, by simpa [updV, updL] using h7, by simpa [updL] using h8, by simpa [updL] using h9, by simpa [updL] using h10, by simpa [updL] using h11, by simpa [updL] using h12, by simpa [updL] using h13⟩
theorem TlI.op22 (h : TlI D' B' T' bS u0 L f u) : TlI D' B' T' bS u0 (updL L 22) (updV f 22 (.pointer (some ⟨bS, 2, none⟩))) u := by
  obtain ⟨h1, h2, h3, h4, h5, h6, h7, h8, h9, h10, h11, h12, h13⟩ := h
  exact ⟨fun i hi => by rw [updL_ne _ (by omega)]; exact h1 i hi, by simpa [updV] using h2, by simpa [updV] using h3, by simpa [updV] using h4, by simpa [updV, updL] using h5, by simpa [updV, updL] using h6, fun _ => updV_self _ _ _, by simpa [updL] using h8, by simpa [updL] using h9, by simpa [updL] using h10, by simpa [updL] using h11, by simpa [updL] using h12, by simpa [updL] using h13⟩
theorem TlI.op19 (h : TlI D' B' T' bS u0 L f u) (hL : L 19 = false) (x : Value) : u = u0 ∧ TlI D' B' T' bS u0 (updL L 19) (updV f 19 x) (u0.setCell ⟨bS, 1, none⟩ D') := by
  obtain ⟨h1, h2, h3, h4, h5, h6, h7, h8, h9, h10, h11, h12, h13⟩ := h
  have l21 : L 21 = false := by cases e : L 21 with | false => rfl | true => rw [h8 e] at hL; cases hL
  have l23 : L 23 = false := by cases e : L 23 with | false => rfl | true => rw [h9 e] at l21; cases l21
  exact ⟨h10 hL, fun i hi => by rw [updL_ne _ (by omega)]; exact h1 i hi, by simpa [updV] using h2, by simpa [updV] using h3, by simpa [updV] using h4, by simpa [updV, updL] using h5, by simpa [updV, updL] using h6, by simpa [updV, updL] using h7, by simp [updL], by simpa [updL] using h9, by simp [updL], by simp [updL], by simp [updL, l21], by simp [updL, l23]⟩
theorem TlI.op21 (h : TlI D' B' T' bS u0 L f u) (hL : L 21 = false) (h19 : L 19 = true) (x : Value) : u = u0.setCell ⟨bS, 1, none⟩ D' ∧ TlI D' B' T' bS u0 (updL L 21) (updV f 21 x) ((u0.setCell ⟨bS, 1, none⟩ D').setCell ⟨bS, 3, none⟩ B') := by
  obtain ⟨h1, h2, h3, h4, h5, h6, h7, h8, h9, h10, h11, h12, h13⟩ := h
  have l23 : L 23 = false := by cases e : L 23 with | false => rfl | true => rw [h9 e] at hL; cases hL
  exact ⟨h11 h19 hL, fun i hi => by rw [updL_ne _ (by omega)]; exact h1 i hi, by simpa [updV] using h2, by simpa [updV] using h3, by simpa [updV] using h4, by simpa [updV, updL] using h5, by simpa [updV, updL] using h6, by simpa [updV, updL] using h7, by simp [updL, h19], by simp [updL], by simp [updL, h19], by simp [updL], by simp [updL], by simp [updL, l23]⟩
theorem TlI.op23 (h : TlI D' B' T' bS u0 L f u) (hL : L 23 = false) (h21 : L 21 = true) (x : Value) : u = (u0.setCell ⟨bS, 1, none⟩ D').setCell ⟨bS, 3, none⟩ B' ∧ TlI D' B' T' bS u0 (updL L 23) (updV f 23 x) (((u0.setCell ⟨bS, 1, none⟩ D').setCell ⟨bS, 3, none⟩ B').setCell ⟨bS, 2, none⟩ T') := by
  obtain ⟨h1, h2, h3, h4, h5, h6, h7, h8, h9, h10, h11, h12, h13⟩ := h
  have l19 := h8 h21
  exact ⟨h12 h21 hL, fun i hi => by rw [updL_ne _ (by omega)]; exact h1 i hi, by simpa [updV] using h2, by simpa [updV] using h3, by simpa [updV] using h4, by simpa [updV, updL] using h5, by simpa [updV, updL] using h6, by simpa [updV, updL] using h7, by simp [updL, l19], by simp [updL, h21], by simp [updL, l19], by simp [updL, h21], by simp [updL], by simp [updL]⟩
end
section
variable {w w1 u : World} {T bS W N bb : Nat} {D B Tr : Value} {lD : List RH} {lB : List ZH} {lT : List FH} {d : RH} {b : ZH}
/-- The statement's end. -/
theorem SgB.done (h : SgB w w1 T bS W D B Tr bb b u) (hs : Sg w T bS W N D B Tr lD lB lT w1) (hd : RHok w1 (exS T w.heap.size bS D B Tr) d) (hz : ZHok w1 (exS T w.heap.size bS D B Tr) b) (hgd : gD N d) (hgb : gB W b) {g1 q1 g2 q2 g3 q3 : Nat} {F : FH}
    (o1 : u.ownsRow (bS + 1) 22 1 (.slice (some ⟨g1, 0, none⟩) (lD.length + 1) q1) (lD.length + 1) (lD.flatMap lhc ++ lhc d)) (n1 : D.ownBlock = some g1 ∨ w1.heap.size ≤ g1)
    (o2 : u.ownsRow (bS + 1) 47 2 (.slice (some ⟨g2, 0, none⟩) (lB.length + 1) q2) (lB.length + 1) (lB.flatMap ZH.cs ++ b.cs)) (n2 : B.ownBlock = some g2 ∨ w1.heap.size ≤ g2)
    (o3 : u.ownsRow (bS + 1) 51 5 (.slice (some ⟨g3, 0, none⟩) (lT.length + 1) q3) (lT.length + 1) (lT.flatMap FH.cells ++ F.cells)) (n3 : Tr.ownBlock = some g3 ∨ w1.heap.size ≤ g3) (hF : Ft u W F) :
    Sg w T bS W N (.slice (some ⟨g1, 0, none⟩) (lD.length + 1) q1) (.slice (some ⟨g2, 0, none⟩) (lB.length + 1) q2) (.slice (some ⟨g3, 0, none⟩) (lT.length + 1) q3) (lD ++ [d]) (lB ++ [b]) (lT ++ [F])
      (((u.setCell ⟨bS, 1, none⟩ (.slice (some ⟨g1, 0, none⟩) (lD.length + 1) q1)).setCell ⟨bS, 3, none⟩ (.slice (some ⟨g2, 0, none⟩) (lB.length + 1) q2)).setCell ⟨bS, 2, none⟩ (.slice (some ⟨g3, 0, none⟩) (lT.length + 1) q3)) := by
  have hT := hs.hT; have hb := hs.hb
  have hgs := hs.ges
  generalize hvD : Value.slice (some ⟨g1, 0, none⟩) (lD.length + 1) q1 = D' at *
  generalize hvB : Value.slice (some ⟨g2, 0, none⟩) (lB.length + 1) q2 = B' at *
  generalize hvT : Value.slice (some ⟨g3, 0, none⟩) (lT.length + 1) q3 = T' at *
  have kD : D'.ownBlock = some g1 := by rw [← hvD]; rfl
  have kB : B'.ownBlock = some g2 := by rw [← hvB]; rfl
  have kT : T'.ownBlock = some g3 := by rw [← hvT]; rfl
  have ht := ex_typ h.tp h.rx h.bx o1 o2 o3
  have hG1 : Go2 w1 (exS T w.heap.size bS D B Tr) u (exS T w.heap.size bS D' B' T') := h.gx.go fun k hk hm => by
    simp only [exS, List.mem_cons, List.not_mem_nil, or_false, kD, kB, kT, Option.some.injEq] at hm ⊢
    rcases hm with e | e | e | e | e | e
    · exact .inl e
    · exact .inr (.inl e)
    · exact .inr (.inr (.inl e))
    · subst e; rcases n1 with n | n
      · exact .inr (.inr (.inr (.inl n.symm)))
      · omega
    · subst e; rcases n2 with n | n
      · exact .inr (.inr (.inr (.inr (.inl n.symm))))
      · omega
    · subst e; rcases n3 with n | n
      · exact .inr (.inr (.inr (.inr (.inr n.symm))))
      · omega
  have s1 := setCell_grown u ⟨bS, 1, none⟩ D'
  have s2 := setCell_grown (u.setCell ⟨bS, 1, none⟩ D') ⟨bS, 3, none⟩ B'
  have s3 := setCell_grown ((u.setCell ⟨bS, 1, none⟩ D').setCell ⟨bS, 3, none⟩ B') ⟨bS, 2, none⟩ T'
  have hS := grown_trans (grown_trans s1 s2) s3
  have hG2 : Go2 u (exS T w.heap.size bS D' B' T') _ (exS T w.heap.size bS D' B' T') := Go2.same hS (.inr (by simp [exS]))
  have hG := hG1.trans hG2
  have hgr : w.grownBy u (some T) := h.gx.grown hs.gr fun k hk => hgs k hk
  have e3 := ((h.bx.set 1 D').set 3 B').set 2 T'
  have fl : ∀ {α : Type} (l : List α) (x : α) (f : α → List Value), (l ++ [x]).flatMap f = l.flatMap f ++ f x := fun l x f => by rw [List.flatMap_append]; simp
  refine ⟨((h.tp.far (by simp; omega) _).far (by simp; omega) _).far (by simp; omega) _, hT, hb, grown_set_new (grown_set_new (grown_set_new hgr (by simp; omega) _) (by simp; omega) _) (by simp; omega) _,
    ((h.rx.far (by simp; omega) _).far (by simp; omega) _).far (by simp; omega) _, e3, ?_, ?_, ?_, ?_, ?_, ?_, ?_, ?_, ?_⟩
  · rw [List.length_append, fl]; exact o1.kept hS (Sg.far o1 (by show bS < bS + 1; omega))
  · rw [List.length_append, fl]; exact o2.kept hS (Sg.far o2 (by show bS < bS + 1; omega))
  · rw [List.length_append, fl]; exact o3.kept hS (Sg.far o3 (by show bS < bS + 1; omega))
  · intro y hy
    rcases List.mem_append.1 hy with hy | hy
    · exact (hs.eD y hy).go hG
    · rw [List.mem_singleton.1 hy]; exact hd.go hG
  · intro y hy
    rcases List.mem_append.1 hy with hy | hy
    · exact (hs.eB y hy).go hG
    · rw [List.mem_singleton.1 hy]; exact hz.go hG
  · intro y hy
    rcases List.mem_append.1 hy with hy | hy
    · exact (hs.eT y hy).go hG
    · rw [List.mem_singleton.1 hy]; exact (hF.fh ht).go hG2
  · intro y hy
    rcases List.mem_append.1 hy with hy | hy
    · exact hs.okD y hy
    · rw [List.mem_singleton.1 hy]; exact hgd
  · intro y hy
    rcases List.mem_append.1 hy with hy | hy
    · exact hs.okB y hy
    · rw [List.mem_singleton.1 hy]; exact hgb
  · intro y hy
    rcases List.mem_append.1 hy with hy | hy
    · exact hs.okT y hy
    · rw [List.mem_singleton.1 hy]; exact ⟨⟨hF.g1.1, hF.k1.1, hF.ok⟩, hF.c1.2, hF.gen.elim fun g h => ⟨g, h.1⟩, hF.kill.elim fun g h => ⟨g, h.1⟩, hF.g1.2.2, hF.k1.2.2⟩
end
end Go.Proofs.Ytadkjnjibefocaa

namespace Go.Proofs.Ytadkjnjibefocaa
set_option maxRecDepth 20000
set_option linter.unusedVariables false
set_option linter.unusedSimpArgs false
open Go.ChangeShapes Go.WideShapes Go.ChangeAt Go.RowKit

/-- A system of the generator's: width v, N unknowns. -/
structure GSy (s : SY) (v N : Nat) : Prop where
  w : s.W = v
  v4 : v ≤ 4
  n1 : 1 ≤ N
  dn : s.D.n = N
  tn : s.T.n = N
  bn : s.B.n = N
  d : ∀ y ∈ s.D.l, gD N y
  t : ∀ y ∈ s.T.l, gT v y
  b : ∀ y ∈ s.B.l, gB v y
def RetSys (w : World) (T n : Nat) (e : Ending) (w' : World) : Prop :=
  ∃ (s : SY) (v N : Nat), e = .returned s.a ∧ SYok w' [some T] s ∧ GSy s v N ∧ N ≤ n ∧ Tape w' T ∧ w.grownBy w' (some T)
theorem insI_len (l : List Int) (n : Int) : (insI l n).length ≤ l.length + 1 := by
  induction l with
  | nil => simp [insI]
  | cons a l ih =>
    unfold insI
    repeat' split
    all_goals simp only [List.length_cons]; omega
theorem flat_lhc (l : List RH) : l.flatMap lhc = l.map RH.v := by
  induction l with
  | nil => rfl
  | cons a l ih => rw [List.flatMap_cons, List.map_cons, ih]; rfl
theorem Sg.fin {w u : World} {T bS W N n : Nat} {A1 A2 A3 : Option Addr} {c1 c2 c3 : Nat} {lD : List RH} {lB : List ZH} {lT : List FH} (h : Sg w T bS W N (.slice A1 N c1) (.slice A2 N c2) (.slice A3 N c3) lD lB lT u) (h1 : lD.length = N) (h2 : lB.length = N) (h3 : lT.length = N) (hW : W ≤ 4) (hN : 1 ≤ N) (hn : N ≤ n) (hn2 : n ≤ 100) :
    RetSys w T n (.returned (.agg #[.int .i64 W, .slice A1 N c1, .slice A3 N c3, .slice A2 N c2])) ((((u.setCell ⟨w.heap.size, 0, none⟩ (.int .i64 W)).setCell ⟨w.heap.size, 1, none⟩ (.slice A1 N c1)).setCell ⟨w.heap.size, 2, none⟩ (.slice A3 N c3)).setCell ⟨w.heap.size, 3, none⟩ (.slice A2 N c2)) := by
  have hT := h.hT; have hb := h.hb
  generalize hu' : (((u.setCell ⟨w.heap.size, 0, none⟩ (.int .i64 W)).setCell ⟨w.heap.size, 1, none⟩ (.slice A1 N c1)).setCell ⟨w.heap.size, 2, none⟩ (.slice A3 N c3)).setCell ⟨w.heap.size, 3, none⟩ (.slice A2 N c2) = u'
  have hgu : u.grownBy u' (some w.heap.size) := by
    rw [← hu']
    exact grown_trans (grown_trans (grown_trans (setCell_grown u ⟨w.heap.size, 0, none⟩ _) (setCell_grown _ ⟨w.heap.size, 1, none⟩ _)) (setCell_grown _ ⟨w.heap.size, 2, none⟩ _)) (setCell_grown _ ⟨w.heap.size, 3, none⟩ _)
  have hgw : w.grownBy u' (some T) := by
    rw [← hu']
    exact grown_set_new (grown_set_new (grown_set_new (grown_set_new h.gr (by simp) _) (by simp) _) (by simp) _) (by simp) _
  have htp : Tape u' T := h.tp.keep fun k hk => hgu.block k (by have := h.tp.lt; omega) (by simp; omega)
  have hG : Go2 u (exS T w.heap.size bS (.slice A1 N c1) (.slice A2 N c2) (.slice A3 N c3)) u' [some T] := Go2.grown hgu (.inr (by simp [exS])) fun k _ hm => by
    simp only [List.mem_cons, List.not_mem_nil, or_false] at hm
    simp only [exS, List.mem_cons]
    exact .inl hm
  have far : ∀ {v : Value} {ty k n : Nat} {xs : List Value}, u.ownsRow (bS + 1) ty k v n xs → u'.ownsRow (bS + 1) ty k v n xs := fun ho => ho.kept hgu (Sg.far ho (by omega))
  have nT : ∀ {v : Value} {ty k n : Nat} {xs : List Value}, u'.ownsRow (bS + 1) ty k v n xs → ∀ g, v.ownBlock = some g → some g ∉ [some T] := fun ho g hg hm => by
    have := (ho.lt g hg).1
    simp only [List.mem_cons, List.not_mem_nil, or_false, Option.some.injEq] at hm
    omega
  have oD := far h.oD
  have oB := far h.oB
  have oT := far h.oT
  rw [h1, flat_lhc] at oD
  rw [h2] at oB
  rw [h3] at oT
  exact ⟨⟨W, ⟨A1, N, c1, lD⟩, ⟨A3, N, c3, lT⟩, ⟨A2, N, c2, lB⟩⟩, W, N, rfl,
    ⟨⟨EAt.own oD (nT oD), h1, by show N ≤ _; omega, fun y hy => (h.eD y hy).go hG⟩, ⟨EAt.own oT (nT oT), h3, by show N ≤ _; omega, fun y hy => (h.eT y hy).go hG⟩, ⟨EAt.own oB (nT oB), h2, by show N ≤ _; omega, fun y hy => (h.eB y hy).go hG⟩⟩,
    ⟨rfl, hW, hN, rfl, rfl, rfl, h.okD, h.okT, h.okB⟩, hn, htp, hgw⟩
set_option maxHeartbeats 12800000 in
theorem system_any (T n : Nat) (w : World) (ht : Tape w T) (hn1 : 1 ≤ n) (hn : n ≤ 100) : Calls Try.prog 5 #[.pointer (some ⟨T, 0, none⟩), .int .i64 n] w (RetSys w T n) := by
  obtain ⟨iD, hi, hz0, hz1, hz2⟩ := info_parts info22
  have HD := hid hi; have HD0 := hid hz0; have HD1 := hid hz1; have HD2 := hid hz2
  clear hi hz0 hz1 hz2
  obtain ⟨iB, hi, hz0, hz1, hz2⟩ := info_parts info41
  have HB := hid hi; have HB0 := hid hz0; have HB1 := hid hz1; have HB2 := hid hz2
  clear hi hz0 hz1 hz2
  obtain ⟨iT, hi, hz0, hz1, hz2⟩ := info_parts info70
  have HT := hid hi; have HT0 := hid hz0; have HT1 := hid hz1; have HT2 := hid hz2
  clear hi hz0 hz1 hz2
  have Ht := hid ht
  have hTl := ht.lt
  clear ht
  have HR := hid (Fb.new w #[.int .i64 0, .slice none 0 0, .slice none 0 0, .slice none 0 0] 27)
  have Hb0 := hid ((Below.refl w.heap.size w).alloc (Nat.le_refl _) (.cells #[.int .i64 0, .slice none 0 0, .slice none 0 0, .slice none 0 0] 27))
  go_enter Try.func5, Try.ntmps5
  go_wp2_with fail
  refine (width_any T _ (Ht.out.alloc _)).mono ?_
  rintro e w3 ⟨v0, rfl, hv0, ht3, hg3⟩
  obtain ⟨W, hW⟩ : ∃ W : Nat, W = v0 % 5 := ⟨_, rfl⟩
  have hW4 : W ≤ 4 := by omega
  have hrem : (v0 : Int) % 5 = (W : Int) := by rw [hW]; omega
  clear hW
  have hbS : w.heap.size < w3.heap.size := by have := hg3.size; rw [World.size_alloc] at this; omega
  have H0 := hid (show ∀ N, Sg w T w3.heap.size W N (.slice none 0 0) (.slice none 0 0) (.slice none 0 0) [] [] [] (w3.alloc (.cells #[.int .i64 W, .slice none 0 0, .slice none 0 0, .slice none 0 0] 27)) from fun N =>
    ⟨ht3.alloc _, hTl, hbS, grown_trans (grown_trans (grown_of_below Hb0.out _) hg3) (grown_of_below ((Below.refl _ _).alloc (Nat.le_refl _) _) _), (HR.out.grown hg3 (by simp; omega)).alloc _, Fb.new _ _ _, World.ownsRow_nil _ _ _ _, World.ownsRow_nil _ _ _ _, World.ownsRow_nil _ _ _ _,
      by simp, by simp, by simp, by simp, by simp, by simp⟩)
  clear ht3 hg3 HR Hb0
  go_wp2_with fail
  clear hrem hv0
  generalize hbq : w3.heap.size = bS at *
  clear hbq
  generalize w3.alloc (.cells #[.int .i64 W, .slice none 0 0, .slice none 0 0, .slice none 0 0] 27) = w4 at *
  refine (next_any T n _ (H0.out 0).tp (by omega)).mono ?_
  rintro e w5 ⟨r, rfl, hr0, hr1, ht5, hg5, -⟩
  obtain ⟨N, hN⟩ : ∃ N : Nat, (1 : Int) + r = (N : Int) := ⟨(1 + r).toNat, by omega⟩
  have hN1 : 1 ≤ N := by omega
  have hNn : N ≤ n := by omega
  have H5 := hid ((H0.out N).step ht5 hg5)
  clear ht5 hg5 H0
  go_wp2_with fail
  clear hN hr0 hr1
  go_loopw [6, 7, 8, 9] (fun iv _ _ _ wr => ∃ (i : Nat) (D B Tr : Value) (lD : List RH) (lB : List ZH) (lT : List FH), i ≤ N ∧ iv = .int .i64 i ∧ (lD.length = i ∧ lB.length = i ∧ lT.length = i) ∧ Hid (Sg w T bS W N D B Tr lD lB lT wr)) (fun iv _ _ _ _ => N - (intOf iv).toNat)
  case atStart => exact ⟨0, _, _, _, [], [], [], by omega, rfl, ⟨rfl, rfl, rfl⟩, H5⟩
  case round =>
    clear H5
    obtain ⟨i, D, B, Tr, lD, lB, lT, hi, rfl, ⟨hlD, hlB, hlT⟩, HS0⟩ := hrel
    by_cases hlt : i < N
    · go_wp2_with fail
      refine (next_any T 4 _ HS0.out.tp (by omega)).mono ?_
      rintro e w6 ⟨k0, rfl, hk0, hk1, ht6, hg6, -⟩
      have HS6 := hid (HS0.out.step ht6 hg6)
      obtain ⟨k0, rfl⟩ := Int.eq_ofNat_of_zero_le hk0
      have hk3 : k0 ≤ 3 := by omega
      clear ht6 hg6 HS0 hk0 hk1
      go_wp2_with fail
      rename_i Kx hKx K6 Q6
      go_loopw [7, 8] (fun dv kv wr => ∃ (k : Nat) (d : RH), kv = .int .i64 k ∧ dv = .slice d.A d.n d.c ∧ d.n + k ≤ 3 ∧ d.n ≤ d.c ∧ Hid (RisP N d.l) ∧ Hid (RHok wr (exS T w.heap.size bS D B Tr) d) ∧ Hid (Sg w T bS W N D B Tr lD lB lT wr)) (fun _ kv _ => (intOf kv).toNat)
      case atStart => exact ⟨k0, ⟨none, 0, 0, []⟩, rfl, rfl, by show 0 + k0 ≤ 3; omega, Nat.le_refl _, hid (RisP.nil _), hid ⟨EAt.nil _ _ _, rfl, by show 0 ≤ _; omega⟩, HS6⟩
      case round =>
        clear HS6 hk3
        obtain ⟨k, d, rfl, rfl, hdk, hdc, Hris, Hd, HS⟩ := hrel
        by_cases hpos : 0 < k
        · go_wp2_with fail
          refine (next_any T N _ HS.out.tp (by omega)).mono ?_
          rintro e w7 ⟨q, rfl, hq0, hq1, ht7, hg7, -⟩
          have Hd7 := hid (HS.out.drow Hd.out ht7 hg7)
          have HS7 := hid (HS.out.step ht7 hg7)
          have Hq := hid (And.intro hq0 (show q < N by omega))
          clear ht7 hg7 HS Hd hq0 hq1
          go_wp2_with fail
          refine (insert_any d q (exS T w.heap.size bS D B Tr) _ Hd7.out hdc (by omega) HS7.out.exlt).mono ?_
          rintro e w8 ⟨y, rfl, hyl, hyo, hyc, hb8⟩
          have HS8 := hid (HS7.out.below hb8)
          have Hy := hid hyo
          have Hyr := hid (show RisP N y.l by rw [hyl]; exact insI_ris Hris.out Hq.out.1 Hq.out.2)
          have hyn : y.n + (k - 1) ≤ 3 := by
            have h1 := insI_len d.l q
            have h2 := Hd7.out.len
            have h3 := hyo.len
            rw [hyl] at h3
            omega
          clear hyl hyo hb8 HS7 Hd7
          go_wp2_with fail
          go_roundw
          case rel => exact ⟨k - 1, y, by first | go_num | (congr 1; omega), rfl, hyn, hyc, Hyr, Hy, HS8⟩
          case measure => simp [intOf]; omega
        · obtain rfl : k = 0 := by omega
          clear hpos
          have Hgd := hid (show gD N d from ⟨Hris.out, by omega⟩)
          clear Hris hdk hdc
          obtain ⟨b0, b1, b2, b3⟩ := HS.out.bx.four
          go_wp2_with fail
          refine (refEmpty_any W _ (by omega)).mono ?_
          rintro e w9 ⟨g9, rfl, hg9, hr9, hb9⟩
          rw [len_emp]
          have hb9a := (Below.refl w9.heap.size w9).alloc (Nat.le_refl _) (.cells #[.int .i64 W, .slice (some ⟨g9, 0, none⟩) (Bs.nw W) (Bs.nw W)] 47)
          have HSw := hid (HS.out.below hb9)
          have Hdw := hid (Hd.out.below hb9)
          have HS9 := hid (HSw.out.below hb9a)
          have Hz9 := hid (HS9.out.set (hr9.below hb9a hr9.lt) (Bs.fit_emp W))
          have Hbb9 := hid (Fb.new w9 #[.int .i64 W, .slice (some ⟨g9, 0, none⟩) (Bs.nw W) (Bs.nw W)] 47)
          have Hg9 := hid (grown_of_below hb9a (some T))
          have HbbB := hid (show B.ownBlock ≠ some w9.heap.size from fun e => by
            have := (HSw.out.oB.lt _ e).2
            omega)
          have hbbw : w9.heap.size ≤ w9.heap.size := Nat.le_refl _
          have hTbb : T < w9.heap.size := HSw.out.tp.lt
          clear hr9 hb9 hb9a b0 b1 b2 b3 HS Hd hg9
          go_upto_region 12 with fail
          generalize hbq : w9.heap.size = bb at HbbB Hbb9 hTbb ⊢
          clear hbbw
          have Hbq := hid (show w9.heap.size ≤ bb by omega)
          clear hbq
          generalize w9.alloc (.cells #[.int .i64 W, .slice (some ⟨g9, 0, none⟩) (Bs.nw W) (Bs.nw W)] 47) = w10 at *
          go_wp2_with fail
          refine (next_any T 3 _ HS9.out.tp (by omega)).mono ?_
          rintro e w11 ⟨r, rfl, hr0, hr1, ht11, hg11, -⟩
          have HS11 := hid (HS9.out.step ht11 hg11)
          have Hz11 := hid (HS9.out.zset Hz9.out ht11 hg11)
          have Hg11 := hid (grown_trans Hg9.out hg11)
          have Hbb11 := hid (Hbb9.out.grown hg11 fun e => (Hbb9.out.typ.ne HS9.out.tp.typ (by decide)) (Option.some.inj e))
          clear ht11 hg11 HS9 Hz9 hr1 Hg9 Hbb9
          go_upto_if 39 with fail
          go_cut [] (fun wd => ∃ b : ZH, Hid (Fb wd bb b.cs.toArray 47) ∧ Hid (ZHok wd (exS T w.heap.size bS D B Tr) b) ∧ Hid (gB W b) ∧ Hid (RHok wd (exS T w.heap.size bS D B Tr) d) ∧ Hid (Sg w T bS W N D B Tr lD lB lT wd))
          case first =>
            by_cases h1 : r = 1
            · have t : (r == 1) = true := by simp [h1]
              clear h1
              obtain ⟨b0, b1, b2, b3⟩ := HS11.out.bx.four
              go_wp2_with fail
              refine (set3_any T W _ HS11.out.tp (by omega)).mono ?_
              rintro e w12 ⟨g12, ws, rfl, hf12, hr12, -, ht12, hg12⟩
              have Hg12 := hid (grown_trans Hg11.out hg12)
              have Ht12 := hid ht12
              have Hr12 := hid hr12
              have Hbb12 := hid (Hbb11.out.grown hg12 fun e => (Hbb11.out.typ.ne HS11.out.tp.typ (by decide)) (Option.some.inj e))
              have Hf12 := hid hf12
              clear hr12 ht12 hg12 hf12 HS11 b0 b1 b2 b3
              obtain ⟨x0, x1⟩ := (show Fb w12 bb #[.int .i64 W, .slice (some ⟨g9, 0, none⟩) (Bs.nw W) (Bs.nw W)] 47 from Hbb12.out).two
              have f0 := Hbb12.out.frozen 0
              have f1 := Hbb12.out.frozen 1
              have fl := Hbb12.out.lt
              go_wp2_with fail
              go_meet
              have hne : g12 ≠ bb := Hr12.out.typ.ne Hbb12.out.typ (by decide)
              have hgf := grown_set_new (grown_set_new Hg12.out (p := ⟨bb, 0, none⟩) Hbq.out (.int .i64 W)) (p := ⟨bb, 1, none⟩) Hbq.out (.slice (some ⟨g12, 0, none⟩) (Bs.nw W) (Bs.nw W))
              have htf := (Ht12.out.far (p := ⟨bb, 0, none⟩) hTbb (.int .i64 W)).far (p := ⟨bb, 1, none⟩) hTbb (.slice (some ⟨g12, 0, none⟩) (Bs.nw W) (Bs.nw W))
              have hSf := HSw.out.step htf hgf
              have hrf := (Hr12.out.far (p := ⟨bb, 0, none⟩) hne (.int .i64 W)).far (p := ⟨bb, 1, none⟩) hne (.slice (some ⟨g12, 0, none⟩) (Bs.nw W) (Bs.nw W))
              exact ⟨⟨W, some ⟨g12, 0, none⟩, Bs.nw W, Bs.nw W, ws⟩, hid ((Hbb12.out.set 0 _).set 1 _), hid (hSf.set hrf Hf12.out), hid ⟨rfl, Hf12.out, _, rfl⟩, hid (HSw.out.drow Hdw.out htf hgf), hid hSf⟩
            · have t : (r == 1) = false := by simp [h1]
              clear h1
              go_wp2_with fail
              go_meet
              exact ⟨⟨W, some ⟨g9, 0, none⟩, Bs.nw W, Bs.nw W, Bs.emp W⟩, Hbb11, Hz11, hid ⟨rfl, Bs.fit_emp W, _, rfl⟩, hid (HSw.out.drow Hdw.out HS11.out.tp Hg11.out), HS11⟩
          case rest =>
            obtain ⟨b, Hbb, Hz, Hgb, Hd, HS⟩ := hcut
            clear HS11 Hz11 Hbb11 HSw Hdw Hg11 Hbq hTbb
            go_upto_region 14 with fail
            generalize wc = w1 at *
            have HL := hid (And.intro hlD (And.intro hlB hlT))
            have hl1 : lD.length < N := by omega
            have hl2 : lB.length < N := by omega
            have hl3 : lT.length < N := by omega
            clear hlD hlB hlT
            refine wp_region_factsG (sgG bS D B Tr lD lB lT) (sgF w1 T bS W D B Tr lD lB lT d b) (SgB w w1 T bS W D B Tr bb b) sgU (fun j u u' => Stp1 (tyO j) u u') Kx (fun _ _ h => h) 24 19 [some 44, some 45, some 46, some 47, some 48, some 49, some 50, some 51, some 52, some 53, some 54, some 55, some 56, some 57, some 58, some 59, some 60, some 61, some 62, none, some 63, none, some 64, none] (by kernel_rfl) (by kernel_rfl) (by kernel_rfl) (by kernel_rfl) (by kernel_rfl) (by kernel_rfl) (by decide)
              sgF_st ?bs ?gs sgG_st ?ar ?en
            case bs => exact (HS.out.sgB Hbb.out).below (Below.refl _ _).drew
            case gs => exact (HS.out.below (Below.refl _ _).drew).sgG
            case ar =>
              intro j o f u ho hi hB hGi hpre K hK
              match j, ho, hpre, hK with
              | 0, ho, hpre, hK =>
                obtain rfl := Option.some.inj ho
                refine wpOp_step rfl fun K' hK' => ?_
                simp only [putL, updV]
                go_simp
                have hz := hK' _ _ (hK (.pointer (some ⟨bS, 1, none⟩)) (u) (hB) (Stp1.refl _ _) (rfl))
                refine Eq.mp (congrArg (fun a => K' a (u)) ?_) hz
                kernel_rfl
              | 1, ho, hpre, hK =>
                obtain rfl := Option.some.inj ho
                obtain ⟨c0, c1, c2, c3⟩ := hB.bx.four
                have hlt := hB.bx.lt
                have e0 : f 0 = .pointer (some ⟨bS, 1, none⟩) := hpre ⟨0, .data⟩ (by simp) rfl (.inl rfl)
                obtain ⟨f, rfl⟩ := fixG f 0 _ e0
                clear e0
                refine wpOp_step rfl fun K' hK' => ?_
                simp only [putL, updV]
                go_simp
                have hz := hK' _ _ (hK (D) (u) (hB) (Stp1.refl _ _) (rfl))
                refine Eq.mp (congrArg (fun a => K' a (u)) ?_) hz
                kernel_rfl
              | 2, ho, hpre, hK =>
                obtain rfl := Option.some.inj ho
                refine wpOp_step rfl fun K' hK' => ?_
                simp only [putL, updV]
                go_simp
                have hz := hK' _ _ (hK (.slice d.A d.n d.c) (u) (hB) (Stp1.refl _ _) (rfl))
                refine Eq.mp (congrArg (fun a => K' a (u)) ?_) hz
                kernel_rfl
              | 3, ho, hpre, hK =>
                obtain rfl := Option.some.inj ho
                have e2 : f 2 = .slice d.A d.n d.c := hpre ⟨2, .data⟩ (by simp) rfl (.inl rfl)
                obtain ⟨f, rfl⟩ := fixG f 2 _ e2
                clear e2
                have hbw := (Below.refl u.heap.size u).alloc (Nat.le_refl _) (.cells #[.slice d.A d.n d.c] 22)
                refine wpOp_step rfl fun K' hK' => ?_
                simp only [putL, updV]
                go_simp
                have hz := hK' _ _ (hK (.slice (some ⟨u.heap.size, 0, none⟩) 1 1) (u.alloc (.cells #[.slice d.A d.n d.c] 22)) (hB.below hbw) (Stp1.below hbw) (⟨_, rfl, Fb.new _ _ _⟩))
                refine Eq.mp (congrArg (fun a => K' a (u.alloc (.cells #[.slice d.A d.n d.c] 22))) ?_) hz
                kernel_rfl
              | 4, ho, hpre, hK =>
                obtain rfl := Option.some.inj ho
                have e1 : f 1 = D := hpre ⟨1, .data⟩ (by simp) rfl (.inl rfl)
                obtain ⟨g, e3, hf⟩ : ∃ g, f 3 = .slice (some ⟨g, 0, none⟩) 1 1 ∧ Fb u g (lhc d).toArray 22 := hpre ⟨3, .data⟩ (by simp) rfl (.inr rfl)
                have ho : u.ownsRow (bS + 1) 22 1 D lD.length (lD.flatMap lhc) := hGi
                have hbb : D.ownBlock ≠ some bb := (by rcases own_noteq ho hB.bb.typ (by decide) with h | h; (rw [h]; simp); exact h)
                have hsz := hB.bx.lt
                obtain ⟨f, rfl⟩ := fixG f 1 _ e1
                rw [updV_ne _ _ (by decide)] at e3
                obtain ⟨f, rfl⟩ := fixG f 3 _ e3
                clear e1 e3
                refine wpOp_step rfl fun K' hK' => ?_
                refine step_append_lies _ rfl (.tmp 45) (.tmp 47) 23 rfl (bS + 1) 22 iD _ 1 24 Try.underlying23 HD.out HD0.out HD1.out HD2.out rfl (by decide) D lD.length (lD.flatMap lhc) (by kernel_rfl) ho ⟨g, 0, none⟩ 1 1 (lhc d) (by kernel_rfl) rfl (fun j x hx => World.news_of_block hf j x hx) (one_lhc d) (by omega) (by unfold maxLen; omega) (by omega) (by omega) _ rfl ?_
                intro g9 q9 w9 hown hgr hat _
                have hB9 := hB.app HS.out (.inl rfl) ho hbb hgr
                have hR9 : Stp1 (tyO 4) u w9 := ⟨_, hgr, fun g e => own_typ ho e⟩
                have hn9 := hat.imp (fun e => e) (fun e => show w1.heap.size ≤ g9 by rw [e]; exact hB.gx.size)
                have hz := hK' _ _ (hK (.slice (some ⟨g9, 0, none⟩) (lD.length + 1) q9) (w9) (hB9) (hR9) (⟨g9, q9, rfl, hown, hn9⟩))
                refine Eq.mp (congrArg (fun a => K' a (w9)) ?_) hz
                kernel_rfl
              | 5, ho, hpre, hK =>
                obtain rfl := Option.some.inj ho
                refine wpOp_step rfl fun K' hK' => ?_
                simp only [putL, updV]
                go_simp
                have hz := hK' _ _ (hK (.pointer (some ⟨bS, 3, none⟩)) (u) (hB) (Stp1.refl _ _) (rfl))
                refine Eq.mp (congrArg (fun a => K' a (u)) ?_) hz
                kernel_rfl
              | 6, ho, hpre, hK =>
                obtain rfl := Option.some.inj ho
                obtain ⟨c0, c1, c2, c3⟩ := hB.bx.four
                have hlt := hB.bx.lt
                have e5 : f 5 = .pointer (some ⟨bS, 3, none⟩) := hpre ⟨5, .data⟩ (by simp) rfl (.inl rfl)
                obtain ⟨f, rfl⟩ := fixG f 5 _ e5
                clear e5
                refine wpOp_step rfl fun K' hK' => ?_
                simp only [putL, updV]
                go_simp
                have hz := hK' _ _ (hK (B) (u) (hB) (Stp1.refl _ _) (rfl))
                refine Eq.mp (congrArg (fun a => K' a (u)) ?_) hz
                kernel_rfl
              | 7, ho, hpre, hK =>
                obtain rfl := Option.some.inj ho
                obtain ⟨c0, c1⟩ := (show Fb u bb #[.int .i64 b.W, .slice b.A b.n b.c] _ from hB.bb).two
                refine wpOp_step rfl fun K' hK' => ?_
                simp only [putL, updV]
                go_simp
                have hz := hK' _ _ (hK (.agg #[.int .i64 b.W, .slice b.A b.n b.c]) (u) (hB) (Stp1.refl _ _) (rfl))
                refine Eq.mp (congrArg (fun a => K' a (u)) ?_) hz
                kernel_rfl
              | 8, ho, hpre, hK =>
                obtain rfl := Option.some.inj ho
                have e7 : f 7 = .agg #[.int .i64 b.W, .slice b.A b.n b.c] := hpre ⟨7, .data⟩ (by simp) rfl (.inl rfl)
                obtain ⟨f, rfl⟩ := fixG f 7 _ e7
                clear e7
                have hbw := (Below.refl u.heap.size u).alloc (Nat.le_refl _) (.cells #[.int .i64 b.W, .slice b.A b.n b.c] 47)
                refine wpOp_step rfl fun K' hK' => ?_
                simp only [putL, updV]
                go_simp
                have hz := hK' _ _ (hK (.slice (some ⟨u.heap.size, 0, none⟩) 1 1) (u.alloc (.cells #[.int .i64 b.W, .slice b.A b.n b.c] 47)) (hB.below hbw) (Stp1.below hbw) (⟨_, rfl, Fb.new _ _ _⟩))
                refine Eq.mp (congrArg (fun a => K' a (u.alloc (.cells #[.int .i64 b.W, .slice b.A b.n b.c] 47))) ?_) hz
                kernel_rfl
              | 9, ho, hpre, hK =>
                obtain rfl := Option.some.inj ho
                have e6 : f 6 = B := hpre ⟨6, .data⟩ (by simp) rfl (.inl rfl)
                obtain ⟨g, e8, hf⟩ : ∃ g, f 8 = .slice (some ⟨g, 0, none⟩) 1 1 ∧ Fb u g b.cs.toArray 47 := hpre ⟨8, .data⟩ (by simp) rfl (.inr rfl)
                have ho : u.ownsRow (bS + 1) 47 2 B lB.length (lB.flatMap ZH.cs) := hGi
                have hbb : B.ownBlock ≠ some bb := HbbB.out
                have hsz := hB.bx.lt
                obtain ⟨f, rfl⟩ := fixG f 6 _ e6
                rw [updV_ne _ _ (by decide)] at e8
                obtain ⟨f, rfl⟩ := fixG f 8 _ e8
                clear e6 e8
                refine wpOp_step rfl fun K' hK' => ?_
                refine step_append_lies _ rfl (.tmp 50) (.tmp 52) 25 rfl (bS + 1) 47 iB _ 2 32 Try.underlying25 HB.out HB0.out HB1.out HB2.out rfl (by decide) B lB.length (lB.flatMap ZH.cs) (by kernel_rfl) ho ⟨g, 0, none⟩ 1 1 (b.cs) (by kernel_rfl) rfl (fun j x hx => World.news_of_block hf j x hx) (one_zcs b) (by omega) (by unfold maxLen; omega) (by omega) (by omega) _ rfl ?_
                intro g9 q9 w9 hown hgr hat _
                have hB9 := hB.app HS.out (.inr (.inl rfl)) ho hbb hgr
                have hR9 : Stp1 (tyO 9) u w9 := ⟨_, hgr, fun g e => own_typ ho e⟩
                have hn9 := hat.imp (fun e => e) (fun e => show w1.heap.size ≤ g9 by rw [e]; exact hB.gx.size)
                have hz := hK' _ _ (hK (.slice (some ⟨g9, 0, none⟩) (lB.length + 1) q9) (w9) (hB9) (hR9) (⟨g9, q9, rfl, hown, hn9⟩))
                refine Eq.mp (congrArg (fun a => K' a (w9)) ?_) hz
                kernel_rfl
              | 10, ho, hpre, hK =>
                obtain rfl := Option.some.inj ho
                refine wpOp_step rfl fun K' hK' => ?_
                simp only [putL, updV]
                go_simp
                have hz := hK' _ _ (hK (.pointer (some ⟨bS, 2, none⟩)) (u) (hB) (Stp1.refl _ _) (rfl))
                refine Eq.mp (congrArg (fun a => K' a (u)) ?_) hz
                kernel_rfl
              | 11, ho, hpre, hK =>
                obtain rfl := Option.some.inj ho
                obtain ⟨c0, c1, c2, c3⟩ := hB.bx.four
                have hlt := hB.bx.lt
                have e10 : f 10 = .pointer (some ⟨bS, 2, none⟩) := hpre ⟨10, .data⟩ (by simp) rfl (.inl rfl)
                obtain ⟨f, rfl⟩ := fixG f 10 _ e10
                clear e10
                refine wpOp_step rfl fun K' hK' => ?_
                simp only [putL, updV]
                go_simp
                have hz := hK' _ _ (hK (Tr) (u) (hB) (Stp1.refl _ _) (rfl))
                refine Eq.mp (congrArg (fun a => K' a (u)) ?_) hz
                kernel_rfl
              | 12, ho, hpre, hK =>
                obtain rfl := Option.some.inj ho
                refine wpOp_step rfl fun K' hK' => ?_
                simp only [putL, updV]
                go_simp
                have hz := hK' _ _ (hK (.pointer (some ⟨T, 0, none⟩)) (u) (hB) (Stp1.refl _ _) (rfl))
                refine Eq.mp (congrArg (fun a => K' a (u)) ?_) hz
                kernel_rfl
              | 13, ho, hpre, hK =>
                obtain rfl := Option.some.inj ho
                refine wpOp_step rfl fun K' hK' => ?_
                simp only [putL, updV]
                go_simp
                have hz := hK' _ _ (hK (.pointer (some ⟨bS, 0, none⟩)) (u) (hB) (Stp1.refl _ _) (rfl))
                refine Eq.mp (congrArg (fun a => K' a (u)) ?_) hz
                kernel_rfl
              | 14, ho, hpre, hK =>
                obtain rfl := Option.some.inj ho
                obtain ⟨c0, c1, c2, c3⟩ := hB.bx.four
                have hlt := hB.bx.lt
                have e13 : f 13 = .pointer (some ⟨bS, 0, none⟩) := hpre ⟨13, .data⟩ (by simp) rfl (.inl rfl)
                obtain ⟨f, rfl⟩ := fixG f 13 _ e13
                clear e13
                refine wpOp_step rfl fun K' hK' => ?_
                simp only [putL, updV]
                go_simp
                have hz := hK' _ _ (hK (.int .i64 (W : Int)) (u) (hB) (Stp1.refl _ _) (rfl))
                refine Eq.mp (congrArg (fun a => K' a (u)) ?_) hz
                kernel_rfl
              | 15, ho, hpre, hK =>
                obtain rfl := Option.some.inj ho
                have e12 : f 12 = .pointer (some ⟨T, 0, none⟩) := hpre ⟨12, .data⟩ (by simp) rfl (.inl rfl)
                have e14 : f 14 = .int .i64 (W : Int) := hpre ⟨14, .data⟩ (by simp) rfl (.inl rfl)
                obtain ⟨f, rfl⟩ := fixG f 12 _ e12
                rw [updV_ne _ _ (by decide)] at e14
                obtain ⟨f, rfl⟩ := fixG f 14 _ e14
                clear e12 e14
                refine wpOp_step rfl fun K' hK' => ?_
                simp only [putL, updV]
                go_simp
                go_at_call 17
                refine (transfer3_any T W _ hB.tp (by omega)).mono ?_
                rintro e u5 ⟨g1, g2, b0, C, k, q, gs, ks, cs, rfl, ⟨r1, f1, n1⟩, ⟨r2, f2, n2⟩, ⟨o3, -, l3⟩, hv, h12, ht, hg⟩
                have hFt : Ft u5 W ⟨⟨W, some ⟨g1, 0, none⟩, Bs.nw W, Bs.nw W, gs⟩, ⟨W, some ⟨g2, 0, none⟩, Bs.nw W, Bs.nw W, ks⟩, C, k, q, cs⟩ := ⟨⟨g1, rfl, r1⟩, ⟨g2, rfl, r2⟩, ⟨b0, o3⟩, ⟨rfl, f1, rfl⟩, ⟨rfl, f2, rfl⟩, ⟨l3, by show k ≤ 12; omega⟩, hv⟩
                have hB5 := hB.tape HS.out ht hg
                have hR5 : Stp1 (tyO 15) u u5 := ⟨_, hg, fun g e => by obtain rfl := Option.some.inj e; exact hB.tp.typ⟩
                clear r1 f1 n1 r2 f2 n2 o3 l3 hv h12 ht hg
                have hz := hK' _ _ (hK (.agg #[.int .i64 W, .slice (some ⟨g1, 0, none⟩) (Bs.nw W) (Bs.nw W), .int .i64 W, .slice (some ⟨g2, 0, none⟩) (Bs.nw W) (Bs.nw W), .slice C k q]) (u5) (hB5) (hR5) (⟨_, rfl, hFt⟩))
                refine Eq.mp (congrArg (fun a => K' a (u5)) ?_) hz
                kernel_rfl
              | 16, ho, hpre, hK =>
                obtain rfl := Option.some.inj ho
                obtain ⟨F, e15, hF⟩ : ∃ F : FH, f 15 = F.a ∧ Ft u W F := hpre ⟨15, .data⟩ (by simp) rfl (.inl rfl)
                have e15 : f 15 = .agg #[.int .i64 F.G.W, .slice F.G.A F.G.n F.G.c, .int .i64 F.K.W, .slice F.K.A F.K.n F.K.c, .slice F.C F.k F.q] := e15
                obtain ⟨f, rfl⟩ := fixG f 15 _ e15
                clear e15
                have hbw := (Below.refl u.heap.size u).alloc (Nat.le_refl _) (.cells #[.int .i64 F.G.W, .slice F.G.A F.G.n F.G.c, .int .i64 F.K.W, .slice F.K.A F.K.n F.K.c, .slice F.C F.k F.q] 51)
                refine wpOp_step rfl fun K' hK' => ?_
                simp only [putL, updV]
                go_simp
                have hz := hK' _ _ (hK (.slice (some ⟨u.heap.size, 0, none⟩) 1 1) (u.alloc (.cells #[.int .i64 F.G.W, .slice F.G.A F.G.n F.G.c, .int .i64 F.K.W, .slice F.K.A F.K.n F.K.c, .slice F.C F.k F.q] 51)) (hB.below hbw) (Stp1.below hbw) (⟨F, _, rfl, Fb.new _ _ _, (Stp1.below (t := tyO 16) hbw).ft hF (tyO_u 16) (tyO_c 16)⟩))
                refine Eq.mp (congrArg (fun a => K' a (u.alloc (.cells #[.int .i64 F.G.W, .slice F.G.A F.G.n F.G.c, .int .i64 F.K.W, .slice F.K.A F.K.n F.K.c, .slice F.C F.k F.q] 51))) ?_) hz
                kernel_rfl
              | 17, ho, hpre, hK =>
                obtain rfl := Option.some.inj ho
                have e11 : f 11 = Tr := hpre ⟨11, .data⟩ (by simp) rfl (.inl rfl)
                obtain ⟨F, g, e16, hf, hF⟩ : ∃ (F : FH) (g : Nat), f 16 = .slice (some ⟨g, 0, none⟩) 1 1 ∧ Fb u g F.cells.toArray 51 ∧ Ft u W F := hpre ⟨16, .data⟩ (by simp) rfl (.inr rfl)
                have ho : u.ownsRow (bS + 1) 51 5 Tr lT.length (lT.flatMap FH.cells) := hGi
                have hbb : Tr.ownBlock ≠ some bb := (by rcases own_noteq ho hB.bb.typ (by decide) with h | h; (rw [h]; simp); exact h)
                have hsz := hB.bx.lt
                obtain ⟨f, rfl⟩ := fixG f 11 _ e11
                rw [updV_ne _ _ (by decide)] at e16
                obtain ⟨f, rfl⟩ := fixG f 16 _ e16
                clear e11 e16
                refine wpOp_step rfl fun K' hK' => ?_
                refine step_append_lies _ rfl (.tmp 55) (.tmp 60) 24 rfl (bS + 1) 51 iT _ 5 88 Try.underlying24 HT.out HT0.out HT1.out HT2.out rfl (by decide) Tr lT.length (lT.flatMap FH.cells) (by kernel_rfl) ho ⟨g, 0, none⟩ 1 1 (F.cells) (by kernel_rfl) rfl (fun j x hx => World.news_of_block hf j x hx) (one_fcells F) (by omega) (by unfold maxLen; omega) (by omega) (by omega) _ rfl ?_
                intro g9 q9 w9 hown hgr hat _
                have hB9 := hB.app HS.out (.inr (.inr rfl)) ho hbb hgr
                have hR9 : Stp1 (tyO 17) u w9 := ⟨_, hgr, fun g e => own_typ ho e⟩
                have hn9 := hat.imp (fun e => e) (fun e => show w1.heap.size ≤ g9 by rw [e]; exact hB.gx.size)
                have hz := hK' _ _ (hK (.slice (some ⟨g9, 0, none⟩) (lT.length + 1) q9) (w9) (hB9) (hR9) (⟨F, g9, q9, rfl, hown, hn9, hR9.ft hF (tyO_u 17) (tyO_c 17)⟩))
                refine Eq.mp (congrArg (fun a => K' a (w9)) ?_) hz
                kernel_rfl
              | 18, ho, hpre, hK =>
                obtain rfl := Option.some.inj ho
                refine wpOp_step rfl fun K' hK' => ?_
                simp only [putL, updV]
                go_simp
                have hz := hK' _ _ (hK (.pointer (some ⟨bS, 1, none⟩)) (u) (hB) (Stp1.refl _ _) (rfl))
                refine Eq.mp (congrArg (fun a => K' a (u)) ?_) hz
                kernel_rfl
              | j + 19, ho, hpre, hK => exact absurd hi (by omega)
            case en =>
              intro Q2 hQ2 f u hB hF
              obtain ⟨g1, q1, e4, o1, n1⟩ : ∃ g q, f 4 = .slice (some ⟨g, 0, none⟩) (lD.length + 1) q ∧ u.ownsRow (bS + 1) 22 1 (.slice (some ⟨g, 0, none⟩) (lD.length + 1) q) (lD.length + 1) (lD.flatMap lhc ++ lhc d) ∧ (D.ownBlock = some g ∨ w1.heap.size ≤ g) := hF 4 (by decide) rfl
              obtain ⟨g2, q2, e9, o2, n2⟩ : ∃ g q, f 9 = .slice (some ⟨g, 0, none⟩) (lB.length + 1) q ∧ u.ownsRow (bS + 1) 47 2 (.slice (some ⟨g, 0, none⟩) (lB.length + 1) q) (lB.length + 1) (lB.flatMap ZH.cs ++ b.cs) ∧ (B.ownBlock = some g ∨ w1.heap.size ≤ g) := hF 9 (by decide) rfl
              obtain ⟨F, g3, q3, e17, o3, n3, hFt⟩ : ∃ (F : FH) (g q : Nat), f 17 = .slice (some ⟨g, 0, none⟩) (lT.length + 1) q ∧ u.ownsRow (bS + 1) 51 5 (.slice (some ⟨g, 0, none⟩) (lT.length + 1) q) (lT.length + 1) (lT.flatMap FH.cells ++ F.cells) ∧ (Tr.ownBlock = some g ∨ w1.heap.size ≤ g) ∧ Ft u W F := hF 17 (by decide) rfl
              have e18 : f 18 = .pointer (some ⟨bS, 1, none⟩) := hF 18 (by decide) rfl
              have HSn := hid (hB.done HS.out Hd.out Hz.out Hgd.out Hgb.out o1 n1 o2 n2 o3 n3 hFt)
              clear hF o1 n1 o2 n2 o3 n3 hFt
              show wpAny _ _ _ _ 5 (tailArr 24 19) _ _
              refine wpAny_inv (TlI (.slice (some ⟨g1, 0, none⟩) (lD.length + 1) q1) (.slice (some ⟨g2, 0, none⟩) (lB.length + 1) q2) (.slice (some ⟨g3, 0, none⟩) (lT.length + 1) q3) bS u) [some 44, some 45, some 46, some 47, some 48, some 49, some 50, some 51, some 52, some 53, some 54, some 55, some 56, some 57, some 58, some 59, some 60, some 61, some 62, none, some 63, none, some 64, none] _ (by kernel_rfl) (by kernel_rfl) (by kernel_rfl) ?hs ?he 5 (tailArr 24 19) f u (by kernel_rfl) ⟨by decide, e4, e9, e17, fun _ => e18, fun h => absurd h (by decide), fun h => absurd h (by decide), fun h => absurd h (by decide), fun h => absurd h (by decide), fun _ => rfl, fun h => absurd h (by decide), fun h => absurd h (by decide), fun h => absurd h (by decide)⟩ (by kernel_rfl)
              case hs =>
                clear HSn
                intro j o L f u' ho hL hdep hI K hK
                match j, ho, hL, hdep, hK with
                | 0, ho, hL, hdep, hK => exact absurd (hI.pre 0 (by decide)) (by rw [hL]; decide)
                | 1, ho, hL, hdep, hK => exact absurd (hI.pre 1 (by decide)) (by rw [hL]; decide)
                | 2, ho, hL, hdep, hK => exact absurd (hI.pre 2 (by decide)) (by rw [hL]; decide)
                | 3, ho, hL, hdep, hK => exact absurd (hI.pre 3 (by decide)) (by rw [hL]; decide)
                | 4, ho, hL, hdep, hK => exact absurd (hI.pre 4 (by decide)) (by rw [hL]; decide)
                | 5, ho, hL, hdep, hK => exact absurd (hI.pre 5 (by decide)) (by rw [hL]; decide)
                | 6, ho, hL, hdep, hK => exact absurd (hI.pre 6 (by decide)) (by rw [hL]; decide)
                | 7, ho, hL, hdep, hK => exact absurd (hI.pre 7 (by decide)) (by rw [hL]; decide)
                | 8, ho, hL, hdep, hK => exact absurd (hI.pre 8 (by decide)) (by rw [hL]; decide)
                | 9, ho, hL, hdep, hK => exact absurd (hI.pre 9 (by decide)) (by rw [hL]; decide)
                | 10, ho, hL, hdep, hK => exact absurd (hI.pre 10 (by decide)) (by rw [hL]; decide)
                | 11, ho, hL, hdep, hK => exact absurd (hI.pre 11 (by decide)) (by rw [hL]; decide)
                | 12, ho, hL, hdep, hK => exact absurd (hI.pre 12 (by decide)) (by rw [hL]; decide)
                | 13, ho, hL, hdep, hK => exact absurd (hI.pre 13 (by decide)) (by rw [hL]; decide)
                | 14, ho, hL, hdep, hK => exact absurd (hI.pre 14 (by decide)) (by rw [hL]; decide)
                | 15, ho, hL, hdep, hK => exact absurd (hI.pre 15 (by decide)) (by rw [hL]; decide)
                | 16, ho, hL, hdep, hK => exact absurd (hI.pre 16 (by decide)) (by rw [hL]; decide)
                | 17, ho, hL, hdep, hK => exact absurd (hI.pre 17 (by decide)) (by rw [hL]; decide)
                | 18, ho, hL, hdep, hK => exact absurd (hI.pre 18 (by decide)) (by rw [hL]; decide)
                | 19, ho, hL, hdep, hK =>
                  obtain rfl := Option.some.inj ho
                  have e18 : f 18 = .pointer (some ⟨bS, 1, none⟩) := hI.a18 (hdep ⟨18, .data⟩ (by simp) rfl)
                  have e4 : f 4 = .slice (some ⟨g1, 0, none⟩) (lD.length + 1) q1 := hI.v4
                  obtain ⟨hu, hI9⟩ := hI.op19 hL undef
                  have hu := hu.symm
                  subst hu
                  obtain ⟨f, rfl⟩ := fixG f 18 _ e18
                  rw [updV_ne _ _ (by decide)] at e4
                  obtain ⟨f, rfl⟩ := fixG f 4 _ e4
                  clear e18 e4
                  have c9 := (hB.bx).cell 1
                  have f9 := (hB.bx).frozen 1
                  have l9 := (hB.bx).lt
                  simp only [Array.getElem?_setIfInBounds_ne, ne_eq, Nat.reduceEqDiff, not_false_eq_true, List.getElem?_toArray, List.getElem?_cons_succ, List.getElem?_cons_zero] at c9
                  refine wpOp_step rfl fun K' hK' => ?_
                  simp only [putL, updV]
                  go_simp
                  have hz := hK' _ _ (hK (undef) (u.setCell ⟨bS, 1, none⟩ (.slice (some ⟨g1, 0, none⟩) (lD.length + 1) q1)) (hI9))
                  refine Eq.mp (congrArg (fun a => K' a (u.setCell ⟨bS, 1, none⟩ (.slice (some ⟨g1, 0, none⟩) (lD.length + 1) q1))) ?_) hz
                  kernel_rfl
                | 20, ho, hL, hdep, hK =>
                  obtain rfl := Option.some.inj ho
                  refine wpOp_step rfl fun K' hK' => ?_
                  simp only [putL, updV]
                  go_simp
                  have hz := hK' _ _ (hK (.pointer (some ⟨bS, 3, none⟩)) (u') (hI.op20))
                  refine Eq.mp (congrArg (fun a => K' a (u')) ?_) hz
                  kernel_rfl
                | 21, ho, hL, hdep, hK =>
                  obtain rfl := Option.some.inj ho
                  have e20 : f 20 = .pointer (some ⟨bS, 3, none⟩) := hI.a20 (hdep ⟨20, .data⟩ (by simp) rfl)
                  have e9 : f 9 = .slice (some ⟨g2, 0, none⟩) (lB.length + 1) q2 := hI.v9
                  have l19 : L 19 = true := hdep ⟨19, .chain⟩ (by simp) rfl
                  obtain ⟨hu, hI9⟩ := hI.op21 hL l19 undef
                  have hu := hu.symm
                  subst hu
                  obtain ⟨f, rfl⟩ := fixG f 20 _ e20
                  rw [updV_ne _ _ (by decide)] at e9
                  obtain ⟨f, rfl⟩ := fixG f 9 _ e9
                  clear e20 e9
                  have c9 := (hB.bx.set 1 (.slice (some ⟨g1, 0, none⟩) (lD.length + 1) q1)).cell 3
                  have f9 := (hB.bx.set 1 (.slice (some ⟨g1, 0, none⟩) (lD.length + 1) q1)).frozen 3
                  have l9 := (hB.bx.set 1 (.slice (some ⟨g1, 0, none⟩) (lD.length + 1) q1)).lt
                  simp only [Array.getElem?_setIfInBounds_ne, ne_eq, Nat.reduceEqDiff, not_false_eq_true, List.getElem?_toArray, List.getElem?_cons_succ, List.getElem?_cons_zero] at c9
                  refine wpOp_step rfl fun K' hK' => ?_
                  simp only [putL, updV]
                  go_simp
                  have hz := hK' _ _ (hK (undef) (((u.setCell ⟨bS, 1, none⟩ (.slice (some ⟨g1, 0, none⟩) (lD.length + 1) q1))).setCell ⟨bS, 3, none⟩ (.slice (some ⟨g2, 0, none⟩) (lB.length + 1) q2)) (hI9))
                  refine Eq.mp (congrArg (fun a => K' a (((u.setCell ⟨bS, 1, none⟩ (.slice (some ⟨g1, 0, none⟩) (lD.length + 1) q1))).setCell ⟨bS, 3, none⟩ (.slice (some ⟨g2, 0, none⟩) (lB.length + 1) q2))) ?_) hz
                  kernel_rfl
                | 22, ho, hL, hdep, hK =>
                  obtain rfl := Option.some.inj ho
                  refine wpOp_step rfl fun K' hK' => ?_
                  simp only [putL, updV]
                  go_simp
                  have hz := hK' _ _ (hK (.pointer (some ⟨bS, 2, none⟩)) (u') (hI.op22))
                  refine Eq.mp (congrArg (fun a => K' a (u')) ?_) hz
                  kernel_rfl
                | 23, ho, hL, hdep, hK =>
                  obtain rfl := Option.some.inj ho
                  have e22 : f 22 = .pointer (some ⟨bS, 2, none⟩) := hI.a22 (hdep ⟨22, .data⟩ (by simp) rfl)
                  have e17 : f 17 = .slice (some ⟨g3, 0, none⟩) (lT.length + 1) q3 := hI.v17
                  have l21 : L 21 = true := hdep ⟨21, .chain⟩ (by simp) rfl
                  obtain ⟨hu, hI9⟩ := hI.op23 hL l21 undef
                  have hu := hu.symm
                  subst hu
                  obtain ⟨f, rfl⟩ := fixG f 22 _ e22
                  rw [updV_ne _ _ (by decide)] at e17
                  obtain ⟨f, rfl⟩ := fixG f 17 _ e17
                  clear e22 e17
                  have c9 := ((hB.bx.set 1 (.slice (some ⟨g1, 0, none⟩) (lD.length + 1) q1)).set 3 (.slice (some ⟨g2, 0, none⟩) (lB.length + 1) q2)).cell 2
                  have f9 := ((hB.bx.set 1 (.slice (some ⟨g1, 0, none⟩) (lD.length + 1) q1)).set 3 (.slice (some ⟨g2, 0, none⟩) (lB.length + 1) q2)).frozen 2
                  have l9 := ((hB.bx.set 1 (.slice (some ⟨g1, 0, none⟩) (lD.length + 1) q1)).set 3 (.slice (some ⟨g2, 0, none⟩) (lB.length + 1) q2)).lt
                  simp only [Array.getElem?_setIfInBounds_ne, ne_eq, Nat.reduceEqDiff, not_false_eq_true, List.getElem?_toArray, List.getElem?_cons_succ, List.getElem?_cons_zero] at c9
                  refine wpOp_step rfl fun K' hK' => ?_
                  simp only [putL, updV]
                  go_simp
                  have hz := hK' _ _ (hK (undef) ((((u.setCell ⟨bS, 1, none⟩ (.slice (some ⟨g1, 0, none⟩) (lD.length + 1) q1)).setCell ⟨bS, 3, none⟩ (.slice (some ⟨g2, 0, none⟩) (lB.length + 1) q2))).setCell ⟨bS, 2, none⟩ (.slice (some ⟨g3, 0, none⟩) (lT.length + 1) q3)) (hI9))
                  refine Eq.mp (congrArg (fun a => K' a ((((u.setCell ⟨bS, 1, none⟩ (.slice (some ⟨g1, 0, none⟩) (lD.length + 1) q1)).setCell ⟨bS, 3, none⟩ (.slice (some ⟨g2, 0, none⟩) (lB.length + 1) q2))).setCell ⟨bS, 2, none⟩ (.slice (some ⟨g3, 0, none⟩) (lT.length + 1) q3))) ?_) hz
                  kernel_rfl
                | j + 24, ho, hL, hdep, hK => exact absurd (Array.getElem?_eq_some_iff.1 ho).1 (by simp)
              case he =>
                intro L f u' hall hI
                have hu := hI.w3 (hall 23 (by decide))
                subst hu
                clear hI hall hB e4 e9 e17 e18
                refine hQ2 _ _ ?_
                simp only [putL]
                go_simp
                refine hKx _ _ ?_
                obtain ⟨hlD, hlB, hlT⟩ := HL.out
                subst hlD
                have HN := hid (show (lD ++ [d]).length = lD.length + 1 ∧ (lB ++ [b]).length = lD.length + 1 ∧ (lT ++ [F]).length = lD.length + 1 from ⟨by simp, by simp [hlB], by simp [hlT]⟩)
                clear hlB hlT
                go_wp2_with fail
                go_roundw
                case rel => exact ⟨lD.length + 1, _, _, _, lD ++ [d], lB ++ [b], lT ++ [F], by omega, by go_num, HN.out, HSn⟩
                case measure => simp [intOf]; omega
    · obtain rfl : i = N := by omega
      obtain ⟨b0, b1, b2, b3⟩ := HS0.out.bx.four
      obtain ⟨r0, r1, r2, r3⟩ := HS0.out.rx.four
      have f0 := HS0.out.rx.frozen 0
      have f1 := HS0.out.rx.frozen 1
      have f2 := HS0.out.rx.frozen 2
      have f3 := HS0.out.rx.frozen 3
      have hlr := HS0.out.rx.lt
      obtain ⟨A1, c1, e1⟩ := own_slice3 HS0.out.oD
      obtain ⟨A2, c2, e2⟩ := own_slice3 HS0.out.oB
      obtain ⟨A3, c3, e3⟩ := own_slice3 HS0.out.oT
      rw [hlD] at e1
      rw [hlB] at e2
      rw [hlT] at e3
      subst e1
      subst e2
      subst e3
      have Hfin := hid (HS0.out.fin hlD hlB hlT hW4 hN1 hNn hn)
      clear hlD hlB hlT
      go_wp2_with fail
      refine bodyPost_ret (v := .agg #[.int .i64 W, .slice A1 i c1, .slice A3 i c3, .slice A2 i c2]) (by simp [results, Try.results5, go_sem, b0, b1, b2, b3, r0, r1, r2, r3]) rfl ?_
      exact Hfin.out
end Go.Proofs.Ytadkjnjibefocaa

namespace Go.Proofs.Ytadkjnjibefocaa
set_option maxRecDepth 20000
set_option linter.unusedVariables false
set_option linter.unusedSimpArgs false
open Go.Joins Go.ChangeShapes Go.WideShapes Go.ChangeAt Go.RowKit Go.Deep

theorem eat_nil {w : World} {A : Option Addr} {xs : List Value} (h : At w w.heap.size A xs) : EAt w [] A xs := by
  rcases h with h | ⟨ad, e, hb, hc⟩
  · exact .inl h
  · exact .inr ⟨ad, e, ⟨hb, by simp⟩, hc⟩
theorem zh_of {w : World} {A : Option Addr} {n : Nat} {ws : List Nat} (h : Arg w A n ws) (W : Int) (c : Nat) : ZHok w [] ⟨W, A, n, c, ws⟩ := ⟨eat_nil h.lies, h.len, h.ok⟩
theorem fh_of {w : World} {A B C : Option Addr} {n m k : Nat} {gs ks : List Nat} {cs : List (Int × Int)} (h : FArg w A n B m C k gs ks cs) (W V : Int) (c d q : Nat) : FHok w [] ⟨⟨W, A, n, c, gs⟩, ⟨V, B, m, d, ks⟩, C, k, q, cs⟩ :=
  ⟨zh_of h.1 W c, zh_of h.2 V d, eat_nil h.3.lies, h.3.len⟩
section
variable {H : Type} {enc : TypeId × Value → H} {w : World} {base : Nat} {spare : Nat → Bool} {held : Bool}
theorem open_intsT {fuel : Nat} {v : Value} {x : DataW H × List MemPlace} (h : DataW.trod enc Try.prog w base spare held fuel 22 [v] = some x) :
    ∃ y : RH, v = y.v ∧ RHok w [] y ∧ y.n ≤ maxLen := by
  rcases open_ints Try.underlying22 Try.underlying3 cells3 h with ⟨hcs, _⟩ | ⟨x, l, c', zs, hcs, _, hl, hm, hz, _, hcell, hwz⟩
  · simp at hcs
    exact ⟨⟨none, 0, 0, []⟩, hcs, ⟨.inl rfl, rfl, by show 0 ≤ _; omega⟩, by simp [maxLen]⟩
  · simp at hcs
    have hle : l ≤ zs.length := by rw [hz]; split <;> omega
    refine ⟨⟨some x, l, c', zs.take l⟩, hcs, ⟨?_, by show (zs.take l).length = l; rw [List.length_take]; omega, by show l ≤ _; unfold maxLen at hm; omega⟩, Nat.le_trans hl hm⟩
    by_cases h0 : l = 0
    · subst h0; exact .inl rfl
    · refine .inr ⟨x, rfl, ⟨?_, by simp⟩, fun j u hu => ?_⟩
      · have := cell_in (hcell 0 (by omega)); rwa [add_block] at this
      · unfold ints at hu
        rw [List.getElem?_map] at hu
        have hj : j < l := by
          rcases Nat.lt_or_ge j l with h | h
          · exact h
          · rw [List.getElem?_eq_none (by rw [List.length_take]; omega)] at hu; simp at hu
        rw [List.getElem?_take, if_pos hj, List.getElem?_eq_getElem (by omega)] at hu
        have := hcell j (by omega)
        rw [List.getD_eq_getElem?_getD, List.getElem?_eq_getElem (by omega)] at this
        rw [this]; simpa using hu
theorem open_rows {α : Type} {f : α → List Value} {ok : α → Prop} {t e : TypeId} {k : Nat} (ht : Try.prog.underlying t = some (.slice e)) (hk : Try.prog.cellsOf e = k) (hk0 : 0 < k) (hf : ∀ x, (f x).length = k)
    (hopen : ∀ (fuel : Nat) (cs : List Value) (x : DataW H × List MemPlace), cs.length = k → DataW.trod enc Try.prog w base spare held fuel e cs = some x → ∃ y, cs = f y ∧ ok y)
    {fuel : Nat} {v : Value} {x : DataW H × List MemPlace} (h : DataW.trod enc Try.prog w base spare held fuel t [v] = some x) :
    ∃ (A : Option Addr) (n c : Nat) (l : List α), v = .slice A n c ∧ EAt w [] A (l.flatMap f) ∧ l.length = n ∧ n ≤ maxLen ∧ ∀ y ∈ l, ok y := by
  rcases open_slice ht h with ⟨e1, -⟩ | ⟨a, len, cap, m, n, D, Pl, e1, -, hl, hcap, hm, -, hi⟩
  · injection e1 with e1
    exact ⟨none, 0, 0, [], e1, .inl rfl, rfl, by simp [maxLen], by simp⟩
  · injection e1 with e1
    obtain ⟨l, hll, hp⟩ := choose_list (P := fun i (y : α) => (∀ j, j < k → w.cell? (a.add (i * k + j)) = (f y)[j]?) ∧ ok y) len fun i him => by
      have him2 : i < m := by rw [hm]; split <;> omega
      obtain ⟨cs', hc, ht'⟩ := hi i him2
      rw [hk] at hc
      obtain ⟨_, hcl, hat⟩ := World.cells?_some hc
      obtain ⟨y, rfl, hy⟩ := hopen _ _ _ hcl ht'
      refine ⟨y, fun j hj => ?_, hy⟩
      have g0 := hat j (by omega)
      rw [Go.Deep.add_add] at g0
      exact g0
    refine ⟨some a, len, cap, l, e1, ?_, hll, by omega, fun y hy => ?_⟩
    · by_cases h0 : len = 0
      · subst h0
        rw [List.length_eq_zero_iff.1 hll]
        exact .inl rfl
      · refine .inr ⟨a, rfl, ⟨?_, by simp⟩, fun j u hj => ?_⟩
        · have h1 := (hp 0 _ (List.getElem?_eq_getElem (by omega))).1 0 hk0
          rw [List.getElem?_eq_getElem (by rw [hf]; exact hk0)] at h1
          have := cell_in h1
          rwa [add_block] at this
        · obtain ⟨i, x, j, h1, h2, rfl⟩ := flat_at (f := f) (c := k) hf l j u hj
          have hjk : j < k := by have := (List.getElem?_eq_some_iff.1 h2).1; rwa [hf] at this
          rw [(hp i x h1).1 j hjk]; exact h2
    · obtain ⟨i, hi⟩ := List.mem_iff_getElem?.1 hy
      exact (hp i y hi).2
theorem open_systemT {fuel : Nat} {cs : List Value} {x : DataW H × List MemPlace} (h : DataW.trod enc Try.prog w base spare held fuel 27 cs = some x) :
    ∃ s : SY, cs = [.int .i64 s.W, .slice s.D.A s.D.n s.D.c, .slice s.T.A s.T.n s.T.c, .slice s.B.A s.B.n s.B.c] ∧ SYok w [] s := by
  obtain ⟨ys, n', hn', hy, hlen, hyl, hf⟩ := DataW.trod_struct Try.underlying27 h
  rw [show Try.prog.cellsOf 27 = 4 by kernel_rfl] at hlen
  match cs, hlen with
  | [c0, c1, c2, c3], _ =>
    have h0 : DataW.trod enc Try.prog w base spare held n' 3 (([c0, c1, c2, c3].drop 0).take (Try.prog.cellsOf 3)) = ys[0]? := hf 0 _ rfl
    have h1 : DataW.trod enc Try.prog w base spare held n' 23 (([c0, c1, c2, c3].drop 1).take (Try.prog.cellsOf 23)) = ys[1]? := hf 1 _ rfl
    have h2 : DataW.trod enc Try.prog w base spare held n' 24 (([c0, c1, c2, c3].drop 2).take (Try.prog.cellsOf 24)) = ys[2]? := hf 2 _ rfl
    have h3 : DataW.trod enc Try.prog w base spare held n' 25 (([c0, c1, c2, c3].drop 3).take (Try.prog.cellsOf 25)) = ys[3]? := hf 3 _ rfl
    rw [show ys[0]? = some (ys[0]'(by rw [hyl]; decide)) from List.getElem?_eq_getElem _] at h0
    rw [show ys[1]? = some (ys[1]'(by rw [hyl]; decide)) from List.getElem?_eq_getElem _] at h1
    rw [show ys[2]? = some (ys[2]'(by rw [hyl]; decide)) from List.getElem?_eq_getElem _] at h2
    rw [show ys[3]? = some (ys[3]'(by rw [hyl]; decide)) from List.getElem?_eq_getElem _] at h3
    rw [show Try.prog.cellsOf 3 = 1 by kernel_rfl] at h0
    rw [show Try.prog.cellsOf 23 = 1 by kernel_rfl] at h1
    rw [show Try.prog.cellsOf 24 = 1 by kernel_rfl] at h2
    rw [show Try.prog.cellsOf 25 = 1 by kernel_rfl] at h3
    obtain ⟨z0, e0, -⟩ := DataW.trod_int Try.underlying3 h0
    obtain ⟨DA, dn, dc, dl, e1, hD, hDl, hDm, hDo⟩ := open_rows (f := lhc) (ok := fun y => RHok w [] y) Try.underlying23 (k := 1) (by kernel_rfl) (by decide) (fun _ => rfl) (fun fuel cs x hl hx => by
      match cs, hl with
      | [v], _ =>
        obtain ⟨y, e, hy, -⟩ := open_intsT hx
        exact ⟨y, by rw [e]; rfl, hy⟩) h1
    obtain ⟨TA, tn, tc, tl, e2, hT, hTl, hTm, hTo⟩ := open_rows (f := FH.cells) (ok := fun y => FHok w [] y) Try.underlying24 (k := 5) (by kernel_rfl) (by decide) FH.cells_len (fun fuel cs x _ hx => by
      obtain ⟨W, V, A, B, C, n, c, m, d, k, q, gs, ks, ps, e, hF⟩ := open_transferT hx
      exact ⟨⟨⟨W, A, n, c, gs⟩, ⟨V, B, m, d, ks⟩, C, k, q, ps⟩, e, fh_of hF W V c d q⟩) h2
    obtain ⟨BA, bn, bc, bl, e3, hB, hBl, hBm, hBo⟩ := open_rows (f := ZH.cs) (ok := fun y => ZHok w [] y) Try.underlying25 (k := 2) (by kernel_rfl) (by decide) ZH.cs_len (fun fuel cs x _ hx => by
      obtain ⟨W, A, n, c, ws, e, hA, -⟩ := open_setT hx
      exact ⟨⟨W, A, n, c, ws⟩, e, zh_of hA W c⟩) h3
    rw [flat_lhc] at hD
    simp at e0
    subst e0; subst e1; subst e2; subst e3
    unfold maxLen at hDm hTm hBm
    exact ⟨⟨z0, ⟨DA, dn, dc, dl⟩, ⟨TA, tn, tc, tl⟩, ⟨BA, bn, bc, bl⟩⟩, rfl, ⟨hD, hDl, by show dn ≤ _; omega, hDo⟩, ⟨hT, hTl, by show tn ≤ _; omega, hTo⟩, ⟨hB, hBl, by show bn ≤ _; omega, hBo⟩⟩
theorem open_system {r : Reach} {b0 : Nat} {v : Value} {d : DataW H} {p : List MemPlace} (hv : Value.okWide Try.prog w r b0 27 v) (h : DataW.Trod enc Try.prog w base spare held 27 v d p) :
    ∃ s : SY, v = s.a ∧ SYok w [] s := by
  obtain ⟨cs, rfl, hsz⟩ := okWide_struct Try.underlying27 hv
  obtain ⟨fuel, hf⟩ := h
  obtain ⟨s, e, hs⟩ := open_systemT hf
  refine ⟨s, ?_, hs⟩
  obtain ⟨l⟩ := cs
  simp [Value.cells] at e
  rw [e]; rfl
theorem open_listR {b0 : Nat} {v : Value} {d : DataW H} {p : List MemPlace} (hv : Value.okWide Try.prog w .any b0 22 v) (h : DataW.Trod enc Try.prog w base spare held 22 v d p) :
    ∃ y : RH, v = .slice y.A y.n y.c ∧ RHok w [] y := by
  obtain ⟨A, n, c, l, rfl, hA, hm⟩ := open_list hv h
  unfold maxLen at hm
  exact ⟨⟨A, n, c, l⟩, rfl, ⟨eat_nil hA.lies, hA.len, by show n ≤ _; omega⟩⟩
end
end Go.Proofs.Ytadkjnjibefocaa

namespace Go.Proofs.Ytadkjnjibefocaa
set_option maxRecDepth 20000
set_option linter.unusedVariables false
set_option linter.unusedSimpArgs false
open Go.ChangeShapes Go.WideShapes Go.ChangeAt Go.RowKit

/-- A valid system of width v with N unknowns. -/
structure SOk (s : SY) (v N : Nat) : Prop where
  w : s.W = v
  v256 : v ≤ 256
  n1 : 1 ≤ N
  n256 : N ≤ 256
  dn : s.D.n = N
  tn : s.T.n = N
  bn : s.B.n = N
  d : ∀ y ∈ s.D.l, RisP N y.l
  tt : tot s.D.v ≤ 1024
  t : ∀ y ∈ s.T.l, FOk v y
  b : ∀ y ∈ s.B.l, y.W = v ∧ Bs.Fit v y.ws
def SY.arc (s : SY) (m : Int) : Nat × Pf := (m.toNat, ((s.T.l[m.toNat]?).map FH.pf).getD ⟨[], [], []⟩)
/-- The web of values. -/
def SY.pw (s : SY) : PW := ⟨s.W.toNat, s.B.l.map ZH.ws, s.D.l.map fun r => r.l.map s.arc⟩
theorem SY.arc_at {s : SY} {m : Nat} {f : FH} (h : s.T.l[m]? = some f) : s.arc (m : Int) = (m, f.pf) := by unfold SY.arc; rw [Int.toNat_natCast, h]; rfl
def exW (X : List (Option Nat)) (R bW gI : Nat) (Bv Iv : Value) : List (Option Nat) := some bW :: some gI :: some R :: Bv.ownBlock :: Iv.ownBlock :: X
section
variable {X : List (Option Nat)} {w0 w1 u u' : World} {s : SY} {v N bW gI b0 : Nat} {Bv Iv : Value} {lB : List ZH} {done : List AL} {cur : List AH} {ivs : List Value}
theorem wfar {w : World} {v : Value} {ty k n b : Nat} {xs : List Value} (h : w.ownsRow b ty k v n xs) {j : Nat} (hj : j < b) : v.ownBlock = none ∨ v.ownBlock ≠ some j := by
  cases hv : v.ownBlock with
  | none => exact .inl rfl
  | some g => exact .inr fun e => by have := (h.lt g hv).1; have := Option.some.inj e; omega
theorem wne {w : World} {b b' ty ty' k k' n n' : Nat} {v v' : Value} {xs xs' : List Value} (h : w.ownsRow b ty k v n xs) (h' : w.ownsRow b' ty' k' v' n' xs') (ht : ty ≠ ty') : v.ownBlock = none ∨ v.ownBlock ≠ v'.ownBlock := by
  cases hv : v.ownBlock with
  | none => exact .inl rfl
  | some g => exact .inr fun e => (own_typ h hv).ne (own_typ h' e.symm) ht rfl
/-- The lists of blocks before and after an append. -/
theorem exW_go {A B A' B' : Value} (h : GrX w1 (exW X (w0.heap.size + 1) bW gI A B) u) (hA : ∀ k, A'.ownBlock = some k → A.ownBlock = some k ∨ w1.heap.size ≤ k) (hB : ∀ k, B'.ownBlock = some k → B.ownBlock = some k ∨ w1.heap.size ≤ k) : Go2 w1 (exW X (w0.heap.size + 1) bW gI A B) u (exW X (w0.heap.size + 1) bW gI A' B') := h.go fun k hk hm => by
  simp only [exW, List.mem_cons, Option.some.injEq] at hm ⊢
  rcases hm with e | e | e | e | e | e
  · exact .inl e
  · exact .inr (.inl e)
  · exact .inr (.inr (.inl e))
  · rcases hA k e.symm with h | h
    · exact .inr (.inr (.inr (.inl h.symm)))
    · omega
  · rcases hB k e.symm with h | h
    · exact .inr (.inr (.inr (.inr (.inl h.symm))))
    · omega
  · exact .inr (.inr (.inr (.inr (.inr e))))
theorem flat_one {α : Type} (l : List α) (x : α) (f : α → List Value) : (l ++ [x]).flatMap f = l.flatMap f ++ f x := by rw [List.flatMap_append]; simp
end
/-- What the operations of the statement that appends a Boundary set leave. -/
def wbF (ex : Value → List (Option Nat)) (w1 : World) (sx bW b0 : Nat) (s : SY) (Bv : Value) (lB : List ZH) (k : Nat) (ad : Addr) (z : ZH) : Nat → Value → World → Prop
  | 0, v, _ => v = .pointer (some ⟨bW, 1, none⟩)
  | 1, v, _ => v = Bv
  | 2, v, _ => v = .pointer (some ⟨sx, 3, none⟩)
  | 3, v, _ => v = .slice s.B.A s.B.n s.B.c
  | 4, v, _ => v = .int .i64 k
  | 5, v, _ => v = .pointer (some (ad.add (k * 2)))
  | 6, v, _ => v = .agg #[.int .i64 z.W, .slice z.A z.n z.c]
  | 7, v, u => ∃ (A : Option Addr) (c : Nat), v = .agg #[.int .i64 z.W, .slice A z.n c] ∧ EAt u (ex Bv) A (words z.ws)
  | 8, v, u => ∃ (A : Option Addr) (c g : Nat), v = .slice (some ⟨g, 0, none⟩) 1 1 ∧ Fb u g #[.int .i64 z.W, .slice A z.n c] 47 ∧ EAt u (ex Bv) A (words z.ws)
  | 9, v, u => ∃ (A : Option Addr) (c g q : Nat), v = .slice (some ⟨g, 0, none⟩) (lB.length + 1) q ∧ u.ownsRow b0 47 2 (.slice (some ⟨g, 0, none⟩) (lB.length + 1) q) (lB.length + 1) (lB.flatMap ZH.cs ++ [.int .i64 z.W, .slice A z.n c]) ∧ (Bv.ownBlock = some g ∨ w1.heap.size ≤ g) ∧ EAt u (ex (.slice (some ⟨g, 0, none⟩) (lB.length + 1) q)) A (words z.ws)
  | _, _, _ => True
def wbU : Nat → Option Nat
  | 7 => some 8
  | 8 => some 9
  | _ => none
def wbR (Bv : Value) (j : Nat) (u u' : World) : Prop := ∃ row, u.grownBy u' row ∧ (row = none ∨ (j = 9 ∧ row = Bv.ownBlock))
theorem wbR.below {Bv : Value} {j : Nat} {u u' : World} (h : Below u.heap.size u u') : wbR Bv j u u' := ⟨none, grown_of_below h _, .inl rfl⟩
theorem wbR.refl (Bv : Value) (j : Nat) (u : World) : wbR Bv j u u := wbR.below (Below.refl _ _)
theorem wbF_st {ex : Value → List (Option Nat)} {w1 : World} {sx bW b0 : Nat} {s : SY} {Bv : Value} {lB : List ZH} {k : Nat} {ad : Addr} {z : ZH} (hex : ∀ x, x.ownBlock ∈ ex x) (j : Nat) (u u' : World) (i : Nat) (v : Value) (hR : wbR Bv j u u') (hne : i ≠ j) (hu : wbU i ≠ some j) (h : wbF ex w1 sx bW b0 s Bv lB k ad z i v u) : wbF ex w1 sx bW b0 s Bv lB k ad z i v u' := by
  obtain ⟨row, hg, hr⟩ := hR
  have hE : ∀ {A : Option Addr} {xs : List Value}, EAt u (ex Bv) A xs → EAt u' (ex Bv) A xs := fun he => he.go (Go2.same hg (by
    rcases hr with rfl | ⟨_, rfl⟩
    · exact .inl rfl
    · exact .inr (hex Bv)))
  have hN : j ≠ 9 → row = none := fun h9 => by rcases hr with e | ⟨e, _⟩; exact e; exact absurd e h9
  match i, hne, hu, h with
  | 0, _, _, h => exact h
  | 1, _, _, h => exact h
  | 2, _, _, h => exact h
  | 3, _, _, h => exact h
  | 4, _, _, h => exact h
  | 5, _, _, h => exact h
  | 6, _, _, h => exact h
  | 7, _, _, h => obtain ⟨A, c, h1, h2⟩ := h; exact ⟨A, c, h1, hE h2⟩
  | 8, _, hu, h =>
    obtain ⟨A, c, g, h1, h2, h3⟩ := h
    have := hN fun e => hu (by rw [e]; rfl)
    subst this
    exact ⟨A, c, g, h1, h2.grown hg (by simp), hE h3⟩
  | 9, hne, _, h =>
    obtain ⟨A, c, g, q, h1, h2, h3, h4⟩ := h
    have := hN hne.symm
    subst this
    exact ⟨A, c, g, q, h1, h2.kept hg (.inr (by simp [Value.ownBlock])), h3, h4.go (Go2.same hg (.inl rfl))⟩
  | i + 10, _, _, h => trivial
def wbG (b0 : Nat) (Bv Iv : Value) (lB : List ZH) (cur : List AH) : Nat → World → Prop
  | 9, u => u.ownsRow b0 47 2 Bv lB.length (lB.flatMap ZH.cs)
  | _, _ => True
theorem wbG_st {b0 : Nat} {Bv Iv : Value} {lB : List ZH} {cur : List AH} (j : Nat) (u u' : World) (c : Nat) (hR : wbR Bv j u u') (hne : c ≠ j) (h : wbG b0 Bv Iv lB cur c u) : wbG b0 Bv Iv lB cur c u' := by
  by_cases h9 : c = 9
  · subst h9
    obtain ⟨row, hg, hr⟩ := hR
    have : row = none := by rcases hr with e | ⟨e, _⟩; exact e; exact absurd e.symm hne
    subst this
    exact (show u.ownsRow _ _ _ _ _ _ from h).kept hg (by cases Bv.ownBlock <;> simp)
  · unfold wbG; split <;> first | omega | trivial
def waU : Nat → Option Nat
  | 14 => some 15
  | 15 => some 16
  | 16 => some 17
  | _ => none
def waR (Iv : Value) (j : Nat) (u u' : World) : Prop := ∃ row, u.grownBy u' row ∧ (row = none ∨ (j = 17 ∧ row = Iv.ownBlock))
theorem waR.below {Iv : Value} {j : Nat} {u u' : World} (h : Below u.heap.size u u') : waR Iv j u u' := ⟨none, grown_of_below h _, .inl rfl⟩
theorem waR.refl (Iv : Value) (j : Nat) (u : World) : waR Iv j u u := waR.below (Below.refl _ _)
end Go.Proofs.Ytadkjnjibefocaa

namespace Go.Proofs.Ytadkjnjibefocaa
set_option maxRecDepth 20000
set_option linter.unusedVariables false
open Go.ChangeShapes Go.WideShapes Go.ChangeAt Go.RowKit

theorem tot_le {m : Nat} : ∀ {S : List (List Int)}, (∀ l ∈ S, l.length ≤ m) → tot S ≤ S.length * m := by
  intro S
  induction S with
  | nil => intro _; simp [tot]
  | cons l S ih =>
    intro h
    have h1 := h l List.mem_cons_self
    have h2 := ih fun x hx => h x (List.mem_cons_of_mem _ hx)
    have e : tot (l :: S) = l.length + tot S := by simp [tot]
    rw [e, List.length_cons, Nat.succ_mul]
    omega
theorem GSy.ok {s : SY} {v N : Nat} {w : World} {ex : List (Option Nat)} (h : GSy s v N) (hs : SYok w ex s) (hN : N ≤ 100) : SOk s v N := by
  have := h.v4
  refine ⟨h.w, by omega, h.n1, by omega, h.dn, h.tn, h.bn, fun y hy => (h.d y hy).1, ?_, fun y hy => (h.t y hy).1, fun y hy => ⟨(h.b y hy).1, (h.b y hy).2.1⟩⟩
  have h1 : ∀ l ∈ s.D.v, l.length ≤ 3 := fun l hl => by
    obtain ⟨y, hy, rfl⟩ := List.mem_map.1 hl
    rw [(hs.d.all y hy).len]
    exact (h.d y hy).2
  have h2 := tot_le h1
  rw [LH.vlen, hs.d.len, h.dn] at h2
  omega
end Go.Proofs.Ytadkjnjibefocaa

namespace Go.Proofs.Ytadkjnjibefocaa
set_option maxRecDepth 20000
set_option linter.unusedVariables false
set_option linter.unusedSimpArgs false
open Go.ChangeShapes Go.WideShapes Go.ChangeAt Go.RowKit

def RetSpo (w : World) (T : Nat) (e : Ending) (w' : World) : Prop := ∃ q : SY, e = .returned q.a ∧ SYok w' [] q ∧ Tape w' T ∧ w.grownBy w' (some T)
theorem eat_cells {w : World} {ex : List (Option Nat)} {ad : Addr} {xs : List Value} (h : EAt w ex (some ad) xs) : ∀ j u, xs[j]? = some u → w.cell? (ad.add j) = some u := by
  rcases h with rfl | ⟨ad', e, -, hc⟩
  · intro j u hu; simp at hu
  · cases e; exact hc
theorem eat_some {w : World} {ex : List (Option Nat)} {A : Option Addr} {xs : List Value} (h : EAt w ex A xs) (h0 : 0 < xs.length) : ∃ ad, A = some ad := by
  rcases h with rfl | ⟨ad', e, -, hc⟩
  · simp at h0
  · exact ⟨ad', e⟩
theorem below_none {w w' : World} (h : w.grownBy w' none) : Below w.heap.size w w' := (Below.refl w.heap.size w).grown h (Nat.le_refl _) (fun k e => by cases e)
/-- An append to an empty slice: the elements lie in a row of their own. -/
theorem step_grow0 {P : Program} {ops : Array Oper} {o : Oper} {a : Act} {w : World} {K : Act → World → Prop} {Q : Exit → Act → World → Prop} {E : Prop} (hgd : o.guard = none) (s x : Operand) (t : TypeId)
    (ho : o.op = .call { callee := .builtin .append, args := #[s, x], argTypes := #[t, t] })
    (base : Nat) (e : TypeId) (i : TypeInfo) (z : Value) (size bytes : Nat) (ht : P.underlying t = some (.slice e)) (hi : P.info? e = some i) (hz : i.zero = some z)
    (hsize : i.size = size) (hby : i.bytes = bytes) (hzs : z.cells.size = size) (hsz : 0 < size)
    (g0 : Nat) (hs : a.eval s = .slice (some ⟨g0, 0, none⟩) 0 0)
    (ad : Addr) (m c : Nat) (news : List Value) (hx : a.eval x = .slice (some ad) m c) (hl : news.length = m * size) (hnews : ∀ j u, news[j]? = some u → w.cell? (ad.add j) = some u) (h1 : ∀ u ∈ news, u.oneCell' = true)
    (hm : 0 < m) (h63 : m ≤ maxLen) (hbytes : m * bytes ≤ 140737488355328) (hbase : base ≤ w.heap.size)
    (h : ∀ g cap w', w'.ownsRow base e size (.slice (some ⟨g, 0, none⟩) m cap) m news → Below w.heap.size w w' → K (a.put o.dst (.slice (some ⟨g, 0, none⟩) m cap)) w') :
    if Region.wanted o (yielded ops a.tmps) = true then Oper.wp P o a w K Q else E := by
  refine step_append_grows hgd s x t ho e i z size bytes ht hi hz hsize hby hzs hsz (some ⟨g0, 0, none⟩) 0 0 [] hs (by simp) (by simp) (by simp) ad m c news hx hl hnews h1 (by omega) (by omega) (by simpa using hbytes) ?_
  intro v' w' hown hg
  rw [Nat.zero_add, List.nil_append] at hown
  rcases hown.2 with ⟨_, h0⟩ | ⟨g, cap, cur, rfl, hge, r⟩
  · omega
  · exact h g cap w' ⟨hown.1, .inr ⟨g, cap, cur, rfl, Nat.le_trans hbase hge, r⟩⟩ (below_none hg)
/-- The beginning of a block. -/
def XRow (u : World) (g ty : Nat) (xs : List Value) : Prop := ∃ cur : Array Value, Fb u g cur ty ∧ ∀ (j : Nat) (x : Value), xs[j]? = some x → cur[j]? = some x
section
variable {u u' : World} {g ty : Nat} {xs : List Value}
theorem XRow.of {base k n c : Nat} (h : u.ownsRow base ty k (.slice (some ⟨g, 0, none⟩) n c) n xs) : XRow u g ty xs := by
  rcases h.2 with ⟨e, _⟩ | ⟨g', cap, cur, e, _, hg, _, _, _, hx⟩
  · cases e
  · injection e with e1 e2 e3
    injection Option.some.inj e1 with e1
    subst e1
    refine ⟨cur, hg, fun j x hj => ?_⟩
    rw [← hx, List.getElem?_take] at hj
    split at hj
    · simpa using hj
    · cases hj
theorem XRow.set (h : XRow u g ty xs) (k : Nat) (v : Value) (hk : k < xs.length) : XRow (u.setCell ⟨g, k, none⟩ v) g ty (xs.set k v) := by
  obtain ⟨cur, hf, hx⟩ := h
  refine ⟨_, hf.set k v, fun j x hj => ?_⟩
  have hkc : k < cur.size := (Array.getElem?_eq_some_iff.1 (hx k _ (List.getElem?_eq_getElem hk))).1
  by_cases e : j = k
  · subst e
    rw [List.getElem?_set_self hk] at hj
    rw [Array.getElem?_setIfInBounds_self_of_lt hkc]; exact hj
  · rw [List.getElem?_set_ne (Ne.symm e)] at hj
    rw [Array.getElem?_setIfInBounds_ne (Ne.symm e)]
    exact hx j x hj
theorem XRow.cell (h : XRow u g ty xs) {j : Nat} {x : Value} (hj : xs[j]? = some x) : u.cell? ⟨g, j, none⟩ = some x := by obtain ⟨cur, hf, hx⟩ := h; rw [hf.cell]; exact hx j x hj
theorem XRow.frozen (h : XRow u g ty xs) (j : Nat) : u.frozen? ⟨g, j, none⟩ = false := by obtain ⟨cur, hf, hx⟩ := h; exact hf.frozen j
theorem XRow.lt (h : XRow u g ty xs) : g < u.heap.size := by obtain ⟨cur, hf, hx⟩ := h; exact hf.lt
theorem XRow.typ (h : XRow u g ty xs) : Typ u g ty := by obtain ⟨cur, hf, hx⟩ := h; exact hf.typ
theorem XRow.stp {t : Nat} (h : XRow u g ty xs) (hs : Stp1 t u u') (ht : ty ≠ t) : XRow u' g ty xs := by obtain ⟨cur, hf, hx⟩ := h; exact ⟨cur, hs.fb hf ht, hx⟩
theorem XRow.below (h : XRow u g ty xs) (hb : Below u.heap.size u u') : XRow u' g ty xs := by obtain ⟨cur, hf, hx⟩ := h; exact ⟨cur, hf.below hb hf.lt, hx⟩
theorem XRow.grown {row : Option Nat} (h : XRow u g ty xs) (hb : u.grownBy u' row) (hne : some g ≠ row) : XRow u' g ty xs := by obtain ⟨cur, hf, hx⟩ := h; exact ⟨cur, hf.grown hb hne, hx⟩
theorem XRow.eat (h : XRow u g ty xs) {ex : List (Option Nat)} (he : some g ∉ ex) : EAt u ex (some ⟨g, 0, none⟩) xs := by obtain ⟨cur, hf, hx⟩ := h; exact EAt.fb hf he hx
theorem XRow.eat1 (h : XRow u g ty xs) {ex : List (Option Nat)} (he : some g ∉ ex) {a : Value} {ys : List Value} (hx : xs = a :: ys) : EAt u ex (some ⟨g, 1, none⟩) ys := by
  obtain ⟨cur, hf, hc⟩ := h
  refine .inr ⟨_, rfl, ⟨hf.lt, he⟩, fun j x hj => ?_⟩
  have e : (⟨g, 1, none⟩ : Addr).add j = ⟨g, j + 1, none⟩ := by
    unfold Addr.add; split
    · rename_i h0; subst h0; rfl
    · simp [Nat.add_comm]
  rw [e, hf.cell]
  exact hc (j + 1) x (by rw [hx]; simpa using hj)
end
theorem arg_non {w : World} {A : Option Addr} {n g j : Nat} {ws : List Nat} {x : Value} (h : Arg w A n ws) (hc : w.cell? ⟨g, j, none⟩ = some x) (hx : ∀ y : Int, x ≠ .int .u64 y) (z : Value) : Arg (w.setCell ⟨g, j, none⟩ z) A n ws := by
  refine ⟨?_, h.len, h.ok⟩
  rcases h.lies with e | ⟨ad, e, hlt, hcs⟩
  · exact .inl e
  · refine .inr ⟨ad, e, by simpa using hlt, fun i u hu => ?_⟩
    have h1 := hcs i u hu
    have hne : (⟨g, j, none⟩ : Addr) ≠ ad.add i := fun e' => by
      rw [← e', hc] at h1
      have hw : u ∈ words ws := List.mem_of_getElem? hu
      unfold words at hw
      obtain ⟨y, -, hy⟩ := List.mem_map.1 hw
      have := Option.some.inj h1
      rw [← hy] at this
      exact hx _ this
    rw [World.cell?_setCell_other (h := hne)]; exact h1
/-- Words do not lie in a box without words. -/
theorem zh_ex {u : World} {A : Option Addr} {n g t : Nat} {ws : List Nat} {cs : Array Value} (h : Arg u A n ws) (hf : Fb u g cs t) (hc : ∀ (j : Nat) (x : Int), cs[j]? ≠ some (Value.int .u64 x)) (W : Int) (c : Nat) : ZHok u [some g] ⟨W, A, n, c, ws⟩ := by
  refine ⟨?_, h.len, h.ok⟩
  rcases h.lies with e | ⟨ad, e, hlt, hcs⟩
  · exact .inl e
  · cases hw : words ws with
    | nil => exact .inl rfl
    | cons x xs =>
      refine .inr ⟨ad, e, ⟨hlt, fun hm => ?_⟩, fun j y hy => hcs j y (by rw [hw]; exact hy)⟩
      have h1 := hcs 0 x (by rw [hw]; rfl)
      have hx : x ∈ words ws := by rw [hw]; exact List.mem_cons_self
      unfold words at hx
      obtain ⟨y, -, hy⟩ := List.mem_map.1 hx
      have h2 := noU (p := ad.add 0) (x := (y : Int)) hf hc (by rw [h1, ← hy]; rfl)
      rw [add_block] at h2
      simp only [List.mem_cons, List.not_mem_nil, or_false, Option.some.injEq] at hm
      exact h2 hm
def z4 : Array Value := #[.int .i64 0, .slice none 0 0, .slice none 0 0, .slice none 0 0]
theorem z4_no : ∀ (j : Nat) (x : Int), z4[j]? ≠ some (Value.int .u64 x) := by
  intro j x h
  unfold z4 at h
  match j with
  | 0 => simp at h
  | 1 => simp at h
  | 2 => simp at h
  | 3 => simp at h
  | j + 4 => simp at h
theorem flat_setT {l : List FH} {i : Nat} (hil : i < l.length) (f : FH) : (((((l.flatMap FH.cells).set (i * 5) (.int .i64 f.G.W)).set (i * 5 + 1) (.slice f.G.A f.G.n f.G.c)).set (i * 5 + 2) (.int .i64 f.K.W)).set (i * 5 + 3) (.slice f.K.A f.K.n f.K.c)).set (i * 5 + 4) (.slice f.C f.k f.q) = (l.set i f).flatMap FH.cells := by
  apply List.ext_getElem?
  intro j
  have hl := flat_len FH.cells_len l
  have hl2 := flat_len FH.cells_len (l.set i f)
  rw [List.length_set] at hl2
  by_cases hj : j < l.length * 5
  · have hd : j / 5 < l.length := by omega
    obtain ⟨y, hB⟩ : ∃ y, l[j / 5]? = some y := ⟨_, List.getElem?_eq_getElem hd⟩
    have h4 : j % 5 < 5 := Nat.mod_lt _ (by decide)
    have e : j / 5 * 5 + j % 5 = j := by omega
    have hc := flat_cell FH.cells_len hB h4
    rw [e] at hc
    by_cases hji : j / 5 = i
    · have hB2 : (l.set i f)[j / 5]? = some f := by rw [hji, List.getElem?_set_self hil]
      have hc2 := flat_cell FH.cells_len hB2 h4
      rw [e] at hc2
      rw [hc2]
      generalize hm : j % 5 = m at *
      match m, h4 with
      | 0, _ => rw [List.getElem?_set_ne (by omega), List.getElem?_set_ne (by omega), List.getElem?_set_ne (by omega), List.getElem?_set_ne (by omega), show j = i * 5 by omega, List.getElem?_set_self (by first | omega | (simp only [List.length_set]; omega))]; rfl
      | 1, _ => rw [List.getElem?_set_ne (by omega), List.getElem?_set_ne (by omega), List.getElem?_set_ne (by omega), show j = i * 5 + 1 by omega, List.getElem?_set_self (by first | omega | (simp only [List.length_set]; omega))]; rfl
      | 2, _ => rw [List.getElem?_set_ne (by omega), List.getElem?_set_ne (by omega), show j = i * 5 + 2 by omega, List.getElem?_set_self (by first | omega | (simp only [List.length_set]; omega))]; rfl
      | 3, _ => rw [List.getElem?_set_ne (by omega), show j = i * 5 + 3 by omega, List.getElem?_set_self (by first | omega | (simp only [List.length_set]; omega))]; rfl
      | 4, _ => rw [show j = i * 5 + 4 by omega, List.getElem?_set_self (by first | omega | (simp only [List.length_set]; omega))]; rfl
    · have hB2 : (l.set i f)[j / 5]? = some y := by rw [List.getElem?_set_ne (fun e => hji e.symm)]; exact hB
      have hc2 := flat_cell FH.cells_len hB2 h4
      rw [e] at hc2
      rw [hc2, List.getElem?_set_ne (by omega), List.getElem?_set_ne (by omega), List.getElem?_set_ne (by omega), List.getElem?_set_ne (by omega), List.getElem?_set_ne (by omega), hc]
  · rw [List.getElem?_eq_none (by simp only [List.length_set]; omega), List.getElem?_eq_none (by rw [hl2]; omega)]
theorem flat_setD {l : List RH} {i : Nat} (y : RH) : (l.flatMap lhc).set i (.slice y.A y.n y.c) = (l.set i y).flatMap lhc := by
  rw [flat_lhc, flat_lhc, List.map_set]; rfl
/-- What stands while the first statement lays the copies out. -/
structure SpA (w : World) (cs : Array Value) (u : World) : Prop where
  px : Fb u w.heap.size cs 27
  rx : Fb u (w.heap.size + 1) z4 27
  bel : Below w.heap.size w u
section
variable {w u u' : World} {cs : Array Value}
theorem SpA.stp {t : Nat} (h : SpA w cs u) (hs : Stp1 t u u') (ht : 27 ≠ t) (hb : Below w.heap.size w u') : SpA w cs u' := ⟨hs.fb h.px ht, hs.fb h.rx ht, hb⟩
theorem SpA.below (h : SpA w cs u) (hb : Below u.heap.size u u') : SpA w cs u' := ⟨h.px.below hb h.px.lt, h.rx.below hb h.rx.lt, below_step h.bel hb⟩
theorem SpA.put (h : SpA w cs u) {b : Nat} (hq : w.heap.size + 2 ≤ b) (k : Nat) (v : Value) : SpA w cs (u.setCell ⟨b, k, none⟩ v) :=
  ⟨h.px.far (by show w.heap.size ≠ b; omega) _, h.rx.far (by show w.heap.size + 1 ≠ b; omega) _, h.bel.setCell (by show w.heap.size ≤ b; omega) _⟩
end
theorem four_stp {u : World} {b t : Nat} {cs : Array Value} (h : Fb u b cs t) (v0 v1 v2 v3 : Value) : Stp1 t u ((((u.setCell ⟨b, 0, none⟩ v0).setCell ⟨b, 1, none⟩ v1).setCell ⟨b, 2, none⟩ v2).setCell ⟨b, 3, none⟩ v3) :=
  ⟨some b, grown_trans (grown_trans (grown_trans (grown_set u b rfl _) (grown_set _ b rfl _)) (grown_set _ b rfl _)) (grown_set _ b rfl _), fun k e => by obtain rfl := Option.some.inj e; exact h.typ⟩
/-- No word among these. -/
def Nou (xs : List Value) : Prop := ∀ x ∈ xs, ∀ y : Int, x ≠ .int .u64 y
theorem Nou.set {xs : List Value} (h : Nou xs) {v : Value} (hv : ∀ y : Int, v ≠ .int .u64 y) (k : Nat) : Nou (xs.set k v) := fun x hx => by
  rcases List.mem_or_eq_of_mem_set hx with h1 | h1
  · exact h x h1
  · rw [h1]; exact hv
theorem nou_F (l : List FH) : Nou (l.flatMap FH.cells) := fun x hx y e => by
  obtain ⟨f, -, hf⟩ := List.mem_flatMap.1 hx
  subst e
  simp [FH.cells] at hf
theorem nou_Z (l : List ZH) : Nou (l.flatMap ZH.cs) := fun x hx y e => by
  obtain ⟨f, -, hf⟩ := List.mem_flatMap.1 hx
  subst e
  simp [ZH.cs] at hf
theorem XRow.arg {u : World} {g ty k n : Nat} {xs : List Value} {A : Option Addr} {ws : List Nat} (h : XRow u g ty xs) (hn : Nou xs) (ha : Arg u A n ws) (hk : k < xs.length) (v : Value) : Arg (u.setCell ⟨g, k, none⟩ v) A n ws :=
  arg_non ha (h.cell (List.getElem?_eq_getElem hk)) (hn _ (List.getElem_mem _)) v
def puF (u : World) (g k : Nat) (F : FH) : World := ((((u.setCell ⟨g, k, none⟩ (.int .i64 F.G.W)).setCell ⟨g, k + 1, none⟩ (.slice F.G.A F.G.n F.G.c)).setCell ⟨g, k + 2, none⟩ (.int .i64 F.K.W)).setCell ⟨g, k + 3, none⟩ (.slice F.K.A F.K.n F.K.c)).setCell ⟨g, k + 4, none⟩ (.slice F.C F.k F.q)
theorem put5_grown (u : World) (g k : Nat) (F : FH) : u.grownBy (puF u g k F) (some g) := by
  unfold puF
  exact grown_trans (grown_trans (grown_trans (grown_trans (grown_set u g rfl _) (grown_set _ g rfl _)) (grown_set _ g rfl _)) (grown_set _ g rfl _)) (grown_set _ g rfl _)
theorem XRow.puF {u : World} {g ty i : Nat} {l : List FH} (h : XRow u g ty (l.flatMap FH.cells)) (hi : i < l.length) (F : FH) :
    XRow (puF u g (i * 5) F) g ty ((l.set i F).flatMap FH.cells) ∧ ∀ (A : Option Addr) (n : Nat) (ws : List Nat), Arg u A n ws → Arg (puF u g (i * 5) F) A n ws := by
  have hl := flat_len FH.cells_len l
  have n0 := nou_F l
  have s1 := h.set (i * 5) (.int .i64 F.G.W) (by omega)
  have n1 := n0.set (v := .int .i64 F.G.W) (by simp) (i * 5)
  have s2 := s1.set (i * 5 + 1) (.slice F.G.A F.G.n F.G.c) (by simp only [List.length_set]; omega)
  have n2 := n1.set (v := .slice F.G.A F.G.n F.G.c) (by simp) (i * 5 + 1)
  have s3 := s2.set (i * 5 + 2) (.int .i64 F.K.W) (by simp only [List.length_set]; omega)
  have n3 := n2.set (v := .int .i64 F.K.W) (by simp) (i * 5 + 2)
  have s4 := s3.set (i * 5 + 3) (.slice F.K.A F.K.n F.K.c) (by simp only [List.length_set]; omega)
  have n4 := n3.set (v := .slice F.K.A F.K.n F.K.c) (by simp) (i * 5 + 3)
  have s5 := s4.set (i * 5 + 4) (.slice F.C F.k F.q) (by simp only [List.length_set]; omega)
  rw [flat_setT hi] at s5
  exact ⟨s5, fun A n ws ha => s4.arg n4 (s3.arg n3 (s2.arg n2 (s1.arg n1 (h.arg n0 ha (by omega) _) (by simp only [List.length_set]; omega) _) (by simp only [List.length_set]; omega) _) (by simp only [List.length_set]; omega) _) (by simp only [List.length_set]; omega) _⟩
theorem XRow.put2 {u : World} {g ty i : Nat} {l : List ZH} (h : XRow u g ty (l.flatMap ZH.cs)) (hi : i < l.length) (Z : ZH) :
    XRow ((u.setCell ⟨g, i * 2, none⟩ (.int .i64 Z.W)).setCell ⟨g, i * 2 + 1, none⟩ (.slice Z.A Z.n Z.c)) g ty ((l.set i Z).flatMap ZH.cs) ∧ ∀ (A : Option Addr) (n : Nat) (ws : List Nat), Arg u A n ws → Arg ((u.setCell ⟨g, i * 2, none⟩ (.int .i64 Z.W)).setCell ⟨g, i * 2 + 1, none⟩ (.slice Z.A Z.n Z.c)) A n ws := by
  have hl := flat_len ZH.cs_len l
  have n0 := nou_Z l
  have s1 := h.set (i * 2) (.int .i64 Z.W) (by omega)
  have n1 := n0.set (v := .int .i64 Z.W) (by simp) (i * 2)
  have s2 := s1.set (i * 2 + 1) (.slice Z.A Z.n Z.c) (by simp only [List.length_set]; omega)
  rw [flat_setV hi] at s2
  exact ⟨s2, fun A n ws ha => s1.arg n1 (h.arg n0 ha (by omega) _) (by simp only [List.length_set]; omega) _⟩
theorem fh_fin {w u : World} {b0 : Nat} {F : FH} (hG : Arg u F.G.A F.G.n F.G.ws) (hK : Arg u F.K.A F.K.n F.K.ws) (ho : u.ownsRow b0 62 2 (.slice F.C F.k F.q) F.k (pairs F.cs)) (hl : F.cs.length = F.k) (hb : w.heap.size + 1 < b0) (rx : Fb u (w.heap.size + 1) z4 27) :
    FHok u [some (w.heap.size + 1)] F :=
  ⟨zh_ex hG rx z4_no F.G.W F.G.c, zh_ex hK rx z4_no F.K.W F.K.c, EAt.own ho fun g hg hm => by have := (ho.lt g hg).1; simp at hm; omega, hl⟩
/-- What stands behind it: the tape, the result's cell, the copy's box. -/
structure Spb (w : World) (T b : Nat) (cs : Array Value) (u : World) : Prop where
  tp : Tape u T
  hT : T < w.heap.size
  gr : w.grownBy u (some T)
  rx : Fb u (w.heap.size + 1) z4 27
  bx : Fb u b cs 27
  hb : w.heap.size + 2 ≤ b
section
variable {w u u' : World} {T b : Nat} {cs : Array Value}
theorem Spb.step (h : Spb w T b cs u) (ht : Tape u' T) (hg : u.grownBy u' (some T)) : Spb w T b cs u' := by
  have hT := h.hT; have hb := h.hb
  exact ⟨ht, hT, grown_trans h.gr hg, h.rx.grown hg (by simp; omega), h.bx.grown hg (by simp; omega), hb⟩
theorem Spb.below (h : Spb w T b cs u) (hb : Below u.heap.size u u') : Spb w T b cs u' := h.step (h.tp.below hb h.tp.lt) (grown_of_below hb _)
theorem Spb.base (h : Spb w T b cs u) : w.heap.size + 2 ≤ u.heap.size := by have := h.bx.lt; have := h.hb; omega
/-- Another block that was made since is written. -/
theorem Spb.other {g : Nat} (h : Spb w T b cs u) (hg : u.grownBy u' (some g)) (hge : w.heap.size + 2 ≤ g) (hne : b ≠ g) : Spb w T b cs u' := by
  have hT := h.hT; have hb := h.hb; have htl := h.tp.lt
  refine ⟨h.tp.keep fun k hk => hg.block k (by omega) (by simp; omega), hT, ?_, h.rx.grown hg (by simp; omega), h.bx.grown hg (by simpa using hne), hb⟩
  exact ⟨hg.os.trans h.gr.os, hg.tape.trans h.gr.tape, hg.output.trans h.gr.output, Nat.le_trans h.gr.size hg.size, fun k hk hn => (hg.block k (by have := h.gr.size; omega) (by simp; omega)).trans (h.gr.block k hk hn)⟩
theorem Spb.put (h : Spb w T b cs u) (k : Nat) (v : Value) : Spb w T b (cs.setIfInBounds k v) (u.setCell ⟨b, k, none⟩ v) := by
  have hT := h.hT; have hb := h.hb
  exact ⟨h.tp.far (by show T < b; omega) _, hT, grown_set_new h.gr (by show w.heap.size ≤ b; omega) _, h.rx.far (by show w.heap.size + 1 ≠ b; omega) _, h.bx.set k v, hb⟩
/-- What lay safe at the start is as it was. -/
theorem Spb.go (h : Spb w T b cs u) : Go2 w [some T] u [some (w.heap.size + 1)] := Go2.grown h.gr (.inr (by simp)) fun k hk hm => by simp at hm; omega
/-- The result is stored. -/
theorem Spb.fin {q : SY} (h : Spb w T b q.box u) (hq : SYok u [some (w.heap.size + 1)] q) :
    RetSpo w T (.returned q.a) ((((u.setCell ⟨w.heap.size + 1, 0, none⟩ (.int .i64 q.W)).setCell ⟨w.heap.size + 1, 1, none⟩ (.slice q.D.A q.D.n q.D.c)).setCell ⟨w.heap.size + 1, 2, none⟩ (.slice q.T.A q.T.n q.T.c)).setCell ⟨w.heap.size + 1, 3, none⟩ (.slice q.B.A q.B.n q.B.c)) := by
  have hT := h.hT
  obtain ⟨_, hgu, _⟩ := four_stp h.rx (.int .i64 q.W) (.slice q.D.A q.D.n q.D.c) (.slice q.T.A q.T.n q.T.c) (.slice q.B.A q.B.n q.B.c)
  have hgu : u.grownBy ((((u.setCell ⟨w.heap.size + 1, 0, none⟩ (.int .i64 q.W)).setCell ⟨w.heap.size + 1, 1, none⟩ (.slice q.D.A q.D.n q.D.c)).setCell ⟨w.heap.size + 1, 2, none⟩ (.slice q.T.A q.T.n q.T.c)).setCell ⟨w.heap.size + 1, 3, none⟩ (.slice q.B.A q.B.n q.B.c)) (some (w.heap.size + 1)) :=
    grown_trans (grown_trans (grown_trans (grown_set u _ rfl _) (grown_set _ _ rfl _)) (grown_set _ _ rfl _)) (grown_set _ _ rfl _)
  exact ⟨q, rfl, hq.go (Go2.grown hgu (.inr (by simp)) fun k _ hm => by simp at hm), h.tp.keep fun k hk => hgu.block k (by have := h.tp.lt; omega) (by simp; omega),
    grown_set_new (grown_set_new (grown_set_new (grown_set_new h.gr (by simp) _) (by simp) _) (by simp) _) (by simp) _⟩
end
end Go.Proofs.Ytadkjnjibefocaa

namespace Go.Proofs.Ytadkjnjibefocaa
set_option maxRecDepth 20000
set_option linter.unusedVariables false
set_option linter.unusedSimpArgs false
open Go.ChangeShapes Go.WideShapes Go.ChangeAt Go.RowKit

/-- The identity came back, its words in rows of the call's own. -/
def RetIde (w : World) (W : Nat) (e : Ending) (w' : World) : Prop :=
  ∃ (g1 g2 : Nat), e = .returned (.agg #[.int .i64 W, .slice (some ⟨g1, 0, none⟩) (Bs.nw W) (Bs.nw W), .int .i64 W, .slice (some ⟨g2, 0, none⟩) (Bs.nw W) (Bs.nw W), .slice none 0 0]) ∧ (w.heap.size ≤ g1 ∧ Row w' g1 (Bs.emp W)) ∧ (w.heap.size ≤ g2 ∧ Row w' g2 (Bs.emp W)) ∧ Below w.heap.size w w'
theorem refIdentity_any (W : Nat) (w : World) (hW : W ≤ 256) : Calls Try.prog 39 #[.int .i64 W] w (RetIde w W) := by
  have HR := hid (Fb.new w #[.int .i64 0, .slice none 0 0, .int .i64 0, .slice none 0 0, .slice none 0 0] 51)
  have HB := hid ((Below.refl w.heap.size w).alloc (Nat.le_refl _) (.cells #[.int .i64 0, .slice none 0 0, .int .i64 0, .slice none 0 0, .slice none 0 0] 51))
  go_enter Try.func39, Try.ntmps39
  go_wp2_with fail
  refine (refEmpty_any W _ (by omega)).mono ?_
  rintro e w1 ⟨g1, rfl, hg1, hr1, hb1⟩
  rw [len_emp]
  have HR1 := hid (HR.out.below hb1 HR.out.lt)
  have HB1 := hid (below_step HB.out hb1)
  have Hr1 := hid hr1
  have Hg1 := hid (show w.heap.size + 1 ≤ g1 by rw [World.size_alloc] at hg1; exact hg1)
  clear hg1 hr1 hb1 HR HB
  go_wp2_with fail
  refine (refEmpty_any W _ (by omega)).mono ?_
  rintro e w2 ⟨g2, rfl, hg2, hr2, hb2⟩
  rw [len_emp]
  have HR2 := hid (HR1.out.below hb2 HR1.out.lt)
  have HB2 := hid (below_step HB1.out hb2)
  have Hr12 := hid (Hr1.out.below hb2 Hr1.out.lt)
  have Hr2 := hid hr2
  have Hg2 := hid (show w.heap.size + 1 ≤ g2 by have := HR1.out.lt; omega)
  clear hg2 hr2 hb2 HR1 HB1 Hr1
  obtain ⟨r0, r1, r2, r3, r4⟩ := HR2.out.five
  have f0 := HR2.out.frozen 0
  have f1 := HR2.out.frozen 1
  have f2 := HR2.out.frozen 2
  have f3 := HR2.out.frozen 3
  have f4 := HR2.out.frozen 4
  have hl := HR2.out.lt
  have Hfin := hid (show RetIde w W (.returned (.agg #[.int .i64 W, .slice (some ⟨g1, 0, none⟩) (Bs.nw W) (Bs.nw W), .int .i64 W, .slice (some ⟨g2, 0, none⟩) (Bs.nw W) (Bs.nw W), .slice none 0 0]))
    (((((w2.setCell ⟨w.heap.size, 0, none⟩ (.int .i64 W)).setCell ⟨w.heap.size, 1, none⟩ (.slice (some ⟨g1, 0, none⟩) (Bs.nw W) (Bs.nw W))).setCell ⟨w.heap.size, 2, none⟩ (.int .i64 W)).setCell ⟨w.heap.size, 3, none⟩ (.slice (some ⟨g2, 0, none⟩) (Bs.nw W) (Bs.nw W))).setCell ⟨w.heap.size, 4, none⟩ (.slice none 0 0)) from by
    have h1 := Hg1.out
    have h2 := Hg2.out
    have n1 : g1 ≠ w.heap.size := by omega
    have n2 : g2 ≠ w.heap.size := by omega
    exact ⟨g1, g2, rfl, ⟨by omega, ((((Hr12.out.far n1 _).far n1 _).far n1 _).far n1 _).far n1 _⟩, ⟨by omega, ((((Hr2.out.far n2 _).far n2 _).far n2 _).far n2 _).far n2 _⟩, ((((HB2.out.setCell (by simp) _).setCell (by simp) _).setCell (by simp) _).setCell (by simp) _).setCell (by simp) _⟩)
  go_wp2_with fail
  refine bodyPost_ret (v := .agg #[.int .i64 W, .slice (some ⟨g1, 0, none⟩) (Bs.nw W) (Bs.nw W), .int .i64 W, .slice (some ⟨g2, 0, none⟩) (Bs.nw W) (Bs.nw W), .slice none 0 0]) (by simp [results, Try.results39, go_sem, r0, r1, r2, r3, r4]) rfl ?_
  exact Hfin.out
end Go.Proofs.Ytadkjnjibefocaa

namespace Go.Proofs.Ytadkjnjibefocaa
set_option maxRecDepth 20000
set_option linter.unusedVariables false
set_option linter.unusedSimpArgs false
open Go.ChangeShapes Go.WideShapes Go.ChangeAt Go.RowKit

/-- The functions and the sets of a line: of width 0. -/
def zF (F : FH) : Prop := F.G.W = 0 ∧ F.G.ws = [] ∧ F.G.n = 0 ∧ F.K.W = 0 ∧ F.K.ws = [] ∧ F.K.n = 0 ∧ F.cs = [] ∧ F.k = 0
def zZ (z : ZH) : Prop := z.W = 0 ∧ z.ws = [] ∧ z.n = 0
/-- The rows of dependencies of a line. -/
def dLn (j : Nat) (y : RH) (u : World) : Prop := (j = 0 ∧ y = ⟨none, 0, 0, []⟩) ∨ (0 < j ∧ ∃ g, y = ⟨some ⟨g, 0, none⟩, 1, 1, [(j : Int) - 1]⟩ ∧ Fb u g #[.int .i64 ((j : Int) - 1)] 3)
theorem dLn.stp {j t : Nat} {y : RH} {u u' : World} (h : dLn j y u) (hs : Stp1 t u u') (ht : 3 ≠ t) : dLn j y u' := by
  rcases h with h | ⟨h1, g, h2, h3⟩
  · exact .inl h
  · exact .inr ⟨h1, g, h2, hs.fb h3 ht⟩
theorem dLn.ok {j : Nat} {y : RH} {u : World} (h : dLn j y u) : RHok u [] y := by
  rcases h with ⟨_, rfl⟩ | ⟨_, g, rfl, h⟩
  · exact ⟨EAt.nil _ _ _, rfl, by show 0 ≤ 9223372036854775807; omega⟩
  · exact ⟨EAt.fb h (by simp) (fun j x hx => by simpa [ints] using hx), rfl, by show 1 ≤ 9223372036854775807; omega⟩
theorem zF.ok {F : FH} (h : zF F) (u : World) : FHok u [] F := by
  obtain ⟨h1, h2, h3, h4, h5, h6, h7, h8⟩ := h
  exact ⟨⟨by rw [h2]; exact EAt.nil _ _ _, by rw [h2, h3]; rfl, by rw [h2]; simp⟩, ⟨by rw [h5]; exact EAt.nil _ _ _, by rw [h5, h6]; rfl, by rw [h5]; simp⟩, by rw [h7]; exact EAt.nil _ _ _, by rw [h7, h8]; rfl⟩
theorem zZ.ok {z : ZH} (h : zZ z) (u : World) : ZHok u [] z := by
  obtain ⟨h1, h2, h3⟩ := h
  exact ⟨by rw [h2]; exact EAt.nil _ _ _, by rw [h2, h3]; rfl, by rw [h2]; simp⟩
def tyL (j : Nat) : Nat := if j = 4 then 22 else if j = 9 then 51 else if j = 14 then 47 else 27
def cO (j : Nat) : Nat := if j = 16 then 1 else if j = 18 then 2 else if j = 20 then 3 else 9
theorem tyL_4 {j : Nat} (h : j ≠ 4) : 22 ≠ tyL j := by
  unfold tyL
  repeat' split
  all_goals first | omega | decide
theorem tyL_9 {j : Nat} (h : j ≠ 9) : 51 ≠ tyL j := by
  unfold tyL
  repeat' split
  all_goals first | omega | decide
theorem tyL_14 {j : Nat} (h : j ≠ 14) : 47 ≠ tyL j := by
  unfold tyL
  repeat' split
  all_goals first | omega | decide
theorem tyL_i (j : Nat) : 3 ≠ tyL j := by
  unfold tyL
  repeat' split
  all_goals first | omega | decide
theorem cO_1 {j : Nat} (h : j ≠ 16) : 1 ≠ cO j := by
  unfold cO
  repeat' split
  all_goals first | omega | decide
theorem cO_2 {j : Nat} (h : j ≠ 18) : 2 ≠ cO j := by
  unfold cO
  repeat' split
  all_goals first | omega | decide
theorem cO_3 {j : Nat} (h : j ≠ 20) : 3 ≠ cO j := by
  unfold cO
  repeat' split
  all_goals first | omega | decide
/-- What an operation of the long statement changes. -/
def lnR (w : World) (j : Nat) (u u' : World) : Prop := Stp1 (tyL j) u u' ∧ ∀ k, k ≠ cO j → u'.cell? ⟨w.heap.size + 1, k, none⟩ = u.cell? ⟨w.heap.size + 1, k, none⟩
/-- What stands all the while. -/
structure LnB (w : World) (d : RH) (lD : List RH) (u : World) : Prop where
  rx : Fb u w.heap.size #[.int .i64 0, .slice none 0 0, .slice none 0 0, .slice none 0 0] 27
  sx : ∃ X Y Z, Fb u (w.heap.size + 1) #[.int .i64 0, X, Y, Z] 27
  eD : ∀ j y, lD[j]? = some y → dLn j y u
  hd : dLn lD.length d u
  bel : Below w.heap.size w u
theorem stp_cel {u : World} {g t : Nat} {cs : Array Value} (hf : Fb u g cs t) (k : Nat) (v : Value) : Stp1 t u (u.setCell ⟨g, k, none⟩ v) := ⟨some g, setCell_grown u ⟨g, k, none⟩ v, fun k' e => by obtain rfl := Option.some.inj e; exact hf.typ⟩
section
variable {w u u' : World} {d : RH} {lD : List RH}
theorem LnB.lt (h : LnB w d lD u) : w.heap.size + 1 < u.heap.size := by obtain ⟨X, Y, Z, h⟩ := h.sx; exact h.lt
theorem LnB.sz (h : LnB w d lD u) : w.heap.size + 2 ≤ u.heap.size := h.lt
theorem LnB.stp {t : Nat} (h : LnB w d lD u) (hs : Stp1 t u u') (h1 : 27 ≠ t) (h2 : 3 ≠ t) (hb : Below w.heap.size w u') : LnB w d lD u' := by
  obtain ⟨X, Y, Z, hx⟩ := h.sx
  exact ⟨hs.fb h.rx h1, ⟨X, Y, Z, hs.fb hx h1⟩, fun j y hy => (h.eD j y hy).stp hs h2, h.hd.stp hs h2, hb⟩
theorem LnB.below (h : LnB w d lD u) (hb : Below u.heap.size u u') : LnB w d lD u' := h.stp (Stp1.below (t := 0) hb) (by decide) (by decide) (below_step h.bel hb)
theorem LnB.app {v : Value} {ty k n : Nat} {xs : List Value} (h : LnB w d lD u) (ho : u.ownsRow (w.heap.size + 2) ty k v n xs) (hg : u.grownBy u' v.ownBlock) (h1 : 27 ≠ ty) (h2 : 3 ≠ ty) : LnB w d lD u' :=
  h.stp ⟨_, hg, fun k e => own_typ ho e⟩ h1 h2 (h.bel.grown hg h.bel.size (fun k e => by have := (ho.lt k e).1; omega))
theorem LnB.R_below {j : Nat} (h : LnB w d lD u) (hb : Below u.heap.size u u') : lnR w j u u' := ⟨Stp1.below hb, fun k _ => hb.cell h.lt⟩
theorem LnB.R_app {v : Value} {ty k n j : Nat} {xs : List Value} (h : LnB w d lD u) (ho : u.ownsRow (w.heap.size + 2) ty k v n xs) (hg : u.grownBy u' v.ownBlock) (h1 : 27 ≠ ty) (hj : tyL j = ty) : lnR w j u u' := by
  obtain ⟨X, Y, Z, hx⟩ := h.sx
  have hs : Stp1 ty u u' := ⟨_, hg, fun k e => own_typ ho e⟩
  exact ⟨hj ▸ hs, fun k _ => World.cell?_of_block (hs.block hx.typ h1 hx.lt)⟩
theorem LnB.stored (h : LnB w d lD u) (k : Nat) (v : Value) (hs : ∃ X Y Z, Fb (u.setCell ⟨w.heap.size + 1, k, none⟩ v) (w.heap.size + 1) #[.int .i64 0, X, Y, Z] 27) : LnB w d lD (u.setCell ⟨w.heap.size + 1, k, none⟩ v) := by
  obtain ⟨X, Y, Z, hx⟩ := h.sx
  have hp := stp_cel hx k v
  exact ⟨h.rx.far (by show w.heap.size ≠ w.heap.size + 1; omega) _, hs, fun j y hy => (h.eD j y hy).stp hp (by decide), h.hd.stp hp (by decide), h.bel.setCell (by show w.heap.size ≤ w.heap.size + 1; omega) _⟩
theorem LnB.put1 (h : LnB w d lD u) (v : Value) : LnB w d lD (u.setCell ⟨w.heap.size + 1, 1, none⟩ v) := by
  obtain ⟨X, Y, Z, hx⟩ := h.sx
  exact h.stored 1 v ⟨v, Y, Z, hx.set 1 v⟩
theorem LnB.put2 (h : LnB w d lD u) (v : Value) : LnB w d lD (u.setCell ⟨w.heap.size + 1, 2, none⟩ v) := by
  obtain ⟨X, Y, Z, hx⟩ := h.sx
  exact h.stored 2 v ⟨X, v, Z, hx.set 2 v⟩
theorem LnB.put3 (h : LnB w d lD u) (v : Value) : LnB w d lD (u.setCell ⟨w.heap.size + 1, 3, none⟩ v) := by
  obtain ⟨X, Y, Z, hx⟩ := h.sx
  exact h.stored 3 v ⟨X, Y, v, hx.set 3 v⟩
theorem LnB.other (h : LnB w d lD u) {k k' : Nat} (v : Value) (hk : k ≠ k') : (u.setCell ⟨w.heap.size + 1, k', none⟩ v).cell? ⟨w.heap.size + 1, k, none⟩ = u.cell? ⟨w.heap.size + 1, k, none⟩ := by
  obtain ⟨X, Y, Z, hx⟩ := h.sx
  rw [(hx.set k' v).cell k, hx.cell k]
  exact Array.getElem?_setIfInBounds_ne (Ne.symm hk)
theorem LnB.putR1 (h : LnB w d lD u) (v : Value) : lnR w 16 u (u.setCell ⟨w.heap.size + 1, 1, none⟩ v) := by
  obtain ⟨X, Y, Z, hx⟩ := h.sx
  exact ⟨stp_cel hx 1 v, fun k hk => h.other v hk⟩
theorem LnB.putR2 (h : LnB w d lD u) (v : Value) : lnR w 18 u (u.setCell ⟨w.heap.size + 1, 2, none⟩ v) := by
  obtain ⟨X, Y, Z, hx⟩ := h.sx
  exact ⟨stp_cel hx 2 v, fun k hk => h.other v hk⟩
theorem LnB.putR3 (h : LnB w d lD u) (v : Value) : lnR w 20 u (u.setCell ⟨w.heap.size + 1, 3, none⟩ v) := by
  obtain ⟨X, Y, Z, hx⟩ := h.sx
  exact ⟨stp_cel hx 3 v, fun k hk => h.other v hk⟩
theorem LnB.cell1 (h : LnB w d lD u) (v : Value) : (u.setCell ⟨w.heap.size + 1, 1, none⟩ v).cell? ⟨w.heap.size + 1, 1, none⟩ = some v := by
  obtain ⟨X, Y, Z, hx⟩ := h.sx
  exact (hx.set 1 v).cell 1
theorem LnB.cell2 (h : LnB w d lD u) (v : Value) : (u.setCell ⟨w.heap.size + 1, 2, none⟩ v).cell? ⟨w.heap.size + 1, 2, none⟩ = some v := by
  obtain ⟨X, Y, Z, hx⟩ := h.sx
  exact (hx.set 2 v).cell 2
theorem LnB.cell3 (h : LnB w d lD u) (v : Value) : (u.setCell ⟨w.heap.size + 1, 3, none⟩ v).cell? ⟨w.heap.size + 1, 3, none⟩ = some v := by
  obtain ⟨X, Y, Z, hx⟩ := h.sx
  exact (hx.set 3 v).cell 3
end
/-- What stands between the rounds. -/
structure Ln (w : World) (D Tr B : Value) (lD : List RH) (lT : List FH) (lB : List ZH) (u : World) : Prop where
  rx : Fb u w.heap.size #[.int .i64 0, .slice none 0 0, .slice none 0 0, .slice none 0 0] 27
  sx : Fb u (w.heap.size + 1) #[.int .i64 0, D, Tr, B] 27
  eD : ∀ j y, lD[j]? = some y → dLn j y u
  oD : u.ownsRow (w.heap.size + 2) 22 1 D lD.length (lD.flatMap lhc)
  oT : u.ownsRow (w.heap.size + 2) 51 5 Tr lT.length (lT.flatMap FH.cells)
  oB : u.ownsRow (w.heap.size + 2) 47 2 B lB.length (lB.flatMap ZH.cs)
  zT : ∀ F ∈ lT, zF F
  zB : ∀ z ∈ lB, zZ z
  bel : Below w.heap.size w u
section
variable {w u u' : World} {d : RH} {D Tr B : Value} {lD : List RH} {lT : List FH} {lB : List ZH}
theorem Ln.below (h : Ln w D Tr B lD lT lB u) (hb : Below u.heap.size u u') : Ln w D Tr B lD lT lB u' :=
  ⟨h.rx.below hb h.rx.lt, h.sx.below hb h.sx.lt, fun j y hy => (h.eD j y hy).stp (Stp1.below (t := 0) hb) (by decide), (Stp1.below (t := 0) hb).own h.oD (by decide), (Stp1.below (t := 0) hb).own h.oT (by decide), (Stp1.below (t := 0) hb).own h.oB (by decide), h.zT, h.zB, below_step h.bel hb⟩
theorem Ln.b (h : Ln w D Tr B lD lT lB u) (hd : dLn lD.length d u) : LnB w d lD u := ⟨h.rx, ⟨_, _, _, h.sx⟩, h.eD, hd, h.bel⟩
theorem LnB.done {w1 : World} {g4 q4 g9 q9 g14 q14 : Nat} {F : FH} {z : ZH} (h : LnB w d lD u)
    (c1 : u.cell? ⟨w.heap.size + 1, 1, none⟩ = some (.slice (some ⟨g4, 0, none⟩) (lD.length + 1) q4)) (c2 : u.cell? ⟨w.heap.size + 1, 2, none⟩ = some (.slice (some ⟨g9, 0, none⟩) (lT.length + 1) q9)) (c3 : u.cell? ⟨w.heap.size + 1, 3, none⟩ = some (.slice (some ⟨g14, 0, none⟩) (lB.length + 1) q14))
    (o4 : u.ownsRow (w.heap.size + 2) 22 1 (.slice (some ⟨g4, 0, none⟩) (lD.length + 1) q4) (lD.length + 1) (lD.flatMap lhc ++ lhc d))
    (o9 : u.ownsRow (w.heap.size + 2) 51 5 (.slice (some ⟨g9, 0, none⟩) (lT.length + 1) q9) (lT.length + 1) (lT.flatMap FH.cells ++ F.cells))
    (o14 : u.ownsRow (w.heap.size + 2) 47 2 (.slice (some ⟨g14, 0, none⟩) (lB.length + 1) q14) (lB.length + 1) (lB.flatMap ZH.cs ++ z.cs)) (hF : zF F) (hZ : zZ z) (hL : Ln w D Tr B lD lT lB w1) :
    Ln w (.slice (some ⟨g4, 0, none⟩) (lD.length + 1) q4) (.slice (some ⟨g9, 0, none⟩) (lT.length + 1) q9) (.slice (some ⟨g14, 0, none⟩) (lB.length + 1) q14) (lD ++ [d]) (lT ++ [F]) (lB ++ [z]) u := by
  have fl : ∀ {α : Type} (l : List α) (x : α) (f : α → List Value), (l ++ [x]).flatMap f = l.flatMap f ++ f x := fun l x f => by rw [List.flatMap_append]; simp
  obtain ⟨X, Y, Z, hx⟩ := h.sx
  have e1 := (hx.cell 1).symm.trans c1
  have e2 := (hx.cell 2).symm.trans c2
  have e3 := (hx.cell 3).symm.trans c3
  obtain rfl : X = _ := Option.some.inj e1
  obtain rfl : Y = _ := Option.some.inj e2
  obtain rfl : Z = _ := Option.some.inj e3
  refine ⟨h.rx, hx, fun j y hy => ?_, by rw [List.length_append, fl]; exact o4, by rw [List.length_append, fl]; exact o9, by rw [List.length_append, fl]; exact o14, fun x hx => ?_, fun x hx => ?_, h.bel⟩
  · rcases Nat.lt_or_ge j lD.length with hj | hj
    · rw [List.getElem?_append_left hj] at hy
      exact h.eD j y hy
    · have hj2 := (List.getElem?_eq_some_iff.1 hy).1
      rw [List.length_append, List.length_singleton] at hj2
      obtain rfl : j = lD.length := by omega
      rw [List.getElem?_append_right (Nat.le_refl _), Nat.sub_self] at hy
      obtain rfl := Option.some.inj hy
      exact h.hd
  · rcases List.mem_append.1 hx with hx | hx
    · exact hL.zT x hx
    · rw [List.mem_singleton.1 hx]; exact hF
  · rcases List.mem_append.1 hx with hx | hx
    · exact hL.zB x hx
    · rw [List.mem_singleton.1 hx]; exact hZ
end
def lnF (w : World) (D Tr B : Value) (d : RH) (lD : List RH) (lT : List FH) (lB : List ZH) : Nat → (Nat → Value) → World → Prop
  | 0, f, u => f 0 = .pointer (some ⟨w.heap.size + 1, 1, none⟩)
  | 1, f, u => f 1 = D
  | 2, f, u => f 2 = .slice d.A d.n d.c
  | 3, f, u => ∃ g : Nat, f 3 = .slice (some ⟨g, 0, none⟩) 1 1 ∧ Fb u g #[.slice d.A d.n d.c] 22
  | 4, f, u => ∃ g q : Nat, f 4 = .slice (some ⟨g, 0, none⟩) (lD.length + 1) q ∧ u.ownsRow (w.heap.size + 2) 22 1 (.slice (some ⟨g, 0, none⟩) (lD.length + 1) q) (lD.length + 1) (lD.flatMap lhc ++ lhc d)
  | 5, f, u => f 5 = .pointer (some ⟨w.heap.size + 1, 2, none⟩)
  | 6, f, u => f 6 = Tr
  | 7, f, u => ∃ F : FH, f 7 = .agg #[.int .i64 F.G.W, .slice F.G.A F.G.n F.G.c, .int .i64 F.K.W, .slice F.K.A F.K.n F.K.c, .slice F.C F.k F.q] ∧ zF F
  | 8, f, u => ∃ (F : FH) (g : Nat), f 8 = .slice (some ⟨g, 0, none⟩) 1 1 ∧ Fb u g #[.int .i64 F.G.W, .slice F.G.A F.G.n F.G.c, .int .i64 F.K.W, .slice F.K.A F.K.n F.K.c, .slice F.C F.k F.q] 51 ∧ zF F
  | 9, f, u => ∃ (F : FH) (g q : Nat), f 9 = .slice (some ⟨g, 0, none⟩) (lT.length + 1) q ∧ u.ownsRow (w.heap.size + 2) 51 5 (.slice (some ⟨g, 0, none⟩) (lT.length + 1) q) (lT.length + 1) (lT.flatMap FH.cells ++ F.cells) ∧ zF F
  | 10, f, u => f 10 = .pointer (some ⟨w.heap.size + 1, 3, none⟩)
  | 11, f, u => f 11 = B
  | 12, f, u => ∃ z : ZH, f 12 = .agg #[.int .i64 z.W, .slice z.A z.n z.c] ∧ zZ z
  | 13, f, u => ∃ (z : ZH) (g : Nat), f 13 = .slice (some ⟨g, 0, none⟩) 1 1 ∧ Fb u g #[.int .i64 z.W, .slice z.A z.n z.c] 47 ∧ zZ z
  | 14, f, u => ∃ (z : ZH) (g q : Nat), f 14 = .slice (some ⟨g, 0, none⟩) (lB.length + 1) q ∧ u.ownsRow (w.heap.size + 2) 47 2 (.slice (some ⟨g, 0, none⟩) (lB.length + 1) q) (lB.length + 1) (lB.flatMap ZH.cs ++ z.cs) ∧ zZ z
  | 15, f, u => f 15 = .pointer (some ⟨w.heap.size + 1, 1, none⟩)
  | 16, f, u => u.cell? ⟨w.heap.size + 1, 1, none⟩ = some (f 4)
  | 17, f, u => f 17 = .pointer (some ⟨w.heap.size + 1, 2, none⟩)
  | 18, f, u => u.cell? ⟨w.heap.size + 1, 2, none⟩ = some (f 9)
  | 19, f, u => f 19 = .pointer (some ⟨w.heap.size + 1, 3, none⟩)
  | 20, f, u => u.cell? ⟨w.heap.size + 1, 3, none⟩ = some (f 14)
  | _, _, _ => True
def lnU : Nat → Option Nat
  | 3 => some 4
  | 8 => some 9
  | 13 => some 14
  | _ => none
theorem lnF_st {w : World} {D Tr B : Value} {d : RH} {lD : List RH} {lT : List FH} {lB : List ZH} {ops : Array Oper} (hq16_4 : ∀ j, (reachL ops 5 16).contains j = false → j ≠ 4) (hq18_9 : ∀ j, (reachL ops 5 18).contains j = false → j ≠ 9) (hq20_14 : ∀ j, (reachL ops 5 20).contains j = false → j ≠ 14)  (jx : Nat) (vx : Value) (u u' : World) (ix : Nat) (f : Nat → Value) (hR : lnR w jx u u') (hne : ix ≠ jx) (hu : lnU ix ≠ some jx) (hc : (reachL ops 5 ix).contains jx = false) (h : lnF w D Tr B d lD lT lB ix f u) : lnF w D Tr B d lD lT lB ix (updV f jx vx) u' := by
  match ix, hne, hu, hc, h with
  | 0, hne, hu, hc, h => exact (updV_ne f vx hne).trans h
  | 1, hne, hu, hc, h => exact (updV_ne f vx hne).trans h
  | 2, hne, hu, hc, h => exact (updV_ne f vx hne).trans h
  | 3, hne, hu, hc, h => obtain ⟨g, hf, i0⟩ := h; exact ⟨g, (updV_ne f vx hne).trans hf, hR.1.fb i0 (tyL_4 fun e => hu (by rw [e]; rfl))⟩
  | 4, hne, hu, hc, h => obtain ⟨g, q, hf, i0⟩ := h; exact ⟨g, q, (updV_ne f vx hne).trans hf, hR.1.own i0 (tyL_4 (Ne.symm hne))⟩
  | 5, hne, hu, hc, h => exact (updV_ne f vx hne).trans h
  | 6, hne, hu, hc, h => exact (updV_ne f vx hne).trans h
  | 7, hne, hu, hc, h => obtain ⟨F, hf, i0⟩ := h; exact ⟨F, (updV_ne f vx hne).trans hf, i0⟩
  | 8, hne, hu, hc, h => obtain ⟨F, g, hf, i0, i1⟩ := h; exact ⟨F, g, (updV_ne f vx hne).trans hf, hR.1.fb i0 (tyL_9 fun e => hu (by rw [e]; rfl)), i1⟩
  | 9, hne, hu, hc, h => obtain ⟨F, g, q, hf, i0, i1⟩ := h; exact ⟨F, g, q, (updV_ne f vx hne).trans hf, hR.1.own i0 (tyL_9 (Ne.symm hne)), i1⟩
  | 10, hne, hu, hc, h => exact (updV_ne f vx hne).trans h
  | 11, hne, hu, hc, h => exact (updV_ne f vx hne).trans h
  | 12, hne, hu, hc, h => obtain ⟨z, hf, i0⟩ := h; exact ⟨z, (updV_ne f vx hne).trans hf, i0⟩
  | 13, hne, hu, hc, h => obtain ⟨z, g, hf, i0, i1⟩ := h; exact ⟨z, g, (updV_ne f vx hne).trans hf, hR.1.fb i0 (tyL_14 fun e => hu (by rw [e]; rfl)), i1⟩
  | 14, hne, hu, hc, h => obtain ⟨z, g, q, hf, i0, i1⟩ := h; exact ⟨z, g, q, (updV_ne f vx hne).trans hf, hR.1.own i0 (tyL_14 (Ne.symm hne)), i1⟩
  | 15, hne, hu, hc, h => exact (updV_ne f vx hne).trans h
  | 16, hne, hu, hc, h =>
      have n4 : 4 ≠ jx := (hq16_4 jx hc).symm
      show u'.cell? ⟨w.heap.size + 1, 1, none⟩ = some (updV f jx vx 4)
      rw [updV_ne f vx n4, hR.2 1 (cO_1 hne.symm)]
      exact h
  | 17, hne, hu, hc, h => exact (updV_ne f vx hne).trans h
  | 18, hne, hu, hc, h =>
      have n9 : 9 ≠ jx := (hq18_9 jx hc).symm
      show u'.cell? ⟨w.heap.size + 1, 2, none⟩ = some (updV f jx vx 9)
      rw [updV_ne f vx n9, hR.2 2 (cO_2 hne.symm)]
      exact h
  | 19, hne, hu, hc, h => exact (updV_ne f vx hne).trans h
  | 20, hne, hu, hc, h =>
      have n14 : 14 ≠ jx := (hq20_14 jx hc).symm
      show u'.cell? ⟨w.heap.size + 1, 3, none⟩ = some (updV f jx vx 14)
      rw [updV_ne f vx n14, hR.2 3 (cO_3 hne.symm)]
      exact h
  | ix + 21, _, _, _, _ => trivial
/-- The line of four unknowns came back. -/
def RetLine (w : World) (e : Ending) (w' : World) : Prop :=
  ∃ s : SY, e = .returned s.a ∧ SYok w' [] s ∧ SOk s 0 4 ∧ s.D.v = [[], [0], [1], [2]] ∧ Below w.heap.size w w'
theorem Ln.rows {w u : World} {D Tr B : Value} {lD : List RH} {lT : List FH} {lB : List ZH} (h : Ln w D Tr B lD lT lB u) (hl : lD.length = 4) : lD.map RH.l = [[], [0], [1], [2]] := by
  match lD, hl, h.eD with
  | [a, b, c, d], _, h =>
    have e : ∀ (j : Nat) (y : RH), [a, b, c, d][j]? = some y → y.l = if j = 0 then [] else [(j : Int) - 1] := fun j y hy => by
      rcases h j y hy with ⟨rfl, rfl⟩ | ⟨h1, g, rfl, -⟩
      · rfl
      · rw [if_neg (by omega)]
    have e0 := e 0 a rfl
    have e1 := e 1 b rfl
    have e2 := e 2 c rfl
    have e3 := e 3 d rfl
    simp only [List.map_cons, List.map_nil, e0, e1, e2, e3]
    rfl
theorem dLn.ris {j N : Nat} {y : RH} {u : World} (h : dLn j y u) (hj : j < N) : RisP N y.l := by
  rcases h with ⟨_, rfl⟩ | ⟨h1, g, rfl, h⟩
  · exact RisP.nil _
  · exact ⟨by simp, fun x hx => by rw [List.mem_singleton.1 hx]; omega⟩
theorem Ln.fin {w u : World} {lD : List RH} {lT : List FH} {lB : List ZH} {A1 A2 A3 : Option Addr} {c1 c2 c3 : Nat} (h : Ln w (.slice A1 4 c1) (.slice A3 4 c3) (.slice A2 4 c2) lD lT lB u) (h1 : lD.length = 4) (h2 : lB.length = 4) (h3 : lT.length = 4) :
    RetLine w (.returned (.agg #[.int .i64 0, .slice A1 4 c1, .slice A3 4 c3, .slice A2 4 c2])) ((((u.setCell ⟨w.heap.size, 0, none⟩ (.int .i64 0)).setCell ⟨w.heap.size, 1, none⟩ (.slice A1 4 c1)).setCell ⟨w.heap.size, 2, none⟩ (.slice A3 4 c3)).setCell ⟨w.heap.size, 3, none⟩ (.slice A2 4 c2)) := by
  have hg : ∀ (v : World) (k : Nat) (x : Value) {cs : Array Value}, Fb v w.heap.size cs 27 → Stp1 27 v (v.setCell ⟨w.heap.size, k, none⟩ x) := fun v k x cs hx => stp_cel hx k x
  have s1 := hg u 0 (.int .i64 0) h.rx
  have r1 := h.rx.set 0 (.int .i64 0)
  have s2 := hg _ 1 (.slice A1 4 c1) r1
  have r2 := r1.set 1 (.slice A1 4 c1)
  have s3 := hg _ 2 (.slice A3 4 c3) r2
  have r3 := r2.set 2 (.slice A3 4 c3)
  have s4 := hg _ 3 (.slice A2 4 c2) r3
  have hb : Below w.heap.size w ((((u.setCell ⟨w.heap.size, 0, none⟩ (.int .i64 0)).setCell ⟨w.heap.size, 1, none⟩ (.slice A1 4 c1)).setCell ⟨w.heap.size, 2, none⟩ (.slice A3 4 c3)).setCell ⟨w.heap.size, 3, none⟩ (.slice A2 4 c2)) :=
    (((h.bel.setCell (p := ⟨w.heap.size, 0, none⟩) (Nat.le_refl _) _).setCell (p := ⟨w.heap.size, 1, none⟩) (Nat.le_refl _) _).setCell (p := ⟨w.heap.size, 2, none⟩) (Nat.le_refl _) _).setCell (p := ⟨w.heap.size, 3, none⟩) (Nat.le_refl _) _
  have oD := s4.own (s3.own (s2.own (s1.own h.oD (by decide)) (by decide)) (by decide)) (by decide)
  have oT := s4.own (s3.own (s2.own (s1.own h.oT (by decide)) (by decide)) (by decide)) (by decide)
  have oB := s4.own (s3.own (s2.own (s1.own h.oB (by decide)) (by decide)) (by decide)) (by decide)
  have eD : ∀ j y, lD[j]? = some y → dLn j y _ := fun j y hy => ((((h.eD j y hy).stp s1 (by decide)).stp s2 (by decide)).stp s3 (by decide)).stp s4 (by decide)
  rw [h1, flat_lhc] at oD
  rw [h2] at oB
  rw [h3] at oT
  have hrows : LH.v ⟨A1, 4, c1, lD⟩ = [[], [0], [1], [2]] := h.rows h1
  refine ⟨⟨0, ⟨A1, 4, c1, lD⟩, ⟨A3, 4, c3, lT⟩, ⟨A2, 4, c2, lB⟩⟩, rfl,
    ⟨⟨EAt.own oD (by simp), h1, by show 4 ≤ 9223372036854775807; omega, fun y hy => ?_⟩, ⟨EAt.own oT (by simp), h3, by show 4 ≤ 9223372036854775807; omega, fun y hy => (h.zT y hy).ok _⟩, ⟨EAt.own oB (by simp), h2, by show 4 ≤ 9223372036854775807; omega, fun y hy => (h.zB y hy).ok _⟩⟩,
    ⟨rfl, by omega, by omega, by omega, rfl, rfl, rfl, fun y hy => ?_, by show tot (LH.v ⟨A1, 4, c1, lD⟩) ≤ 1024; rw [hrows]; decide, fun y hy => ?_, fun y hy => ?_⟩, hrows, hb⟩
  · obtain ⟨j, hj⟩ := List.mem_iff_getElem?.1 hy
    exact (eD j y hj).ok
  · obtain ⟨j, hj⟩ := List.mem_iff_getElem?.1 hy
    exact (eD j y hj).ris (by have h5 := (List.getElem?_eq_some_iff.1 hj).1; have h6 : lD.length = 4 := h1; have h7 : j < lD.length := h5; omega)
  · obtain ⟨a1, a2, a3, a4, a5, a6, a7, a8⟩ := h.zT y hy
    refine ⟨by rw [a1]; rfl, by rw [a4]; rfl, ?_⟩
    rw [a2, a5, a7]; kernel_rfl
  · obtain ⟨a1, a2, a3⟩ := h.zB y hy
    exact ⟨by rw [a1]; rfl, by rw [a2]; exact Bs.fit_emp 0⟩
set_option maxHeartbeats 12800000 in
theorem line_any (w : World) : Calls Try.prog 28 #[.int .i64 4] w (RetLine w) := by
  obtain ⟨iD, hi, hz0, hz1, hz2⟩ := info_parts info22
  have HD := hid hi; have HD0 := hid hz0; have HD1 := hid hz1; have HD2 := hid hz2
  clear hi hz0 hz1 hz2
  obtain ⟨iB, hi, hz0, hz1, hz2⟩ := info_parts info41
  have HB := hid hi; have HB0 := hid hz0; have HB1 := hid hz1; have HB2 := hid hz2
  clear hi hz0 hz1 hz2
  obtain ⟨iT, hi, hz0, hz1, hz2⟩ := info_parts info70
  have HT := hid hi; have HT0 := hid hz0; have HT1 := hid hz1; have HT2 := hid hz2
  clear hi hz0 hz1 hz2
  have hb1 := (Below.refl w.heap.size w).alloc (Nat.le_refl _) (.cells #[.int .i64 0, .slice none 0 0, .slice none 0 0, .slice none 0 0] 27)
  have hb2 := hb1.alloc hb1.size (.cells #[.int .i64 0, .slice none 0 0, .slice none 0 0, .slice none 0 0] 27)
  have HL0 := hid (show Ln w (.slice none 0 0) (.slice none 0 0) (.slice none 0 0) [] [] [] ((w.alloc (.cells #[.int .i64 0, .slice none 0 0, .slice none 0 0, .slice none 0 0] 27)).alloc (.cells #[.int .i64 0, .slice none 0 0, .slice none 0 0, .slice none 0 0] 27)) from
    ⟨(Fb.new w _ _).alloc _, by
      have := Fb.new (w.alloc (.cells #[.int .i64 0, .slice none 0 0, .slice none 0 0, .slice none 0 0] 27)) #[.int .i64 0, .slice none 0 0, .slice none 0 0, .slice none 0 0] 27
      rwa [World.size_alloc] at this, fun j y hy => by simp at hy, World.ownsRow_nil _ _ _ _, World.ownsRow_nil _ _ _ _, World.ownsRow_nil _ _ _ _, by simp, by simp, hb2⟩)
  clear hb1 hb2
  go_enter Try.func28, Try.ntmps28
  go_upto_region 2 with fail
  generalize (w.alloc (.cells #[.int .i64 0, .slice none 0 0, .slice none 0 0, .slice none 0 0] 27)).alloc (.cells #[.int .i64 0, .slice none 0 0, .slice none 0 0, .slice none 0 0] 27) = w2 at *
  go_wp2_with fail
  go_loopw [4] (fun iv wr => ∃ (i : Nat) (D Tr B : Value) (lD : List RH) (lT : List FH) (lB : List ZH), i ≤ 4 ∧ iv = .int .i64 i ∧ Hid (lD.length = i ∧ lT.length = i ∧ lB.length = i) ∧ Hid (Ln w D Tr B lD lT lB wr)) (fun iv _ => 4 - (intOf iv).toNat)
  case atStart => exact ⟨0, _, _, _, [], [], [], by omega, rfl, hid ⟨rfl, rfl, rfl⟩, HL0⟩
  case round =>
    clear HL0
    obtain ⟨i, D, Tr, B, lD, lT, lB, hi, rfl, HN, HLr⟩ := hrel
    by_cases hlt : i < 4
    · go_upto_if 12 with fail
      go_cut [5] (fun dv wd => ∃ d : RH, dv = .slice d.A d.n d.c ∧ Hid (dLn i d wd) ∧ Hid (Ln w D Tr B lD lT lB wd))
      case first =>
        by_cases h0 : 0 < i
        · have Hb := hid ((Below.refl wr.heap.size wr).alloc (Nat.le_refl _) (.cells #[.int .i64 ((i : Int) - 1)] 3))
          have Hn := hid (Fb.new wr #[.int .i64 ((i : Int) - 1)] 3)
          have hw : IntKind.i64.wrap ((i : Int) - 1) = (i : Int) - 1 := IntWalk.i64_in _ (by omega)
          have t5 : decide (0 < (i : Int)) = true := by simp; omega
          go_wp2_with fail
          go_meet
          exact ⟨⟨some ⟨wr.heap.size, 0, none⟩, 1, 1, [(i : Int) - 1]⟩, rfl, hid (.inr ⟨h0, _, rfl, Hn.out⟩), hid (HLr.out.below Hb.out)⟩
        · have t5 : decide (0 < (i : Int)) = false := by simp; omega
          have e0 : i = 0 := by omega
          go_wp2_with fail
          go_meet
          exact ⟨⟨none, 0, 0, []⟩, rfl, hid (.inl ⟨e0, rfl⟩), HLr⟩
      case rest =>
        obtain ⟨d, rfl, Hd, HL⟩ := hcut
        clear HLr
        go_upto_region 8 with fail
        rename_i Kx hKx
        obtain ⟨n1, n2, n3⟩ := HN.out
        have l1 : lD.length ≤ 4 := by omega
        have l2 : lT.length ≤ 4 := by omega
        have l3 : lB.length ≤ 4 := by omega
        subst n1
        have HN2 := hid (show (lD ++ [d]).length = lD.length + 1 ∧ ∀ (F : FH) (z : ZH), (lT ++ [F]).length = lD.length + 1 ∧ (lB ++ [z]).length = lD.length + 1 from ⟨by simp, fun F z => ⟨by simp [n2], by simp [n3]⟩⟩)
        clear n2 n3 HN
        refine wp_region_factsI (fun j u => ((j = 1 ∨ j = 16) → u.cell? ⟨w.heap.size + 1, 1, none⟩ = some (D)) ∧ ((j = 6 ∨ j = 18) → u.cell? ⟨w.heap.size + 1, 2, none⟩ = some (Tr)) ∧ ((j = 11 ∨ j = 20) → u.cell? ⟨w.heap.size + 1, 3, none⟩ = some (B)) ∧ (j = 4 → u.ownsRow (w.heap.size + 2) 22 1 D lD.length (lD.flatMap lhc)) ∧ (j = 9 → u.ownsRow (w.heap.size + 2) 51 5 Tr lT.length (lT.flatMap FH.cells)) ∧ (j = 14 → u.ownsRow (w.heap.size + 2) 47 2 B lB.length (lB.flatMap ZH.cs))) (lnF w D Tr B d lD lT lB) (fun u => LnB w d lD u) lnU (lnR w) Kx (fun _ _ h => h) 21 21 (some 16 :: some 17 :: some 18 :: some 19 :: some 20 :: some 21 :: some 22 :: some 23 :: some 24 :: some 25 :: some 26 :: some 27 :: some 28 :: some 29 :: some 30 :: some 31 :: none :: some 32 :: none :: some 33 :: none :: []) (by kernel_rfl) (by kernel_rfl) (by kernel_rfl) (by kernel_rfl) (by kernel_rfl) (by kernel_rfl) (by decide)
          ?st ?bs ?gb ?gs ?ar ?en
        case st => exact fun jx vx u u' ix f hR hne hu hc h => lnF_st (fun j h e => by subst e; exact Bool.false_ne_true (h.symm.trans (by kernel_rfl))) (fun j h e => by subst e; exact Bool.false_ne_true (h.symm.trans (by kernel_rfl))) (fun j h e => by subst e; exact Bool.false_ne_true (h.symm.trans (by kernel_rfl))) jx vx u u' ix f hR hne hu hc h
        case bs => exact (HL.out.b (by exact Hd.out)).below (Below.refl _ _).drew
        case gb =>
          exact fun c => ⟨fun _ => HL.out.sx.cell 1, fun _ => HL.out.sx.cell 2, fun _ => HL.out.sx.cell 3, fun _ => (Stp1.below (t := 0) (Below.refl _ _).drew).own HL.out.oD (by decide), fun _ => (Stp1.below (t := 0) (Below.refl _ _).drew).own HL.out.oT (by decide), fun _ => (Stp1.below (t := 0) (Below.refl _ _).drew).own HL.out.oB (by decide)⟩
        case gs =>
          intro j u u' c hR hne hnr hG
          refine ⟨fun hc => ?_, fun hc => ?_, fun hc => ?_, fun hc => ?_, fun hc => ?_, fun hc => ?_⟩
          · rw [hR.2 1 (cO_1 (by
              rintro rfl
              rcases hc with rfl | rfl
              · exact Bool.false_ne_true (hnr.symm.trans (by kernel_rfl))
              · exact hne rfl))]
            exact hG.1 hc
          · rw [hR.2 2 (cO_2 (by
              rintro rfl
              rcases hc with rfl | rfl
              · exact Bool.false_ne_true (hnr.symm.trans (by kernel_rfl))
              · exact hne rfl))]
            exact hG.2.1 hc
          · rw [hR.2 3 (cO_3 (by
              rintro rfl
              rcases hc with rfl | rfl
              · exact Bool.false_ne_true (hnr.symm.trans (by kernel_rfl))
              · exact hne rfl))]
            exact hG.2.2.1 hc
          · subst hc; exact hR.1.own (hG.2.2.2.1 rfl) (tyL_4 hne.symm)
          · subst hc; exact hR.1.own (hG.2.2.2.2.1 rfl) (tyL_9 hne.symm)
          · subst hc; exact hR.1.own (hG.2.2.2.2.2 rfl) (tyL_14 hne.symm)
        case ar =>
          intro j o f u ho hi hB hG hpre K hK
          match j, ho, hG, hpre, hK with
          | 0, ho, hG, hpre, hK =>
            obtain rfl := Option.some.inj ho
            refine wpOp_step rfl fun K' hK' => ?_
            simp only [putL, updV]
            go_simp
            have hz := hK' _ _ (hK (.pointer (some ⟨w.heap.size + 1, 1, none⟩)) (u) (hB) (hB.R_below (Below.refl _ _)) (rfl))
            refine Eq.mp (congrArg (fun act => K' act (u)) ?_) hz
            kernel_rfl
          | 1, ho, hG, hpre, hK =>
            obtain rfl := Option.some.inj ho
            have y0 := hG.1 (.inl rfl)
            have hlt := hB.lt
            have e0 : f 0 = .pointer (some ⟨w.heap.size + 1, 1, none⟩) := hpre ⟨0, .data⟩ (by simp) rfl (.inl rfl)
            obtain ⟨f, rfl⟩ := fixG f 0 _ e0
            clear e0
            refine wpOp_step rfl fun K' hK' => ?_
            simp only [putL, updV]
            go_simp
            have hz := hK' _ _ (hK (D) (u) (hB) (hB.R_below (Below.refl _ _)) (rfl))
            refine Eq.mp (congrArg (fun act => K' act (u)) ?_) hz
            kernel_rfl
          | 2, ho, hG, hpre, hK =>
            obtain rfl := Option.some.inj ho
            refine wpOp_step rfl fun K' hK' => ?_
            simp only [putL, updV]
            go_simp
            have hz := hK' _ _ (hK (.slice d.A d.n d.c) (u) (hB) (hB.R_below (Below.refl _ _)) (rfl))
            refine Eq.mp (congrArg (fun act => K' act (u)) ?_) hz
            kernel_rfl
          | 3, ho, hG, hpre, hK =>
            obtain rfl := Option.some.inj ho
            have e2 : f 2 = .slice d.A d.n d.c := hpre ⟨2, .data⟩ (by simp) rfl (.inl rfl)
            obtain ⟨f, rfl⟩ := fixG f 2 _ e2
            clear e2
            refine wpOp_step rfl fun K' hK' => ?_
            simp only [putL, updV]
            go_simp
            have hb := (Below.refl u.heap.size u).alloc (Nat.le_refl _) (.cells #[.slice d.A d.n d.c] 22)
            have hz := hK' _ _ (hK (.slice (some ⟨u.heap.size, 0, none⟩) 1 1) (u.alloc (.cells #[.slice d.A d.n d.c] 22)) (hB.below hb) (hB.R_below hb) (⟨_, rfl, Fb.new u _ _⟩))
            refine Eq.mp (congrArg (fun act => K' act (u.alloc (.cells #[.slice d.A d.n d.c] 22))) ?_) hz
            kernel_rfl
          | 4, ho, hG, hpre, hK =>
            obtain rfl := Option.some.inj ho
            have e1 : f 1 = D := hpre ⟨1, .data⟩ (by simp) rfl (.inl rfl)
            obtain ⟨g3, e3, q3⟩ : ∃ g : Nat, f 3 = .slice (some ⟨g, 0, none⟩) 1 1 ∧ Fb u g #[.slice d.A d.n d.c] 22 := hpre ⟨3, .data⟩ (by simp) rfl (.inr rfl)
            have ho := hG.2.2.2.1 rfl
            have hbase : w.heap.size + 2 ≤ u.heap.size := hB.sz
            obtain ⟨f, rfl⟩ := fixG f 1 _ e1
            rw [updV_ne _ _ (by decide)] at e3
            obtain ⟨f, rfl⟩ := fixG f 3 _ e3
            clear e1 e3
            refine wpOp_step rfl fun K' hK' => ?_
            refine step_append_lies _ rfl (.tmp 17) (.tmp 19) 23 rfl (w.heap.size + 2) 22 iD _ 1 24 Try.underlying23 HD.out HD0.out HD1.out HD2.out rfl (by decide) D lD.length (lD.flatMap lhc) (by kernel_rfl) ho ⟨g3, 0, none⟩ 1 1 (lhc d) (by kernel_rfl) rfl (fun j x hx => World.news_of_block q3 j x hx) (one_lhc d) (by omega) (by unfold maxLen; omega) (by omega) hbase _ rfl ?_
            intro g9 q9 w9 hown hgr hat _
            have hz := hK' _ _ (hK (.slice (some ⟨g9, 0, none⟩) (lD.length + 1) q9) w9 (hB.app ho hgr (by decide) (by decide)) (hB.R_app ho hgr (by decide) rfl) (⟨g9, q9, rfl, hown⟩))
            refine Eq.mp (congrArg (fun act => K' act w9) ?_) hz
            kernel_rfl
          | 5, ho, hG, hpre, hK =>
            obtain rfl := Option.some.inj ho
            refine wpOp_step rfl fun K' hK' => ?_
            simp only [putL, updV]
            go_simp
            have hz := hK' _ _ (hK (.pointer (some ⟨w.heap.size + 1, 2, none⟩)) (u) (hB) (hB.R_below (Below.refl _ _)) (rfl))
            refine Eq.mp (congrArg (fun act => K' act (u)) ?_) hz
            kernel_rfl
          | 6, ho, hG, hpre, hK =>
            obtain rfl := Option.some.inj ho
            have y0 := hG.2.1 (.inl rfl)
            have hlt := hB.lt
            have e5 : f 5 = .pointer (some ⟨w.heap.size + 1, 2, none⟩) := hpre ⟨5, .data⟩ (by simp) rfl (.inl rfl)
            obtain ⟨f, rfl⟩ := fixG f 5 _ e5
            clear e5
            refine wpOp_step rfl fun K' hK' => ?_
            simp only [putL, updV]
            go_simp
            have hz := hK' _ _ (hK (Tr) (u) (hB) (hB.R_below (Below.refl _ _)) (rfl))
            refine Eq.mp (congrArg (fun act => K' act (u)) ?_) hz
            kernel_rfl
          | 7, ho, hG, hpre, hK =>
            obtain rfl := Option.some.inj ho
            refine wpOp_step rfl fun K' hK' => ?_
            simp only [putL, updV]
            go_simp
            go_at_call 39
            refine (refIdentity_any 0 u (by omega)).mono ?_
            rintro e u5 ⟨g1, g2, rfl, -, -, hb⟩
            have hz := hK' _ _ (hK (.agg #[.int .i64 ((0 : Nat) : Int), .slice (some ⟨g1, 0, none⟩) (Bs.nw 0) (Bs.nw 0), .int .i64 ((0 : Nat) : Int), .slice (some ⟨g2, 0, none⟩) (Bs.nw 0) (Bs.nw 0), .slice none 0 0]) (u5) (hB.below hb) (hB.R_below hb) (⟨⟨⟨0, some ⟨g1, 0, none⟩, Bs.nw 0, Bs.nw 0, []⟩, ⟨0, some ⟨g2, 0, none⟩, Bs.nw 0, Bs.nw 0, []⟩, none, 0, 0, []⟩, rfl, rfl, rfl, rfl, rfl, rfl, rfl, rfl, rfl⟩))
            refine Eq.mp (congrArg (fun act => K' act (u5)) ?_) hz
            kernel_rfl
          | 8, ho, hG, hpre, hK =>
            obtain rfl := Option.some.inj ho
            obtain ⟨F, e7, hF⟩ : ∃ F : FH, f 7 = .agg #[.int .i64 F.G.W, .slice F.G.A F.G.n F.G.c, .int .i64 F.K.W, .slice F.K.A F.K.n F.K.c, .slice F.C F.k F.q] ∧ zF F := hpre ⟨7, .data⟩ (by simp) rfl (.inl rfl)
            obtain ⟨f, rfl⟩ := fixG f 7 _ e7
            clear e7
            refine wpOp_step rfl fun K' hK' => ?_
            simp only [putL, updV]
            go_simp
            have hb := (Below.refl u.heap.size u).alloc (Nat.le_refl _) (.cells #[.int .i64 F.G.W, .slice F.G.A F.G.n F.G.c, .int .i64 F.K.W, .slice F.K.A F.K.n F.K.c, .slice F.C F.k F.q] 51)
            have hz := hK' _ _ (hK (.slice (some ⟨u.heap.size, 0, none⟩) 1 1) (u.alloc (.cells #[.int .i64 F.G.W, .slice F.G.A F.G.n F.G.c, .int .i64 F.K.W, .slice F.K.A F.K.n F.K.c, .slice F.C F.k F.q] 51)) (hB.below hb) (hB.R_below hb) (⟨F, _, rfl, Fb.new u _ _, hF⟩))
            refine Eq.mp (congrArg (fun act => K' act (u.alloc (.cells #[.int .i64 F.G.W, .slice F.G.A F.G.n F.G.c, .int .i64 F.K.W, .slice F.K.A F.K.n F.K.c, .slice F.C F.k F.q] 51))) ?_) hz
            kernel_rfl
          | 9, ho, hG, hpre, hK =>
            obtain rfl := Option.some.inj ho
            have e6 : f 6 = Tr := hpre ⟨6, .data⟩ (by simp) rfl (.inl rfl)
            obtain ⟨F, g8, e8, q8, hF⟩ : ∃ (F : FH) (g : Nat), f 8 = .slice (some ⟨g, 0, none⟩) 1 1 ∧ Fb u g #[.int .i64 F.G.W, .slice F.G.A F.G.n F.G.c, .int .i64 F.K.W, .slice F.K.A F.K.n F.K.c, .slice F.C F.k F.q] 51 ∧ zF F := hpre ⟨8, .data⟩ (by simp) rfl (.inr rfl)
            have ho := hG.2.2.2.2.1 rfl
            have hbase : w.heap.size + 2 ≤ u.heap.size := hB.sz
            obtain ⟨f, rfl⟩ := fixG f 6 _ e6
            rw [updV_ne _ _ (by decide)] at e8
            obtain ⟨f, rfl⟩ := fixG f 8 _ e8
            clear e6 e8
            refine wpOp_step rfl fun K' hK' => ?_
            refine step_append_lies _ rfl (.tmp 22) (.tmp 24) 24 rfl (w.heap.size + 2) 51 iT _ 5 88 Try.underlying24 HT.out HT0.out HT1.out HT2.out rfl (by decide) Tr lT.length (lT.flatMap FH.cells) (by kernel_rfl) ho ⟨g8, 0, none⟩ 1 1 (F.cells) (by kernel_rfl) rfl (fun j x hx => World.news_of_block q8 j x hx) (one_fcells F) (by omega) (by unfold maxLen; omega) (by omega) hbase _ rfl ?_
            intro g9 q9 w9 hown hgr hat _
            have hz := hK' _ _ (hK (.slice (some ⟨g9, 0, none⟩) (lT.length + 1) q9) w9 (hB.app ho hgr (by decide) (by decide)) (hB.R_app ho hgr (by decide) rfl) (⟨F, g9, q9, rfl, hown, hF⟩))
            refine Eq.mp (congrArg (fun act => K' act w9) ?_) hz
            kernel_rfl
          | 10, ho, hG, hpre, hK =>
            obtain rfl := Option.some.inj ho
            refine wpOp_step rfl fun K' hK' => ?_
            simp only [putL, updV]
            go_simp
            have hz := hK' _ _ (hK (.pointer (some ⟨w.heap.size + 1, 3, none⟩)) (u) (hB) (hB.R_below (Below.refl _ _)) (rfl))
            refine Eq.mp (congrArg (fun act => K' act (u)) ?_) hz
            kernel_rfl
          | 11, ho, hG, hpre, hK =>
            obtain rfl := Option.some.inj ho
            have y0 := hG.2.2.1 (.inl rfl)
            have hlt := hB.lt
            have e10 : f 10 = .pointer (some ⟨w.heap.size + 1, 3, none⟩) := hpre ⟨10, .data⟩ (by simp) rfl (.inl rfl)
            obtain ⟨f, rfl⟩ := fixG f 10 _ e10
            clear e10
            refine wpOp_step rfl fun K' hK' => ?_
            simp only [putL, updV]
            go_simp
            have hz := hK' _ _ (hK (B) (u) (hB) (hB.R_below (Below.refl _ _)) (rfl))
            refine Eq.mp (congrArg (fun act => K' act (u)) ?_) hz
            kernel_rfl
          | 12, ho, hG, hpre, hK =>
            obtain rfl := Option.some.inj ho
            refine wpOp_step rfl fun K' hK' => ?_
            simp only [putL, updV]
            go_simp
            go_at_call 15
            refine (refEmpty_any 0 u (by omega)).mono ?_
            rintro e u5 ⟨g1, rfl, -, -, hb⟩
            rw [len_emp]
            have hz := hK' _ _ (hK (.agg #[.int .i64 ((0 : Nat) : Int), .slice (some ⟨g1, 0, none⟩) (Bs.nw 0) (Bs.nw 0)]) (u5) (hB.below hb) (hB.R_below hb) (⟨⟨0, some ⟨g1, 0, none⟩, Bs.nw 0, Bs.nw 0, []⟩, rfl, rfl, rfl, rfl⟩))
            refine Eq.mp (congrArg (fun act => K' act (u5)) ?_) hz
            kernel_rfl
          | 13, ho, hG, hpre, hK =>
            obtain rfl := Option.some.inj ho
            obtain ⟨z, e12, hZ⟩ : ∃ z : ZH, f 12 = .agg #[.int .i64 z.W, .slice z.A z.n z.c] ∧ zZ z := hpre ⟨12, .data⟩ (by simp) rfl (.inl rfl)
            obtain ⟨f, rfl⟩ := fixG f 12 _ e12
            clear e12
            refine wpOp_step rfl fun K' hK' => ?_
            simp only [putL, updV]
            go_simp
            have hb := (Below.refl u.heap.size u).alloc (Nat.le_refl _) (.cells #[.int .i64 z.W, .slice z.A z.n z.c] 47)
            have hz := hK' _ _ (hK (.slice (some ⟨u.heap.size, 0, none⟩) 1 1) (u.alloc (.cells #[.int .i64 z.W, .slice z.A z.n z.c] 47)) (hB.below hb) (hB.R_below hb) (⟨z, _, rfl, Fb.new u _ _, hZ⟩))
            refine Eq.mp (congrArg (fun act => K' act (u.alloc (.cells #[.int .i64 z.W, .slice z.A z.n z.c] 47))) ?_) hz
            kernel_rfl
          | 14, ho, hG, hpre, hK =>
            obtain rfl := Option.some.inj ho
            have e11 : f 11 = B := hpre ⟨11, .data⟩ (by simp) rfl (.inl rfl)
            obtain ⟨z, g13, e13, q13, hZ⟩ : ∃ (z : ZH) (g : Nat), f 13 = .slice (some ⟨g, 0, none⟩) 1 1 ∧ Fb u g #[.int .i64 z.W, .slice z.A z.n z.c] 47 ∧ zZ z := hpre ⟨13, .data⟩ (by simp) rfl (.inr rfl)
            have ho := hG.2.2.2.2.2 rfl
            have hbase : w.heap.size + 2 ≤ u.heap.size := hB.sz
            obtain ⟨f, rfl⟩ := fixG f 11 _ e11
            rw [updV_ne _ _ (by decide)] at e13
            obtain ⟨f, rfl⟩ := fixG f 13 _ e13
            clear e11 e13
            refine wpOp_step rfl fun K' hK' => ?_
            refine step_append_lies _ rfl (.tmp 27) (.tmp 29) 25 rfl (w.heap.size + 2) 47 iB _ 2 32 Try.underlying25 HB.out HB0.out HB1.out HB2.out rfl (by decide) B lB.length (lB.flatMap ZH.cs) (by kernel_rfl) ho ⟨g13, 0, none⟩ 1 1 (z.cs) (by kernel_rfl) rfl (fun j x hx => World.news_of_block q13 j x hx) (one_zcs z) (by omega) (by unfold maxLen; omega) (by omega) hbase _ rfl ?_
            intro g9 q9 w9 hown hgr hat _
            have hz := hK' _ _ (hK (.slice (some ⟨g9, 0, none⟩) (lB.length + 1) q9) w9 (hB.app ho hgr (by decide) (by decide)) (hB.R_app ho hgr (by decide) rfl) (⟨z, g9, q9, rfl, hown, hZ⟩))
            refine Eq.mp (congrArg (fun act => K' act w9) ?_) hz
            kernel_rfl
          | 15, ho, hG, hpre, hK =>
            obtain rfl := Option.some.inj ho
            refine wpOp_step rfl fun K' hK' => ?_
            simp only [putL, updV]
            go_simp
            have hz := hK' _ _ (hK (.pointer (some ⟨w.heap.size + 1, 1, none⟩)) (u) (hB) (hB.R_below (Below.refl _ _)) (rfl))
            refine Eq.mp (congrArg (fun act => K' act (u)) ?_) hz
            kernel_rfl
          | 16, ho, hG, hpre, hK =>
            obtain rfl := Option.some.inj ho
            have e15 : f 15 = .pointer (some ⟨w.heap.size + 1, 1, none⟩) := hpre ⟨15, .data⟩ (by simp) rfl (.inl rfl)
            obtain ⟨g4, q4, e4, o4⟩ : ∃ g q : Nat, f 4 = .slice (some ⟨g, 0, none⟩) (lD.length + 1) q ∧ u.ownsRow (w.heap.size + 2) 22 1 (.slice (some ⟨g, 0, none⟩) (lD.length + 1) q) (lD.length + 1) (lD.flatMap lhc ++ lhc d) := hpre ⟨4, .data⟩ (by simp) rfl (.inl rfl)
            have y1 := hG.1 (by omega)
            obtain ⟨X, Y, Z, hx⟩ := hB.sx
            obtain ⟨f, rfl⟩ := fixG f 15 _ e15
            rw [updV_ne _ _ (by decide)] at e4
            obtain ⟨f, rfl⟩ := fixG f 4 _ e4
            clear e15 e4
            have f1 := hx.frozen 1
            have hl := hx.lt
            refine wpOp_step rfl fun K' hK' => ?_
            simp only [putL, updV]
            go_simp
            have hz := hK' _ _ (hK (undef) (u.setCell ⟨w.heap.size + 1, 1, none⟩ (.slice (some ⟨g4, 0, none⟩) (lD.length + 1) q4)) (hB.put1 _) (hB.putR1 _) (hB.cell1 _))
            refine Eq.mp (congrArg (fun act => K' act (u.setCell ⟨w.heap.size + 1, 1, none⟩ (.slice (some ⟨g4, 0, none⟩) (lD.length + 1) q4))) ?_) hz
            kernel_rfl
          | 17, ho, hG, hpre, hK =>
            obtain rfl := Option.some.inj ho
            refine wpOp_step rfl fun K' hK' => ?_
            simp only [putL, updV]
            go_simp
            have hz := hK' _ _ (hK (.pointer (some ⟨w.heap.size + 1, 2, none⟩)) (u) (hB) (hB.R_below (Below.refl _ _)) (rfl))
            refine Eq.mp (congrArg (fun act => K' act (u)) ?_) hz
            kernel_rfl
          | 18, ho, hG, hpre, hK =>
            obtain rfl := Option.some.inj ho
            have e17 : f 17 = .pointer (some ⟨w.heap.size + 1, 2, none⟩) := hpre ⟨17, .data⟩ (by simp) rfl (.inl rfl)
            obtain ⟨F, g9, q9, e9, o9, hF⟩ : ∃ (F : FH) (g q : Nat), f 9 = .slice (some ⟨g, 0, none⟩) (lT.length + 1) q ∧ u.ownsRow (w.heap.size + 2) 51 5 (.slice (some ⟨g, 0, none⟩) (lT.length + 1) q) (lT.length + 1) (lT.flatMap FH.cells ++ F.cells) ∧ zF F := hpre ⟨9, .data⟩ (by simp) rfl (.inl rfl)
            have y2 := hG.2.1 (by omega)
            obtain ⟨X, Y, Z, hx⟩ := hB.sx
            obtain ⟨f, rfl⟩ := fixG f 17 _ e17
            rw [updV_ne _ _ (by decide)] at e9
            obtain ⟨f, rfl⟩ := fixG f 9 _ e9
            clear e17 e9
            have f2 := hx.frozen 2
            have hl := hx.lt
            refine wpOp_step rfl fun K' hK' => ?_
            simp only [putL, updV]
            go_simp
            have hz := hK' _ _ (hK (undef) (u.setCell ⟨w.heap.size + 1, 2, none⟩ (.slice (some ⟨g9, 0, none⟩) (lT.length + 1) q9)) (hB.put2 _) (hB.putR2 _) (hB.cell2 _))
            refine Eq.mp (congrArg (fun act => K' act (u.setCell ⟨w.heap.size + 1, 2, none⟩ (.slice (some ⟨g9, 0, none⟩) (lT.length + 1) q9))) ?_) hz
            kernel_rfl
          | 19, ho, hG, hpre, hK =>
            obtain rfl := Option.some.inj ho
            refine wpOp_step rfl fun K' hK' => ?_
            simp only [putL, updV]
            go_simp
            have hz := hK' _ _ (hK (.pointer (some ⟨w.heap.size + 1, 3, none⟩)) (u) (hB) (hB.R_below (Below.refl _ _)) (rfl))
            refine Eq.mp (congrArg (fun act => K' act (u)) ?_) hz
            kernel_rfl
          | 20, ho, hG, hpre, hK =>
            obtain rfl := Option.some.inj ho
            have e19 : f 19 = .pointer (some ⟨w.heap.size + 1, 3, none⟩) := hpre ⟨19, .data⟩ (by simp) rfl (.inl rfl)
            obtain ⟨z, g14, q14, e14, o14, hZ⟩ : ∃ (z : ZH) (g q : Nat), f 14 = .slice (some ⟨g, 0, none⟩) (lB.length + 1) q ∧ u.ownsRow (w.heap.size + 2) 47 2 (.slice (some ⟨g, 0, none⟩) (lB.length + 1) q) (lB.length + 1) (lB.flatMap ZH.cs ++ z.cs) ∧ zZ z := hpre ⟨14, .data⟩ (by simp) rfl (.inl rfl)
            have y3 := hG.2.2.1 (by omega)
            obtain ⟨X, Y, Z, hx⟩ := hB.sx
            obtain ⟨f, rfl⟩ := fixG f 19 _ e19
            rw [updV_ne _ _ (by decide)] at e14
            obtain ⟨f, rfl⟩ := fixG f 14 _ e14
            clear e19 e14
            have f3 := hx.frozen 3
            have hl := hx.lt
            refine wpOp_step rfl fun K' hK' => ?_
            simp only [putL, updV]
            go_simp
            have hz := hK' _ _ (hK (undef) (u.setCell ⟨w.heap.size + 1, 3, none⟩ (.slice (some ⟨g14, 0, none⟩) (lB.length + 1) q14)) (hB.put3 _) (hB.putR3 _) (hB.cell3 _))
            refine Eq.mp (congrArg (fun act => K' act (u.setCell ⟨w.heap.size + 1, 3, none⟩ (.slice (some ⟨g14, 0, none⟩) (lB.length + 1) q14))) ?_) hz
            kernel_rfl
          | j + 21, ho, hG, hpre, hK => exact absurd hi (by omega)
        case en =>
          intro Q2 hQ2 f u hB hF
          obtain ⟨g4, q4, e4, o4⟩ : ∃ g q : Nat, f 4 = .slice (some ⟨g, 0, none⟩) (lD.length + 1) q ∧ u.ownsRow (w.heap.size + 2) 22 1 (.slice (some ⟨g, 0, none⟩) (lD.length + 1) q) (lD.length + 1) (lD.flatMap lhc ++ lhc d) := hF 4 (by decide) rfl
          obtain ⟨F, g9, q9, e9, o9, hF9⟩ : ∃ (F : FH) (g q : Nat), f 9 = .slice (some ⟨g, 0, none⟩) (lT.length + 1) q ∧ u.ownsRow (w.heap.size + 2) 51 5 (.slice (some ⟨g, 0, none⟩) (lT.length + 1) q) (lT.length + 1) (lT.flatMap FH.cells ++ F.cells) ∧ zF F := hF 9 (by decide) rfl
          obtain ⟨z, g14, q14, e14, o14, hZ⟩ : ∃ (z : ZH) (g q : Nat), f 14 = .slice (some ⟨g, 0, none⟩) (lB.length + 1) q ∧ u.ownsRow (w.heap.size + 2) 47 2 (.slice (some ⟨g, 0, none⟩) (lB.length + 1) q) (lB.length + 1) (lB.flatMap ZH.cs ++ z.cs) ∧ zZ z := hF 14 (by decide) rfl
          have c1 : u.cell? ⟨w.heap.size + 1, 1, none⟩ = some (f 4) := hF 16 (by decide) rfl
          have c2 : u.cell? ⟨w.heap.size + 1, 2, none⟩ = some (f 9) := hF 18 (by decide) rfl
          have c3 : u.cell? ⟨w.heap.size + 1, 3, none⟩ = some (f 14) := hF 20 (by decide) rfl
          rw [e4] at c1
          rw [e9] at c2
          rw [e14] at c3
          have HLn := hid (hB.done c1 c2 c3 o4 o9 o14 hF9 hZ HL.out)
          obtain ⟨f, rfl⟩ := fixG f 4 _ e4
          rw [updV_ne _ _ (by decide)] at e9
          rw [updV_ne _ _ (by decide)] at e14
          obtain ⟨f, rfl⟩ := fixG f 9 _ e9
          rw [updV_ne _ _ (by decide)] at e14
          obtain ⟨f, rfl⟩ := fixG f 14 _ e14
          clear e4 e9 e14
          clear hF
          show wpAny _ _ _ _ 0 (tailArr 21 21) _ _
          refine ⟨by kernel_rfl, hQ2 _ _ (hKx _ _ ?_)⟩
          simp only [putL, updV]
          clear c1 c2 c3 o4 o9 o14 hF9 hZ hB HL
          go_wp2_with fail
          go_roundw
          case rel => exact ⟨lD.length + 1, _, _, _, lD ++ [d], lT ++ [F], lB ++ [z], by omega, by go_num, hid ⟨HN2.out.1, HN2.out.2 F z⟩, HLn⟩
          case measure => simp [intOf]; omega
    · obtain rfl : i = 4 := by omega
      obtain ⟨hlD, hlT, hlB⟩ := HN.out
      obtain ⟨b0, b1, b2, b3⟩ := HLr.out.sx.four
      obtain ⟨r0, r1, r2, r3⟩ := HLr.out.rx.four
      have f0 := HLr.out.rx.frozen 0
      have f1 := HLr.out.rx.frozen 1
      have f2 := HLr.out.rx.frozen 2
      have f3 := HLr.out.rx.frozen 3
      have hlr := HLr.out.rx.lt
      have hls := HLr.out.sx.lt
      obtain ⟨A1, c1, e1⟩ := own_slice3 HLr.out.oD
      obtain ⟨A2, c2, e2⟩ := own_slice3 HLr.out.oB
      obtain ⟨A3, c3, e3⟩ := own_slice3 HLr.out.oT
      rw [hlD] at e1
      rw [hlB] at e2
      rw [hlT] at e3
      subst e1
      subst e2
      subst e3
      have Hfin := hid (HLr.out.fin hlD hlB hlT)
      clear hlD hlB hlT
      go_wp2_with fail
      refine bodyPost_ret (v := .agg #[.int .i64 0, .slice A1 4 c1, .slice A3 4 c3, .slice A2 4 c2]) (by simp [results, Try.results28, go_sem, b0, b1, b2, b3, r0, r1, r2, r3]) rfl ?_
      exact Hfin.out
end Go.Proofs.Ytadkjnjibefocaa
