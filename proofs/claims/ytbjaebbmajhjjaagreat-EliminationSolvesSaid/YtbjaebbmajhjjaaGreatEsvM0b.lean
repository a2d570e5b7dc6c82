/- Merged texts: what YtbjaebbmajhjjaaGreatEliminationSolvesProof leans on. -/
import Derived.Test.YtbjaebbmajhjjaaGreatEsvM0
import Derived.Test.YtbjaebbmajhjjaaGreatEsvM0a
namespace Go.Proofs.YtbjaebbmajhjjaaGreat
set_option maxRecDepth 20000
set_option linter.unusedVariables false
set_option linter.unusedSimpArgs false
open Go.ChangeShapes Go.WideShapes Go.ChangeAt Go.RowKit
def exS (T R bS : Nat) (D B Tr : Value) : List (Option Nat) := [some T, some R, some bS, D.ownBlock, B.ownBlock, Tr.ownBlock]
def lhc (y : RH) : List Value := [.slice y.A y.n y.c]
def gD (N : Nat) (y : RH) : Prop := RisP N y.l ∧ y.n ≤ 3
def gB (W : Nat) (y : ZH) : Prop := y.W = W ∧ Bs.Fit W y.ws
def gT (W : Nat) (y : FH) : Prop := FOk W y ∧ y.k ≤ 12
structure Sg (w : World) (T bS W N : Nat) (D B Tr : Value) (lD : List RH) (lB : List ZH) (lT : List FH) (u : World) : Prop where
  tp : Tape u T
  hT : T < w.heap.size
  hb : w.heap.size < bS
  gr : w.grownBy u (some T)
  rx : Fb u w.heap.size #[.int .i64 0, .slice none 0 0, .slice none 0 0, .slice none 0 0] 62
  bx : Fb u bS #[.int .i64 W, D, Tr, B] 62
  oD : u.ownsRow (bS + 1) 45 1 D lD.length (lD.flatMap lhc)
  oB : u.ownsRow (bS + 1) 24 2 B lB.length (lB.flatMap ZH.cs)
  oT : u.ownsRow (bS + 1) 30 5 Tr lT.length (lT.flatMap FH.cells)
  eD : ∀ y ∈ lD, RHok u (exS T w.heap.size bS D B Tr) y
  eB : ∀ y ∈ lB, ZHok u (exS T w.heap.size bS D B Tr) y
  eT : ∀ y ∈ lT, FHok u (exS T w.heap.size bS D B Tr) y
  okD : ∀ y ∈ lD, gD N y
  okB : ∀ y ∈ lB, gB W y
  okT : ∀ y ∈ lT, gT W y
section
variable {w u u' : World} {T bS W N : Nat} {D B Tr : Value} {lD : List RH} {lB : List ZH} {lT : List FH}
theorem Sg.far {v : Value} {ty k n b : Nat} {xs : List Value} (h : u.ownsRow b ty k v n xs) {j : Nat} (hj : j < b) : v.ownBlock = none ∨ v.ownBlock ≠ some j := by
  cases hv : v.ownBlock with
  | none => exact .inl rfl
  | some g => exact .inr fun e => by have := (h.lt g hv).1; have := Option.some.inj e; omega
theorem Sg.step (h : Sg w T bS W N D B Tr lD lB lT u) (ht : Tape u' T) (hg : u.grownBy u' (some T)) : Sg w T bS W N D B Tr lD lB lT u' := by
  have hT := h.hT; have hb := h.hb
  have hG : Go2 u (exS T w.heap.size bS D B Tr) u' (exS T w.heap.size bS D B Tr) := Go2.same hg (.inr (by simp [exS]))
  exact ⟨ht, hT, hb, grown_trans h.gr hg, h.rx.grown hg (by simp; omega), h.bx.grown hg (by simp; omega), h.oD.kept hg (Sg.far h.oD (by omega)), h.oB.kept hg (Sg.far h.oB (by omega)), h.oT.kept hg (Sg.far h.oT (by omega)),
    fun y hy => (h.eD y hy).go hG, fun y hy => (h.eB y hy).go hG, fun y hy => (h.eT y hy).go hG, h.okD, h.okB, h.okT⟩
theorem Sg.below (h : Sg w T bS W N D B Tr lD lB lT u) (hb : Below u.heap.size u u') : Sg w T bS W N D B Tr lD lB lT u' := h.step (h.tp.below hb h.tp.lt) (grown_of_below hb _)
theorem Sg.exlt (h : Sg w T bS W N D B Tr lD lB lT u) : ∀ k, some k ∈ exS T w.heap.size bS D B Tr → k < u.heap.size := by
  intro k hk
  simp only [exS, List.mem_cons, Option.some.injEq, List.not_mem_nil, or_false] at hk
  rcases hk with rfl | rfl | rfl | hk | hk | hk
  · exact h.tp.lt
  · exact h.rx.lt
  · exact h.bx.lt
  · exact (h.oD.lt k hk.symm).2
  · exact (h.oB.lt k hk.symm).2
  · exact (h.oT.lt k hk.symm).2
theorem Sg.ges (h : Sg w T bS W N D B Tr lD lB lT u) : ∀ k, some k ∈ exS T w.heap.size bS D B Tr → k = T ∨ w.heap.size ≤ k := by
  have hb := h.hb
  intro k hk
  simp only [exS, List.mem_cons, Option.some.injEq, List.not_mem_nil, or_false] at hk
  rcases hk with rfl | rfl | rfl | hk | hk | hk
  · exact .inl rfl
  · exact .inr (Nat.le_refl _)
  · exact .inr (by omega)
  · exact .inr (by have := (h.oD.lt k hk.symm).1; omega)
  · exact .inr (by have := (h.oB.lt k hk.symm).1; omega)
  · exact .inr (by have := (h.oT.lt k hk.symm).1; omega)
theorem ex_typ {w u : World} {T bS nD nB nT b : Nat} {cs cs' : Array Value} {D B Tr : Value} {xD xB xT : List Value} (ht : Tape u T) (hr : Fb u w.heap.size cs' 62) (hb : Fb u bS cs 62) (oD : u.ownsRow b 45 1 D nD xD) (oB : u.ownsRow b 24 2 B nB xB) (oT : u.ownsRow b 30 5 Tr nT xT) :
    ∀ k, some k ∈ exS T w.heap.size bS D B Tr → ¬ Typ u k 97 ∧ ¬ Typ u k 27 := by
  intro k hk
  simp only [exS, List.mem_cons, Option.some.injEq, List.not_mem_nil, or_false] at hk
  rcases hk with rfl | rfl | rfl | hk | hk | hk
  · exact ⟨fun h => h.ne ht.typ (by decide) rfl, fun h => h.ne ht.typ (by decide) rfl⟩
  · exact ⟨fun h => h.ne hr.typ (by decide) rfl, fun h => h.ne hr.typ (by decide) rfl⟩
  · exact ⟨fun h => h.ne hb.typ (by decide) rfl, fun h => h.ne hb.typ (by decide) rfl⟩
  · exact ⟨fun h => h.ne (own_typ oD hk.symm) (by decide) rfl, fun h => h.ne (own_typ oD hk.symm) (by decide) rfl⟩
  · exact ⟨fun h => h.ne (own_typ oB hk.symm) (by decide) rfl, fun h => h.ne (own_typ oB hk.symm) (by decide) rfl⟩
  · exact ⟨fun h => h.ne (own_typ oT hk.symm) (by decide) rfl, fun h => h.ne (own_typ oT hk.symm) (by decide) rfl⟩
theorem Sg.set (h : Sg w T bS W N D B Tr lD lB lT u) {g : Nat} {ws : List Nat} (hr : Row u g ws) (hf : Bs.Fit W ws) : ZHok u (exS T w.heap.size bS D B Tr) ⟨W, some ⟨g, 0, none⟩, Bs.nw W, Bs.nw W, ws⟩ :=
  ⟨EAt.fb hr (fun hm => (ex_typ h.tp h.rx h.bx h.oD h.oB h.oT g hm).1 hr.typ) (fun j x hx => by simpa using hx), by have := hf.len; simpa using this, hf.ok⟩
theorem Sg.drow (h : Sg w T bS W N D B Tr lD lB lT u) {y : RH} (hy : RHok u (exS T w.heap.size bS D B Tr) y) (ht : Tape u' T) (hg : u.grownBy u' (some T)) : RHok u' (exS T w.heap.size bS D B Tr) y := hy.go (Go2.same hg (.inr (by simp [exS])))
theorem Sg.zset (h : Sg w T bS W N D B Tr lD lB lT u) {y : ZH} (hy : ZHok u (exS T w.heap.size bS D B Tr) y) (ht : Tape u' T) (hg : u.grownBy u' (some T)) : ZHok u' (exS T w.heap.size bS D B Tr) y := hy.go (Go2.same hg (.inr (by simp [exS])))
end
theorem info22 : (Tryz.prog.info? 45).map (fun i => (i.zero, i.size, i.bytes)) = some (some (.slice none 0 0), 1, 24) := by kernel_rfl
theorem info41 : (Tryz.prog.info? 24).map (fun i => (i.zero, i.size, i.bytes)) = some (some (.agg #[.int .i64 0, .slice none 0 0]), 2, 32) := by kernel_rfl
theorem info70 : (Tryz.prog.info? 30).map (fun i => (i.zero, i.size, i.bytes)) = some (some (.agg #[.int .i64 0, .slice none 0 0, .int .i64 0, .slice none 0 0, .slice none 0 0]), 5, 88) := by kernel_rfl
theorem one_lhc (y : RH) : ∀ u ∈ lhc y, u.oneCell' = true := by intro u hu; simp [lhc] at hu; subst hu; rfl
theorem one_zcs (y : ZH) : ∀ u ∈ y.cs, u.oneCell' = true := by intro u hu; simp [ZH.cs] at hu; rcases hu with rfl | rfl <;> rfl
theorem one_fcells (y : FH) : ∀ u ∈ y.cells, u.oneCell' = true := by intro u hu; simp [FH.cells] at hu; rcases hu with rfl | rfl | rfl | rfl | rfl <;> rfl
def tyO (j : Nat) : Nat := if j = 4 then 45 else if j = 9 then 24 else if j = 17 then 30 else 78
theorem tyO_4 {j : Nat} (h : j ≠ 4) : 45 ≠ tyO j := by unfold tyO; rw [if_neg h]; split; decide; split; decide; decide
theorem tyO_9 {j : Nat} (h : j ≠ 9) : 24 ≠ tyO j := by unfold tyO; rw [if_neg h]; split; decide; split; decide; decide
theorem tyO_17 {j : Nat} (h : j ≠ 17) : 30 ≠ tyO j := by unfold tyO; rw [if_neg h]; split; decide; split; decide; decide
theorem tyO_u (j : Nat) : 97 ≠ tyO j := by unfold tyO; split; decide; split; decide; split; decide; decide
theorem tyO_c (j : Nat) : 27 ≠ tyO j := by unfold tyO; split; decide; split; decide; split; decide; decide
def sgF (w1 : World) (T bS W : Nat) (D B Tr : Value) (lD : List RH) (lB : List ZH) (lT : List FH) (d : RH) (b : ZH) : Nat → Value → World → Prop
  | 0, v, _ => v = .pointer (some ⟨bS, 1, none⟩)
  | 1, v, _ => v = D
  | 2, v, _ => v = .slice d.A d.n d.c
  | 3, v, u => ∃ g, v = .slice (some ⟨g, 0, none⟩) 1 1 ∧ Fb u g (lhc d).toArray 45
  | 4, v, u => ∃ g q, v = .slice (some ⟨g, 0, none⟩) (lD.length + 1) q ∧ u.ownsRow (bS + 1) 45 1 (.slice (some ⟨g, 0, none⟩) (lD.length + 1) q) (lD.length + 1) (lD.flatMap lhc ++ lhc d) ∧ (D.ownBlock = some g ∨ w1.heap.size ≤ g)
  | 5, v, _ => v = .pointer (some ⟨bS, 3, none⟩)
  | 6, v, _ => v = B
  | 7, v, _ => v = b.a
  | 8, v, u => ∃ g, v = .slice (some ⟨g, 0, none⟩) 1 1 ∧ Fb u g b.cs.toArray 24
  | 9, v, u => ∃ g q, v = .slice (some ⟨g, 0, none⟩) (lB.length + 1) q ∧ u.ownsRow (bS + 1) 24 2 (.slice (some ⟨g, 0, none⟩) (lB.length + 1) q) (lB.length + 1) (lB.flatMap ZH.cs ++ b.cs) ∧ (B.ownBlock = some g ∨ w1.heap.size ≤ g)
  | 10, v, _ => v = .pointer (some ⟨bS, 2, none⟩)
  | 11, v, _ => v = Tr
  | 12, v, _ => v = .pointer (some ⟨T, 0, none⟩)
  | 13, v, _ => v = .pointer (some ⟨bS, 0, none⟩)
  | 14, v, _ => v = .int .i64 W
  | 15, v, u => ∃ F : FH, v = F.a ∧ Ft u W F
  | 16, v, u => ∃ (F : FH) (g : Nat), v = .slice (some ⟨g, 0, none⟩) 1 1 ∧ Fb u g F.cells.toArray 30 ∧ Ft u W F
  | 17, v, u => ∃ (F : FH) (g q : Nat), v = .slice (some ⟨g, 0, none⟩) (lT.length + 1) q ∧ u.ownsRow (bS + 1) 30 5 (.slice (some ⟨g, 0, none⟩) (lT.length + 1) q) (lT.length + 1) (lT.flatMap FH.cells ++ F.cells) ∧ (Tr.ownBlock = some g ∨ w1.heap.size ≤ g) ∧ Ft u W F
  | 18, v, _ => v = .pointer (some ⟨bS, 1, none⟩)
  | _, _, _ => True
def sgU : Nat → Option Nat
  | 3 => some 4
  | 8 => some 9
  | 16 => some 17
  | _ => none
theorem sgF_st {w1 : World} {T bS W : Nat} {D B Tr : Value} {lD : List RH} {lB : List ZH} {lT : List FH} {d : RH} {b : ZH} (j : Nat) (u u' : World) (i : Nat) (v : Value) (hR : Stp1 (tyO j) u u') (hne : i ≠ j) (hu : sgU i ≠ some j) (h : sgF w1 T bS W D B Tr lD lB lT d b i v u) : sgF w1 T bS W D B Tr lD lB lT d b i v u' := by
  match i, hne, hu, h with
  | 0, _, _, h => exact h
  | 1, _, _, h => exact h
  | 2, _, _, h => exact h
  | 3, _, hu, h => obtain ⟨g, h1, h2⟩ := h; exact ⟨g, h1, hR.fb h2 (tyO_4 fun e => hu (by rw [e]; rfl))⟩
  | 4, hne, _, h => obtain ⟨g, q, h1, h2, h3⟩ := h; exact ⟨g, q, h1, hR.own h2 (tyO_4 hne.symm), h3⟩
  | 5, _, _, h => exact h
  | 6, _, _, h => exact h
  | 7, _, _, h => exact h
  | 8, _, hu, h => obtain ⟨g, h1, h2⟩ := h; exact ⟨g, h1, hR.fb h2 (tyO_9 fun e => hu (by rw [e]; rfl))⟩
  | 9, hne, _, h => obtain ⟨g, q, h1, h2, h3⟩ := h; exact ⟨g, q, h1, hR.own h2 (tyO_9 hne.symm), h3⟩
  | 10, _, _, h => exact h
  | 11, _, _, h => exact h
  | 12, _, _, h => exact h
  | 13, _, _, h => exact h
  | 14, _, _, h => exact h
  | 15, _, _, h => obtain ⟨F, h1, h2⟩ := h; exact ⟨F, h1, hR.ft h2 (tyO_u j) (tyO_c j)⟩
  | 16, _, hu, h => obtain ⟨F, g, h1, h2, h3⟩ := h; exact ⟨F, g, h1, hR.fb h2 (tyO_17 fun e => hu (by rw [e]; rfl)), hR.ft h3 (tyO_u j) (tyO_c j)⟩
  | 17, hne, _, h => obtain ⟨F, g, q, h1, h2, h3, h4⟩ := h; exact ⟨F, g, q, h1, hR.own h2 (tyO_17 hne.symm), h3, hR.ft h4 (tyO_u j) (tyO_c j)⟩
  | 18, _, _, h => exact h
  | i + 19, _, _, h => trivial
def sgG (bS : Nat) (D B Tr : Value) (lD : List RH) (lB : List ZH) (lT : List FH) : Nat → World → Prop
  | 4, u => u.ownsRow (bS + 1) 45 1 D lD.length (lD.flatMap lhc)
  | 9, u => u.ownsRow (bS + 1) 24 2 B lB.length (lB.flatMap ZH.cs)
  | 17, u => u.ownsRow (bS + 1) 30 5 Tr lT.length (lT.flatMap FH.cells)
  | _, _ => True
theorem sgG_st {bS : Nat} {D B Tr : Value} {lD : List RH} {lB : List ZH} {lT : List FH} (j : Nat) (u u' : World) (c : Nat) (hR : Stp1 (tyO j) u u') (hne : c ≠ j) (h : sgG bS D B Tr lD lB lT c u) : sgG bS D B Tr lD lB lT c u' := by
  by_cases h4 : c = 4
  · subst h4; exact hR.own (show u.ownsRow _ _ _ _ _ _ from h) (tyO_4 hne.symm)
  · by_cases h9 : c = 9
    · subst h9; exact hR.own (show u.ownsRow _ _ _ _ _ _ from h) (tyO_9 hne.symm)
    · by_cases h17 : c = 17
      · subst h17; exact hR.own (show u.ownsRow _ _ _ _ _ _ from h) (tyO_17 hne.symm)
      · unfold sgG; split <;> first | omega | trivial
theorem Sg.sgG {w u : World} {T bS W N : Nat} {D B Tr : Value} {lD : List RH} {lB : List ZH} {lT : List FH} (h : Sg w T bS W N D B Tr lD lB lT u) (c : Nat) : sgG bS D B Tr lD lB lT c u := by
  unfold YtbjaebbmajhjjaaGreat.sgG
  split
  · exact h.oD
  · exact h.oB
  · exact h.oT
  · trivial
structure SgB (w w1 : World) (T bS W : Nat) (D B Tr : Value) (bb : Nat) (b : ZH) (u : World) : Prop where
  gx : GrX w1 (exS T w.heap.size bS D B Tr) u
  tp : Tape u T
  rx : Fb u w.heap.size #[.int .i64 0, .slice none 0 0, .slice none 0 0, .slice none 0 0] 62
  bx : Fb u bS #[.int .i64 W, D, Tr, B] 62
  bb : Fb u bb b.cs.toArray 24
section
variable {w w1 u u' : World} {T bS W N bb : Nat} {D B Tr : Value} {lD : List RH} {lB : List ZH} {lT : List FH} {d : RH} {b : ZH}
theorem SgB.below (h : SgB w w1 T bS W D B Tr bb b u) (hb : Below u.heap.size u u') : SgB w w1 T bS W D B Tr bb b u' :=
  ⟨h.gx.below hb, h.tp.below hb h.tp.lt, h.rx.below hb h.rx.lt, h.bx.below hb h.bx.lt, h.bb.below hb h.bb.lt⟩
theorem SgB.tape (h : SgB w w1 T bS W D B Tr bb b u) (hs : Sg w T bS W N D B Tr lD lB lT w1) (ht : Tape u' T) (hg : u.grownBy u' (some T)) : SgB w w1 T bS W D B Tr bb b u' := by
  have hT := hs.hT; have hb := hs.hb
  exact ⟨h.gx.step hg (fun g e => .inl (by simp [exS])), ht, h.rx.grown hg (by simp; omega), h.bx.grown hg (by simp; omega), h.bb.grown hg fun e => (h.bb.typ.ne h.tp.typ (by decide)) (Option.some.inj e)⟩
theorem SgB.app {v : Value} {ty k n : Nat} {xs : List Value} (h : SgB w w1 T bS W D B Tr bb b u) (hs : Sg w T bS W N D B Tr lD lB lT w1) (hv : v = D ∨ v = B ∨ v = Tr) (ho : u.ownsRow (bS + 1) ty k v n xs) (hbb : v.ownBlock ≠ some bb) (hg : u.grownBy u' v.ownBlock) : SgB w w1 T bS W D B Tr bb b u' := by
  have hT := hs.hT; have hb := hs.hb
  have far : ∀ j, j < bS + 1 → some j ≠ v.ownBlock := fun j hj e => by have := (ho.lt j e.symm).1; omega
  refine ⟨h.gx.step hg fun g e => .inl ?_, h.tp.keep fun k hk => hg.block k (by have := h.tp.lt; omega) (far k (by omega)), h.rx.grown hg (far _ (by omega)), h.bx.grown hg (far _ (by omega)), h.bb.grown hg (Ne.symm hbb)⟩
  rcases hv with rfl | rfl | rfl <;> simp [exS]
theorem Sg.sgB (h : Sg w T bS W N D B Tr lD lB lT w1) (hb : Fb w1 bb b.cs.toArray 24) : SgB w w1 T bS W D B Tr bb b w1 := ⟨GrX.refl _ _, h.tp, h.rx, h.bx, hb⟩
structure TlI (D' B' T' : Value) (bS : Nat) (u0 : World) (L : Nat → Bool) (f : Nat → Value) (u : World) : Prop where
  pre : ∀ i, i < 19 → L i = true
  v4 : f 4 = D'
  v9 : f 9 = B'
  v17 : f 17 = T'
  a18 : L 18 = true → f 18 = .pointer (some ⟨bS, 1, none⟩)
  a20 : L 20 = true → f 20 = .pointer (some ⟨bS, 3, none⟩)
  a22 : L 22 = true → f 22 = .pointer (some ⟨bS, 2, none⟩)
  c21 : L 21 = true → L 19 = true
  c23 : L 23 = true → L 21 = true
  w0 : L 19 = false → u = u0
  w1 : L 19 = true → L 21 = false → u = u0.setCell ⟨bS, 1, none⟩ D'
  w2 : L 21 = true → L 23 = false → u = (u0.setCell ⟨bS, 1, none⟩ D').setCell ⟨bS, 3, none⟩ B'
  w3 : L 23 = true → u = ((u0.setCell ⟨bS, 1, none⟩ D').setCell ⟨bS, 3, none⟩ B').setCell ⟨bS, 2, none⟩ T'
end
section
variable {D' B' T' : Value} {bS : Nat} {u0 : World} {L : Nat → Bool} {f : Nat → Value} {u : World}
theorem TlI.op20 (h : TlI D' B' T' bS u0 L f u) : TlI D' B' T' bS u0 (updL L 20) (updV f 20 (.pointer (some ⟨bS, 3, none⟩))) u := by
  obtain ⟨h1, h2, h3, h4, h5, h6, h7, h8, h9, h10, h11, h12, h13⟩ := h
  exact ⟨fun i hi => by rw [updL_ne _ (by omega)]; exact h1 i hi, by simpa [updV] using h2, by simpa [updV] using h3, by simpa [updV] using h4, by simpa [updV, updL] using h5, fun _ => updV_self _ _ _, by simpa [updV, updL] using h7, by simpa [updL] using h8, by simpa [updL] using h9, by simpa [updL] using h10, by simpa [updL] using h11, by simpa [updL] using h12, by simpa [updL] using h13⟩
theorem TlI.op22 (h : TlI D' B' T' bS u0 L f u) : TlI D' B' T' bS u0 (updL L 22) (updV f 22 (.pointer (some ⟨bS, 2, none⟩))) u := by
  obtain ⟨h1, h2, h3, h4, h5, h6, h7, h8, h9, h10, h11, h12, h13⟩ := h
  exact ⟨fun i hi => by rw [updL_ne _ (by omega)]; exact h1 i hi, by simpa [updV] using h2, by simpa [updV] using h3, by simpa [updV] using h4, by simpa [updV, updL] using h5, by simpa [updV, updL] using h6, fun _ => updV_self _ _ _, by simpa [updL] using h8, by simpa [updL] using h9, by simpa [updL] using h10, by simpa [updL] using h11, by simpa [updL] using h12, by simpa [updL] using h13⟩
theorem TlI.op19 (h : TlI D' B' T' bS u0 L f u) (hL : L 19 = false) (x : Value) : u = u0 ∧ TlI D' B' T' bS u0 (updL L 19) (updV f 19 x) (u0.setCell ⟨bS, 1, none⟩ D') := by
  obtain ⟨h1, h2, h3, h4, h5, h6, h7, h8, h9, h10, h11, h12, h13⟩ := h
  have l21 : L 21 = false := by cases e : L 21 with | false => rfl | true => rw [h8 e] at hL; cases hL
  have l23 : L 23 = false := by cases e : L 23 with | false => rfl | true => rw [h9 e] at l21; cases l21
  exact ⟨h10 hL, fun i hi => by rw [updL_ne _ (by omega)]; exact h1 i hi, by simpa [updV] using h2, by simpa [updV] using h3, by simpa [updV] using h4, by simpa [updV, updL] using h5, by simpa [updV, updL] using h6, by simpa [updV, updL] using h7, by simp [updL], by simpa [updL] using h9, by simp [updL], by simp [updL], by simp [updL, l21], by simp [updL, l23]⟩
theorem TlI.op21 (h : TlI D' B' T' bS u0 L f u) (hL : L 21 = false) (h19 : L 19 = true) (x : Value) : u = u0.setCell ⟨bS, 1, none⟩ D' ∧ TlI D' B' T' bS u0 (updL L 21) (updV f 21 x) ((u0.setCell ⟨bS, 1, none⟩ D').setCell ⟨bS, 3, none⟩ B') := by
  obtain ⟨h1, h2, h3, h4, h5, h6, h7, h8, h9, h10, h11, h12, h13⟩ := h
  have l23 : L 23 = false := by cases e : L 23 with | false => rfl | true => rw [h9 e] at hL; cases hL
  exact ⟨h11 h19 hL, fun i hi => by rw [updL_ne _ (by omega)]; exact h1 i hi, by simpa [updV] using h2, by simpa [updV] using h3, by simpa [updV] using h4, by simpa [updV, updL] using h5, by simpa [updV, updL] using h6, by simpa [updV, updL] using h7, by simp [updL, h19], by simp [updL], by simp [updL, h19], by simp [updL], by simp [updL], by simp [updL, l23]⟩
theorem TlI.op23 (h : TlI D' B' T' bS u0 L f u) (hL : L 23 = false) (h21 : L 21 = true) (x : Value) : u = (u0.setCell ⟨bS, 1, none⟩ D').setCell ⟨bS, 3, none⟩ B' ∧ TlI D' B' T' bS u0 (updL L 23) (updV f 23 x) (((u0.setCell ⟨bS, 1, none⟩ D').setCell ⟨bS, 3, none⟩ B').setCell ⟨bS, 2, none⟩ T') := by
  obtain ⟨h1, h2, h3, h4, h5, h6, h7, h8, h9, h10, h11, h12, h13⟩ := h
  have l19 := h8 h21
  exact ⟨h12 h21 hL, fun i hi => by rw [updL_ne _ (by omega)]; exact h1 i hi, by simpa [updV] using h2, by simpa [updV] using h3, by simpa [updV] using h4, by simpa [updV, updL] using h5, by simpa [updV, updL] using h6, by simpa [updV, updL] using h7, by simp [updL, l19], by simp [updL, h21], by simp [updL, l19], by simp [updL, h21], by simp [updL], by simp [updL]⟩
end
section
variable {w w1 u : World} {T bS W N bb : Nat} {D B Tr : Value} {lD : List RH} {lB : List ZH} {lT : List FH} {d : RH} {b : ZH}
theorem SgB.done (h : SgB w w1 T bS W D B Tr bb b u) (hs : Sg w T bS W N D B Tr lD lB lT w1) (hd : RHok w1 (exS T w.heap.size bS D B Tr) d) (hz : ZHok w1 (exS T w.heap.size bS D B Tr) b) (hgd : gD N d) (hgb : gB W b) {g1 q1 g2 q2 g3 q3 : Nat} {F : FH}
    (o1 : u.ownsRow (bS + 1) 45 1 (.slice (some ⟨g1, 0, none⟩) (lD.length + 1) q1) (lD.length + 1) (lD.flatMap lhc ++ lhc d)) (n1 : D.ownBlock = some g1 ∨ w1.heap.size ≤ g1)
    (o2 : u.ownsRow (bS + 1) 24 2 (.slice (some ⟨g2, 0, none⟩) (lB.length + 1) q2) (lB.length + 1) (lB.flatMap ZH.cs ++ b.cs)) (n2 : B.ownBlock = some g2 ∨ w1.heap.size ≤ g2)
    (o3 : u.ownsRow (bS + 1) 30 5 (.slice (some ⟨g3, 0, none⟩) (lT.length + 1) q3) (lT.length + 1) (lT.flatMap FH.cells ++ F.cells)) (n3 : Tr.ownBlock = some g3 ∨ w1.heap.size ≤ g3) (hF : Ft u W F) :
    Sg w T bS W N (.slice (some ⟨g1, 0, none⟩) (lD.length + 1) q1) (.slice (some ⟨g2, 0, none⟩) (lB.length + 1) q2) (.slice (some ⟨g3, 0, none⟩) (lT.length + 1) q3) (lD ++ [d]) (lB ++ [b]) (lT ++ [F])
      (((u.setCell ⟨bS, 1, none⟩ (.slice (some ⟨g1, 0, none⟩) (lD.length + 1) q1)).setCell ⟨bS, 3, none⟩ (.slice (some ⟨g2, 0, none⟩) (lB.length + 1) q2)).setCell ⟨bS, 2, none⟩ (.slice (some ⟨g3, 0, none⟩) (lT.length + 1) q3)) := by
  have hT := hs.hT; have hb := hs.hb
  have hgs := hs.ges
  generalize hvD : Value.slice (some ⟨g1, 0, none⟩) (lD.length + 1) q1 = D' at *
  generalize hvB : Value.slice (some ⟨g2, 0, none⟩) (lB.length + 1) q2 = B' at *
  generalize hvT : Value.slice (some ⟨g3, 0, none⟩) (lT.length + 1) q3 = T' at *
  have kD : D'.ownBlock = some g1 := by rw [← hvD]; rfl
  have kB : B'.ownBlock = some g2 := by rw [← hvB]; rfl
  have kT : T'.ownBlock = some g3 := by rw [← hvT]; rfl
  have ht := ex_typ h.tp h.rx h.bx o1 o2 o3
  have hG1 : Go2 w1 (exS T w.heap.size bS D B Tr) u (exS T w.heap.size bS D' B' T') := h.gx.go fun k hk hm => by
    simp only [exS, List.mem_cons, List.not_mem_nil, or_false, kD, kB, kT, Option.some.injEq] at hm ⊢
    rcases hm with e | e | e | e | e | e
    · exact .inl e
    · exact .inr (.inl e)
    · exact .inr (.inr (.inl e))
    · subst e; rcases n1 with n | n
      · exact .inr (.inr (.inr (.inl n.symm)))
      · omega
    · subst e; rcases n2 with n | n
      · exact .inr (.inr (.inr (.inr (.inl n.symm))))
      · omega
    · subst e; rcases n3 with n | n
      · exact .inr (.inr (.inr (.inr (.inr n.symm))))
      · omega
  have s1 := setCell_grown u ⟨bS, 1, none⟩ D'
  have s2 := setCell_grown (u.setCell ⟨bS, 1, none⟩ D') ⟨bS, 3, none⟩ B'
  have s3 := setCell_grown ((u.setCell ⟨bS, 1, none⟩ D').setCell ⟨bS, 3, none⟩ B') ⟨bS, 2, none⟩ T'
  have hS := grown_trans (grown_trans s1 s2) s3
  have hG2 : Go2 u (exS T w.heap.size bS D' B' T') _ (exS T w.heap.size bS D' B' T') := Go2.same hS (.inr (by simp [exS]))
  have hG := hG1.trans hG2
  have hgr : w.grownBy u (some T) := h.gx.grown hs.gr fun k hk => hgs k hk
  have e3 := ((h.bx.set 1 D').set 3 B').set 2 T'
  have fl : ∀ {α : Type} (l : List α) (x : α) (f : α → List Value), (l ++ [x]).flatMap f = l.flatMap f ++ f x := fun l x f => by rw [List.flatMap_append]; simp
  refine ⟨((h.tp.far (by simp; omega) _).far (by simp; omega) _).far (by simp; omega) _, hT, hb, grown_set_new (grown_set_new (grown_set_new hgr (by simp; omega) _) (by simp; omega) _) (by simp; omega) _,
    ((h.rx.far (by simp; omega) _).far (by simp; omega) _).far (by simp; omega) _, e3, ?_, ?_, ?_, ?_, ?_, ?_, ?_, ?_, ?_⟩
  · rw [List.length_append, fl]; exact o1.kept hS (Sg.far o1 (by show bS < bS + 1; omega))
  · rw [List.length_append, fl]; exact o2.kept hS (Sg.far o2 (by show bS < bS + 1; omega))
  · rw [List.length_append, fl]; exact o3.kept hS (Sg.far o3 (by show bS < bS + 1; omega))
  · intro y hy
    rcases List.mem_append.1 hy with hy | hy
    · exact (hs.eD y hy).go hG
    · rw [List.mem_singleton.1 hy]; exact hd.go hG
  · intro y hy
    rcases List.mem_append.1 hy with hy | hy
    · exact (hs.eB y hy).go hG
    · rw [List.mem_singleton.1 hy]; exact hz.go hG
  · intro y hy
    rcases List.mem_append.1 hy with hy | hy
    · exact (hs.eT y hy).go hG
    · rw [List.mem_singleton.1 hy]; exact (hF.fh ht).go hG2
  · intro y hy
    rcases List.mem_append.1 hy with hy | hy
    · exact hs.okD y hy
    · rw [List.mem_singleton.1 hy]; exact hgd
  · intro y hy
    rcases List.mem_append.1 hy with hy | hy
    · exact hs.okB y hy
    · rw [List.mem_singleton.1 hy]; exact hgb
  · intro y hy
    rcases List.mem_append.1 hy with hy | hy
    · exact hs.okT y hy
    · rw [List.mem_singleton.1 hy]; exact ⟨⟨hF.g1.1, hF.k1.1, hF.ok⟩, hF.c1.2⟩
end
end Go.Proofs.YtbjaebbmajhjjaaGreat
