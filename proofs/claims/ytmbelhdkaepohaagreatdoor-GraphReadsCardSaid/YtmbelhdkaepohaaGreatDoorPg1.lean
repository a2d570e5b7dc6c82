/- While a program is generated: what stands, level by level. -/
import Derived.Test.YtmbelhdkaepohaaGreatDoorGst
import Derived.Test.YtmbelhdkaepohaaGreatDoorLns
namespace Go.Proofs.YtmbelhdkaepohaaGreatDoor
set_option maxRecDepth 20000
set_option linter.unusedVariables false
open Go.ChangeShapes Go.WideShapes Go.ChangeAt Go.RowKit

theorem own_ne {w : World} {b b' ty ty' k k' n n' : Nat} {v v' : Value} {xs xs' : List Value} (h : w.ownsRow b ty k v n xs) (h' : w.ownsRow b' ty' k' v' n' xs') (ht : ty ≠ ty') : v.ownBlock = none ∨ v.ownBlock ≠ v'.ownBlock := by
  rcases h.2 with ⟨rfl, _⟩ | ⟨g, cap, cur, rfl, _, hg, _⟩
  · exact .inl rfl
  · exact .inr (fb_ne_own (show Fb w g cur ty from hg) h' ht)
theorem own_far {w : World} {b ty k n : Nat} {v : Value} {xs : List Value} (h : w.ownsRow b ty k v n xs) {j : Nat} (hj : some j ≠ v.ownBlock) : v.ownBlock = none ∨ v.ownBlock ≠ some j :=
  .inr (Ne.symm hj)
theorem own_lt' {w : World} {b ty k n : Nat} {v : Value} {xs : List Value} (h : w.ownsRow b ty k v n xs) {j : Nat} (hj : v.ownBlock = some j) : b ≤ j ∧ j < w.heap.size := h.lt j hj

def ex1 (X : List (Option Nat)) (w : World) (T : Nat) (v : Value) : List (Option Nat) := some T :: some w.heap.size :: some (w.heap.size + 1) :: v.ownBlock :: X
def ex2 (X : List (Option Nat)) (w : World) (T : Nat) (v u : Value) (F : Nat) : List (Option Nat) := some T :: some w.heap.size :: some (w.heap.size + 1) :: v.ownBlock :: some F :: u.ownBlock :: X
def ex3 (X : List (Option Nat)) (w : World) (T : Nat) (v u s : Value) (F B : Nat) : List (Option Nat) := some T :: some w.heap.size :: some (w.heap.size + 1) :: v.ownBlock :: some F :: u.ownBlock :: some B :: s.ownBlock :: X

structure Lv1 (X : List (Option Nat)) (w0 : World) (T : Nat) (w : World) (v : Value) (ls : List FH) (wr : World) : Prop where
  go : Going w0 T wr
  gr : w.grownBy wr (some T)
  tl : T < w.heap.size
  hX : ∀ k, some k ∈ X → k < w.heap.size
  fR : Fb wr w.heap.size #[.slice none 0 0] 49
  fP : Fb wr (w.heap.size + 1) #[v] 49
  ov : wr.ownsRow (w.heap.size + 2) 75 2 v ls.length (ls.flatMap fhc)
  okf : ∀ y ∈ ls, FHok wr (ex1 X w T v) y
structure Lv2 (X : List (Option Nat)) (w0 : World) (T : Nat) (w : World) (v u : Value) (F : Nat) (nf : ByteArray) (ls : List FH) (bs : List BH) (wr : World) : Prop where
  go : Going w0 T wr
  gr : w.grownBy wr (some T)
  tl : T < w.heap.size
  hX : ∀ k, some k ∈ X → k < w.heap.size
  fR : Fb wr w.heap.size #[.slice none 0 0] 49
  fP : Fb wr (w.heap.size + 1) #[v] 49
  fF : Fb wr F #[.string nf, u] 75
  hF : w.heap.size + 1 < F
  nF : some F ≠ v.ownBlock
  ov : wr.ownsRow (w.heap.size + 2) 75 2 v ls.length (ls.flatMap fhc)
  ou : wr.ownsRow (w.heap.size + 2) 95 2 u bs.length (bs.flatMap bhc)
  okf : ∀ y ∈ ls, FHok wr (ex2 X w T v u F) y
  okb : ∀ y ∈ bs, BHok wr (ex2 X w T v u F) y
structure Lv3 (X : List (Option Nat)) (w0 : World) (T : Nat) (w : World) (v u s : Value) (F B : Nat) (nf nb : ByteArray) (ls : List FH) (bs : List BH) (ss : List SH) (wr : World) : Prop where
  go : Going w0 T wr
  gr : w.grownBy wr (some T)
  tl : T < w.heap.size
  hX : ∀ k, some k ∈ X → k < w.heap.size
  fR : Fb wr w.heap.size #[.slice none 0 0] 49
  fP : Fb wr (w.heap.size + 1) #[v] 49
  fF : Fb wr F #[.string nf, u] 75
  hF : w.heap.size + 1 < F
  nF : some F ≠ v.ownBlock
  fB : Fb wr B #[.string nb, s] 95
  hB : F < B
  nB : some B ≠ u.ownBlock
  ov : wr.ownsRow (w.heap.size + 2) 75 2 v ls.length (ls.flatMap fhc)
  ou : wr.ownsRow (w.heap.size + 2) 95 2 u bs.length (bs.flatMap bhc)
  os : wr.ownsRow (w.heap.size + 2) 101 4 s ss.length (ss.flatMap shc)
  okf : ∀ y ∈ ls, FHok wr (ex3 X w T v u s F B) y
  okb : ∀ y ∈ bs, BHok wr (ex3 X w T v u s F B) y
  oks : ∀ y ∈ ss, SHok wr (ex3 X w T v u s F B) y

section
variable {X : List (Option Nat)} {w0 w wr w' : World} {T F B : Nat} {v u s : Value} {nf nb : ByteArray} {ls : List FH} {bs : List BH} {ss : List SH}
theorem Lv1.step (h : Lv1 X w0 T w v ls wr) (ht : Going w0 T w') (hg : wr.grownBy w' (some T)) : Lv1 X w0 T w v ls w' := by
  have hT := h.tl
  exact ⟨ht, grown_trans h.gr hg, h.tl, h.hX, h.fR.grown hg (by simp; omega), h.fP.grown hg (by simp; omega),
    h.ov.kept hg (own_far h.ov (own_row h.ov (by omega))), fun y hy => (h.okf y hy).go (Go2.same hg (.inr (by simp [ex1])))⟩
theorem Lv2.step (h : Lv2 X w0 T w v u F nf ls bs wr) (ht : Going w0 T w') (hg : wr.grownBy w' (some T)) : Lv2 X w0 T w v u F nf ls bs w' := by
  have hT := h.tl
  have hF := h.hF
  have hG : Go2 wr (ex2 X w T v u F) w' (ex2 X w T v u F) := Go2.same hg (.inr (by simp [ex2]))
  exact ⟨ht, grown_trans h.gr hg, h.tl, h.hX, h.fR.grown hg (by simp; omega), h.fP.grown hg (by simp; omega), h.fF.grown hg (by simp; omega), h.hF, h.nF,
    h.ov.kept hg (own_far h.ov (own_row h.ov (by omega))), h.ou.kept hg (own_far h.ou (own_row h.ou (by omega))), fun y hy => (h.okf y hy).go hG, fun y hy => (h.okb y hy).go hG⟩
theorem Lv3.step (h : Lv3 X w0 T w v u s F B nf nb ls bs ss wr) (ht : Going w0 T w') (hg : wr.grownBy w' (some T)) : Lv3 X w0 T w v u s F B nf nb ls bs ss w' := by
  have hT := h.tl
  have hF := h.hF
  have hB := h.hB
  have hG : Go2 wr (ex3 X w T v u s F B) w' (ex3 X w T v u s F B) := Go2.same hg (.inr (by simp [ex3]))
  exact ⟨ht, grown_trans h.gr hg, h.tl, h.hX, h.fR.grown hg (by simp; omega), h.fP.grown hg (by simp; omega), h.fF.grown hg (by simp; omega), h.hF, h.nF, h.fB.grown hg (by simp; omega), h.hB, h.nB,
    h.ov.kept hg (own_far h.ov (own_row h.ov (by omega))), h.ou.kept hg (own_far h.ou (own_row h.ou (by omega))), h.os.kept hg (own_far h.os (own_row h.os (by omega))),
    fun y hy => (h.okf y hy).go hG, fun y hy => (h.okb y hy).go hG, fun y hy => (h.oks y hy).go hG⟩
theorem Lv1.below (h : Lv1 X w0 T w v ls wr) (hb : Below wr.heap.size wr w') : Lv1 X w0 T w v ls w' := h.step (h.go.below hb) (grown_of_below hb _)
theorem Lv2.below (h : Lv2 X w0 T w v u F nf ls bs wr) (hb : Below wr.heap.size wr w') : Lv2 X w0 T w v u F nf ls bs w' := h.step (h.go.below hb) (grown_of_below hb _)
theorem Lv3.below (h : Lv3 X w0 T w v u s F B nf nb ls bs ss wr) (hb : Below wr.heap.size wr w') : Lv3 X w0 T w v u s F B nf nb ls bs ss w' := h.step (h.go.below hb) (grown_of_below hb _)
theorem Lv3.alloc (h : Lv3 X w0 T w v u s F B nf nb ls bs ss wr) (o : Obj) : Lv3 X w0 T w v u s F B nf nb ls bs ss (wr.alloc o) := h.below ((Below.refl _ _).alloc (Nat.le_refl _) o)
theorem Lv3.drewN (h : Lv3 X w0 T w v u s F B nf nb ls bs ss wr) (n : Nat) : Lv3 X w0 T w v u s F B nf nb ls bs ss (wr.drewN n) := h.below (below_drewN (Below.refl _ _) n)
theorem Lv3.ex_lt (h : Lv3 X w0 T w v u s F B nf nb ls bs ss wr) : ∀ k, some k ∈ ex3 X w T v u s F B → k < wr.heap.size := by
  intro k hk
  have h1 := h.go.lt; have h2 := h.fR.lt; have h3 := h.fP.lt; have h4 := h.fF.lt; have h5 := h.fB.lt
  simp only [ex3, List.mem_cons, Option.some.injEq] at hk
  rcases hk with rfl | rfl | rfl | hk | rfl | hk | rfl | hk | hk
  · exact h1
  · exact h2
  · exact h3
  · exact (h.ov.lt k hk.symm).2
  · exact h4
  · exact (h.ou.lt k hk.symm).2
  · exact h5
  · exact (h.os.lt k hk.symm).2
  · have := h.hX k hk; omega
theorem Lv3.fresh {x : SH} (h : Lv3 X w0 T w v u s F B nf nb ls bs ss wr) (hx : Fresh4 wr w' x) : SHok w' (ex3 X w T v u s F B) x := hx _ h.ex_lt
theorem Lv3.cells (h : Lv3 X w0 T w v u s F B nf nb ls bs ss wr) : wr.cell? ⟨B, 0, none⟩ = some (.string nb) ∧ wr.cell? ⟨B, 1, none⟩ = some s ∧ wr.cell? ⟨F, 0, none⟩ = some (.string nf) ∧ wr.cell? ⟨F, 1, none⟩ = some u :=
  ⟨h.fB.cell 0, h.fB.cell 1, h.fF.cell 0, h.fF.cell 1⟩

/-- A statement more. -/
theorem Lv3.push {x : SH} {g cap H : Nat} (h : Lv3 X w0 T w v u s F B nf nb ls bs ss wr) (o : Obj) (hx : SHok wr (ex3 X w T v u s F B) x)
    (hown : w'.ownsRow (w.heap.size + 2) 101 4 (.slice (some ⟨g, 0, none⟩) (ss.length + 1) cap) (ss.length + 1) (ss.flatMap shc ++ shc x)) (hg0 : (wr.alloc o).grownBy w' s.ownBlock) (hat : s.ownBlock = some g ∨ g = H) (hH : (wr.alloc o).heap.size = H) :
    (w'.cell? ⟨B, 1, none⟩ = some s ∧ w'.frozen? ⟨B, 1, none⟩ = false) ∧ Lv3 X w0 T w v u (.slice (some ⟨g, 0, none⟩) (ss.length + 1) cap) F B nf nb ls bs (ss ++ [x]) (w'.setCell ⟨B, 1, none⟩ (.slice (some ⟨g, 0, none⟩) (ss.length + 1) cap)) := by
  rw [World.size_alloc] at hH
  have hg : wr.grownBy w' s.ownBlock := grown_trans (grown_of_below ((Below.refl _ _).alloc (Nat.le_refl _) o) _) hg0
  have hT := h.tl; have hF := h.hF; have hB := h.hB; have hgz := h.gr.size
  have e1 := h.fR.grown hg (own_row h.os (by omega))
  have e2 := h.fP.grown hg (own_row h.os (by omega))
  have e3 := h.fF.grown hg (fb_ne_own h.fF h.os (by decide))
  have e4 := h.fB.grown hg (fb_ne_own h.fB h.os (by decide))
  have e5 := h.ov.kept hg (own_ne h.ov h.os (by decide))
  have e6 := h.ou.kept hg (own_ne h.ou h.os (by decide))
  have eT : Tape w' T := h.go.1.keep fun k hk => hg.block k (by have := h.go.lt; omega) (own_row h.os (by omega))
  have eg : w.grownBy w' (some T) := by
    refine ⟨hg.os.trans h.gr.os, hg.tape.trans h.gr.tape, hg.output.trans h.gr.output, Nat.le_trans h.gr.size hg.size, fun k hk hne => ?_⟩
    exact (hg.block k (by omega) (own_row h.os (by omega))).trans (h.gr.block k hk hne)
  have hG : Go2 wr (ex3 X w T v u s F B) w' (ex3 X w T v u (.slice (some ⟨g, 0, none⟩) (ss.length + 1) cap) F B) := by
    refine Go2.grown hg (.inr (by simp [ex3])) fun k hk hin => ?_
    simp only [ex3, List.mem_cons] at hin ⊢
    rcases hin with h' | h' | h' | h' | h' | h' | h' | h' | h'
    rotate_left 8
    · exact .inr (.inr (.inr (.inr (.inr (.inr (.inr (.inr h')))))))
    · exact .inl h'
    · exact .inr (.inl h')
    · exact .inr (.inr (.inl h'))
    · exact .inr (.inr (.inr (.inl h')))
    · exact .inr (.inr (.inr (.inr (.inl h'))))
    · exact .inr (.inr (.inr (.inr (.inr (.inl h')))))
    · exact .inr (.inr (.inr (.inr (.inr (.inr (.inl h'))))))
    · refine .inr (.inr (.inr (.inr (.inr (.inr (.inr ?_))))))
      simp only [Value.ownBlock, Option.some.injEq] at h'
      rcases hat with ha | ha
      · exact .inl (by rw [ha, h'])
      · omega
  have hs := setCell_grown w' ⟨B, 1, none⟩ (.slice (some ⟨g, 0, none⟩) (ss.length + 1) cap)
  have hG2 : Go2 w' (ex3 X w T v u (.slice (some ⟨g, 0, none⟩) (ss.length + 1) cap) F B) (w'.setCell ⟨B, 1, none⟩ (.slice (some ⟨g, 0, none⟩) (ss.length + 1) cap)) (ex3 X w T v u (.slice (some ⟨g, 0, none⟩) (ss.length + 1) cap) F B) :=
    Go2.same hs (.inr (by simp [ex3]))
  have hGG := hG.trans hG2
  have z0 : w0.heap.size ≤ T := h.go.2.2
  have eb : Below w0.heap.size w0 w' := h.go.2.1.grown hg h.go.2.1.size (fun k hk => by have := (h.os.lt k hk).1; omega)
  have efB : Fb (w'.setCell ⟨B, 1, none⟩ (.slice (some ⟨g, 0, none⟩) (ss.length + 1) cap)) B #[.string nb, .slice (some ⟨g, 0, none⟩) (ss.length + 1) cap] 95 := Fb.set e4 1 _
  refine ⟨⟨e4.cell 1, e4.frozen 1⟩, ⟨eT.far (by show T < B; omega) _, eb.setCell (by show w0.heap.size ≤ B; omega) _, z0⟩, grown_set_new eg (by show w.heap.size ≤ B; omega) _, h.tl, h.hX, e1.far (by show w.heap.size ≠ B; omega) _, e2.far (by show w.heap.size + 1 ≠ B; omega) _, e3.far (by show F ≠ B; omega) _, h.hF, h.nF, efB, h.hB, h.nB, ?_, ?_, ?_, ?_, ?_, ?_⟩
  · exact e5.kept hs (own_far e5 (fb_ne_own e4 e5 (by decide)))
  · exact e6.kept hs (own_far e6 h.nB)
  · rw [List.length_append, List.flatMap_append]
    have : (List.flatMap shc [x]) = shc x := by simp
    rw [this]
    exact hown.kept hs (own_far hown (fb_ne_own e4 hown (by decide)))
  · exact fun y hy => (h.okf y hy).go hGG
  · exact fun y hy => (h.okb y hy).go hGG
  · intro y hy
    rcases List.mem_append.1 hy with hy | hy
    · exact (h.oks y hy).go hGG
    · simp at hy; subst hy; exact hx.go hGG

/-- A block begins. -/
theorem Lv2.block (h : Lv2 X w0 T w v u F nf ls bs wr) (nb : ByteArray) : Lv3 X w0 T w v u (.slice none 0 0) F wr.heap.size nf nb ls bs [] (wr.alloc (.cells #[.string nb, .slice none 0 0] 95)) := by
  have h' := h.below ((Below.refl _ _).alloc (Nat.le_refl _) (.cells #[.string nb, .slice none 0 0] 95))
  have hG : Go2 wr (ex2 X w T v u F) (wr.alloc (.cells #[.string nb, .slice none 0 0] 95)) (ex3 X w T v u (.slice none 0 0) F wr.heap.size) := by
    refine Go2.grown (grown_of_below ((Below.refl _ _).alloc (Nat.le_refl _) _) none) (.inl rfl) fun k hk hin => ?_
    simp only [ex3, ex2, List.mem_cons, Value.ownBlock, reduceCtorEq, Option.some.injEq, false_or] at hin ⊢
    rcases hin with h' | h' | h' | h' | h' | h' | h' | h'
    · exact .inl h'
    · exact .inr (.inl h')
    · exact .inr (.inr (.inl h'))
    · exact .inr (.inr (.inr (.inl h')))
    · exact .inr (.inr (.inr (.inr (.inl h'))))
    · exact .inr (.inr (.inr (.inr (.inr (.inl h')))))
    · omega
    · exact .inr (.inr (.inr (.inr (.inr (.inr h')))))
  exact ⟨h'.go, h'.gr, h'.tl, h'.hX, h'.fR, h'.fP, h'.fF, h'.hF, h'.nF, Fb.new _ _ _, h.fF.lt, fun e => by have := (h.ou.lt _ e.symm).2; omega, h'.ov, h'.ou, World.ownsRow_nil _ _ _ _,
    fun y hy => (h.okf y hy).go hG, fun y hy => (h.okb y hy).go hG, by simp⟩
/-- A function begins. -/
theorem Lv1.func (h : Lv1 X w0 T w v ls wr) (nf : ByteArray) : Lv2 X w0 T w v (.slice none 0 0) wr.heap.size nf ls [] (wr.alloc (.cells #[.string nf, .slice none 0 0] 75)) := by
  have h' := h.below ((Below.refl _ _).alloc (Nat.le_refl _) (.cells #[.string nf, .slice none 0 0] 75))
  have hG : Go2 wr (ex1 X w T v) (wr.alloc (.cells #[.string nf, .slice none 0 0] 75)) (ex2 X w T v (.slice none 0 0) wr.heap.size) := by
    refine Go2.grown (grown_of_below ((Below.refl _ _).alloc (Nat.le_refl _) _) none) (.inl rfl) fun k hk hin => ?_
    simp only [ex1, ex2, List.mem_cons, Value.ownBlock, reduceCtorEq, Option.some.injEq, false_or] at hin ⊢
    rcases hin with h' | h' | h' | h' | h' | h'
    · exact .inl h'
    · exact .inr (.inl h')
    · exact .inr (.inr (.inl h'))
    · exact .inr (.inr (.inr (.inl h')))
    · omega
    · exact .inr (.inr (.inr (.inr h')))
  exact ⟨h'.go, h'.gr, h'.tl, h'.hX, h'.fR, h'.fP, Fb.new _ _ _, h.fP.lt, fun e => by have := (h.ov.lt _ e.symm).2; omega, h'.ov, World.ownsRow_nil _ _ _ _,
    fun y hy => (h.okf y hy).go hG, by simp⟩

/-- A block more: it has ended. -/
theorem Lv3.done {A : Option Addr} {c g cap H : Nat} (h : Lv3 X w0 T w v u (.slice A ss.length c) F B nf nb ls bs ss wr) (o : Obj) (hn : nb.size ≤ 1000) (hl : ss.length ≤ 40)
    (hown : w'.ownsRow (w.heap.size + 2) 95 2 (.slice (some ⟨g, 0, none⟩) (bs.length + 1) cap) (bs.length + 1) (bs.flatMap bhc ++ [.string nb, .slice A ss.length c])) (hg0 : (wr.alloc o).grownBy w' u.ownBlock) (hat : u.ownBlock = some g ∨ g = H) (hH : (wr.alloc o).heap.size = H) :
    (w'.cell? ⟨F, 1, none⟩ = some u ∧ w'.frozen? ⟨F, 1, none⟩ = false) ∧ Lv2 X w0 T w v (.slice (some ⟨g, 0, none⟩) (bs.length + 1) cap) F nf ls (bs ++ [⟨nb, A, ss.length, c, ss⟩]) (w'.setCell ⟨F, 1, none⟩ (.slice (some ⟨g, 0, none⟩) (bs.length + 1) cap)) := by
  rw [World.size_alloc] at hH
  have hg : wr.grownBy w' u.ownBlock := grown_trans (grown_of_below ((Below.refl _ _).alloc (Nat.le_refl _) o) _) hg0
  have hT := h.tl; have hF := h.hF; have hB := h.hB; have hgz := h.gr.size
  have e1 := h.fR.grown hg (own_row h.ou (by omega))
  have e2 := h.fP.grown hg (own_row h.ou (by omega))
  have e3 := h.fF.grown hg (fb_ne_own h.fF h.ou (by decide))
  have e5 := h.ov.kept hg (own_ne h.ov h.ou (by decide))
  have e7 := h.os.kept hg (own_ne h.os h.ou (by decide))
  have eT : Tape w' T := h.go.1.keep fun k hk => hg.block k (by have := h.go.lt; omega) (own_row h.ou (by omega))
  have eg : w.grownBy w' (some T) := by
    refine ⟨hg.os.trans h.gr.os, hg.tape.trans h.gr.tape, hg.output.trans h.gr.output, Nat.le_trans h.gr.size hg.size, fun k hk hne => ?_⟩
    exact (hg.block k (by omega) (own_row h.ou (by omega))).trans (h.gr.block k hk hne)
  have hG : Go2 wr (ex3 X w T v u (.slice A ss.length c) F B) w' (ex2 X w T v (.slice (some ⟨g, 0, none⟩) (bs.length + 1) cap) F) := by
    refine Go2.grown hg (.inr (by simp [ex3])) fun k hk hin => ?_
    simp only [ex3, ex2, List.mem_cons] at hin ⊢
    rcases hin with h' | h' | h' | h' | h' | h' | h'
    · exact .inl h'
    · exact .inr (.inl h')
    · exact .inr (.inr (.inl h'))
    · exact .inr (.inr (.inr (.inl h')))
    · exact .inr (.inr (.inr (.inr (.inl h'))))
    rotate_left
    · exact .inr (.inr (.inr (.inr (.inr (.inr (.inr (.inr h')))))))
    · refine .inr (.inr (.inr (.inr (.inr (.inl ?_)))))
      simp only [Value.ownBlock, Option.some.injEq] at h'
      rcases hat with ha | ha
      · rw [ha, h']
      · omega
  have hs := setCell_grown w' ⟨F, 1, none⟩ (.slice (some ⟨g, 0, none⟩) (bs.length + 1) cap)
  have hG2 : Go2 w' (ex2 X w T v (.slice (some ⟨g, 0, none⟩) (bs.length + 1) cap) F) (w'.setCell ⟨F, 1, none⟩ (.slice (some ⟨g, 0, none⟩) (bs.length + 1) cap)) (ex2 X w T v (.slice (some ⟨g, 0, none⟩) (bs.length + 1) cap) F) :=
    Go2.same hs (.inr (by simp [ex2]))
  have hGG := hG.trans hG2
  have z0 : w0.heap.size ≤ T := h.go.2.2
  have eb : Below w0.heap.size w0 w' := h.go.2.1.grown hg h.go.2.1.size (fun k hk => by have := (h.ou.lt k hk).1; omega)
  have efF : Fb (w'.setCell ⟨F, 1, none⟩ (.slice (some ⟨g, 0, none⟩) (bs.length + 1) cap)) F #[.string nf, .slice (some ⟨g, 0, none⟩) (bs.length + 1) cap] 75 := Fb.set e3 1 _
  have hsx : EAt w' (ex2 X w T v (.slice (some ⟨g, 0, none⟩) (bs.length + 1) cap) F) A (ss.flatMap shc) := EAt.own e7 fun j hj hin => by
    have hb := (e7.lt j hj).1
    simp only [ex2, List.mem_cons, Option.some.injEq] at hin
    rcases hin with h' | h' | h' | h' | h' | h' | h'
    · omega
    · omega
    · omega
    · rcases own_ne e7 e5 (by decide) with h3 | h3
      · rw [h3] at hj; cases hj
      · exact h3 (hj.trans h')
    · exact fb_ne_own e3 e7 (by decide) (h' ▸ hj.symm)
    · rcases own_ne e7 hown (by decide) with h3 | h3
      · rw [h3] at hj; cases hj
      · exact h3 (hj.trans h')
    · have := h.hX j h'; omega
  refine ⟨⟨e3.cell 1, e3.frozen 1⟩, ⟨eT.far (by show T < F; omega) _, eb.setCell (by show w0.heap.size ≤ F; omega) _, z0⟩, grown_set_new eg (by show w.heap.size ≤ F; omega) _, h.tl, h.hX, e1.far (by show w.heap.size ≠ F; omega) _, e2.far (by show w.heap.size + 1 ≠ F; omega) _, efF, h.hF, h.nF, ?_, ?_, ?_, ?_⟩
  · exact e5.kept hs (own_far e5 h.nF)
  · rw [List.length_append, List.flatMap_append]
    have : (List.flatMap bhc [⟨nb, A, ss.length, c, ss⟩]) = [.string nb, .slice A ss.length c] := by simp [bhc]
    rw [this]
    exact hown.kept hs (own_far hown (fb_ne_own e3 hown (by decide)))
  · exact fun y hy => (h.okf y hy).go hGG
  · intro y hy
    rcases List.mem_append.1 hy with hy | hy
    · exact (h.okb y hy).go hGG
    · simp at hy; subst hy
      exact ⟨hsx.go hG2, rfl, hl, hn, fun z hz => (h.oks z hz).go hGG⟩

/-- A function more: it has ended. -/
theorem Lv2.done {A : Option Addr} {c g cap H : Nat} (h : Lv2 X w0 T w v (.slice A bs.length c) F nf ls bs wr) (o : Obj) (hn : nf.size ≤ 1000) (hl : bs.length ≤ 40)
    (hown : w'.ownsRow (w.heap.size + 2) 75 2 (.slice (some ⟨g, 0, none⟩) (ls.length + 1) cap) (ls.length + 1) (ls.flatMap fhc ++ [.string nf, .slice A bs.length c])) (hg0 : (wr.alloc o).grownBy w' v.ownBlock) (hat : v.ownBlock = some g ∨ g = H) (hH : (wr.alloc o).heap.size = H) :
    (w'.cell? ⟨w.heap.size + 1, 0, none⟩ = some v ∧ w'.frozen? ⟨w.heap.size + 1, 0, none⟩ = false) ∧ Lv1 X w0 T w (.slice (some ⟨g, 0, none⟩) (ls.length + 1) cap) (ls ++ [⟨nf, A, bs.length, c, bs⟩]) (w'.setCell ⟨w.heap.size + 1, 0, none⟩ (.slice (some ⟨g, 0, none⟩) (ls.length + 1) cap)) := by
  rw [World.size_alloc] at hH
  have hg : wr.grownBy w' v.ownBlock := grown_trans (grown_of_below ((Below.refl _ _).alloc (Nat.le_refl _) o) _) hg0
  have hT := h.tl; have hF := h.hF; have hgz := h.gr.size
  have e1 := h.fR.grown hg (own_row h.ov (by omega))
  have e2 := h.fP.grown hg (own_row h.ov (by omega))
  have e7 := h.ou.kept hg (own_ne h.ou h.ov (by decide))
  have eT : Tape w' T := h.go.1.keep fun k hk => hg.block k (by have := h.go.lt; omega) (own_row h.ov (by omega))
  have eg : w.grownBy w' (some T) := by
    refine ⟨hg.os.trans h.gr.os, hg.tape.trans h.gr.tape, hg.output.trans h.gr.output, Nat.le_trans h.gr.size hg.size, fun k hk hne => ?_⟩
    exact (hg.block k (by omega) (own_row h.ov (by omega))).trans (h.gr.block k hk hne)
  have hG : Go2 wr (ex2 X w T v (.slice A bs.length c) F) w' (ex1 X w T (.slice (some ⟨g, 0, none⟩) (ls.length + 1) cap)) := by
    refine Go2.grown hg (.inr (by simp [ex2])) fun k hk hin => ?_
    simp only [ex1, ex2, List.mem_cons] at hin ⊢
    rcases hin with h' | h' | h' | h' | h'
    · exact .inl h'
    · exact .inr (.inl h')
    · exact .inr (.inr (.inl h'))
    rotate_left
    · exact .inr (.inr (.inr (.inr (.inr (.inr h')))))
    · refine .inr (.inr (.inr (.inl ?_)))
      simp only [Value.ownBlock, Option.some.injEq] at h'
      rcases hat with ha | ha
      · rw [ha, h']
      · omega
  have hs := setCell_grown w' ⟨w.heap.size + 1, 0, none⟩ (.slice (some ⟨g, 0, none⟩) (ls.length + 1) cap)
  have hG2 : Go2 w' (ex1 X w T (.slice (some ⟨g, 0, none⟩) (ls.length + 1) cap)) (w'.setCell ⟨w.heap.size + 1, 0, none⟩ (.slice (some ⟨g, 0, none⟩) (ls.length + 1) cap)) (ex1 X w T (.slice (some ⟨g, 0, none⟩) (ls.length + 1) cap)) :=
    Go2.same hs (.inr (by simp [ex1]))
  have hGG := hG.trans hG2
  have z0 : w0.heap.size ≤ T := h.go.2.2
  have eb : Below w0.heap.size w0 w' := h.go.2.1.grown hg h.go.2.1.size (fun k hk => by have := (h.ov.lt k hk).1; omega)
  have efP : Fb (w'.setCell ⟨w.heap.size + 1, 0, none⟩ (.slice (some ⟨g, 0, none⟩) (ls.length + 1) cap)) (w.heap.size + 1) #[.slice (some ⟨g, 0, none⟩) (ls.length + 1) cap] 49 := Fb.set e2 0 _
  have hsx : EAt w' (ex1 X w T (.slice (some ⟨g, 0, none⟩) (ls.length + 1) cap)) A (bs.flatMap bhc) := EAt.own e7 fun j hj hin => by
    have hb := (e7.lt j hj).1
    simp only [ex1, List.mem_cons, Option.some.injEq] at hin
    rcases hin with h' | h' | h' | h' | h'
    · omega
    · omega
    · omega
    · rcases own_ne e7 hown (by decide) with h3 | h3
      · rw [h3] at hj; cases hj
      · exact h3 (hj.trans h')
    · have := h.hX j h'; omega
  refine ⟨⟨e2.cell 0, e2.frozen 0⟩, ⟨eT.far (by show T < w.heap.size + 1; omega) _, eb.setCell (by show w0.heap.size ≤ w.heap.size + 1; omega) _, z0⟩, grown_set_new eg (by show w.heap.size ≤ w.heap.size + 1; omega) _, h.tl, h.hX, e1.far (by show w.heap.size ≠ w.heap.size + 1; omega) _, efP, ?_, ?_⟩
  · rw [List.length_append, List.flatMap_append]
    have : (List.flatMap fhc [⟨nf, A, bs.length, c, bs⟩]) = [.string nf, .slice A bs.length c] := by simp [fhc]
    rw [this]
    exact hown.kept hs (own_far hown (own_row hown (by show w.heap.size + 1 < w.heap.size + 2; omega)))
  · intro y hy
    rcases List.mem_append.1 hy with hy | hy
    · exact (h.okf y hy).go hGG
    · simp at hy; subst hy
      exact ⟨hsx.go hG2, rfl, hl, hn, fun z hz => (h.okb z hz).go hGG⟩
/-- The program has ended. -/
theorem Lv1.fin {A : Option Addr} {c : Nat} (h : Lv1 X w0 T w (.slice A ls.length c) ls wr) (hl : ls.length ≤ 40) (x : Value) :
    PHok (wr.setCell ⟨w.heap.size, 0, none⟩ x) X ⟨A, ls.length, c, ls⟩ ∧ Going w0 T (wr.setCell ⟨w.heap.size, 0, none⟩ x) ∧ w.grownBy (wr.setCell ⟨w.heap.size, 0, none⟩ x) (some T) := by
  have hT := h.tl; have hgz := h.gr.size; have z0 : w0.heap.size ≤ T := h.go.2.2
  have hs := setCell_grown wr ⟨w.heap.size, 0, none⟩ x
  have hG : Go2 wr (ex1 X w T (.slice A ls.length c)) (wr.setCell ⟨w.heap.size, 0, none⟩ x) X :=
    (Go2.same hs (.inr (by simp [ex1]))).trans (Go2.less _ fun k hk => by simp only [ex1, List.mem_cons]; exact .inr (.inr (.inr (.inr hk))))
  have ho := h.ov.kept hs (own_far h.ov (own_row h.ov (by show w.heap.size < w.heap.size + 2; omega)))
  refine ⟨⟨EAt.own ho fun j hj hin => ?_, rfl, hl, fun y hy => (h.okf y hy).go hG⟩, ⟨h.go.1.far (by show T < w.heap.size; omega) _, h.go.2.1.setCell (by show w0.heap.size ≤ w.heap.size; omega) _, z0⟩, grown_set_new h.gr (by show w.heap.size ≤ w.heap.size; omega) _⟩
  have := h.hX j hin
  have := (ho.lt j hj).1
  omega
end
end Go.Proofs.YtmbelhdkaepohaaGreatDoor
