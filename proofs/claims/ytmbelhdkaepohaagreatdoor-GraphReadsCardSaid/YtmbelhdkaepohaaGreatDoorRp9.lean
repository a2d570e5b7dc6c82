/- The reference's Parse. -/
import Derived.Test.YtmbelhdkaepohaaGreatDoorRp8
import Derived.Test.YtmbelhdkaepohaaGreatDoorRsc
import Derived.Test.YtmbelhdkaepohaaGreatDoorPpr
namespace Go.Proofs.YtmbelhdkaepohaaGreatDoor
set_option maxRecDepth 20000
set_option linter.unusedVariables false
set_option linter.unusedSimpArgs false
open Go.ChangeShapes Go.WideShapes Go.ChangeAt Go.RowKit
attribute [local go_sem ↓] Go.wp_at_zero Go.wp_at_succ

structure Po (w0 : World) (b : Nat) (A : Option Addr) (c : Nat) (L : List Tok) (σ : Rs) (v : Value) (l : List FH) (w : World) : Prop where
  st : RTo w0 b A c L σ w
  old : b < w0.heap.size
  f3 : Fb w w0.heap.size #[v] 49
  own : w.ownsRow (w0.heap.size + 1) 75 2 v l.length (l.flatMap fhc)
  all : ∀ x ∈ l, FrV (w0.heap.size + 1) v (FP x) w
theorem FP.go {x : FH} {w w' : World} {ex ex' : List (Option Nat)} (h : FP x w ex) (hg : Go2 w ex w' ex') : FP x w' ex' := FHok.go h hg
section
variable {w0 w w' : World} {b : Nat} {A : Option Addr} {c : Nat} {L : List Tok} {σ σ' : Rs} {v : Value} {l : List FH}
theorem Po.start (h : Rst w0 b A c L σ) : Po w0 b A c L σ (.slice none 0 0) [] (w0.alloc (.cells #[.slice none 0 0] 49)) :=
  ⟨(RTo.refl h).belowr ((Below.refl _ _).alloc (Nat.le_refl _) _), h.lt, Fb.new w0 _ _, World.ownsRow_nil _ _ _ _, by simp⟩
theorem Po.call (h : Po w0 b A c L σ v l w) (hr : RTo w b A c L σ' w') : Po w0 b A c L σ' v l w' :=
  ⟨h.st.trans hr, h.old, h.f3.grown hr.2 (by have := h.old; simp; omega), RTo.own h.own hr (by have := h.old; omega),
    fun x hx => (h.all x hx).grown FP.go hr.2 (fun k hk => by injection hk with hk; have := h.old; omega)⟩
theorem Po.below (h : Po w0 b A c L σ v l w) (hb : Below w.heap.size w w') : Po w0 b A c L σ v l w' := h.call ((RTo.refl h.st.1).belowr hb)
theorem Po.drewN (h : Po w0 b A c L σ v l w) (q : Nat) : Po w0 b A c L σ v l (w.drewN q) := h.below (below_drewN (Below.refl _ _) q)
theorem Po.size (h : Po w0 b A c L σ v l w) : w0.heap.size + 1 ≤ w.heap.size := h.f3.lt
theorem Po.push {wa w9 : World} {g9 cap9 : Nat} {x : FH} (h : Po w0 b A c L σ v l w) (ha : Below w.heap.size w wa) (hx : FrV (w0.heap.size + 1) v (FP x) w) (hg : wa.grownBy w9 v.ownBlock)
    (hown : w9.ownsRow (w0.heap.size + 1) 75 2 (.slice (some ⟨g9, 0, none⟩) (l.length + 1) cap9) (l.length + 1) (l.flatMap fhc ++ fhc x)) (hat : v.ownBlock = some g9 ∨ g9 = wa.heap.size) :
    (w9.cell? ⟨w0.heap.size, 0, none⟩ = some v ∧ w9.frozen? ⟨w0.heap.size, 0, none⟩ = false ∧ w0.heap.size < w9.heap.size) ∧
    Po w0 b A c L σ (.slice (some ⟨g9, 0, none⟩) (l.length + 1) cap9) (l ++ [x]) (w9.setCell ⟨w0.heap.size, 0, none⟩ (.slice (some ⟨g9, 0, none⟩) (l.length + 1) cap9)) := by
  have h1 := h.below ha
  have ho := h.old
  have hlt : ∀ k, v.ownBlock = some k → w0.heap.size + 1 ≤ k := fun k hk => (h1.own.lt k hk).1
  have hne : ∀ k, k < w0.heap.size + 1 → some k ≠ v.ownBlock := fun k hk e => by have := hlt k e.symm; omega
  have hf3 := h1.f3.grown hg (hne _ (by omega))
  have hxV : FrV (w0.heap.size + 1) v (FP x) wa := hx.grown FP.go (grown_of_below ha none) (fun k hk => by cases hk)
  have hset := setCell_grown w9 ⟨w0.heap.size, 0, none⟩ (.slice (some ⟨g9, 0, none⟩) (l.length + 1) cap9)
  have hg9 := (hown.lt g9 rfl).1
  refine ⟨⟨hf3.cell 0, hf3.frozen 0, hf3.lt⟩, ?_⟩
  refine ⟨⟨(h1.st.1.grown hg (fun k hk => by have := hlt k hk; omega)).far (by show b < w0.heap.size; omega) _, grown_set_new ?_ (Nat.le_refl _) _⟩, ho, ?_, ?_, ?_⟩
  · have h2 := h1.st.2
    exact ⟨hg.os.trans h2.os, hg.tape.trans h2.tape, hg.output.trans h2.output, Nat.le_trans h2.size hg.size, fun i hi hne2 => (hg.block i (Nat.lt_of_lt_of_le hi h2.size) (hne i (by omega))).trans (h2.block i hi hne2)⟩
  · have := hf3.set 0 (.slice (some ⟨g9, 0, none⟩) (l.length + 1) cap9)
    simpa using this
  · rw [List.flatMap_append, List.length_append]
    have e : [x].flatMap fhc = fhc x := by simp
    rw [e]
    exact hown.kept hset (.inr (by show some g9 ≠ some w0.heap.size; simp; omega))
  · intro y hy
    have hyV : FrV (w0.heap.size + 1) v (FP y) wa := by
      rcases List.mem_append.1 hy with hy | hy
      · exact h1.all y hy
      · simp at hy; subst hy; exact hxV
    exact (hyV.push FP.go hg (v' := .slice (some ⟨g9, 0, none⟩) (l.length + 1) cap9) (g := g9) rfl hat).grown FP.go hset (fun k hk => by injection hk with hk; have : w0.heap.size = k := hk; omega)
end
def lenAt0 (g : Nat) (w : World) : Nat := match w.cell? ⟨g, 0, none⟩ with | some (.slice _ n _) => n | _ => 0
theorem lenAt0_of {g n c : Nat} {B : Option Addr} {w : World} (h : w.cell? ⟨g, 0, none⟩ = some (.slice B n c)) : lenAt0 g w = n := by unfold lenAt0; rw [h]
theorem RTo.kept {w w' : World} {b c : Nat} {A : Option Addr} {L : List Tok} {σ : Rs} {g t : Nat} {cs : Array Value} (h : RTo w b A c L σ w') (hf : Fb w g cs t) (hne : g ≠ b) : Fb w' g cs t := hf.grown h.2 (by simpa using hne)
end Go.Proofs.YtmbelhdkaepohaaGreatDoor
