/- The reference's parser: while a block or a function is made. -/
import Derived.Test.YtmbelhdkaepohaaGreatDoorRp6
import Derived.Test.YtmbelhdkaepohaaGreatDoorPg2
namespace Go.Proofs.YtmbelhdkaepohaaGreatDoor
set_option maxRecDepth 20000
set_option linter.unusedVariables false
set_option linter.unusedSimpArgs false
open Go.ChangeShapes Go.WideShapes Go.ChangeAt Go.RowKit

/-- Safe from all that is written below N, and from the row that grows. -/
def FrV (N : Nat) (v : Value) (P : World → List (Option Nat) → Prop) (w : World) : Prop := ∀ ex : List (Option Nat), (∀ k, some k ∈ ex → k < N ∨ v.ownBlock = some k) → P w ex
section
variable {N : Nat} {v v' : Value} {P : World → List (Option Nat) → Prop} {w w' : World}
theorem FrV.fr (h : FrV N v P w) : Fr N P w := fun ex he => h ex fun k hk => .inl (he k hk)
theorem FrV.grown (hP : ∀ {w w' : World} {ex ex' : List (Option Nat)}, P w ex → Go2 w ex w' ex' → P w' ex') {row : Option Nat} (h : FrV N v P w) (hg : w.grownBy w' row) (hr : ∀ k, row = some k → k < N) : FrV N v P w' := by
  intro ex he
  have e1 := h (row :: ex) (fun k hk => by
    rcases List.mem_cons.1 hk with hk | hk
    · exact .inl (hr k hk.symm)
    · exact he k hk)
  exact hP (hP e1 (Go2.same hg (.inr (by simp)))) (Go2.less _ fun k hk => List.mem_cons_of_mem _ hk)
theorem FrV.push (hP : ∀ {w w' : World} {ex ex' : List (Option Nat)}, P w ex → Go2 w ex w' ex' → P w' ex') (h : FrV N v P w) (hg : w.grownBy w' v.ownBlock) {g : Nat} (hv : v'.ownBlock = some g) (hgh : v.ownBlock = some g ∨ g = w.heap.size) : FrV N v' P w' := by
  intro ex he
  have e1 := h (v.ownBlock :: ex.filter (fun o => decide (o ≠ some g))) (fun k hk => by
    rcases List.mem_cons.1 hk with hk | hk
    · exact .inr hk.symm
    · simp only [List.mem_filter, decide_eq_true_eq] at hk
      rcases he k hk.1 with h1 | h1
      · exact .inl h1
      · rw [hv] at h1; exact absurd h1.symm hk.2)
  refine hP e1 (Go2.grown hg (.inr (by simp)) (fun k hk hin => ?_))
  by_cases hkg : k = g
  · subst hkg
    rcases hgh with h1 | h1
    · rw [h1]; simp
    · omega
  · refine List.mem_cons_of_mem _ ?_
    simp only [List.mem_filter, decide_eq_true_eq]
    exact ⟨hin, by simpa using hkg⟩
theorem FrV.fresh {B : Nat} (h : Fr B P w) (hN : N ≤ B) (hv : ∀ k, v.ownBlock = some k → k < B) : FrV N v P w := fun ex he => h ex fun k hk => by
  rcases he k hk with h1 | h1
  · omega
  · exact hv k h1
end
/-- What lies in a row whose elements are parts. -/
structure Kind (α : Type) where
  f : α → List Value
  k : Nat
  te : TypeId
  tb : TypeId
  P : α → World → List (Option Nat) → Prop
  go : ∀ (x : α) {w w' : World} {ex ex' : List (Option Nat)}, P x w ex → Go2 w ex w' ex' → P x w' ex'

structure Bg {α : Type} (K : Kind α) (w0 : World) (b : Nat) (A : Option Addr) (c : Nat) (L : List Tok) (σ : Rs) (nm : ByteArray) (v : Value) (l : List α) (w : World) : Prop where
  st : Rst w b A c L σ
  old : b < w0.heap.size
  gr : w0.grownBy w (some b)
  f2 : Fb w w0.heap.size #[.string ⟨#[]⟩, .slice none 0 0] K.tb
  f3 : Fb w (w0.heap.size + 1) #[.string nm, v] K.tb
  own : w.ownsRow (w0.heap.size + 2) K.te K.k v l.length (l.flatMap K.f)
  all : ∀ x ∈ l, FrV (w0.heap.size + 2) v (K.P x) w
section
variable {α : Type} {K : Kind α} {w0 w w' : World} {b : Nat} {A : Option Addr} {c : Nat} {L : List Tok} {σ σ' : Rs} {nm : ByteArray} {v : Value} {l : List α}
theorem Bg.start (h : Rst w0 b A c L σ) : Bg K w0 b A c L σ ⟨#[]⟩ (.slice none 0 0) [] ((w0.alloc (.cells #[.string ⟨#[]⟩, .slice none 0 0] K.tb)).alloc (.cells #[.string ⟨#[]⟩, .slice none 0 0] K.tb)) := by
  have hb : Below w0.heap.size w0 ((w0.alloc (.cells #[.string ⟨#[]⟩, .slice none 0 0] K.tb)).alloc (.cells #[.string ⟨#[]⟩, .slice none 0 0] K.tb)) := ((Below.refl _ _).alloc (Nat.le_refl _) _).alloc (by simp) _
  refine ⟨h.below hb h.lt, h.lt, grown_of_below hb _, (Fb.new w0 _ _).alloc _, ?_, World.ownsRow_nil _ _ _ _, by simp⟩
  have := Fb.new (w0.alloc (.cells #[.string ⟨#[]⟩, .slice none 0 0] K.tb)) #[.string ⟨#[]⟩, .slice none 0 0] K.tb
  rw [World.size_alloc] at this
  exact this
theorem Bg.call (h : Bg K w0 b A c L σ nm v l w) (hr : RTo w b A c L σ' w') : Bg K w0 b A c L σ' nm v l w' :=
  ⟨hr.1, h.old, grown_two h.gr hr.2, h.f2.grown hr.2 (by have := h.old; simp; omega), h.f3.grown hr.2 (by have := h.old; simp; omega), RTo.own h.own hr (by have := h.old; omega),
    fun x hx => (h.all x hx).grown (K.go x) hr.2 (fun k hk => by injection hk with hk; have := h.old; omega)⟩
theorem Bg.below (h : Bg K w0 b A c L σ nm v l w) (hb : Below w.heap.size w w') : Bg K w0 b A c L σ nm v l w' := h.call ((RTo.refl h.st).belowr hb)
theorem Bg.drewN (h : Bg K w0 b A c L σ nm v l w) (q : Nat) : Bg K w0 b A c L σ nm v l (w.drewN q) := h.below (below_drewN (Below.refl _ _) q)
theorem Bg.size (h : Bg K w0 b A c L σ nm v l w) : w0.heap.size + 2 ≤ w.heap.size := by have := h.f3.lt; omega
theorem Bg.name (h : Bg K w0 b A c L σ nm v l w) (y : ByteArray) : Bg K w0 b A c L σ y v l (w.setCell ⟨w0.heap.size + 1, 0, none⟩ (.string y)) := by
  have ho := h.old
  have hg := setCell_grown w ⟨w0.heap.size + 1, 0, none⟩ (.string y)
  refine ⟨h.st.far (by show b < w0.heap.size + 1; omega) _, ho, grown_set_new h.gr (by show w0.heap.size ≤ w0.heap.size + 1; omega) _, h.f2.far (by show w0.heap.size ≠ w0.heap.size + 1; omega) _, ?_, ?_, fun x hx => (h.all x hx).grown (K.go x) hg (fun k hk => by injection hk with hk; have : w0.heap.size + 1 = k := hk; omega)⟩
  · have := h.f3.set 0 (.string y)
    simpa using this
  · exact h.own.kept hg (by
      cases e : v.ownBlock with
      | none => exact .inl rfl
      | some g => exact .inr (by have h2 := (h.own.lt g e).1; show some g ≠ some (w0.heap.size + 1); simp; omega))
theorem Bg.cells (h : Bg K w0 b A c L σ nm v l w) :
    (w.cell? ⟨w0.heap.size + 1, 0, none⟩ = some (.string nm) ∧ w.cell? ⟨w0.heap.size + 1, 1, none⟩ = some v) ∧ (w.frozen? ⟨w0.heap.size + 1, 0, none⟩ = false ∧ w.frozen? ⟨w0.heap.size + 1, 1, none⟩ = false) ∧
    (w.cell? ⟨w0.heap.size, 0, none⟩ = some (.string ⟨#[]⟩) ∧ w.cell? ⟨w0.heap.size, 1, none⟩ = some (.slice none 0 0)) ∧ (w.frozen? ⟨w0.heap.size, 0, none⟩ = false ∧ w.frozen? ⟨w0.heap.size, 1, none⟩ = false) ∧ w0.heap.size + 1 < w.heap.size :=
  ⟨⟨h.f3.cell 0, h.f3.cell 1⟩, ⟨h.f3.frozen 0, h.f3.frozen 1⟩, ⟨h.f2.cell 0, h.f2.cell 1⟩, ⟨h.f2.frozen 0, h.f2.frozen 1⟩, h.f3.lt⟩
/-- A part more: the row has grown, and the field is stored. -/
theorem Bg.push {wa w9 : World} {g9 cap9 : Nat} {x : α} (h : Bg K w0 b A c L σ nm v l w) (ha : Below w.heap.size w wa) (hx : Fr w.heap.size (K.P x) w ∨ FrV (w0.heap.size + 2) v (K.P x) w) (hg : wa.grownBy w9 v.ownBlock)
    (hown : w9.ownsRow (w0.heap.size + 2) K.te K.k (.slice (some ⟨g9, 0, none⟩) (l.length + 1) cap9) (l.length + 1) (l.flatMap K.f ++ K.f x)) (hat : v.ownBlock = some g9 ∨ g9 = wa.heap.size) :
    (w9.cell? ⟨w0.heap.size + 1, 1, none⟩ = some v ∧ w9.frozen? ⟨w0.heap.size + 1, 1, none⟩ = false ∧ w0.heap.size + 1 < w9.heap.size) ∧
    Bg K w0 b A c L σ nm (.slice (some ⟨g9, 0, none⟩) (l.length + 1) cap9) (l ++ [x]) (w9.setCell ⟨w0.heap.size + 1, 1, none⟩ (.slice (some ⟨g9, 0, none⟩) (l.length + 1) cap9)) := by
  have h1 := h.below ha
  have ho := h.old
  have hz := h1.size
  have hlt : ∀ k, v.ownBlock = some k → w0.heap.size + 2 ≤ k := fun k hk => (h1.own.lt k hk).1
  have hne : ∀ k, k < w0.heap.size + 2 → some k ≠ v.ownBlock := fun k hk e => by have := hlt k e.symm; omega
  have hf3 := h1.f3.grown hg (hne _ (by omega))
  have hxV : FrV (w0.heap.size + 2) v (K.P x) wa := by
    have h2 : FrV (w0.heap.size + 2) v (K.P x) w := by
      rcases hx with hx | hx
      · exact FrV.fresh hx h.size (fun k hk => (h.own.lt k hk).2)
      · exact hx
    exact h2.grown (K.go x) (grown_of_below ha none) (fun k hk => by cases hk)
  have hset := setCell_grown w9 ⟨w0.heap.size + 1, 1, none⟩ (.slice (some ⟨g9, 0, none⟩) (l.length + 1) cap9)
  have hg9 := (hown.lt g9 rfl).1
  refine ⟨⟨hf3.cell 1, hf3.frozen 1, hf3.lt⟩, ?_⟩
  refine ⟨(h1.st.grown hg (fun k hk => by have := hlt k hk; omega)).far (by show b < w0.heap.size + 1; omega) _, ho, grown_set_new ?_ (by show w0.heap.size ≤ w0.heap.size + 1; omega) _, (h1.f2.grown hg (hne _ (by omega))).far (by show w0.heap.size ≠ w0.heap.size + 1; omega) _, ?_, ?_, ?_⟩
  · have h2 := h1.gr
    exact ⟨hg.os.trans h2.os, hg.tape.trans h2.tape, hg.output.trans h2.output, Nat.le_trans h2.size hg.size, fun i hi hne2 => (hg.block i (Nat.lt_of_lt_of_le hi h2.size) (hne i (by omega))).trans (h2.block i hi hne2)⟩
  · have := hf3.set 1 (.slice (some ⟨g9, 0, none⟩) (l.length + 1) cap9)
    simpa using this
  · rw [List.flatMap_append, List.length_append]
    have e : [x].flatMap K.f = K.f x := by simp
    rw [e]
    exact hown.kept hset (.inr (by show some g9 ≠ some (w0.heap.size + 1); simp; omega))
  · intro y hy
    have hyV : FrV (w0.heap.size + 2) v (K.P y) wa := by
      rcases List.mem_append.1 hy with hy | hy
      · exact h1.all y hy
      · simp at hy; subst hy; exact hxV
    exact (hyV.push (K.go y) hg (v' := .slice (some ⟨g9, 0, none⟩) (l.length + 1) cap9) (g := g9) rfl hat).grown (K.go y) hset (fun k hk => by injection hk with hk; have : w0.heap.size + 1 = k := hk; omega)
end
/-- How far a list has come. -/
def Lrel {α : Type} (bb : Rs → Bool) (part : Rs → α × Rs) (N : Nat) (σ0 : Rs) (done : List α) (n : Nat) (σ : Rs) : Prop :=
  done.length + n = N ∧ listR bb part N σ0 = (done ++ (listR bb part n σ).1, (listR bb part n σ).2)
section
variable {α : Type} {bb : Rs → Bool} {part : Rs → α × Rs} {N n : Nat} {σ0 σ : Rs} {done : List α}
theorem Lrel.start : Lrel bb part N σ0 [] N σ0 := ⟨by simp, by simp⟩
theorem Lrel.step (h : Lrel bb part N σ0 done (n + 1) σ) (hb : bb σ = true) : Lrel bb part N σ0 (done ++ [(part σ).1]) n (part σ).2 := by
  refine ⟨by have := h.1; simp; omega, ?_⟩
  rw [h.2]
  conv => lhs; unfold listR
  rw [hb]; simp
theorem Lrel.stop (h : Lrel bb part N σ0 done n σ) (hb : bb σ = false) : listR bb part N σ0 = (done, σ) := by
  rw [h.2]
  cases n <;> (unfold listR; rw [hb]; simp)
theorem Lrel.full (h : Lrel bb part N σ0 done 0 σ) (hb : bb σ = true) : listR bb part N σ0 = (done, failR 7 σ) := by
  rw [h.2]
  unfold listR
  rw [hb]; simp
end
def lenAt (g : Nat) (w : World) : Nat := match w.cell? ⟨g, 1, none⟩ with | some (.slice _ n _) => n | _ => 0
theorem lenAt_of {g n c : Nat} {B : Option Addr} {w : World} (h : w.cell? ⟨g, 1, none⟩ = some (.slice B n c)) : lenAt g w = n := by unfold lenAt; rw [h]
/-- A block in memory, and its parts. -/
def KS : Kind SH := ⟨shc, 4, 101, 95, TP, fun _ _ _ _ _ h hg => TP.go h hg⟩
def BP (x : BH) : World → List (Option Nat) → Prop := fun w ex => BHok w ex x
def KB : Kind BH := ⟨bhc, 2, 95, 75, BP, fun _ _ _ _ _ h hg => BHok.go h hg⟩
def FP (x : FH) : World → List (Option Nat) → Prop := fun w ex => FHok w ex x
def agB (x : BH) : Value := .agg #[.string x.name, .slice x.A x.n x.c]
def agF (x : FH) : Value := .agg #[.string x.name, .slice x.A x.n x.c]
def RetBk (w : World) (b : Nat) (A : Option Addr) (c : Nat) (L : List Tok) (r : Blk × Rs) (e : Ending) (w' : World) : Prop :=
  ∃ x : BH, e = .returned (agB x) ∧ x.b = r.1 ∧ Fr w.heap.size (BP x) w' ∧ RTo w b A c L r.2 w'
def RetFn (w : World) (b : Nat) (A : Option Addr) (c : Nat) (L : List Tok) (r : Fnc × Rs) (e : Ending) (w' : World) : Prop :=
  ∃ x : FH, e = .returned (agF x) ∧ x.f = r.1 ∧ Fr w.heap.size (FP x) w' ∧ RTo w b A c L r.2 w'
theorem set2_grown {w0 w : World} {b : Nat} (h : w0.grownBy w (some b)) (p q : Value) : w0.grownBy ((w.setCell ⟨w0.heap.size, 0, none⟩ p).setCell ⟨w0.heap.size, 1, none⟩ q) (some b) :=
  grown_set_new (grown_set_new h (p := ⟨w0.heap.size, 0, none⟩) (Nat.le_refl _) p) (p := ⟨w0.heap.size, 1, none⟩) (Nat.le_refl _) q
theorem Bg.doneB {w0 w : World} {b c n d : Nat} {A B : Option Addr} {L : List Tok} {σ : Rs} {nm : ByteArray} {l : List SH} (h : Bg KS w0 b A c L σ nm (.slice B n d) l w) (hn : l.length = n) (hl : n ≤ 40) (hnm : nm.size ≤ 16) (p q : Value) {R : Blk × Rs} (hR : R = (⟨nm, l.map SH.t⟩, σ)) :
    RetBk w0 b A c L R (.returned (agB ⟨nm, B, n, d, l⟩)) ((w.setCell ⟨w0.heap.size, 0, none⟩ p).setCell ⟨w0.heap.size, 1, none⟩ q) := by
  subst hR
  have ho := h.old
  have hg : w.grownBy ((w.setCell ⟨w0.heap.size, 0, none⟩ p).setCell ⟨w0.heap.size, 1, none⟩ q) (some w0.heap.size) := grown_two (setCell_grown w ⟨w0.heap.size, 0, none⟩ p) (setCell_grown _ ⟨w0.heap.size, 1, none⟩ q)
  refine ⟨⟨nm, B, n, d, l⟩, rfl, rfl, ?_, h.st.grown hg (fun k hk => by injection hk with hk; omega), set2_grown h.gr p q⟩
  have h1 : Fr (w0.heap.size + 2) (BP ⟨nm, B, n, d, l⟩) w := by
    subst hn
    exact fun ex he => ⟨EAt.own h.own (fun g hg2 hin => by have h1 := (h.own.lt g hg2).1; have h2 := he g hin; omega), rfl, hl, by show nm.size ≤ 1000; omega, fun y hy => (h.all y hy).fr ex he⟩
  exact (h1.grown (fun h hg => BHok.go h hg) hg (fun k hk => by injection hk with hk; omega)).less (by omega)
theorem Bg.doneF {w0 w : World} {b c n d : Nat} {A B : Option Addr} {L : List Tok} {σ : Rs} {nm : ByteArray} {l : List BH} (h : Bg KB w0 b A c L σ nm (.slice B n d) l w) (hn : l.length = n) (hl : n ≤ 40) (hnm : nm.size ≤ 16) (p q : Value) {R : Fnc × Rs} (hR : R = (⟨nm, l.map BH.b⟩, σ)) :
    RetFn w0 b A c L R (.returned (agF ⟨nm, B, n, d, l⟩)) ((w.setCell ⟨w0.heap.size, 0, none⟩ p).setCell ⟨w0.heap.size, 1, none⟩ q) := by
  subst hR
  have ho := h.old
  have hg : w.grownBy ((w.setCell ⟨w0.heap.size, 0, none⟩ p).setCell ⟨w0.heap.size, 1, none⟩ q) (some w0.heap.size) := grown_two (setCell_grown w ⟨w0.heap.size, 0, none⟩ p) (setCell_grown _ ⟨w0.heap.size, 1, none⟩ q)
  refine ⟨⟨nm, B, n, d, l⟩, rfl, rfl, ?_, h.st.grown hg (fun k hk => by injection hk with hk; omega), set2_grown h.gr p q⟩
  have h1 : Fr (w0.heap.size + 2) (FP ⟨nm, B, n, d, l⟩) w := by
    subst hn
    exact fun ex he => ⟨EAt.own h.own (fun g hg2 hin => by have h1 := (h.own.lt g hg2).1; have h2 := he g hin; omega), rfl, hl, by show nm.size ≤ 1000; omega, fun y hy => (h.all y hy).fr ex he⟩
  exact (h1.grown (fun h hg => FHok.go h hg) hg (fun k hk => by injection hk with hk; omega)).less (by omega)
end Go.Proofs.YtmbelhdkaepohaaGreatDoor
