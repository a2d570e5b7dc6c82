/- The package's parser: while a list is read. -/
import Derived.Test.YtcgichfanfijjaaDoorDp2
import Derived.Test.YtcgichfanfijjaaDoorRp7
namespace Go.Proofs.YtcgichfanfijjaaDoor
set_option maxRecDepth 20000
set_option linter.unusedVariables false
set_option linter.unusedSimpArgs false
open Go.ChangeShapes Go.WideShapes Go.ChangeAt Go.RowKit

structure Lg {α : Type} (K : Kind α) (w0 : World) (b : Nat) (σ : Ds) (v : Value) (l : List α) (w : World) : Prop where
  st : DTo w0 b σ w
  old : b < w0.heap.size
  own : w.ownsRow w0.heap.size K.te K.k v l.length (l.flatMap K.f)
  all : ∀ x ∈ l, FrV w0.heap.size v (K.P x) w
  none_ : l = [] → v = .slice none 0 0
theorem DTo.own {w w' : World} {b base k : Nat} {ty : TypeId} {σ : Ds} {v : Value} {n : Nat} {xs : List Value} (h : w.ownsRow base ty k v n xs) (hr : DTo w b σ w') (hb : b < base) : w'.ownsRow base ty k v n xs :=
  h.kept hr.2 (by
    cases e : v.ownBlock with
    | none => exact .inl rfl
    | some g => exact .inr (by intro e2; have := own_row h hb; rw [e] at this; exact this e2.symm))
section
variable {α : Type} {K : Kind α} {w0 w w' : World} {b : Nat} {σ σ' : Ds} {v : Value} {l : List α}
theorem Lg.start (h : Dst w0 b σ) : Lg K w0 b σ (.slice none 0 0) [] w0 := ⟨.refl h, h.lt, World.ownsRow_nil _ _ _ _, by simp, fun _ => rfl⟩
theorem Lg.call (h : Lg K w0 b σ v l w) (hr : DTo w b σ' w') : Lg K w0 b σ' v l w' :=
  ⟨h.st.trans hr, h.old, DTo.own h.own hr h.old, fun x hx => (h.all x hx).grown (K.go x) hr.2 (fun k hk => by injection hk with hk; have := h.old; omega), h.none_⟩
theorem Lg.below (h : Lg K w0 b σ v l w) (hb : Below w.heap.size w w') : Lg K w0 b σ v l w' := h.call ((DTo.refl h.st.1).belowr hb)
theorem Lg.push {o : Obj} {w9 : World} {g9 cap9 : Nat} {x : α} (h : Lg K w0 b σ v l w) (hx : FrV w0.heap.size v (K.P x) w) (hg : (w.alloc o).grownBy w9 v.ownBlock)
    (hown : w9.ownsRow w0.heap.size K.te K.k (.slice (some ⟨g9, 0, none⟩) (l.length + 1) cap9) (l.length + 1) (l.flatMap K.f ++ K.f x)) (hat : v.ownBlock = some g9 ∨ g9 = (w.alloc o).heap.size) :
    Lg K w0 b σ (.slice (some ⟨g9, 0, none⟩) (l.length + 1) cap9) (l ++ [x]) w9 := by
  have ha : Below w.heap.size w (w.alloc o) := (Below.refl _ _).alloc (Nat.le_refl _) o
  have h1 := h.below ha
  have ho := h.old
  have hlt : ∀ k, v.ownBlock = some k → w0.heap.size ≤ k := fun k hk => (h1.own.lt k hk).1
  have hne : ∀ k, k < w0.heap.size → some k ≠ v.ownBlock := fun k hk e => by have := hlt k e.symm; omega
  refine ⟨⟨h1.st.1.grown hg (fun k hk => by have := hlt k hk; omega), ?_⟩, ho, ?_, ?_, fun e => by simp at e⟩
  · have h2 := h1.st.2
    exact ⟨hg.os.trans h2.os, hg.tape.trans h2.tape, hg.output.trans h2.output, Nat.le_trans h2.size hg.size, fun i hi hne2 => (hg.block i (Nat.lt_of_lt_of_le hi h2.size) (hne i hi)).trans (h2.block i hi hne2)⟩
  · rw [List.flatMap_append, List.length_append]
    have e : [x].flatMap K.f = K.f x := by simp
    rw [e]
    exact hown
  · intro y hy
    have hyV : FrV w0.heap.size v (K.P y) (w.alloc o) := by
      rcases List.mem_append.1 hy with hy | hy
      · exact h1.all y hy
      · simp at hy; subst hy; exact hx.grown (K.go y) (grown_of_below ha none) (fun k hk => by cases hk)
    exact hyV.push (K.go y) hg (v' := .slice (some ⟨g9, 0, none⟩) (l.length + 1) cap9) (g := g9) rfl hat
theorem Lg.fresh {x : α} {wc : World} (h : Lg K w0 b σ v l wc) (hx : Fr wc.heap.size (K.P x) w) : FrV w0.heap.size v (K.P x) w := FrV.fresh hx h.st.2.size (fun k hk => (h.own.lt k hk).2)
end
def Drel {α : Type} (bb : ByteArray → Bool) (part : Ds → α × Ds) (N : Nat) (σ0 : Ds) (done : List α) (n : Nat) (σ : Ds) : Prop :=
  done.length + n = N ∧ listS bb part N σ0 = (done ++ (listS bb part n σ).1, (listS bb part n σ).2)
section
variable {α : Type} {bb : ByteArray → Bool} {part : Ds → α × Ds} {N n : Nat} {σ0 σ : Ds} {done : List α}
theorem Drel.start : Drel bb part N σ0 [] N σ0 := ⟨by simp, by simp⟩
theorem Drel.step (h : Drel bb part N σ0 done (n + 1) σ) (hb : bb (nxt σ.l).text = true) : Drel bb part N σ0 (done ++ [(part σ).1]) n (part σ).2 := by
  refine ⟨by have := h.1; simp; omega, ?_⟩
  rw [h.2]
  conv => lhs; unfold listS
  rw [hb]; simp
theorem Drel.step_as {γ : Type} {pr : γ → α} {l : List γ} {x : γ} (h : Drel bb part N σ0 (l.map pr) (n + 1) σ) (hb : bb (nxt σ.l).text = true) (hx : pr x = (part σ).1) : Drel bb part N σ0 ((l ++ [x]).map pr) n (part σ).2 := by
  have := h.step hb
  rw [List.map_append, List.map_singleton, hx]
  exact this
theorem Drel.stop (h : Drel bb part N σ0 done n σ) (hb : bb (nxt σ.l).text = false) : listS bb part N σ0 = (done, σ) := by
  rw [h.2]
  cases n <;> (unfold listS; rw [hb]; simp)
theorem Drel.full (h : Drel bb part N σ0 done 0 σ) (hb : bb (nxt σ.l).text = true) : listS bb part N σ0 = (done, failS 7 σ) := by
  rw [h.2]
  unfold listS
  rw [hb]; simp
end
/-- What a list returns. -/
def RetLs {α β : Type} (K : Kind α) (pr : α → β) (w : World) (b : Nat) (r : List β × Ds) (e : Ending) (w' : World) : Prop :=
  ∃ (B : Option Addr) (d : Nat) (l : List α), e = .returned (.slice B l.length d) ∧ l.map pr = r.1 ∧ w'.ownsRow w.heap.size K.te K.k (.slice B l.length d) l.length (l.flatMap K.f) ∧ (∀ x ∈ l, Fr w.heap.size (K.P x) w') ∧ DTo w b r.2 w'
theorem Lg.done {α β : Type} {K : Kind α} {pr : α → β} {w0 w : World} {b d : Nat} {B : Option Addr} {σ : Ds} {l : List α} (h : Lg K w0 b σ (.slice B l.length d) l w) {r : List β × Ds} (hr : r = (l.map pr, σ)) : RetLs K pr w0 b r (.returned (.slice B l.length d)) w := by
  subst hr
  exact ⟨B, d, l, rfl, rfl, h.own, fun x hx => (h.all x hx).fr, h.st⟩
theorem Lg.done2 {α β : Type} {K : Kind α} {pr : α → β} {w0 w : World} {b n m d : Nat} {B : Option Addr} {σ : Ds} {l : List α} (h : Lg K w0 b σ (.slice B n d) l w) (hn : n = l.length) (hm : m = l.length) {r : List β × Ds} (hr : r = (l.map pr, σ)) : RetLs K pr w0 b r (.returned (.slice B m d)) w := by
  subst hn
  subst hm
  exact h.done hr
def KStr : Kind ByteArray := ⟨fun x => [.string x], 1, 9, 0, fun x _ _ => x.size ≤ 16, fun _ _ _ _ _ h _ => h⟩
def KF : Kind FH := ⟨fhc, 2, 51, 24, FP, fun _ _ _ _ _ h hg => FHok.go h hg⟩
theorem flat_str (l : List ByteArray) : l.flatMap KStr.f = l.map Value.string := by
  show l.flatMap (fun x => [Value.string x]) = _
  induction l with
  | nil => rfl
  | cons x l ih => rw [List.flatMap_cons, ih]; rfl
/-- What the package's stmt, block and function return. -/
def RetDs (w : World) (b : Nat) (r : Stm × Ds) (e : Ending) (w' : World) : Prop := ∃ x : SH, e = .returned (agS x) ∧ x.t = r.1 ∧ Fr w.heap.size (TP x) w' ∧ DTo w b r.2 w'
def RetDb (w : World) (b : Nat) (r : Blk × Ds) (e : Ending) (w' : World) : Prop := ∃ x : BH, e = .returned (agB x) ∧ x.b = r.1 ∧ Fr w.heap.size (BP x) w' ∧ DTo w b r.2 w'
def RetDf (w : World) (b : Nat) (r : Fnc × Ds) (e : Ending) (w' : World) : Prop := ∃ x : FH, e = .returned (agF x) ∧ x.f = r.1 ∧ Fr w.heap.size (FP x) w' ∧ DTo w b r.2 w'
theorem Dst.shp {w : World} {b : Nat} {σ : Ds} (h : Dst w b σ) : Shp w := h.tab
end Go.Proofs.YtcgichfanfijjaaDoor
