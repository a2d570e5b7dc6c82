/- What a block's type is; a step that writes blocks of one type alone. -/
import Derived.Test.YtbjaebbmajhjjaaSym
import Derived.Test.YtbjaebbmajhjjaaGen3
namespace Go.Proofs.Ytbjaebbmajhjjaa
set_option maxRecDepth 20000
set_option linter.unusedVariables false
set_option linter.unusedSimpArgs false
open Go.ChangeShapes Go.WideShapes Go.ChangeAt Go.RowKit

def Typ (w : World) (g t : Nat) : Prop := ∃ cs m, w.heap[g]? = some (.cells cs t m)
theorem Typ.ne {w : World} {g g' t t' : Nat} (h : Typ w g t) (h' : Typ w g' t') (ht : t ≠ t') : g ≠ g' := by
  rintro rfl
  obtain ⟨cs, m, h⟩ := h
  obtain ⟨cs', m', h'⟩ := h'
  rw [h] at h'
  injection h' with h'
  injection h' with _ h2
  exact ht h2
theorem Fb.typ {w : World} {g t : Nat} {cs : Array Value} (h : Fb w g cs t) : Typ w g t := ⟨cs, _, h⟩
theorem Row.typ {w : World} {g : Nat} {ws : List Nat} (h : Row w g ws) : Typ w g 80 := ⟨_, _, h⟩
theorem Tape.typ {w : World} {T : Nat} (h : Tape w T) : Typ w T 59 := by
  obtain ⟨A, n, c, k, zs, h, _⟩ := h
  exact ⟨_, _, h⟩
theorem own_typ {w : World} {base ty k n : Nat} {v : Value} {xs : List Value} (h : w.ownsRow base ty k v n xs) {g : Nat} (hg : v.ownBlock = some g) : Typ w g ty := by
  rcases h.2 with ⟨rfl, _⟩ | ⟨g', cap, cur, rfl, _, h', _⟩
  · cases hg
  · obtain rfl := Option.some.inj hg
    exact ⟨_, _, h'⟩
theorem own_noteq {w : World} {base ty k n : Nat} {v : Value} {xs : List Value} (h : w.ownsRow base ty k v n xs) {g t : Nat} (hg : Typ w g t) (ht : t ≠ ty) : v.ownBlock = none ∨ v.ownBlock ≠ some g := by
  cases hv : v.ownBlock with
  | none => exact .inl rfl
  | some k => exact .inr fun e => hg.ne (own_typ h (hv.trans e)) ht rfl
theorem own_slice3 {w : World} {base ty k n : Nat} {v : Value} {xs : List Value} (h : w.ownsRow base ty k v n xs) : ∃ (A : Option Addr) (c : Nat), v = .slice A n c := by
  rcases h.2 with ⟨rfl, rfl⟩ | ⟨g', cap, cur, rfl, _, h', _⟩
  · exact ⟨_, _, rfl⟩
  · exact ⟨_, _, rfl⟩
/-- A step that writes a block of type t alone. -/
def Stp1 (t : Nat) (w w' : World) : Prop := ∃ row, w.grownBy w' row ∧ ∀ g, row = some g → Typ w g t
theorem Stp1.below {t : Nat} {w w' : World} (h : Below w.heap.size w w') : Stp1 t w w' := ⟨none, grown_of_below h _, fun g h => by cases h⟩
theorem Stp1.refl (t : Nat) (w : World) : Stp1 t w w := Stp1.below (Below.refl _ _)
theorem Stp1.block {t t' : Nat} {w w' : World} (h : Stp1 t w w') {g : Nat} (hg : Typ w g t') (ht : t' ≠ t) (hlt : g < w.heap.size) : w'.heap[g]? = w.heap[g]? := by
  obtain ⟨row, h1, h2⟩ := h
  exact h1.block g hlt fun e => hg.ne (h2 g e.symm) ht rfl
theorem Typ.lt {w : World} {g t : Nat} (h : Typ w g t) : g < w.heap.size := by
  obtain ⟨cs, m, h⟩ := h
  rcases Nat.lt_or_ge g w.heap.size with hlt | hge
  · exact hlt
  · rw [Array.getElem?_eq_none hge] at h; cases h
theorem Stp1.fb {t t' : Nat} {w w' : World} (h : Stp1 t w w') {g : Nat} {cs : Array Value} (hf : Fb w g cs t') (ht : t' ≠ t) : Fb w' g cs t' := (h.block hf.typ ht hf.lt).trans hf
theorem Stp1.row {t : Nat} {w w' : World} (h : Stp1 t w w') {g : Nat} {ws : List Nat} (hf : Row w g ws) (ht : 80 ≠ t) : Row w' g ws := (h.block hf.typ ht hf.lt).trans hf
theorem Stp1.own {t base ty k n : Nat} {w w' : World} {v : Value} {xs : List Value} (h : Stp1 t w w') (ho : w.ownsRow base ty k v n xs) (ht : ty ≠ t) : w'.ownsRow base ty k v n xs := by
  obtain ⟨row, h1, h2⟩ := h
  refine ho.kept h1 ?_
  cases hv : v.ownBlock with
  | none => exact .inl rfl
  | some g => exact .inr fun e => (own_typ ho hv).ne (h2 g e.symm) ht rfl
theorem Stp1.typ {t t' : Nat} {w w' : World} (h : Stp1 t w w') {g : Nat} (hg : Typ w g t') (ht : t' ≠ t) : Typ w' g t' := by
  obtain ⟨cs, m, hc⟩ := hg
  exact ⟨cs, m, (h.block ⟨cs, m, hc⟩ ht (Typ.lt ⟨cs, m, hc⟩)).trans hc⟩
/-- All but these blocks is as it was. -/
structure GrX (w : World) (ex : List (Option Nat)) (u : World) : Prop where
  os : u.os = w.os
  tape : u.tape = w.tape
  output : u.output = w.output
  size : w.heap.size ≤ u.heap.size
  block : ∀ k, k < w.heap.size → some k ∉ ex → u.heap[k]? = w.heap[k]?
theorem GrX.refl (w : World) (ex : List (Option Nat)) : GrX w ex w := ⟨rfl, rfl, rfl, Nat.le_refl _, fun _ _ _ => rfl⟩
theorem GrX.step {w u u' : World} {ex : List (Option Nat)} {row : Option Nat} (h : GrX w ex u) (hg : u.grownBy u' row) (hr : ∀ g, row = some g → row ∈ ex ∨ w.heap.size ≤ g) : GrX w ex u' :=
  ⟨hg.os.trans h.os, hg.tape.trans h.tape, hg.output.trans h.output, Nat.le_trans h.size hg.size, fun k hk hne => (hg.block k (by have := h.size; omega) fun e => by
    rcases hr k e.symm with h1 | h1
    · exact hne (e ▸ h1)
    · omega).trans (h.block k hk hne)⟩
theorem GrX.below {w u u' : World} {ex : List (Option Nat)} (h : GrX w ex u) (hb : Below u.heap.size u u') : GrX w ex u' := h.step (grown_of_below hb none) (fun g e => by cases e)
theorem GrX.go {w u : World} {ex ex' : List (Option Nat)} (h : GrX w ex u) (he : ∀ k, k < w.heap.size → some k ∈ ex' → some k ∈ ex) : Go2 w ex u ex' := fun k hk =>
  ⟨h.block k hk.1 hk.2, by have := h.size; have := hk.1; omega, fun h' => hk.2 (he k hk.1 h')⟩
theorem GrX.grown {w0 w u : World} {ex : List (Option Nat)} {T : Nat} (h : GrX w ex u) (h0 : w0.grownBy w (some T)) (hex : ∀ k, some k ∈ ex → k = T ∨ w0.heap.size ≤ k) : w0.grownBy u (some T) :=
  ⟨h.os.trans h0.os, h.tape.trans h0.tape, h.output.trans h0.output, Nat.le_trans h0.size h.size, fun k hk hne => by
    have := h0.size
    refine (h.block k (by omega) fun hm => ?_).trans (h0.block k hk hne)
    rcases hex k hm with h1 | h1
    · exact hne (by rw [h1])
    · omega⟩
/-- A function of the generator's, by its rows. -/
structure Ft (u : World) (W : Nat) (F : FH) : Prop where
  gen : ∃ g, F.G.A = some ⟨g, 0, none⟩ ∧ Row u g F.G.ws
  kill : ∃ g, F.K.A = some ⟨g, 0, none⟩ ∧ Row u g F.K.ws
  cops : ∃ b, u.ownsRow b 98 2 (.slice F.C F.k F.q) F.k (pairs F.cs)
  g1 : F.G.W = W ∧ Bs.Fit W F.G.ws ∧ F.G.n = Bs.nw W
  k1 : F.K.W = W ∧ Bs.Fit W F.K.ws ∧ F.K.n = Bs.nw W
  c1 : F.cs.length = F.k ∧ F.k ≤ 12
  ok : validT W F.G.ws W F.K.ws F.cs = true
theorem Stp1.ft {t : Nat} {u u' : World} {W : Nat} {F : FH} (h : Stp1 t u u') (hf : Ft u W F) (h1 : 80 ≠ t) (h2 : 98 ≠ t) : Ft u' W F := by
  obtain ⟨⟨g, a1, a2⟩, ⟨g', b1, b2⟩, ⟨b, c⟩, r1, r2, r3, r4⟩ := hf
  exact ⟨⟨g, a1, h.row a2 h1⟩, ⟨g', b1, h.row b2 h1⟩, ⟨b, h.own c h2⟩, r1, r2, r3, r4⟩
theorem Ft.fh {u : World} {W : Nat} {F : FH} {ex : List (Option Nat)} (h : Ft u W F) (hex : ∀ k, some k ∈ ex → ¬ Typ u k 80 ∧ ¬ Typ u k 98) : FHok u ex F := by
  obtain ⟨⟨g, a1, a2⟩, ⟨g', b1, b2⟩, ⟨b, c⟩, ⟨_, f1, n1⟩, ⟨_, f2, n2⟩, ⟨l1, _⟩, _⟩ := h
  refine ⟨⟨?_, by rw [f1.len, n1], f1.ok⟩, ⟨?_, by rw [f2.len, n2], f2.ok⟩, EAt.own c fun k hk hm => (hex k hm).2 (own_typ c hk), l1⟩
  · rw [a1]; exact EAt.fb a2 (fun hm => (hex g hm).1 a2.typ) (fun j x hx => by simpa using hx)
  · rw [b1]; exact EAt.fb b2 (fun hm => (hex g' hm).1 b2.typ) (fun j x hx => by simpa using hx)
end Go.Proofs.Ytbjaebbmajhjjaa
