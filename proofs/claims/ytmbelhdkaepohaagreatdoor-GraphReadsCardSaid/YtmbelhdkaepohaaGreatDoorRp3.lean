/- While the reference's parser makes a statement: its two blocks, and what its lists lie in. -/
import Derived.Test.YtmbelhdkaepohaaGreatDoorRp2
import Derived.Test.YtmbelhdkaepohaaGreatDoorGst
import Derived.Test.YtmbelhdkaepohaaGreatDoorPms
namespace Go.Proofs.YtmbelhdkaepohaaGreatDoor
set_option maxRecDepth 20000
set_option linter.unusedVariables false
set_option linter.unusedSimpArgs false
open Go.ChangeShapes Go.WideShapes Go.ChangeAt Go.RowKit

/-- Safe from all that is written below N. -/
def Fr (N : Nat) (P : World → List (Option Nat) → Prop) (w : World) : Prop := ∀ ex : List (Option Nat), (∀ k, some k ∈ ex → k < N) → P w ex
theorem Fr.grown {N : Nat} {P : World → List (Option Nat) → Prop} (hP : ∀ {w w' : World} {ex ex' : List (Option Nat)}, P w ex → Go2 w ex w' ex' → P w' ex') {w w' : World} {row : Option Nat} (h : Fr N P w) (hg : w.grownBy w' row) (hr : ∀ k, row = some k → k < N) : Fr N P w' := by
  intro ex he
  have e1 := h (row :: ex) (fun k hk => by
    rcases List.mem_cons.1 hk with hk | hk
    · exact hr k hk.symm
    · exact he k hk)
  exact hP (hP e1 (Go2.same hg (.inr (by simp)))) (Go2.less _ fun k hk => List.mem_cons_of_mem _ hk)
theorem Fr.less {N M : Nat} {P : World → List (Option Nat) → Prop} {w : World} (h : Fr N P w) (hm : M ≤ N) : Fr M P w := fun ex he => h ex fun k hk => Nat.lt_of_lt_of_le (he k hk) hm
def SP (A : Option Addr) (n : Nat) (l : List ByteArray) : World → List (Option Nat) → Prop := fun w ex => SSafe w ex A n l
def TP (x : SH) : World → List (Option Nat) → Prop := fun w ex => SHok w ex x
theorem SP.go {A : Option Addr} {n : Nat} {l : List ByteArray} {w w' : World} {ex ex' : List (Option Nat)} (h : SP A n l w ex) (hg : Go2 w ex w' ex') : SP A n l w' ex' := SSafe.go h hg
theorem TP.go {x : SH} {w w' : World} {ex ex' : List (Option Nat)} (h : TP x w ex) (hg : Go2 w ex w' ex') : TP x w' ex' := SHok.go h hg
/-- A row of one's own that begins above N. -/
theorem frs_own {w : World} {base N : Nat} {A : Option Addr} {c : Nat} {l : List ByteArray} (h : w.ownsRow base 9 1 (.slice A l.length c) l.length (l.map Value.string)) (hN : N ≤ base) (hl : l.length ≤ 40) (hs : ∀ x ∈ l, x.size ≤ 1000) : Fr N (SP A l.length l) w :=
  fun ex he => ⟨EAt.own h (fun g hg hin => by have h1 := (h.lt g hg).1; have h2 := he g hin; omega), rfl, hl, hs⟩
theorem frs_one {w : World} {N : Nat} {y : ByteArray} (hN : N ≤ w.heap.size) (hs : y.size ≤ 1000) : Fr N (SP (some ⟨w.heap.size, 0, none⟩) 1 [y]) (w.alloc (.cells #[.string y] 9)) :=
  fun ex he => SSafe.new (l := [y]) (m := 1) (show Fb _ _ (strC [y]) 9 from Fb.new w #[.string y] 9) (fun hin => by have := he _ hin; omega) (by simp) (by simp) (by simpa using hs)
theorem frs_nil (N : Nat) (w : World) : Fr N (SP none 0 []) w := fun ex _ => SSafe.nil _ _ _

structure Sg (w0 : World) (b : Nat) (A : Option Addr) (c : Nat) (L : List Tok) (σ : Rs) (x : SH) (w : World) : Prop where
  st : Rst w b A c L σ
  old : b < w0.heap.size
  gr : w0.grownBy w (some b)
  f2 : Fb w w0.heap.size #[.int .i64 0, .string ⟨#[]⟩, .slice none 0 0, .slice none 0 0] 101
  f3 : Fb w (w0.heap.size + 1) #[.int .i64 x.t.op, .string x.t.d, .slice x.A x.n x.c, .slice x.B x.m x.c2] 101
  fr : Fr (w0.heap.size + 2) (TP x) w
def zSH : SH := ⟨none, 0, 0, none, 0, 0, ⟨0, ⟨#[]⟩, [], []⟩⟩
def zCells : Obj := .cells #[.int .i64 0, .string ⟨#[]⟩, .slice none 0 0, .slice none 0 0] 101
section
variable {w0 w w' : World} {b : Nat} {A : Option Addr} {c : Nat} {L : List Tok} {σ σ' : Rs} {A1 : Option Addr} {n1 c1 : Nat} {B1 : Option Addr} {m1 d1 : Nat} {op : Int} {d : ByteArray} {us ts : List ByteArray} {x : SH}
theorem Sg.start (h : Rst w0 b A c L σ) : Sg w0 b A c L σ zSH ((w0.alloc zCells).alloc zCells) := by
  have hb : Below w0.heap.size w0 ((w0.alloc zCells).alloc zCells) := ((Below.refl _ _).alloc (Nat.le_refl _) _).alloc (by simp) _
  refine ⟨h.below hb h.lt, h.lt, grown_of_below hb _, (Fb.new w0 _ _).alloc _, ?_, fun ex _ => ⟨SSafe.nil _ _ _, SSafe.nil _ _ _, by decide⟩⟩
  have := Fb.new (w0.alloc zCells) #[.int .i64 0, .string ⟨#[]⟩, .slice none 0 0, .slice none 0 0] 101
  rw [World.size_alloc] at this
  exact this
theorem Sg.call (h : Sg w0 b A c L σ x w) (hr : RTo w b A c L σ' w') : Sg w0 b A c L σ' x w' :=
  ⟨hr.1, h.old, grown_two h.gr hr.2, h.f2.grown hr.2 (by have := h.old; simp; omega), h.f3.grown hr.2 (by have := h.old; simp; omega), h.fr.grown TP.go hr.2 (fun k hk => by injection hk with hk; have := h.old; omega)⟩
theorem Sg.below (h : Sg w0 b A c L σ x w) (hb : Below w.heap.size w w') : Sg w0 b A c L σ x w' := h.call ((RTo.refl h.st).belowr hb)
theorem Sg.alloc (h : Sg w0 b A c L σ x w) (o : Obj) : Sg w0 b A c L σ x (w.alloc o) := h.below ((Below.refl _ _).alloc (Nat.le_refl _) o)
theorem Sg.drewN (h : Sg w0 b A c L σ x w) (q : Nat) : Sg w0 b A c L σ x (w.drewN q) := h.below (below_drewN (Below.refl _ _) q)
theorem Sg.size (h : Sg w0 b A c L σ x w) : w0.heap.size + 2 ≤ w.heap.size := by have := h.f3.lt; omega
/-- A field of the statement is written. -/
theorem Sg.put (h : Sg w0 b A c L σ x w) (j : Nat) (u : Value) (x' : SH)
    (hc : (#[.int .i64 x.t.op, .string x.t.d, .slice x.A x.n x.c, .slice x.B x.m x.c2] : Array Value).setIfInBounds j u = #[.int .i64 x'.t.op, .string x'.t.d, .slice x'.A x'.n x'.c, .slice x'.B x'.m x'.c2])
    (hf : Fr (w0.heap.size + 2) (TP x') w) : Sg w0 b A c L σ x' (w.setCell ⟨w0.heap.size + 1, j, none⟩ u) := by
  have ho := h.old
  refine ⟨h.st.far (by show b < w0.heap.size + 1; omega) u, ho, grown_set_new h.gr (by show w0.heap.size ≤ w0.heap.size + 1; omega) u, h.f2.far (by show w0.heap.size ≠ w0.heap.size + 1; omega) u, ?_, hf.grown TP.go (setCell_grown w _ _) (fun k hk => by injection hk with hk; have : w0.heap.size + 1 = k := hk; omega)⟩
  have := h.f3.set j u
  rw [hc] at this
  exact this
theorem Sg.putO (h : Sg w0 b A c L σ ⟨A1, n1, c1, B1, m1, d1, ⟨op, d, us, ts⟩⟩ w) (o : Int) : Sg w0 b A c L σ ⟨A1, n1, c1, B1, m1, d1, ⟨o, d, us, ts⟩⟩ (w.setCell ⟨w0.heap.size + 1, 0, none⟩ (.int .i64 o)) :=
  h.put 0 _ _ rfl (fun ex he => ⟨(h.fr ex he).uses, (h.fr ex he).targets, (h.fr ex he).small⟩)
theorem Sg.putD (h : Sg w0 b A c L σ ⟨A1, n1, c1, B1, m1, d1, ⟨op, d, us, ts⟩⟩ w) (y : ByteArray) (hy : y.size ≤ 16) : Sg w0 b A c L σ ⟨A1, n1, c1, B1, m1, d1, ⟨op, y, us, ts⟩⟩ (w.setCell ⟨w0.heap.size + 1, 1, none⟩ (.string y)) :=
  h.put 1 _ _ rfl (fun ex he => ⟨(h.fr ex he).uses, (h.fr ex he).targets, by show y.size ≤ 1000; omega⟩)
theorem Sg.putU (h : Sg w0 b A c L σ ⟨A1, n1, c1, B1, m1, d1, ⟨op, d, us, ts⟩⟩ w) {A2 : Option Addr} {n2 c2 : Nat} {us2 : List ByteArray} (hf : Fr (w0.heap.size + 2) (SP A2 n2 us2) w) :
    Sg w0 b A c L σ ⟨A2, n2, c2, B1, m1, d1, ⟨op, d, us2, ts⟩⟩ (w.setCell ⟨w0.heap.size + 1, 2, none⟩ (.slice A2 n2 c2)) :=
  h.put 2 _ _ rfl (fun ex he => ⟨hf ex he, (h.fr ex he).targets, (h.fr ex he).small⟩)
theorem Sg.putT (h : Sg w0 b A c L σ ⟨A1, n1, c1, B1, m1, d1, ⟨op, d, us, ts⟩⟩ w) {A2 : Option Addr} {n2 c2 : Nat} {ts2 : List ByteArray} (hf : Fr (w0.heap.size + 2) (SP A2 n2 ts2) w) :
    Sg w0 b A c L σ ⟨A1, n1, c1, A2, n2, c2, ⟨op, d, us, ts2⟩⟩ (w.setCell ⟨w0.heap.size + 1, 3, none⟩ (.slice A2 n2 c2)) :=
  h.put 3 _ _ rfl (fun ex he => ⟨(h.fr ex he).uses, hf ex he, (h.fr ex he).small⟩)
theorem Sg.putOU (h : Sg w0 b A c L σ ⟨A1, n1, c1, B1, m1, d1, ⟨op, d, us, ts⟩⟩ w) (o : Int) (y : ByteArray) (hy : y.size ≤ 16) :
    Sg w0 b A c L σ ⟨some ⟨w.heap.size, 0, none⟩, 1, 1, B1, m1, d1, ⟨o, d, [y], ts⟩⟩ (((w.setCell ⟨w0.heap.size + 1, 0, none⟩ (.int .i64 o)).setCell ⟨w0.heap.size + 1, 2, none⟩ (.slice (some ⟨w.heap.size, 0, none⟩) 1 1)).alloc (.cells #[.string y] 9)) := by
  have hz := h.size
  have e : Sg w0 b A c L σ ⟨some ⟨w.heap.size, 0, none⟩, 1, 1, B1, m1, d1, ⟨o, d, [y], ts⟩⟩ (((w.alloc (.cells #[.string y] 9)).setCell ⟨w0.heap.size + 1, 0, none⟩ (.int .i64 o)).setCell ⟨w0.heap.size + 1, 2, none⟩ (.slice (some ⟨w.heap.size, 0, none⟩) 1 1)) := ((h.alloc _).putO o).putU ((frs_one h.size (by omega)).grown SP.go (setCell_grown _ _ _) (fun k hk => by injection hk with hk; have : w0.heap.size + 1 = k := hk; omega))
  rw [World.setCell_alloc_past _ _ _ _ (by omega), World.setCell_alloc_past _ _ _ _ (by simp [World.setCell]; omega)] at e
  exact e
theorem Sg.putOT (h : Sg w0 b A c L σ ⟨A1, n1, c1, B1, m1, d1, ⟨op, d, us, ts⟩⟩ w) (o : Int) (y : ByteArray) (hy : y.size ≤ 16) :
    Sg w0 b A c L σ ⟨A1, n1, c1, some ⟨w.heap.size, 0, none⟩, 1, 1, ⟨o, d, us, [y]⟩⟩ (((w.setCell ⟨w0.heap.size + 1, 0, none⟩ (.int .i64 o)).setCell ⟨w0.heap.size + 1, 3, none⟩ (.slice (some ⟨w.heap.size, 0, none⟩) 1 1)).alloc (.cells #[.string y] 9)) := by
  have hz := h.size
  have e : Sg w0 b A c L σ ⟨A1, n1, c1, some ⟨w.heap.size, 0, none⟩, 1, 1, ⟨o, d, us, [y]⟩⟩ (((w.alloc (.cells #[.string y] 9)).setCell ⟨w0.heap.size + 1, 0, none⟩ (.int .i64 o)).setCell ⟨w0.heap.size + 1, 3, none⟩ (.slice (some ⟨w.heap.size, 0, none⟩) 1 1)) := ((h.alloc _).putO o).putT ((frs_one h.size (by omega)).grown SP.go (setCell_grown _ _ _) (fun k hk => by injection hk with hk; have : w0.heap.size + 1 = k := hk; omega))
  rw [World.setCell_alloc_past _ _ _ _ (by omega), World.setCell_alloc_past _ _ _ _ (by simp [World.setCell]; omega)] at e
  exact e
theorem Sg.putT1 (h : Sg w0 b A c L σ ⟨A1, n1, c1, B1, m1, d1, ⟨op, d, us, ts⟩⟩ w) (y : ByteArray) (hy : y.size ≤ 16) :
    Sg w0 b A c L σ ⟨A1, n1, c1, some ⟨w.heap.size, 0, none⟩, 1, 1, ⟨op, d, us, [y]⟩⟩ ((w.setCell ⟨w0.heap.size + 1, 3, none⟩ (.slice (some ⟨w.heap.size, 0, none⟩) 1 1)).alloc (.cells #[.string y] 9)) := by
  have hz := h.size
  have e : Sg w0 b A c L σ ⟨A1, n1, c1, some ⟨w.heap.size, 0, none⟩, 1, 1, ⟨op, d, us, [y]⟩⟩ ((w.alloc (.cells #[.string y] 9)).setCell ⟨w0.heap.size + 1, 3, none⟩ (.slice (some ⟨w.heap.size, 0, none⟩) 1 1)) := (h.alloc _).putT (frs_one h.size (by omega))
  rw [World.setCell_alloc_past _ _ _ _ (by omega)] at e
  exact e
theorem Sg.cells (h : Sg w0 b A c L σ ⟨A1, n1, c1, B1, m1, d1, ⟨op, d, us, ts⟩⟩ w) :
    (w.cell? ⟨w0.heap.size + 1, 0, none⟩ = some (.int .i64 op) ∧ w.cell? ⟨w0.heap.size + 1, 1, none⟩ = some (.string d) ∧ w.cell? ⟨w0.heap.size + 1, 2, none⟩ = some (.slice A1 n1 c1) ∧ w.cell? ⟨w0.heap.size + 1, 3, none⟩ = some (.slice B1 m1 d1)) ∧
    (w.frozen? ⟨w0.heap.size + 1, 0, none⟩ = false ∧ w.frozen? ⟨w0.heap.size + 1, 1, none⟩ = false ∧ w.frozen? ⟨w0.heap.size + 1, 2, none⟩ = false ∧ w.frozen? ⟨w0.heap.size + 1, 3, none⟩ = false) ∧
    (w.cell? ⟨w0.heap.size, 0, none⟩ = some (.int .i64 0) ∧ w.cell? ⟨w0.heap.size, 1, none⟩ = some (.string ⟨#[]⟩) ∧ w.cell? ⟨w0.heap.size, 2, none⟩ = some (.slice none 0 0) ∧ w.cell? ⟨w0.heap.size, 3, none⟩ = some (.slice none 0 0)) ∧
    (w.frozen? ⟨w0.heap.size, 0, none⟩ = false ∧ w.frozen? ⟨w0.heap.size, 1, none⟩ = false ∧ w.frozen? ⟨w0.heap.size, 2, none⟩ = false ∧ w.frozen? ⟨w0.heap.size, 3, none⟩ = false) ∧ w0.heap.size + 1 < w.heap.size :=
  ⟨h.f3.four, ⟨h.f3.frozen 0, h.f3.frozen 1, h.f3.frozen 2, h.f3.frozen 3⟩, h.f2.four, ⟨h.f2.frozen 0, h.f2.frozen 1, h.f2.frozen 2, h.f2.frozen 3⟩, h.f3.lt⟩
end
/-- What the reference's stmt returns. -/
def RetT (w : World) (b : Nat) (A : Option Addr) (c : Nat) (L : List Tok) (r : Stm × Rs) (e : Ending) (w' : World) : Prop :=
  ∃ x : SH, e = .returned (agS x) ∧ x.t = r.1 ∧ Fr w.heap.size (TP x) w' ∧ RTo w b A c L r.2 w'
theorem Sg.done {w0 w : World} {b c : Nat} {A : Option Addr} {L : List Tok} {σ : Rs} {x : SH} (h : Sg w0 b A c L σ x w) (p q r s : Value) {R : Stm × Rs} (hR : R = (x.t, σ)) :
    RetT w0 b A c L R (.returned (agS x)) ((((w.setCell ⟨w0.heap.size, 0, none⟩ p).setCell ⟨w0.heap.size, 1, none⟩ q).setCell ⟨w0.heap.size, 2, none⟩ r).setCell ⟨w0.heap.size, 3, none⟩ s) := by
  subst hR
  have hg : w.grownBy ((((w.setCell ⟨w0.heap.size, 0, none⟩ p).setCell ⟨w0.heap.size, 1, none⟩ q).setCell ⟨w0.heap.size, 2, none⟩ r).setCell ⟨w0.heap.size, 3, none⟩ s) (some w0.heap.size) :=
    grown_two (grown_two (grown_two (setCell_grown w ⟨w0.heap.size, 0, none⟩ p) (setCell_grown _ ⟨w0.heap.size, 1, none⟩ q)) (setCell_grown _ ⟨w0.heap.size, 2, none⟩ r)) (setCell_grown _ ⟨w0.heap.size, 3, none⟩ s)
  refine ⟨x, rfl, rfl, (h.fr.grown TP.go hg (fun k hk => by injection hk with hk; omega)).less (by omega), h.st.grown hg (fun k hk => by injection hk with hk; have := h.old; omega), ?_⟩
  have e := fun (w' : World) (g : w0.grownBy w' (some b)) (p : Addr) (hp : p.block = w0.heap.size) u => grown_set_new g (p := p) (by omega) u
  exact e _ (e _ (e _ (e _ h.gr _ rfl p) _ rfl q) _ rfl r) _ rfl s
end Go.Proofs.YtmbelhdkaepohaaGreatDoor
