/- Webs in memory: arcs, rows of them, rows of rows; which web of values they are. -/
import Derived.Test.YtopkmeceakjocaaSym
import Derived.Test.YtopkmeceakjocaaLf2
namespace Go.Proofs.Ytopkmeceakjocaa
set_option maxRecDepth 20000
set_option linter.unusedVariables false
set_option linter.unusedSimpArgs false
open Go.ChangeShapes Go.WideShapes Go.ChangeAt Go.RowKit

/-- An arc. -/
structure AH where
  m : Int
  f : FH
def AH.cells (x : AH) : List Value := [.int .i64 x.m, .int .i64 x.f.G.W, .slice x.f.G.A x.f.G.n x.f.G.c, .int .i64 x.f.K.W, .slice x.f.K.A x.f.K.n x.f.K.c, .slice x.f.C x.f.k x.f.q]
theorem AH.cells_len (x : AH) : x.cells.length = 6 := rfl
/-- A row of arcs. -/
structure AL where
  A : Option Addr
  n : Nat
  c : Nat
  l : List AH
def AL.v (x : AL) : Value := .slice x.A x.n x.c
structure ALok (w : World) (ex : List (Option Nat)) (x : AL) : Prop where
  lies : EAt w ex x.A (x.l.flatMap AH.cells)
  len : x.l.length = x.n
  few : x.n ≤ 9223372036854775807
  all : ∀ y ∈ x.l, FHok w ex y.f
section
variable {w w' : World} {ex ex' : List (Option Nat)} {x : AL}
theorem ALok.go (h : ALok w ex x) (hg : Go2 w ex w' ex') : ALok w' ex' x := ⟨h.lies.go hg, h.len, h.few, fun y hy => (h.all y hy).go hg⟩
theorem ALok.below (h : ALok w ex x) (hb : Below w.heap.size w w') : ALok w' ex x := h.go (Go2.below hb)
theorem ALok.cell (h : ALok w ex x) {i : Nat} {y : AH} (hi : x.l[i]? = some y) : ∃ ad : Addr, x.A = some ad ∧ ad.block < w.heap.size ∧ w.cell? (ad.add (i * 6)) = some (.int .i64 y.m) ∧ w.cell? ⟨(ad.add (i * 6)).block, (ad.add (i * 6)).off + 1, none⟩ = some (.int .i64 y.f.G.W) ∧
    w.cell? ⟨(ad.add (i * 6)).block, (ad.add (i * 6)).off + 2, none⟩ = some (.slice y.f.G.A y.f.G.n y.f.G.c) ∧ w.cell? ⟨(ad.add (i * 6)).block, (ad.add (i * 6)).off + 3, none⟩ = some (.int .i64 y.f.K.W) ∧ w.cell? ⟨(ad.add (i * 6)).block, (ad.add (i * 6)).off + 4, none⟩ = some (.slice y.f.K.A y.f.K.n y.f.K.c) ∧
    w.cell? ⟨(ad.add (i * 6)).block, (ad.add (i * 6)).off + 5, none⟩ = some (.slice y.f.C y.f.k y.f.q) := by
  obtain ⟨ad, h1, h2, h3⟩ := h.lies.str AH.cells_len hi (by decide)
  refine ⟨ad, h1, h2.1, h3 0 (by decide), ?_, ?_, ?_, ?_, ?_⟩
  · rw [addk _ _ _ (by decide)]; exact h3 1 (by decide)
  · rw [addk _ _ _ (by decide)]; exact h3 2 (by decide)
  · rw [addk _ _ _ (by decide)]; exact h3 3 (by decide)
  · rw [addk _ _ _ (by decide)]; exact h3 4 (by decide)
  · rw [addk _ _ _ (by decide)]; exact h3 5 (by decide)
end
/-- A row of rows of arcs. -/
structure AM where
  A : Option Addr
  n : Nat
  c : Nat
  l : List AL
structure AMok (w : World) (ex : List (Option Nat)) (x : AM) : Prop where
  lies : EAt w ex x.A (x.l.map AL.v)
  len : x.l.length = x.n
  few : x.n ≤ 9223372036854775807
  all : ∀ y ∈ x.l, ALok w ex y
section
variable {w w' : World} {ex ex' : List (Option Nat)} {x : AM}
theorem AMok.go (h : AMok w ex x) (hg : Go2 w ex w' ex') : AMok w' ex' x := ⟨h.lies.go hg, h.len, h.few, fun y hy => (h.all y hy).go hg⟩
theorem AMok.below (h : AMok w ex x) (hb : Below w.heap.size w w') : AMok w' ex x := h.go (Go2.below hb)
theorem AMok.cell (h : AMok w ex x) {i : Nat} {y : AL} (hi : x.l[i]? = some y) : ∃ ad : Addr, x.A = some ad ∧ ad.block < w.heap.size ∧ w.cell? (ad.add i) = some (.slice y.A y.n y.c) := by
  obtain ⟨ad, h1, h2, h3⟩ := h.lies.one (i := i) (u := AL.v y) (by rw [List.getElem?_map, hi]; rfl)
  exact ⟨ad, h1, h2.1, h3⟩
end
/-- A web. -/
structure WB where
  W : Int
  B : ZL
  I : AM
def WB.a (x : WB) : Value := .agg #[.int .i64 x.W, .slice x.B.A x.B.n x.B.c, .slice x.I.A x.I.n x.I.c]
structure WBok (w : World) (ex : List (Option Nat)) (x : WB) : Prop where
  b : ZLok w ex x.B
  i : AMok w ex x.I
theorem WBok.go {w w' : World} {ex ex' : List (Option Nat)} {x : WB} (h : WBok w ex x) (hg : Go2 w ex w' ex') : WBok w' ex' x := ⟨h.b.go hg, h.i.go hg⟩
theorem WBok.below {w w' : World} {ex : List (Option Nat)} {x : WB} (h : WBok w ex x) (hb : Below w.heap.size w w') : WBok w' ex x := h.go (Go2.below hb)
/-- The values of it. -/
def FH.pf (f : FH) : Pf := ⟨f.G.ws, f.K.ws, f.cs⟩
def AH.pa (a : AH) : Nat × Pf := (a.m.toNat, a.f.pf)
def AL.pa (r : AL) : List (Nat × Pf) := r.l.map AH.pa
def WB.pw (x : WB) : PW := ⟨x.W.toNat, x.B.l.map ZH.ws, x.I.l.map AL.pa⟩
/-- A function of width v. -/
structure FOk (v : Nat) (f : FH) : Prop where
  w1 : f.G.W = v
  w2 : f.K.W = v
  ok : validT v f.G.ws v f.K.ws f.cs = true
/-- A valid web of width v with n unknowns. -/
structure WOk (x : WB) (v n : Nat) : Prop where
  w : x.W = v
  v256 : v ≤ 256
  n256 : n ≤ 256
  bn : x.B.n = n
  inn : x.I.n = n
  bd : ∀ s ∈ x.B.l, s.W = v ∧ Bs.Fit v s.ws
  arcs : ∀ r ∈ x.I.l, r.n ≤ 256 ∧ ∀ a ∈ r.l, (0 ≤ a.m ∧ a.m < n) ∧ FOk v a.f
/-- Values of width v. -/
structure VOk (y : ZL) (v n : Nat) : Prop where
  n : y.n = n
  all : ∀ s ∈ y.l, s.W = v ∧ Bs.Fit v s.ws
def ZL.vs (y : ZL) : List (List Nat) := y.l.map ZH.ws
theorem ZL.vs_at {y : ZL} {i : Nat} {s : ZH} (h : y.l[i]? = some s) : at0 y.vs i = s.ws := at0_get (by unfold ZL.vs; rw [List.getElem?_map, h]; rfl)
theorem WB.arcs_at {x : WB} {i : Nat} {r : AL} (h : x.I.l[i]? = some r) : x.pw.arcs.getD i [] = r.pa := by
  unfold WB.pw
  simp only
  rw [List.getD_eq_getElem?_getD, List.getElem?_map, h]; rfl
theorem side_take {v : Nat} {vals : List (List Nat)} {s : List Nat} {r : AL} {j : Nat} {a : AH} (h : r.l[j]? = some a) : side v vals s ((r.l.take (j + 1)).map AH.pa) = orR v (side v vals s ((r.l.take j).map AH.pa)) (a.f.pf.vl v (at0 vals a.m.toNat)) := by
  rw [List.take_add_one, h, List.map_append]
  exact side_snoc _ _ _ _ _
end Go.Proofs.Ytopkmeceakjocaa
