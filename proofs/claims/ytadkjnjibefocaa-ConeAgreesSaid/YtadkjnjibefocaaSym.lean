/- Sets, functions, rows of them and systems in memory. -/
import Derived.Test.YtadkjnjibefocaaEat
import Derived.Test.YtadkjnjibefocaaFar
namespace Go.Proofs.Ytadkjnjibefocaa
set_option maxRecDepth 20000
set_option linter.unusedVariables false
set_option linter.unusedSimpArgs false
open Go.ChangeShapes Go.WideShapes Go.ChangeAt Go.RowKit

/-- A set and where its words lie. -/
structure ZH where
  W : Int
  A : Option Addr
  n : Nat
  c : Nat
  ws : List Nat
def ZH.cs (x : ZH) : List Value := [.int .i64 x.W, .slice x.A x.n x.c]
def ZH.a (x : ZH) : Value := .agg #[.int .i64 x.W, .slice x.A x.n x.c]
/-- The set, apart from where it lies. -/
def ZH.p (x : ZH) : Int × List Nat := (x.W, x.ws)
structure ZHok (w : World) (ex : List (Option Nat)) (x : ZH) : Prop where
  lies : EAt w ex x.A (words x.ws)
  len : x.ws.length = x.n
  ok : ∀ y ∈ x.ws, y < Bs.W64
section
variable {w w' : World} {ex ex' : List (Option Nat)} {x : ZH}
theorem ZHok.go (h : ZHok w ex x) (hg : Go2 w ex w' ex') : ZHok w' ex' x := ⟨h.lies.go hg, h.len, h.ok⟩
theorem ZHok.below (h : ZHok w ex x) (hb : Below w.heap.size w w') : ZHok w' ex x := h.go (Go2.below hb)
theorem ZHok.arg (h : ZHok w ex x) : Arg w x.A x.n x.ws := ⟨h.lies.at, h.len, h.ok⟩
end
/-- A function and where its parts lie. -/
structure FH where
  G : ZH
  K : ZH
  C : Option Addr
  k : Nat
  q : Nat
  cs : List (Int × Int)
def FH.cells (x : FH) : List Value := [.int .i64 x.G.W, .slice x.G.A x.G.n x.G.c, .int .i64 x.K.W, .slice x.K.A x.K.n x.K.c, .slice x.C x.k x.q]
def FH.a (x : FH) : Value := .agg #[.int .i64 x.G.W, .slice x.G.A x.G.n x.G.c, .int .i64 x.K.W, .slice x.K.A x.K.n x.K.c, .slice x.C x.k x.q]
def FH.vB (x : FH) : Bool := validT x.G.W x.G.ws x.K.W x.K.ws x.cs
structure FHok (w : World) (ex : List (Option Nat)) (x : FH) : Prop where
  g : ZHok w ex x.G
  k : ZHok w ex x.K
  lies : EAt w ex x.C (pairs x.cs)
  len : x.cs.length = x.k
section
variable {w w' : World} {ex ex' : List (Option Nat)} {x : FH}
theorem FHok.go (h : FHok w ex x) (hg : Go2 w ex w' ex') : FHok w' ex' x := ⟨h.g.go hg, h.k.go hg, h.lies.go hg, h.len⟩
theorem FHok.below (h : FHok w ex x) (hb : Below w.heap.size w w') : FHok w' ex x := h.go (Go2.below hb)
theorem FHok.arg (h : FHok w ex x) : FArg w x.G.A x.G.n x.K.A x.K.n x.C x.k x.G.ws x.K.ws x.cs := ⟨h.g.arg, h.k.arg, ⟨h.lies.at, h.len⟩⟩
end
theorem ZH.cs_len (x : ZH) : x.cs.length = 2 := rfl
theorem FH.cells_len (x : FH) : x.cells.length = 5 := rfl
/-- Cells of one struct in a row of them. -/
theorem EAt.str {α : Type} {f : α → List Value} {k : Nat} (hf : ∀ x, (f x).length = k) {w : World} {ex : List (Option Nat)} {A : Option Addr} {l : List α} (h : EAt w ex A (l.flatMap f)) {i : Nat} {x : α} (hi : l[i]? = some x) (hk : 0 < k) :
    ∃ ad : Addr, A = some ad ∧ Safe w ex ad.block ∧ ∀ j, j < k → w.cell? (ad.add (i * k + j)) = (f x)[j]? := by
  rcases h with e | ⟨ad, e, hs, hc⟩
  · have hl := flat_len hf l
    rw [e] at hl
    have : 0 < l.length := by
      have := (List.getElem?_eq_some_iff.1 hi).1
      omega
    have : 0 < l.length * k := Nat.mul_pos this hk
    simp at hl
    omega
  · refine ⟨ad, e, hs, fun j hj => ?_⟩
    have h1 := flat_cell hf hi hj
    have h2 : (f x)[j]? = some ((f x)[j]'(by rw [hf]; exact hj)) := List.getElem?_eq_getElem _
    rw [h2]
    exact hc _ _ (h1.trans h2)
theorem addk (ad : Addr) (m j : Nat) (hj : 0 < j) : (⟨(ad.add m).block, (ad.add m).off + j, none⟩ : Addr) = ad.add (m + j) := by
  rw [← Go.Deep.add_add]
  generalize ad.add m = a
  unfold Addr.add
  rw [if_neg (by omega)]
/-- A list of sets. -/
structure ZL where
  A : Option Addr
  n : Nat
  c : Nat
  l : List ZH
structure ZLok (w : World) (ex : List (Option Nat)) (x : ZL) : Prop where
  lies : EAt w ex x.A (x.l.flatMap ZH.cs)
  len : x.l.length = x.n
  few : x.n ≤ 9223372036854775807
  all : ∀ y ∈ x.l, ZHok w ex y
section
variable {w w' : World} {ex ex' : List (Option Nat)} {x : ZL}
theorem ZLok.go (h : ZLok w ex x) (hg : Go2 w ex w' ex') : ZLok w' ex' x := ⟨h.lies.go hg, h.len, h.few, fun y hy => (h.all y hy).go hg⟩
theorem ZLok.below (h : ZLok w ex x) (hb : Below w.heap.size w w') : ZLok w' ex x := h.go (Go2.below hb)
theorem ZLok.cell (h : ZLok w ex x) {i : Nat} {y : ZH} (hi : x.l[i]? = some y) : ∃ ad : Addr, x.A = some ad ∧ ad.block < w.heap.size ∧ w.cell? (ad.add (i * 2)) = some (.int .i64 y.W) ∧ w.cell? ⟨(ad.add (i * 2)).block, (ad.add (i * 2)).off + 1, none⟩ = some (.slice y.A y.n y.c) := by
  obtain ⟨ad, h1, h2, h3⟩ := h.lies.str ZH.cs_len hi (by decide)
  refine ⟨ad, h1, h2.1, h3 0 (by decide), ?_⟩
  rw [addk _ _ _ (by decide)]
  exact h3 1 (by decide)
end
/-- A list of functions. -/
structure FL where
  A : Option Addr
  n : Nat
  c : Nat
  l : List FH
structure FLok (w : World) (ex : List (Option Nat)) (x : FL) : Prop where
  lies : EAt w ex x.A (x.l.flatMap FH.cells)
  len : x.l.length = x.n
  few : x.n ≤ 9223372036854775807
  all : ∀ y ∈ x.l, FHok w ex y
section
variable {w w' : World} {ex ex' : List (Option Nat)} {x : FL}
theorem FLok.go (h : FLok w ex x) (hg : Go2 w ex w' ex') : FLok w' ex' x := ⟨h.lies.go hg, h.len, h.few, fun y hy => (h.all y hy).go hg⟩
theorem FLok.below (h : FLok w ex x) (hb : Below w.heap.size w w') : FLok w' ex x := h.go (Go2.below hb)
theorem FLok.cell (h : FLok w ex x) {i : Nat} {y : FH} (hi : x.l[i]? = some y) : ∃ ad : Addr, x.A = some ad ∧ ad.block < w.heap.size ∧ w.cell? (ad.add (i * 5)) = some (.int .i64 y.G.W) ∧ w.cell? ⟨(ad.add (i * 5)).block, (ad.add (i * 5)).off + 1, none⟩ = some (.slice y.G.A y.G.n y.G.c) ∧
    w.cell? ⟨(ad.add (i * 5)).block, (ad.add (i * 5)).off + 2, none⟩ = some (.int .i64 y.K.W) ∧ w.cell? ⟨(ad.add (i * 5)).block, (ad.add (i * 5)).off + 3, none⟩ = some (.slice y.K.A y.K.n y.K.c) ∧ w.cell? ⟨(ad.add (i * 5)).block, (ad.add (i * 5)).off + 4, none⟩ = some (.slice y.C y.k y.q) := by
  obtain ⟨ad, h1, h2, h3⟩ := h.lies.str FH.cells_len hi (by decide)
  refine ⟨ad, h1, h2.1, h3 0 (by decide), ?_, ?_, ?_, ?_⟩
  · rw [addk _ _ _ (by decide)]; exact h3 1 (by decide)
  · rw [addk _ _ _ (by decide)]; exact h3 2 (by decide)
  · rw [addk _ _ _ (by decide)]; exact h3 3 (by decide)
  · rw [addk _ _ _ (by decide)]; exact h3 4 (by decide)
end
/-- A system. -/
structure SY where
  W : Int
  D : LH
  T : FL
  B : ZL
def SY.a (s : SY) : Value := .agg #[.int .i64 s.W, .slice s.D.A s.D.n s.D.c, .slice s.T.A s.T.n s.T.c, .slice s.B.A s.B.n s.B.c]
structure SYok (w : World) (ex : List (Option Nat)) (s : SY) : Prop where
  d : LHok w ex s.D
  t : FLok w ex s.T
  b : ZLok w ex s.B
theorem SYok.go {w w' : World} {ex ex' : List (Option Nat)} {s : SY} (h : SYok w ex s) (hg : Go2 w ex w' ex') : SYok w' ex' s := ⟨h.d.go hg, h.t.go hg, h.b.go hg⟩
theorem SYok.below {w w' : World} {ex : List (Option Nat)} {s : SY} (h : SYok w ex s) (hb : Below w.heap.size w w') : SYok w' ex s := h.go (Go2.below hb)
end Go.Proofs.Ytadkjnjibefocaa
