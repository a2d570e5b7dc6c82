/- The reference's Lines. -/
import Derived.Test.YtmbelhdkaepohaaGreatDoorVlp
import Derived.Deep.AppendLies
namespace Go.Proofs.YtmbelhdkaepohaaGreatDoor
set_option maxRecDepth 20000
set_option linter.unusedVariables false
open Go.ChangeShapes Go.WideShapes Go.ChangeAt Go.RowKit

def funcW : ByteArray := ⟨#[102, 117, 110, 99, 32]⟩
def blockW : ByteArray := ⟨#[98, 108, 111, 99, 107, 32]⟩
def endW : ByteArray := ⟨#[101, 110, 100]⟩
def blkL (b : Blk) : List ByteArray := (blockW ++ b.name) :: b.ss.map lineP
def fncL (f : Fnc) : List ByteArray := (funcW ++ f.name) :: (f.bs.flatMap blkL ++ [endW])
/-- P5.3: the lines. -/
def linesP (p : List Fnc) : List ByteArray := p.flatMap fncL
theorem flat_snoc {α β : Type} (f : α → List β) (l : List α) {k : Nat} {x : α} (hx : l[k]? = some x) : (l.take (k + 1)).flatMap f = (l.take k).flatMap f ++ f x := by
  rw [List.take_add_one, List.flatMap_append, hx]; simp
theorem map_snoc' {α β : Type} (f : α → β) (l : List α) {k : Nat} {x : α} (hx : l[k]? = some x) : (l.take (k + 1)).map f = (l.take k).map f ++ [f x] := by
  rw [List.take_add_one, List.map_append, hx]; simp

theorem info9 : (Tryz.prog.info? 9).map (fun i => (i.zero, i.size, i.bytes)) = some (some (.string ⟨#[]⟩), 1, 16) := by kernel_rfl
theorem one_str (w : World) (a : Value) (ty : TypeId) : ∀ j u, [a][j]? = some u → (w.alloc (.cells #[a] ty)).cell? ((⟨w.heap.size, 0, none⟩ : Addr).add j) = some u := by
  intro j u h
  have hb := Fb.new w #[a] ty
  rw [add_of, hb.cell]
  simpa using h
theorem one_strc (x : ByteArray) : ∀ u ∈ [Value.string x], u.oneCell' = true := by intro u hu; simp at hu; subst hu; rfl
/-- A row of strings of the call's own, beside the blocks that it reads. -/
structure Lng (w : World) (A : Option Addr) (n c : Nat) (v : Value) (L : List ByteArray) (wr : World) : Prop where
  fb : Fb wr w.heap.size #[.slice A n c] 49
  own : wr.ownsRow (w.heap.size + 1) 9 1 v L.length (L.map Value.string)
  frame : Below w.heap.size w wr
  small : ∀ x ∈ L, x.size ≤ 100000
theorem Lng.below {w wr w' : World} {A : Option Addr} {n c : Nat} {v : Value} {L : List ByteArray} (h : Lng w A n c v L wr) (hb : Below wr.heap.size wr w') : Lng w A n c v L w' :=
  ⟨h.fb.below hb h.fb.lt, own_below h.own hb, below_step h.frame hb, h.small⟩
theorem Lng.push {w wr w' : World} {A : Option Addr} {n c : Nat} {v : Value} {L : List ByteArray} {x : ByteArray} {g cap : Nat} (h : Lng w A n c v L wr) (o : Obj) (hx : x.size ≤ 100000)
    (hown : w'.ownsRow (w.heap.size + 1) 9 1 (.slice (some ⟨g, 0, none⟩) (L.length + 1) cap) (L.length + 1) (L.map Value.string ++ [.string x])) (hg : (wr.alloc o).grownBy w' v.ownBlock) :
    Lng w A n c (.slice (some ⟨g, 0, none⟩) (L.length + 1) cap) (L ++ [x]) w' := by
  have hz := h.frame.size
  refine ⟨(h.fb.alloc o).grown hg (own_row h.own (by omega)), by rw [List.length_append, List.map_append]; exact hown, ?_, ?_⟩
  · exact (h.frame.alloc hz o).grown hg (by rw [World.size_alloc]; omega) (fun k hk => by have := (h.own.lt k hk).1; omega)
  · intro y hy
    rcases List.mem_append.1 hy with hy | hy
    · exact h.small y hy
    · simp at hy; subst hy; exact hx
theorem fb_ne_own {w : World} {g t base ty size n : Nat} {cs : Array Value} {v : Value} {xs : List Value} (hf : Fb w g cs t) (h : w.ownsRow base ty size v n xs) (ht : t ≠ ty) : some g ≠ v.ownBlock := by
  rcases h.2 with ⟨rfl, _⟩ | ⟨g', cap, cur, rfl, _, hg, _⟩
  · simp [Value.ownBlock]
  · intro e
    simp only [Value.ownBlock, Option.some.injEq] at e
    subst e
    unfold Fb at hf
    rw [hf] at hg
    injection hg with hg
    injection hg with _ hg
    exact ht hg
theorem Lng.fb2 {w wr w' : World} {A : Option Addr} {n c G t : Nat} {cs : Array Value} {v : Value} {L : List ByteArray} (h : Lng w A n c v L wr) (hf : Fb wr G cs t) (ht : t ≠ 9) (o : Obj) (hg : (wr.alloc o).grownBy w' v.ownBlock) : Fb w' G cs t :=
  (hf.alloc o).grown hg (fb_ne_own hf h.own ht)
theorem Lng.word {w wr : World} {A : Option Addr} {n c : Nat} {v : Value} {L : List ByteArray} (h : Lng w A n c v L wr) : ∃ (B : Option Addr) (d : Nat), v = .slice B L.length d ∧ SArg wr B L.length L ∨ 100000 < L.length := by
  obtain ⟨B, d, e⟩ := own_any_slice h.own
  by_cases hl : L.length ≤ 100000
  · exact ⟨B, d, .inl ⟨e, by have := h.own; rw [e] at this; exact own_at this, rfl, hl, h.small⟩⟩
  · exact ⟨B, d, .inr (by omega)⟩
theorem lineP_small {w : World} {ex : List (Option Nat)} {x : SH} (h : SHok w ex x) : (lineP x.t).size ≤ 100000 := by
  have hb : ∀ (l : List ByteArray) (n : Nat), l.length = n → n ≤ 40 → (∀ y ∈ l, y.size ≤ 1000) → (wordsP l).size ≤ 40040 := by
    intro l n hl hn hs
    have h1 := wordsP_size l l.length 1000 (Nat.le_refl _) hs
    rw [List.take_length, hl] at h1
    have : n * (1000 + 1) ≤ 40 * 1001 := Nat.mul_le_mul_right _ hn
    omega
  have hu := hb _ _ h.uses.len h.uses.few h.uses.small
  have ht := hb _ _ h.targets.len h.targets.few h.targets.small
  have hd := h.small
  unfold lineP
  repeat' split
  all_goals (try simp only [ByteArray.size_append])
  · show x.t.d.size + 2 + _ ≤ _; omega
  · show 3 + _ ≤ _; omega
  · show 4 + _ ≤ _; omega
  · show 7 + _ ≤ _; omega
  · show 4 + _ ≤ _; omega
  · show 9 + _ ≤ _; omega
  · show 4 + _ ≤ _; omega
  · show 6 + _ + _ ≤ _; omega
  · show 6 ≤ _; omega
theorem blkL_len {w : World} {ex : List (Option Nat)} (l : List BH) (h : ∀ y ∈ l, BHok w ex y) : (l.flatMap fun y => blkL y.b).length ≤ l.length * 41 := by
  induction l with
  | nil => simp
  | cons y l ih =>
    have h1 := (h y (by simp)).few
    have h2 := (h y (by simp)).len
    have h3 := ih fun z hz => h z (by simp [hz])
    rw [List.flatMap_cons, List.length_append, List.length_cons, Nat.succ_mul]
    have : (blkL y.b).length = y.l.length + 1 := by simp [blkL, BH.b]
    omega
theorem fncL_len {w : World} {ex : List (Option Nat)} (l : List FH) (h : ∀ y ∈ l, FHok w ex y) : (l.flatMap fun y => fncL y.f).length ≤ l.length * 1642 := by
  induction l with
  | nil => simp
  | cons y l ih =>
    have h1 := (h y (by simp)).few
    have h2 := (h y (by simp)).len
    have h3 := ih fun z hz => h z (by simp [hz])
    have h4 := blkL_len y.l (h y (by simp)).all
    rw [List.flatMap_cons, List.length_append, List.length_cons, Nat.succ_mul]
    have : (fncL y.f).length = (y.l.flatMap fun y => blkL y.b).length + 2 := by simp [fncL, FH.f, List.flatMap_map]
    omega
/-- The list of lines came back. -/
def RetL (w : World) (L : List ByteArray) (e : Ending) (w' : World) : Prop :=
  ∃ (A : Option Addr) (c : Nat), e = .returned (.slice A L.length c) ∧ SArg w' A L.length L ∧ Below w.heap.size w w'
/-- .. and its block is new. -/
def RetL2 (w : World) (L : List ByteArray) (e : Ending) (w' : World) : Prop :=
  ∃ (A : Option Addr) (c : Nat), e = .returned (.slice A L.length c) ∧ SArg w' A L.length L ∧ Below w.heap.size w w' ∧ ∀ b, (Value.slice A L.length c).ownBlock = some b → w.heap.size ≤ b

theorem cat_le {a b : ByteArray} {k : Nat} (ha : a.size ≤ 10) (hb : b.size ≤ 1000) : a.size + b.size ≤ 9223372036854775807 ∧ (a ++ b).size ≤ 100000 := by
  rw [ByteArray.size_append]; omega

end Go.Proofs.YtmbelhdkaepohaaGreatDoor
