/- Cells that a slice holds, and that they stay while only new memory is written. -/
import Derived.Test.YtadkjnjibefocaaRows
import Derived.Test.YtadkjnjibefocaaBs
import Derived.WalkKit
import Derived.ProofKit
import Derived.OpenShut
import Derived.Deep.Draws
import Derived.WalkSmall
import Derived.Laws.CopyOwn
import Derived.Laws.MakeOwn
namespace Go.Proofs.Ytadkjnjibefocaa
open Go.ChangeShapes Go.WideShapes Go.ChangeAt Go.RowKit

theorem hid {p : Prop} (h : p) : Hid p := h
theorem ret_int {k : IntKind} {a b : Int} (h : a = b) : Ending.returned (.int k a) = .returned (.int k b) := by rw [h]
theorem ret_bool {a b : Bool} (h : a = b) : Ending.returned (.bool a) = .returned (.bool b) := by rw [h]

theorem add_block (a : Addr) (n : Nat) : (a.add n).block = a.block := by unfold Addr.add; split <;> rfl

/-- From address A on, below block B, the world holds the cells xs. -/
def At (w : World) (B : Nat) (A : Option Addr) (xs : List Value) : Prop :=
  xs = [] ∨ ∃ ad, A = some ad ∧ ad.block < B ∧ ∀ j u, xs[j]? = some u → w.cell? (ad.add j) = some u

section
variable {w w' : World} {B B' : Nat} {A : Option Addr} {xs : List Value}
theorem At.nil : At w B A [] := .inl rfl
theorem At.cell {j : Nat} {u : Value} (h : At w B A xs) (hj : xs[j]? = some u) : ∃ ad, A = some ad ∧ ad.block < B ∧ w.cell? (ad.add j) = some u := by
  rcases h with rfl | ⟨ad, e, hb, hc⟩
  · simp at hj
  · exact ⟨ad, e, hb, hc j u hj⟩
theorem At.keep (h : At w B A xs) (hk : ∀ p : Addr, p.block < B → w'.cell? p = w.cell? p) (hB : B ≤ B') : At w' B' A xs := by
  rcases h with rfl | ⟨ad, e, hb, hc⟩
  · exact .inl rfl
  · exact .inr ⟨ad, e, by omega, fun j u hu => (hk _ (by rw [add_block]; exact hb)).trans (hc j u hu)⟩
theorem At.below (h : At w B A xs) (hb : Below B w w') (hB : B ≤ B') : At w' B' A xs := h.keep (fun _ hp => hb.cell hp) hB
theorem At.more (h : At w B A xs) (hB : B ≤ B') : At w B' A xs := h.keep (fun _ _ => rfl) hB
theorem At.alloc (h : At w B A xs) (hB : B ≤ w.heap.size) (o : Obj) : At (w.alloc o) B A xs :=
  h.keep (fun p hp => World.cell?_alloc_lt w o p (by omega)) (Nat.le_refl _)
end

def u64 (x : Nat) : Value := .int .u64 x
def words (ws : List Nat) : List Value := ws.map u64
theorem words_get {ws : List Nat} {i : Nat} (h : i < ws.length) : (words ws)[i]? = some (.int .u64 (Bs.wd ws i)) := by
  unfold words; rw [List.getElem?_map, List.getElem?_eq_getElem h, Bs.wd_get h]; rfl

/-- Go's test of bit j of a word. -/
theorem test_bit (x j : Nat) (hx : x < Bs.W64) : (bits BinOp.and IntKind.u64 ((x : Int) / 2 ^ j) 1 == 1) = x.testBit j := by
  have hx' : x < 18446744073709551616 := hx
  have e : ((x : Int) / 2 ^ j) = ((x / 2 ^ j : Nat) : Int) := by simp
  have hle : x / 2 ^ j ≤ x := Nat.div_le_self _ _
  rw [e]
  generalize hq : x / 2 ^ j = q at hle
  rw [and_one_u64 _ (by omega) (by omega), ← Bs.testBit_shift, hq]
  have e2 : (q : Int) % 2 = ((q % 2 : Nat) : Int) := by simp
  rw [e2]
  by_cases h : q % 2 = 1
  · rw [h]; rfl
  · have h0 : q % 2 = 0 := by omega
    rw [h0]; rfl
theorem test_bit_of {ws : List Nat} (hok : ∀ x ∈ ws, x < Bs.W64) (k : Nat) :
    (bits BinOp.and IntKind.u64 ((Bs.wd ws (k / 64) : Int) / 2 ^ (k % 64)) 1 == 1) = Bs.bit ws k := test_bit _ _ (Bs.wd_lt hok _)

/-- A set's words, as an argument: where they lie, how many they are, that each has 64 bits. -/
structure Arg (w : World) (A : Option Addr) (n : Nat) (ws : List Nat) : Prop where
  lies : At w w.heap.size A (words ws)
  len : ws.length = n
  ok : ∀ x ∈ ws, x < Bs.W64
theorem Arg.below {w w' : World} {A : Option Addr} {n : Nat} {ws : List Nat} (h : Arg w A n ws) (hb : Below w.heap.size w w') : Arg w' A n ws :=
  ⟨h.lies.below hb hb.size, h.len, h.ok⟩
theorem Arg.alloc {w : World} {A : Option Addr} {n : Nat} {ws : List Nat} (h : Arg w A n ws) (o : Obj) : Arg (w.alloc o) A n ws :=
  h.below ((Below.refl _ _).alloc (Nat.le_refl _) o)
theorem Arg.nil (w : World) (A : Option Addr) : Arg w A 0 [] := ⟨At.nil, rfl, fun _ h => by simp at h⟩

/-- Block g holds just these words. -/
def Row (w : World) (g : Nat) (ws : List Nat) : Prop := w.heap[g]? = some (.cells (words ws).toArray 72 (0, 0))
theorem Row.lt {w : World} {g : Nat} {ws : List Nat} (h : Row w g ws) : g < w.heap.size := by
  rcases Nat.lt_or_ge g w.heap.size with hlt | hge
  · exact hlt
  · unfold Row at h; rw [Array.getElem?_eq_none hge] at h; cases h
theorem add_of (g j : Nat) : (⟨g, 0, none⟩ : Addr).add j = ⟨g, j, none⟩ := by
  unfold Addr.add
  by_cases h : j = 0
  · subst h; rfl
  · simp [h]
theorem Row.cell {w : World} {g : Nat} {ws : List Nat} (h : Row w g ws) (j : Nat) : w.cell? ⟨g, j, none⟩ = (words ws)[j]? := by
  unfold Row at h
  simp [World.cell?, h]
theorem Row.frozen {w : World} {g : Nat} {ws : List Nat} (h : Row w g ws) (j : Nat) : w.frozen? ⟨g, j, none⟩ = false := by
  unfold Row at h
  simp [World.frozen?, h]
theorem Row.arg {w : World} {g : Nat} {ws : List Nat} (h : Row w g ws) (ok : ∀ x ∈ ws, x < Bs.W64) : Arg w (some ⟨g, 0, none⟩) ws.length ws :=
  ⟨.inr ⟨_, rfl, h.lt, fun j u hu => by rw [add_of, h.cell]; exact hu⟩, rfl, ok⟩
theorem Row.below {w w' : World} {B g : Nat} {ws : List Nat} (h : Row w g ws) (hb : Below B w w') (hg : g < B) : Row w' g ws := (hb.block g hg).trans h
theorem Row.alloc {w : World} {g : Nat} {ws : List Nat} (h : Row w g ws) (o : Obj) : Row (w.alloc o) g ws := (Below.heap_alloc w o g h.lt).trans h
theorem Row.far {w : World} {g : Nat} {ws : List Nat} (h : Row w g ws) {p : Addr} (hp : g ≠ p.block) (u : Value) : Row (w.setCell p u) g ws := (Below.heap_setCell w p u g hp).trans h
theorem Row.set {w : World} {g : Nat} {ws : List Nat} (h : Row w g ws) (j x : Nat) : Row (w.setCell ⟨g, j, none⟩ (.int .u64 x)) g (ws.set j x) := by
  unfold Row at h ⊢
  simp [World.setCell, Array.getElem?_modify, h, words, u64]

/-- A set came back whose words lie in a new block of their own. -/
def NewSet (w : World) (W : Int) (ws : List Nat) (e : Ending) (w' : World) : Prop :=
  ∃ g : Nat, e = .returned (.agg #[.int .i64 W, .slice (some ⟨g, 0, none⟩) ws.length ws.length]) ∧ w.heap.size ≤ g ∧ Row w' g ws ∧ Below w.heap.size w w'
/-- A set came back, with these words. -/
def RetSet (w : World) (W : Int) (ws : List Nat) (e : Ending) (w' : World) : Prop :=
  ∃ (A : Option Addr) (n c : Nat), e = .returned (.agg #[.int .i64 W, .slice A n c]) ∧ Arg w' A n ws ∧ Below w.heap.size w w'
theorem NewSet.ret {w w' : World} {W : Int} {ws : List Nat} {e : Ending} (ok : ∀ x ∈ ws, x < Bs.W64) (h : NewSet w W ws e w') : RetSet w W ws e w' := by
  obtain ⟨g, he, _, hr, hb⟩ := h
  exact ⟨_, _, _, he, hr.arg ok, hb⟩

theorem info62 : (Try.prog.info? 72).map (fun i => (i.zero, i.size, i.bytes)) = some (some (.int .u64 0), 1, 8) := by kernel_rfl
theorem zeros_words (n : Nat) : madeCells #[.int .u64 0] n = (words (List.replicate n 0)).toArray := by
  apply Array.toList_inj.1
  rw [toList_madeCells_one]
  simp [words, u64]
theorem bcell {W w1 : World} (hb : Below W.heap.size W w1) : (∀ b o, b < W.heap.size → w1.cell? ⟨b, o, none⟩ = W.cell? ⟨b, o, none⟩) ∧ (∀ b o, b < W.heap.size → w1.frozen? ⟨b, o, none⟩ = W.frozen? ⟨b, o, none⟩) :=
  ⟨fun b o h => hb.cell (p := ⟨b, o, none⟩) h, fun b o h => hb.frozen (p := ⟨b, o, none⟩) h⟩
end Go.Proofs.Ytadkjnjibefocaa
