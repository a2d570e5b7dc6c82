/- The reference's function: the canonical function with the given values. -/
import Derived.Test.YtopkmeceakjocaaTimg
import Derived.Deep.RegionWith
import Derived.Deep.DeepCutAuto
namespace Go.Proofs.Ytopkmeceakjocaa
set_option maxRecDepth 20000
open Go.ChangeShapes Go.WideShapes Go.ChangeAt Go.RowKit

/-- P3.3: the killed bits below k of the canonical function. -/
def killTo (zero : List Nat) (one : Nat → List Nat) (W k : Nat) : List Nat := Bs.ofP W (fun i => decide (i < k) && (!Bs.bit (one i) i || Bs.bit zero i)) W
def copyB (zero : List Nat) (one : Nat → List Nat) (a b : Nat) : Bool := decide (a ≠ b) && Bs.bit (one a) b && !Bs.bit zero b
/-- The copies from a to bits below b. -/
def copsRow (zero : List Nat) (one : Nat → List Nat) (a : Nat) : Nat → List (Int × Int)
  | 0 => []
  | b + 1 => if copyB zero one a b then copsRow zero one a b ++ [((a : Int), (b : Int))] else copsRow zero one a b
/-- The copies from bits below a. -/
def copsTo (zero : List Nat) (one : Nat → List Nat) (W : Nat) : Nat → List (Int × Int)
  | 0 => []
  | a + 1 => copsTo zero one W a ++ copsRow zero one a W
theorem fit_killTo (zero : List Nat) (one : Nat → List Nat) (W k : Nat) : Bs.Fit W (killTo zero one W k) := Bs.fit_ofP _ _ _ (Nat.le_refl _)
theorem killTo_zero (zero : List Nat) (one : Nat → List Nat) (W : Nat) : killTo zero one W 0 = Bs.emp W := by
  unfold killTo
  exact (Bs.ofP_congr fun i _ => by simp).trans (Bs.ofP_false W W)
theorem killTo_yes {zero : List Nat} {one : Nat → List Nat} {W k : Nat} (h : (!Bs.bit (one k) k || Bs.bit zero k) = true) (hk : k < W) : Bs.put (killTo zero one W k) k = killTo zero one W (k + 1) := by
  unfold killTo
  rw [Bs.put_ofP _ hk]
  refine Bs.ofP_congr fun i _ => ?_
  by_cases e : i = k
  · subst e
    simp only [h, Nat.lt_irrefl, decide_false, decide_true, Bool.or_true, Bool.and_true, Nat.lt_succ_self]
  · have : (i < k + 1) = (i < k) := by apply propext; omega
    simp [e, this]
theorem killTo_no {zero : List Nat} {one : Nat → List Nat} {W k : Nat} (h : (!Bs.bit (one k) k || Bs.bit zero k) = false) : killTo zero one W (k + 1) = killTo zero one W k := by
  unfold killTo
  refine Bs.ofP_congr fun i _ => ?_
  by_cases e : i = k
  · subst e; rw [h]; simp
  · have : (i < k + 1) = (i < k) := by apply propext; omega
    simp [this]
theorem copsRow_len (zero : List Nat) (one : Nat → List Nat) (a b : Nat) : (copsRow zero one a b).length ≤ b := by
  induction b with
  | zero => simp [copsRow]
  | succ b ih =>
    unfold copsRow; split
    · rw [List.length_append]; simp; omega
    · omega
theorem copsTo_len (zero : List Nat) (one : Nat → List Nat) (W a : Nat) : (copsTo zero one W a).length ≤ a * W := by
  induction a with
  | zero => simp [copsTo]
  | succ a ih =>
    unfold copsTo
    rw [List.length_append, Nat.succ_mul]
    have := copsRow_len zero one a W
    omega

theorem copsRow_no {zero : List Nat} {one : Nat → List Nat} {a b : Nat} (h : copyB zero one a b = false) : copsRow zero one a (b + 1) = copsRow zero one a b := by
  show (if copyB zero one a b then _ else _) = _
  rw [h]; rfl
theorem copsRow_yes {zero : List Nat} {one : Nat → List Nat} {a b : Nat} (h : copyB zero one a b = true) : copsRow zero one a (b + 1) = copsRow zero one a b ++ [((a : Int), (b : Int))] := by
  show (if copyB zero one a b then _ else _) = _
  rw [h]; rfl
theorem cops_bound (zero : List Nat) (one : Nat → List Nat) {W a b : Nat} (hW : W ≤ 256) (ha : a ≤ 256) (hb : b ≤ 256) : (copsTo zero one W a ++ copsRow zero one a b).length ≤ 70000 := by
  have h1 := copsTo_len zero one W a
  have h2 := copsRow_len zero one a b
  have h3 : a * W ≤ 256 * 256 := Nat.mul_le_mul ha hW
  rw [List.length_append]; omega

/-- A row of its own that holds copies. -/
def Cops (w : World) (base : Nat) (v : Value) (cs : List (Int × Int)) : Prop := w.ownsRow base 89 2 v cs.length (pairs cs)
theorem pairs_snoc (cs : List (Int × Int)) (a b : Int) : pairs (cs ++ [(a, b)]) = pairs cs ++ [.int .i64 a, .int .i64 b] := by simp [pairs]
theorem info35 : (Try.prog.info? 89).map (fun i => (i.zero, i.size, i.bytes)) = some (some (.agg #[.int .i64 0, .int .i64 0]), 2, 16) := by kernel_rfl

section
variable {w wr w' : World} {W : Nat} {Z A : Option Addr} {n c d T : Nat} {kill kill' : List Nat} {cs : List (Int × Int)}
end

/-- A function and a Bool came back. -/
def RetFun (w : World) (W : Int) (Z : Option Addr) (n c : Nat) (kill : List Nat) (cs : List (Int × Int)) (ok : Bool) (e : Ending) (w' : World) : Prop :=
  ∃ (B : Option Addr) (m d : Nat) (C : Option Addr) (q : Nat), e = .returned (.tuple #[.agg #[.int .i64 W, .slice Z n c, .int .i64 W, .slice B m d, .slice C cs.length q], .bool ok]) ∧ Arg w' B m kill ∧ ArgC w' C cs.length cs ∧ Below w.heap.size w w'

theorem fun_done {w wr : World} {W : Nat} {Z : Option Addr} {n c T gk mk ek : Nat} {kill : List Nat} {cs : List (Int × Int)} {Ck : Option Addr} {qk : Nat} (hk : Bs.Fit W kill)
    (b2 : Row wr gk kill) (b3 : mk = Bs.nw W) (b4 : Cops wr (T + 1) (.slice Ck cs.length qk) cs) (b5 : w.heap.size + 1 < T)
    (b7 : Fb wr (w.heap.size + 1) #[.int .i64 0, .slice none 0 0, .int .i64 0, .slice none 0 0, .slice none 0 0] 61) (b8 : Below w.heap.size w wr) :
    Arg (((((wr.setCell ⟨w.heap.size + 1, 0, none⟩ (.int .i64 W)).setCell ⟨w.heap.size + 1, 1, none⟩ (.slice Z n c)).setCell ⟨w.heap.size + 1, 2, none⟩ (.int .i64 W)).setCell ⟨w.heap.size + 1, 3, none⟩ (.slice (some ⟨gk, 0, none⟩) mk ek)).setCell ⟨w.heap.size + 1, 4, none⟩ (.slice Ck cs.length qk)) (some ⟨gk, 0, none⟩) mk kill ∧
    ArgC (((((wr.setCell ⟨w.heap.size + 1, 0, none⟩ (.int .i64 W)).setCell ⟨w.heap.size + 1, 1, none⟩ (.slice Z n c)).setCell ⟨w.heap.size + 1, 2, none⟩ (.int .i64 W)).setCell ⟨w.heap.size + 1, 3, none⟩ (.slice (some ⟨gk, 0, none⟩) mk ek)).setCell ⟨w.heap.size + 1, 4, none⟩ (.slice Ck cs.length qk)) Ck cs.length cs ∧
    Below w.heap.size w (((((wr.setCell ⟨w.heap.size + 1, 0, none⟩ (.int .i64 W)).setCell ⟨w.heap.size + 1, 1, none⟩ (.slice Z n c)).setCell ⟨w.heap.size + 1, 2, none⟩ (.int .i64 W)).setCell ⟨w.heap.size + 1, 3, none⟩ (.slice (some ⟨gk, 0, none⟩) mk ek)).setCell ⟨w.heap.size + 1, 4, none⟩ (.slice Ck cs.length qk)) := by
  have hne := b7.row_ne (by decide) b2
  have r : ∀ {wx : World} (j : Nat) (u : Value), Row wx gk kill → Row (wx.setCell ⟨w.heap.size + 1, j, none⟩ u) gk kill := fun j u h => h.far hne u
  have k : ∀ {wx : World} (j : Nat) (u : Value), Below w.heap.size w wx → Below w.heap.size w (wx.setCell ⟨w.heap.size + 1, j, none⟩ u) := fun j u h => h.setCell (by simp) u
  have key : ∀ {wx : World} (j : Nat) (u : Value), Cops wx (T + 1) (.slice Ck cs.length qk) cs → Cops (wx.setCell ⟨w.heap.size + 1, j, none⟩ u) (T + 1) (.slice Ck cs.length qk) cs := fun {wx} j u hx =>
    World.ownsRow.kept hx (setCell_grown wx _ u) (by
      cases hv : (Value.slice Ck cs.length qk).ownBlock with
      | none => exact .inl rfl
      | some k => exact .inr (by have := own_base hx k hv; simp only [ne_eq, Option.some.injEq]; omega))
  have e1 := r 4 (.slice Ck cs.length qk) (r 3 (.slice (some ⟨gk, 0, none⟩) mk ek) (r 2 (.int .i64 W) (r 1 (.slice Z n c) (r 0 (.int .i64 W) b2))))
  have e2 := key 4 (.slice Ck cs.length qk) (key 3 (.slice (some ⟨gk, 0, none⟩) mk ek) (key 2 (.int .i64 W) (key 1 (.slice Z n c) (key 0 (.int .i64 W) b4))))
  exact ⟨⟨(e1.arg hk.ok).lies, by rw [b3]; exact hk.len, hk.ok⟩, ⟨own_at e2, rfl⟩, k _ _ (k _ _ (k _ _ (k _ _ (k _ _ b8))))⟩

end Go.Proofs.Ytopkmeceakjocaa
