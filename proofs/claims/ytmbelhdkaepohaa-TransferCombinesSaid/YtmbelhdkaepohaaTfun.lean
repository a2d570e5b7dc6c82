/- The reference's function: the canonical function with the given values. -/
import Derived.Test.YtmbelhdkaepohaaTimg
import Derived.Deep.RegionWith
import Derived.Deep.DeepCutAuto
namespace Go.Proofs.Ytmbelhdkaepohaa
set_option maxRecDepth 20000
open Go.ChangeShapes Go.WideShapes Go.ChangeAt Go.RowKit

/-- P3.3: the killed bits below k of the canonical function. -/
def killTo (zero : List Nat) (one : Nat → List Nat) (W k : Nat) : List Nat := Bs.ofP W (fun i => decide (i < k) && (!Bs.bit (one i) i || Bs.bit zero i)) W
def copyB (zero : List Nat) (one : Nat → List Nat) (a b : Nat) : Bool := decide (a ≠ b) && Bs.bit (one a) b && !Bs.bit zero b
/-- The copies from a to bits below b. -/
def copsRow (zero : List Nat) (one : Nat → List Nat) (a : Nat) : Nat → List (Int × Int)
  | 0 => []
  | b + 1 => if copyB zero one a b then copsRow zero one a b ++ [((a : Int), (b : Int))] else copsRow zero one a b
/-- The copies from bits below a. -/
def copsTo (zero : List Nat) (one : Nat → List Nat) (W : Nat) : Nat → List (Int × Int)
  | 0 => []
  | a + 1 => copsTo zero one W a ++ copsRow zero one a W
theorem fit_killTo (zero : List Nat) (one : Nat → List Nat) (W k : Nat) : Bs.Fit W (killTo zero one W k) := Bs.fit_ofP _ _ _ (Nat.le_refl _)
theorem killTo_zero (zero : List Nat) (one : Nat → List Nat) (W : Nat) : killTo zero one W 0 = Bs.emp W := by
  unfold killTo
  exact (Bs.ofP_congr fun i _ => by simp).trans (Bs.ofP_false W W)
theorem killTo_yes {zero : List Nat} {one : Nat → List Nat} {W k : Nat} (h : (!Bs.bit (one k) k || Bs.bit zero k) = true) (hk : k < W) : Bs.put (killTo zero one W k) k = killTo zero one W (k + 1) := by
  unfold killTo
  rw [Bs.put_ofP _ hk]
  refine Bs.ofP_congr fun i _ => ?_
  by_cases e : i = k
  · subst e
    simp only [h, Nat.lt_irrefl, decide_false, decide_true, Bool.or_true, Bool.and_true, Nat.lt_succ_self]
  · have : (i < k + 1) = (i < k) := by apply propext; omega
    simp [e, this]
theorem killTo_no {zero : List Nat} {one : Nat → List Nat} {W k : Nat} (h : (!Bs.bit (one k) k || Bs.bit zero k) = false) : killTo zero one W (k + 1) = killTo zero one W k := by
  unfold killTo
  refine Bs.ofP_congr fun i _ => ?_
  by_cases e : i = k
  · subst e; rw [h]; simp
  · have : (i < k + 1) = (i < k) := by apply propext; omega
    simp [this]
theorem copsRow_len (zero : List Nat) (one : Nat → List Nat) (a b : Nat) : (copsRow zero one a b).length ≤ b := by
  induction b with
  | zero => simp [copsRow]
  | succ b ih =>
    unfold copsRow; split
    · rw [List.length_append]; simp; omega
    · omega
theorem copsTo_len (zero : List Nat) (one : Nat → List Nat) (W a : Nat) : (copsTo zero one W a).length ≤ a * W := by
  induction a with
  | zero => simp [copsTo]
  | succ a ih =>
    unfold copsTo
    rw [List.length_append, Nat.succ_mul]
    have := copsRow_len zero one a W
    omega

theorem copsRow_no {zero : List Nat} {one : Nat → List Nat} {a b : Nat} (h : copyB zero one a b = false) : copsRow zero one a (b + 1) = copsRow zero one a b := by
  show (if copyB zero one a b then _ else _) = _
  rw [h]; rfl
theorem copsRow_yes {zero : List Nat} {one : Nat → List Nat} {a b : Nat} (h : copyB zero one a b = true) : copsRow zero one a (b + 1) = copsRow zero one a b ++ [((a : Int), (b : Int))] := by
  show (if copyB zero one a b then _ else _) = _
  rw [h]; rfl
theorem cops_bound (zero : List Nat) (one : Nat → List Nat) {W a b : Nat} (hW : W ≤ 256) (ha : a ≤ 256) (hb : b ≤ 256) : (copsTo zero one W a ++ copsRow zero one a b).length ≤ 70000 := by
  have h1 := copsTo_len zero one W a
  have h2 := copsRow_len zero one a b
  have h3 : a * W ≤ 256 * 256 := Nat.mul_le_mul ha hW
  rw [List.length_append]; omega

/-- A row of its own that holds copies. -/
def Cops (w : World) (base : Nat) (v : Value) (cs : List (Int × Int)) : Prop := w.ownsRow base 48 2 v cs.length (pairs cs)
theorem pairs_snoc (cs : List (Int × Int)) (a b : Int) : pairs (cs ++ [(a, b)]) = pairs cs ++ [.int .i64 a, .int .i64 b] := by simp [pairs]
theorem info35 : (Try.prog.info? 48).map (fun i => (i.zero, i.size, i.bytes)) = some (some (.agg #[.int .i64 0, .int .i64 0]), 2, 16) := by kernel_rfl

/-- While the canonical function is made: the variable t lies in block T. -/
def Funing (w : World) (W : Nat) (Z A : Option Addr) (n c d T : Nat) (kill : List Nat) (cs : List (Int × Int)) (wr : World) : Prop :=
  ∃ (g m e : Nat) (C : Option Addr) (q : Nat), Fb wr T #[.int .i64 W, .slice Z n c, .int .i64 W, .slice (some ⟨g, 0, none⟩) m e, .slice C cs.length q] 28 ∧ Row wr g kill ∧ m = Bs.nw W ∧
    Cops wr (T + 1) (.slice C cs.length q) cs ∧ w.heap.size + 1 < T ∧
    Fb wr w.heap.size #[.int .i64 W, .slice Z n c, .slice A W d] 53 ∧ Fb wr (w.heap.size + 1) #[.int .i64 0, .slice none 0 0, .int .i64 0, .slice none 0 0, .slice none 0 0] 28 ∧ Below w.heap.size w wr
section
variable {w wr w' : World} {W : Nat} {Z A : Option Addr} {n c d T : Nat} {kill kill' : List Nat} {cs : List (Int × Int)}
theorem Funing.below (h : Funing w W Z A n c d T kill cs wr) (hb : Below wr.heap.size wr w') : Funing w W Z A n c d T kill cs w' := by
  obtain ⟨g, m, e, C, q, h1, h2, h3, h4, h5, h6, h7, h8⟩ := h
  exact ⟨g, m, e, C, q, h1.below hb h1.lt, h2.below hb h2.lt, h3, own_below h4 hb, h5, h6.below hb h6.lt, h7.below hb h7.lt, h8.trans (hb.mono h8.size)⟩
theorem Funing.frame (h : Funing w W Z A n c d T kill cs wr) : Below w.heap.size w wr := by
  obtain ⟨g, m, e, C, q, h1, h2, h3, h4, h5, h6, h7, h8⟩ := h; exact h8
/-- The killed bits are stored. -/
theorem Funing.killed {g' m' : Nat} (e' : Nat) (h : Funing w W Z A n c d T kill cs wr) (hb : Below wr.heap.size wr w') (hr : Row w' g' kill') (hm : m' = Bs.nw W) :
    (∃ (g m e : Nat), w'.cell? ⟨T, 2, none⟩ = some (.int .i64 W) ∧ w'.cell? ⟨T, 3, none⟩ = some (.slice (some ⟨g, 0, none⟩) m e) ∧ w'.frozen? ⟨T, 2, none⟩ = false ∧ w'.frozen? ⟨T, 3, none⟩ = false) ∧
    Funing w W Z A n c d T kill' cs ((w'.setCell ⟨T, 2, none⟩ (.int .i64 W)).setCell ⟨T, 3, none⟩ (.slice (some ⟨g', 0, none⟩) m' e')) := by
  obtain ⟨g, m, e, C, q, h1, h2, h3, h4, h5, h6, h7, h8⟩ := h.below hb
  refine ⟨⟨g, m, e, h1.cell 2, h1.cell 3, h1.frozen 2, h1.frozen 3⟩, g', m', e', C, q, (h1.set 2 _).set 3 _, (hr.far (h1.row_ne (by decide) hr) _).far (h1.row_ne (by decide) hr) _, hm, ?_, h5, (h6.far (by simp; omega) _).far (by simp; omega) _, (h7.far (by simp; omega) _).far (by simp; omega) _, (h8.setCell (by simp; omega) _).setCell (by simp; omega) _⟩
  have hk : ∀ k, (Value.slice C cs.length q).ownBlock = some k → T + 1 ≤ k := own_base h4
  have key : ∀ (wx : World) (p : Addr) (u : Value), p.block = T → Cops wx (T + 1) (.slice C cs.length q) cs → Cops (wx.setCell p u) (T + 1) (.slice C cs.length q) cs := fun wx p u hp hx =>
    World.ownsRow.kept hx (setCell_grown wx p u) (by
      cases hv : (Value.slice C cs.length q).ownBlock with
      | none => exact .inl rfl
      | some k => exact .inr (by have := hk k hv; simp only [ne_eq, Option.some.injEq]; omega))
  exact key _ _ _ rfl (key _ _ _ rfl h4)
/-- A copy is appended. -/
theorem Funing.push {a b : Int} {v' : Value} {C : Option Addr} {q g m e : Nat} (o : Obj)
    (h1 : Fb wr T #[.int .i64 W, .slice Z n c, .int .i64 W, .slice (some ⟨g, 0, none⟩) m e, .slice C cs.length q] 28) (h2 : Row wr g kill) (h3 : m = Bs.nw W) (h4 : Cops wr (T + 1) (.slice C cs.length q) cs) (h5 : w.heap.size + 1 < T)
    (h6 : Fb wr w.heap.size #[.int .i64 W, .slice Z n c, .slice A W d] 53) (h7 : Fb wr (w.heap.size + 1) #[.int .i64 0, .slice none 0 0, .int .i64 0, .slice none 0 0, .slice none 0 0] 28) (h8 : Below w.heap.size w wr)
    (ho : w'.ownsRow (T + 1) 48 2 v' (cs.length + 1) (pairs cs ++ [.int .i64 a, .int .i64 b])) (hg : (wr.alloc o).grownBy w' (Value.slice C cs.length q).ownBlock) :
    ∃ (C' : Option Addr) (q' : Nat), v' = .slice C' (cs.length + 1) q' ∧ (w'.cell? ⟨T, 4, none⟩ = some (.slice C cs.length q) ∧ w'.frozen? ⟨T, 4, none⟩ = false) ∧
      Funing w W Z A n c d T kill (cs ++ [(a, b)]) (w'.setCell ⟨T, 4, none⟩ (.slice C' (cs.length + 1) q')) := by
  obtain ⟨C', q', rfl⟩ : ∃ (C' : Option Addr) (q' : Nat), v' = .slice C' (cs.length + 1) q' := by
    rcases ho.2 with ⟨_, h0⟩ | ⟨g, cap, cur, rfl, _⟩
    · omega
    · exact ⟨_, cap, rfl⟩
  have e1 := (h1.alloc o).grown hg (own_row h4 (by omega))
  have e2 : Row w' g kill := (hg.block g (h2.alloc o).lt (own_not_row (by decide) (h4.alloc o) (h2.alloc o))).trans (h2.alloc o)
  have e6 := (h6.alloc o).grown hg (own_row h4 (by omega))
  have e7 := (h7.alloc o).grown hg (own_row h4 (by omega))
  have hz := h8.size
  have e8 : Below w.heap.size w w' := (h8.alloc hz o).grown hg (by simp only [World.size_alloc]; omega) (fun k hk => by have := own_base h4 k hk; omega)
  refine ⟨C', q', rfl, ⟨e1.cell 4, e1.frozen 4⟩, g, m, e, C', q', ?_, e2.far (e1.row_ne (by decide) e2) _, h3, ?_, h5, e6.far (by simp; omega) _, e7.far (by simp; omega) _, e8.setCell (by simp; omega) _⟩
  · have := e1.set 4 (.slice C' (cs.length + 1) q')
    simpa using this
  · unfold Cops
    rw [pairs_snoc, List.length_append]
    have hk := own_base ho
    exact World.ownsRow.kept ho (setCell_grown w' _ _) (by
      cases hv : (Value.slice C' (cs.length + 1) q').ownBlock with
      | none => exact .inl rfl
      | some k => exact .inr (by have := hk k hv; simp only [ne_eq, Option.some.injEq]; omega))
end

theorem Funing.new1 {w w5 : World} {W : Nat} {Z A : Option Addr} {n c d g5 : Nat} (zs : List Nat) (one : Nat → List Nat) (p1 : Fb w5 w.heap.size #[.int .i64 W, .slice Z n c, .slice A W d] 53)
    (p2 : Fb w5 (w.heap.size + 1) #[.int .i64 0, .slice none 0 0, .int .i64 0, .slice none 0 0, .slice none 0 0] 28) (hlt : w.heap.size + 1 < w5.heap.size) (hr : Row w5 g5 (Bs.emp W)) (hb : Below w.heap.size w w5) :
    Funing w W Z A n c d w5.heap.size (killTo zs one W 0) [] (w5.alloc (.cells #[.int .i64 W, .slice Z n c, .int .i64 W, .slice (some ⟨g5, 0, none⟩) (Bs.nw W) (Bs.nw W), .slice none 0 0] 28)) := by
  rw [killTo_zero]
  exact ⟨g5, _, _, none, 0, Fb.new _ _ _, hr.alloc _, rfl, World.ownsRow_nil _ _ _ _, hlt, p1.alloc _, p2.alloc _, hb.alloc (by omega) _⟩
theorem Funing.new2 {w w5 : World} {W : Nat} {Z A : Option Addr} {n c d g5 : Nat} (zs : List Nat) (one : Nat → List Nat) (p1 : Fb w5 w.heap.size #[.int .i64 W, .slice Z n c, .slice A W d] 53)
    (p2 : Fb w5 (w.heap.size + 1) #[.int .i64 0, .slice none 0 0, .int .i64 0, .slice none 0 0, .slice none 0 0] 28) (p3 : Fb w5 (w.heap.size + 1 + 1) #[.int .i64 0, .slice none 0 0, .int .i64 0, .slice none 0 0, .slice none 0 0] 28)
    (hr : Row w5 g5 (Bs.emp W)) (hb : Below w.heap.size w w5) :
    Funing w W Z A n c d (w.heap.size + 1 + 1) (killTo zs one W 0) [] (((((w5.setCell ⟨w.heap.size + 1 + 1, 0, none⟩ (.int .i64 W)).setCell ⟨w.heap.size + 1 + 1, 1, none⟩ (.slice Z n c)).setCell ⟨w.heap.size + 1 + 1, 2, none⟩ (.int .i64 W)).setCell ⟨w.heap.size + 1 + 1, 3, none⟩ (.slice (some ⟨g5, 0, none⟩) (Bs.nw W) (Bs.nw W))).setCell ⟨w.heap.size + 1 + 1, 4, none⟩ (.slice none 0 0)) := by
  rw [killTo_zero]
  have hne := p3.row_ne (by decide) hr
  have f : ∀ {wx : World} {g : Nat} {cs : Array Value} {t : Nat} (j : Nat) (u : Value), g ≠ w.heap.size + 1 + 1 → Fb wx g cs t → Fb (wx.setCell ⟨w.heap.size + 1 + 1, j, none⟩ u) g cs t := fun j u hg h => h.far hg u
  have r : ∀ {wx : World} (j : Nat) (u : Value), Row wx g5 (Bs.emp W) → Row (wx.setCell ⟨w.heap.size + 1 + 1, j, none⟩ u) g5 (Bs.emp W) := fun j u h => h.far hne u
  have k : ∀ {wx : World} (j : Nat) (u : Value), Below w.heap.size w wx → Below w.heap.size w (wx.setCell ⟨w.heap.size + 1 + 1, j, none⟩ u) := fun j u h => h.setCell (by simp; omega) u
  exact ⟨g5, _, _, none, 0, ((((p3.set 0 _).set 1 _).set 2 _).set 3 _).set 4 _, r _ _ (r _ _ (r _ _ (r _ _ (r _ _ hr)))), rfl, World.ownsRow_nil _ _ _ _, by omega,
    f _ _ (by omega) (f _ _ (by omega) (f _ _ (by omega) (f _ _ (by omega) (f _ _ (by omega) p1)))), f _ _ (by omega) (f _ _ (by omega) (f _ _ (by omega) (f _ _ (by omega) (f _ _ (by omega) p2)))), k _ _ (k _ _ (k _ _ (k _ _ (k _ _ hb))))⟩
theorem Funing.table {w wr : World} {W : Nat} {Z A : Option Addr} {n c d T : Nat} {kill : List Nat} {cs : List (Int × Int)} (h : Funing w W Z A n c d T kill cs wr) : Fb wr w.heap.size #[.int .i64 W, .slice Z n c, .slice A W d] 53 := by
  obtain ⟨g, m, e, C, q, h1, h2, h3, h4, h5, h6, h7, h8⟩ := h; exact h6

/-- A function and a Bool came back. -/
def RetFun (w : World) (W : Int) (Z : Option Addr) (n c : Nat) (kill : List Nat) (cs : List (Int × Int)) (ok : Bool) (e : Ending) (w' : World) : Prop :=
  ∃ (B : Option Addr) (m d : Nat) (C : Option Addr) (q : Nat), e = .returned (.tuple #[.agg #[.int .i64 W, .slice Z n c, .int .i64 W, .slice B m d, .slice C cs.length q], .bool ok]) ∧ Arg w' B m kill ∧ ArgC w' C cs.length cs ∧ Below w.heap.size w w'

theorem fun_done {w wr : World} {W : Nat} {Z : Option Addr} {n c T gk mk ek : Nat} {kill : List Nat} {cs : List (Int × Int)} {Ck : Option Addr} {qk : Nat} (hk : Bs.Fit W kill)
    (b2 : Row wr gk kill) (b3 : mk = Bs.nw W) (b4 : Cops wr (T + 1) (.slice Ck cs.length qk) cs) (b5 : w.heap.size + 1 < T)
    (b7 : Fb wr (w.heap.size + 1) #[.int .i64 0, .slice none 0 0, .int .i64 0, .slice none 0 0, .slice none 0 0] 28) (b8 : Below w.heap.size w wr) :
    Arg (((((wr.setCell ⟨w.heap.size + 1, 0, none⟩ (.int .i64 W)).setCell ⟨w.heap.size + 1, 1, none⟩ (.slice Z n c)).setCell ⟨w.heap.size + 1, 2, none⟩ (.int .i64 W)).setCell ⟨w.heap.size + 1, 3, none⟩ (.slice (some ⟨gk, 0, none⟩) mk ek)).setCell ⟨w.heap.size + 1, 4, none⟩ (.slice Ck cs.length qk)) (some ⟨gk, 0, none⟩) mk kill ∧
    ArgC (((((wr.setCell ⟨w.heap.size + 1, 0, none⟩ (.int .i64 W)).setCell ⟨w.heap.size + 1, 1, none⟩ (.slice Z n c)).setCell ⟨w.heap.size + 1, 2, none⟩ (.int .i64 W)).setCell ⟨w.heap.size + 1, 3, none⟩ (.slice (some ⟨gk, 0, none⟩) mk ek)).setCell ⟨w.heap.size + 1, 4, none⟩ (.slice Ck cs.length qk)) Ck cs.length cs ∧
    Below w.heap.size w (((((wr.setCell ⟨w.heap.size + 1, 0, none⟩ (.int .i64 W)).setCell ⟨w.heap.size + 1, 1, none⟩ (.slice Z n c)).setCell ⟨w.heap.size + 1, 2, none⟩ (.int .i64 W)).setCell ⟨w.heap.size + 1, 3, none⟩ (.slice (some ⟨gk, 0, none⟩) mk ek)).setCell ⟨w.heap.size + 1, 4, none⟩ (.slice Ck cs.length qk)) := by
  have hne := b7.row_ne (by decide) b2
  have r : ∀ {wx : World} (j : Nat) (u : Value), Row wx gk kill → Row (wx.setCell ⟨w.heap.size + 1, j, none⟩ u) gk kill := fun j u h => h.far hne u
  have k : ∀ {wx : World} (j : Nat) (u : Value), Below w.heap.size w wx → Below w.heap.size w (wx.setCell ⟨w.heap.size + 1, j, none⟩ u) := fun j u h => h.setCell (by simp) u
  have key : ∀ {wx : World} (j : Nat) (u : Value), Cops wx (T + 1) (.slice Ck cs.length qk) cs → Cops (wx.setCell ⟨w.heap.size + 1, j, none⟩ u) (T + 1) (.slice Ck cs.length qk) cs := fun {wx} j u hx =>
    World.ownsRow.kept hx (setCell_grown wx _ u) (by
      cases hv : (Value.slice Ck cs.length qk).ownBlock with
      | none => exact .inl rfl
      | some k => exact .inr (by have := own_base hx k hv; simp only [ne_eq, Option.some.injEq]; omega))
  have e1 := r 4 (.slice Ck cs.length qk) (r 3 (.slice (some ⟨gk, 0, none⟩) mk ek) (r 2 (.int .i64 W) (r 1 (.slice Z n c) (r 0 (.int .i64 W) b2))))
  have e2 := key 4 (.slice Ck cs.length qk) (key 3 (.slice (some ⟨gk, 0, none⟩) mk ek) (key 2 (.int .i64 W) (key 1 (.slice Z n c) (key 0 (.int .i64 W) b4))))
  exact ⟨⟨(e1.arg hk.ok).lies, by rw [b3]; exact hk.len, hk.ok⟩, ⟨own_at e2, rfl⟩, k _ _ (k _ _ (k _ _ (k _ _ (k _ _ b8))))⟩

set_option maxHeartbeats 1600000 in
theorem refFunction_any (W : Nat) (Z A : Option Addr) (n c d : Nat) (zs : List Nat) (one : Nat → List Nat) (w : World)
    (hZ : Arg w Z n zs) (hO : ArgO w W A W one) (hW : W ≤ 256) (hz : Bs.Fit W zs) (ho : ∀ i, i < W → Bs.Fit W (one i)) :
    Calls Try.prog 20 #[.agg #[.int .i64 W, .slice Z n c, .slice A W d]] w
      (RetFun w W Z n c (killTo zs one W W) (copsTo zs one W W) (decide ((copsTo zs one W W).length ≤ 64))) := by
  obtain ⟨i0, hi, hz0, hz1, hz2⟩ := info_parts info35
  have Hi := hid hi; have Hz0 := hid hz0; have Hz1 := hid hz1; have Hz2 := hid hz2
  have HZ := hid hZ; have HO := hid hO; have Hz := hid hz; have Ho := hid ho
  have hF1 := (Fb.new w #[.int .i64 W, .slice Z n c, .slice A W d] 53).alloc (.cells #[.int .i64 0, .slice none 0 0, .int .i64 0, .slice none 0 0, .slice none 0 0] 28)
  have hF2 := Fb.new (w.alloc (.cells #[.int .i64 W, .slice Z n c, .slice A W d] 53)) #[.int .i64 0, .slice none 0 0, .int .i64 0, .slice none 0 0, .slice none 0 0] 28
  have hBl := ((Below.refl w.heap.size w).alloc (Nat.le_refl _) (.cells #[.int .i64 W, .slice Z n c, .slice A W d] 53)).alloc (by simp) (.cells #[.int .i64 0, .slice none 0 0, .int .i64 0, .slice none 0 0, .slice none 0 0] 28)
  rw [World.size_alloc] at hF2
  have HF1 := hid hF1; have HF2 := hid hF2; have HBl := hid hBl
  clear hi hz0 hz1 hz2 hZ hO hz ho hF1 hF2 hBl
  go_enter Try.func20, Try.ntmps20
  go_upto_region 2 with fail
  go_cut [5] (fun s5 wc => ∃ T : Nat, s5 = .pointer (some ⟨T, 0, none⟩) ∧ Hid (Funing w W Z A n c d T (killTo zs one W 0) [] wc))
  case first =>
    go_region_with (first
      | (go_at_call 17
         refine (refEmpty_any W _ (by omega)).mono ?_
         rintro e w5 ⟨g5, rfl, hg5, hr5, hb5⟩
         rw [len_emp]
         have p1 : Fb w5 w.heap.size #[.int .i64 W, .slice Z n c, .slice A W d] 53 := ((HF1.out.drewN 1).alloc _).below hb5 ((HF1.out.drewN 1).alloc _).lt
         have p2 : Fb w5 (w.heap.size + 1) #[.int .i64 0, .slice none 0 0, .int .i64 0, .slice none 0 0, .slice none 0 0] 28 := ((HF2.out.drewN 1).alloc _).below hb5 ((HF2.out.drewN 1).alloc _).lt
         have p3 : Fb w5 (w.heap.size + 1 + 1) #[.int .i64 0, .slice none 0 0, .int .i64 0, .slice none 0 0, .slice none 0 0] 28 := (by
           have := Fb.new (((w.alloc (.cells #[.int .i64 W, .slice Z n c, .slice A W d] 53)).alloc (.cells #[.int .i64 0, .slice none 0 0, .int .i64 0, .slice none 0 0, .slice none 0 0] 28)).drew) #[.int .i64 0, .slice none 0 0, .int .i64 0, .slice none 0 0, .slice none 0 0] 28
           have q := this.below hb5 this.lt
           simpa [World.drew] using q)
         have hlt1 := p1.lt
         have hlt2 := p2.lt
         have hlt3 := p3.lt
         obtain ⟨y0, y1, y2⟩ := p1.three
         obtain ⟨v0, v1, v2, v3, v4⟩ := p3.five
         have fr0 := p3.frozen 0
         have fr1 := p3.frozen 1
         have fr2 := p3.frozen 2
         have fr3 := p3.frozen 3
         have fr4 := p3.frozen 4
         have Hr5 := hid hr5
         have Hb5 := hid (((below_drewN HBl.out 1).alloc (below_drewN HBl.out 1).size _).trans (hb5.mono ((below_drewN HBl.out 1).alloc (below_drewN HBl.out 1).size _).size))
         have P1 := hid p1
         have P2 := hid p2
         have P3 := hid p3
         clear hr5 hb5 p1 p2 p3)
      | (go_at_call 17
         refine (refEmpty_any W _ (by omega)).mono ?_
         rintro e w5 ⟨g5, rfl, hg5, hr5, hb5⟩
         rw [len_emp]
         have p1 : Fb w5 w.heap.size #[.int .i64 W, .slice Z n c, .slice A W d] 53 := (HF1.out.drewN 1).below hb5 (HF1.out.drewN 1).lt
         have p2 : Fb w5 (w.heap.size + 1) #[.int .i64 0, .slice none 0 0, .int .i64 0, .slice none 0 0, .slice none 0 0] 28 := (HF2.out.drewN 1).below hb5 (HF2.out.drewN 1).lt
         have hlt1 := p1.lt
         have hlt2 := p2.lt
         obtain ⟨y0, y1, y2⟩ := p1.three
         have Hr5 := hid hr5
         have Hb5 := hid ((below_drewN HBl.out 1).trans (hb5.mono (below_drewN HBl.out 1).size))
         have P1 := hid p1
         have P2 := hid p2
         clear hr5 hb5 p1 p2))
    all_goals go_wp2_with fail
    all_goals go_meet
    all_goals first
      | (have Q3 := P3.out
         have Q := Funing.new2 zs one P1.out P2.out Q3 Hr5.out Hb5.out
         refine ⟨w.heap.size + 1 + 1, rfl, ?_⟩
         with_reducible exact hid Q)
      | (have Q := Funing.new1 zs one P1.out P2.out hlt2 Hr5.out Hb5.out
         refine ⟨w5.heap.size, rfl, ?_⟩
         with_reducible exact hid Q)
  case rest =>
    obtain ⟨T, rfl, hF⟩ := hcut
    have HF := hid (show Hid (Funing w W Z A n c d T (killTo zs one W 0) (copsTo zs one W 0) wc) from hF)
    clear hF
    go_wp2_with fail
    go_loopw [6, 7] (fun i _ wr => ∃ a : Nat, a ≤ W ∧ i = .int .i64 a ∧ Hid (Funing w W Z A n c d T (killTo zs one W a) (copsTo zs one W a) wr)) (fun i _ _ => W - (intOf i).toNat)
    case atStart => exact ⟨0, by omega, rfl, HF.out⟩
    case round =>
      obtain ⟨a, ha, rfl, hF⟩ := hrel
      by_cases hlt : a < W
      · obtain ⟨x0, x1, x2⟩ := hF.out.table.three
        obtain ⟨ad, Bo, mo, cb, rfl, had, g1, g2, hbo⟩ := (HO.out.below hF.out.frame).cell hlt
        have Hbo := hid hbo
        clear hbo
        have hO1 := Bs.hasB_nat (Ho.out a hlt) hW a
        have hZ1 := Bs.hasB_nat Hz.out hW a
        have k0 : (0 : Int) ≤ a := by omega
        have k1 : (a : Int) < W := by omega
        have k2 : (a : Int).toNat = a := by omega
        have h3 : Bs.bit (one a) a = false ∨ (Bs.bit (one a) a = true ∧ Bs.bit zs a = true) ∨ (Bs.bit (one a) a = true ∧ Bs.bit zs a = false) := by
          cases Bs.bit (one a) a <;> cases Bs.bit zs a <;> simp
        rcases h3 with hx | ⟨hx, hy⟩ | ⟨hx, hy⟩
        all_goals
          go_wp2_with fail
          refine (refHas_any W Bo mo cb (one a) a _ Hbo.out).mono ?_
          rw [hO1, hx]
          rintro e w1 ⟨rfl, hb1⟩
          have hJ := hid (hF.out.below hb1)
          clear hb1 x0 x1 x2 g1 g2 k0 k1 k2 had Hbo hF
        focus
          have hyes : (!Bs.bit (one a) a || Bs.bit zs a) = true := by rw [hx]; rfl
          clear hx hO1 hZ1
          have hfitk := fit_killTo zs one W a
          obtain ⟨gk, mk, ek, Ck, qk, b1, b2, b3, b4, b5, b6, b7, b8⟩ := hJ.out
          obtain ⟨t0, t1, t2, t3, t4⟩ := b1.five
          have Hb2 := hid (show Arg _ (some ⟨gk, 0, none⟩) mk (killTo zs one W a) from ⟨(b2.arg hfitk.ok).lies, by rw [b3]; exact hfitk.len, hfitk.ok⟩)
          have HE := hid (killTo_yes (zero := zs) (one := one) (W := W) (k := a) hyes hlt)
          clear b1 b2 b3 b4 b5 b6 b7 b8 hyes
          go_wp2_with fail
          refine (refPut_any W _ mk ek _ a _ Hb2.out (by omega) hfitk.len hlt).mono ?_
          rw [HE.out]
          rintro e w5 ⟨g5, rfl, hg5, hr5, hb5⟩
          rw [(fit_killTo zs one W (a + 1)).len]
          obtain ⟨⟨gx, mx, ex, u0, u1, v0, v1⟩, hJ5⟩ := hJ.out.killed (Bs.nw W) hb5 hr5 rfl
          have hJ := hid hJ5
          clear t0 t1 t2 t3 t4 hb5 hr5 hJ5 Hb2 HE hfitk
          go_wp2_with fail
        rotate_left
        focus
          have hyes : (!Bs.bit (one a) a || Bs.bit zs a) = true := by rw [hy]; simp
          obtain ⟨x0, x1, x2⟩ := hJ.out.table.three
          go_wp2_with fail
          refine (refHas_any W Z n c zs a _ (HZ.out.below hJ.out.frame)).mono ?_
          rw [hZ1, hy]
          rintro e w1 ⟨rfl, hb1⟩
          have hJ := hid (hJ.out.below hb1)
          clear hb1 x0 x1 x2 hx hy hO1 hZ1
          have hfitk := fit_killTo zs one W a
          obtain ⟨gk, mk, ek, Ck, qk, b1, b2, b3, b4, b5, b6, b7, b8⟩ := hJ.out
          obtain ⟨t0, t1, t2, t3, t4⟩ := b1.five
          have Hb2 := hid (show Arg _ (some ⟨gk, 0, none⟩) mk (killTo zs one W a) from ⟨(b2.arg hfitk.ok).lies, by rw [b3]; exact hfitk.len, hfitk.ok⟩)
          have HE := hid (killTo_yes (zero := zs) (one := one) (W := W) (k := a) hyes hlt)
          clear b1 b2 b3 b4 b5 b6 b7 b8 hyes
          go_wp2_with fail
          refine (refPut_any W _ mk ek _ a _ Hb2.out (by omega) hfitk.len hlt).mono ?_
          rw [HE.out]
          rintro e w5 ⟨g5, rfl, hg5, hr5, hb5⟩
          rw [(fit_killTo zs one W (a + 1)).len]
          obtain ⟨⟨gx, mx, ex, u0, u1, v0, v1⟩, hJ5⟩ := hJ.out.killed (Bs.nw W) hb5 hr5 rfl
          have hJ := hid hJ5
          clear t0 t1 t2 t3 t4 hb5 hr5 hJ5 Hb2 HE hfitk
          go_wp2_with fail
        rotate_left
        focus
          have HE := hid (killTo_no (zero := zs) (one := one) (W := W) (k := a) (by rw [hx, hy]; rfl))
          obtain ⟨x0, x1, x2⟩ := hJ.out.table.three
          go_wp2_with fail
          refine (refHas_any W Z n c zs a _ (HZ.out.below hJ.out.frame)).mono ?_
          rw [hZ1, hy]
          rintro e w1 ⟨rfl, hb1⟩
          have hJ0 := hJ.out.below hb1
          rw [← HE.out] at hJ0
          have hJ := hid hJ0
          clear hb1 x0 x1 x2 hx hy hO1 hZ1 hJ0 HE
          go_wp2_with fail
        rotate_left
        all_goals
          go_loopw [7] (fun i wr => ∃ b : Nat, b ≤ W ∧ i = .int .i64 b ∧ Hid (Funing w W Z (some ad) n c d T (killTo zs one W (a + 1)) (copsTo zs one W a ++ copsRow zs one a b) wr)) (fun i _ => W - (intOf i).toNat)
          case atStart => exact ⟨0, by omega, rfl, by have := hJ; rw [← List.append_nil (copsTo zs one W a)] at this; exact this⟩
          case round =>
            obtain ⟨b, hb, rfl, hK⟩ := hrel
            by_cases hlb : b < W
            · by_cases hab : a = b
              · have t : ((a : Int) != (b : Int)) = false := by simp [hab]
                have t' : (a != b) = false := by simp [hab]
                have HE := hid (copsRow_no (zero := zs) (one := one) (a := a) (b := b) (by unfold copyB; simp [hab]))
                clear hab
                go_wp2_with fail
                go_roundw
                case rel => exact ⟨b + 1, by omega, by go_num, by rw [HE.out]; exact hK⟩
                case measure => simp [intOf]; omega
              · have t : ((a : Int) != (b : Int)) = true := by simp; omega
                have t' : (a != b) = true := by simp [hab]
                have Hab := hid hab
                obtain ⟨x0, x1, x2⟩ := hK.out.table.three
                obtain ⟨ad2, Bo, mo, cb, e2, had, g1, g2, hbo⟩ := (HO.out.below hK.out.frame).cell hlt
                injection e2 with e2
                subst e2
                have Hbo := hid hbo
                have hO1 := Bs.hasB_nat (Ho.out a hlt) hW b
                have hZ1 := Bs.hasB_nat Hz.out hW b
                have k0 : (0 : Int) ≤ a := by omega
                have k1 : (a : Int) < W := by omega
                have k2 : (a : Int).toNat = a := by omega
                clear hbo hab
                go_wp2_with fail
                refine (refHas_any W Bo mo cb (one a) b _ Hbo.out).mono ?_
                rw [hO1]
                cases hx : Bs.bit (one a) b with
                | false =>
                  have HE := hid (copsRow_no (zero := zs) (one := one) (a := a) (b := b) (by unfold copyB; simp [hx]))
                  rintro e w1 ⟨rfl, hb1⟩
                  have hK1 := hid (hK.out.below hb1)
                  clear hb1 x0 x1 x2 g1 g2 k0 k1 k2 had Hbo hK hx hO1 hZ1
                  go_wp2_with fail
                  go_roundw
                  case rel => exact ⟨b + 1, by omega, by go_num, by rw [HE.out]; exact hK1⟩
                  case measure => simp [intOf]; omega
                | true =>
                  rintro e w1 ⟨rfl, hb1⟩
                  have hK1 := hid (hK.out.below hb1)
                  clear hb1 x0 x1 x2 g1 g2 k0 k1 k2 had Hbo hK hO1
                  obtain ⟨x0, x1, x2⟩ := hK1.out.table.three
                  go_wp2_with fail
                  refine (refHas_any W Z n c zs b _ (HZ.out.below hK1.out.frame)).mono ?_
                  rw [hZ1]
                  cases hy : Bs.bit zs b with
                  | true =>
                    have HE := hid (copsRow_no (zero := zs) (one := one) (a := a) (b := b) (by unfold copyB; simp [hy]))
                    rintro e w2 ⟨rfl, hb2⟩
                    have hK2 := hid (hK1.out.below hb2)
                    clear hb2 x0 x1 x2 hx hy hZ1 hK1
                    go_wp2_with fail
                    go_roundw
                    case rel => exact ⟨b + 1, by omega, by go_num, by rw [HE.out]; exact hK2⟩
                    case measure => simp [intOf]; omega
                  | false =>
                    have HE := hid (copsRow_yes (zero := zs) (one := one) (a := a) (b := b) (by unfold copyB; simp [hx, hy]; exact Hab.out))
                    have hlen : (copsTo zs one W a ++ copsRow zs one a b).length ≤ 70000 := cops_bound zs one (by omega) (by omega) (by omega)
                    rintro e w2 ⟨rfl, hb2⟩
                    have hK2 := hid (hK1.out.below hb2)
                    clear hb2 x0 x1 x2 hx hy hZ1 hK1
                    generalize hcs : copsTo zs one W a ++ copsRow zs one a b = cs at hK2 hlen
                    have Hcs := hid hcs
                    clear hcs
                    obtain ⟨gk, mk, ek, Ck, qk, b1, b2, b3, b4, b5, b6, b7, b8⟩ := hK2.out
                    obtain ⟨t0, t1, t2, t3, t4⟩ := b1.five
                    have hTl := b1.lt
                    have B1 := hid b1; have B2 := hid b2; have B3 := hid b3; have B4 := hid b4; have B6 := hid b6; have B7 := hid b7; have B8 := hid b8
                    clear b1 b2 b3 b4 b6 b7 b8 hK2
                    go_wp2_with (first
                      | (at_builtin
                         refine wpList_append_own _ rfl _ _ 26 rfl (T + 1) 48 i0 _ 2 16 Try.underlying26 Hi.out Hz0.out Hz1.out Hz2.out rfl (by decide) (.slice Ck cs.length qk) cs.length (pairs cs) rfl (B4.out.alloc _) ⟨w2.heap.size, 0, none⟩ 1 1 [.int .i64 (a : Int), .int .i64 (b : Int)] rfl rfl (two_new _ _ _ _) (by intro u hu; simp at hu; rcases hu with rfl | rfl <;> rfl) (by unfold maxLen; omega) (by omega) (by rw [World.size_alloc]; omega) ?_
                         intro v' w3 hown3 hgr3 hnil3
                         obtain ⟨C3, q3, rfl, ⟨y0, y1⟩, hK3⟩ := Funing.push (a := (a : Int)) (b := (b : Int)) _ B1.out B2.out B3.out B4.out b5 B6.out B7.out B8.out hown3 hgr3
                         have HK3 := hid hK3
                         clear hown3 hgr3 hnil3 hK3))
                    go_roundw
                    case rel =>
                      refine ⟨b + 1, by omega, by go_num, ?_⟩
                      rw [HE.out, ← List.append_assoc, Hcs.out]
                      exact HK3
                    case measure => simp [intOf]; omega
            · have hbW : b = W := by omega
              subst hbW
              go_wp2_with fail
              go_roundw
              case rel => exact ⟨a + 1, by omega, by go_num, hK⟩
              case measure => simp [intOf]; omega
      · have haW : a = W := by omega
        subst haW
        have hfitk := fit_killTo zs one a a
        obtain ⟨gk, mk, ek, Ck, qk, b1, b2, b3, b4, b5, b6, b7, b8⟩ := hF.out
        obtain ⟨t0, t1, t2, t3, t4⟩ := b1.five
        obtain ⟨r0, r1, r2, r3, r4⟩ := b7.five
        have f0 := b7.frozen 0
        have f1 := b7.frozen 1
        have f2 := b7.frozen 2
        have f3 := b7.frozen 3
        have f4 := b7.frozen 4
        have Fin := hid (fun_done (Z := Z) (n := n) (c := c) (ek := ek) hfitk b2 b3 b4 b5 b7 b8)
        clear b1 b2 b3 b4 b6 b7 b8 hF HF
        generalize copsTo zs one a a = cs at *
        go_wp2_with fail
        have hne1 : w.heap.size + 1 < T := b5
        have hne2 : T ≠ w.heap.size + 1 := by omega
        have hne3 : ¬ w.heap.size + 1 = T := by omega
        go_region
        all_goals
          go_wp2_with fail
          refine bodyPost_ret (v := .tuple #[.agg #[.int .i64 a, .slice Z n c, .int .i64 a, .slice (some ⟨gk, 0, none⟩) mk ek, .slice Ck cs.length qk], .bool (decide (cs.length ≤ 64))]) (by simp [results, Try.results20, go_sem, r0, r1, r2, r3, r4]; try omega) rfl ?_
          refine ⟨_, _, _, _, _, rfl, ?_, ?_, ?_⟩
          · exact Fin.out.1.below (below_drewN (Below.refl _ _) 1)
          · exact Fin.out.2.1.below (below_drewN (Below.refl _ _) 1)
          · exact below_drewN Fin.out.2.2 1
end Go.Proofs.Ytmbelhdkaepohaa
