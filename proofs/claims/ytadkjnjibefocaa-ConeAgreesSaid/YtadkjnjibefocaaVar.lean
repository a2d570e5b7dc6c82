/- A set in a variable whose words may lie anywhere: what it is while a function writes other cells. -/
import Derived.Test.YtadkjnjibefocaaTv
import Derived.Test.YtadkjnjibefocaaPut
namespace Go.Proofs.Ytadkjnjibefocaa
set_option maxRecDepth 20000
open Go.ChangeShapes Go.WideShapes Go.ChangeAt Go.RowKit

theorem cell_far {w : World} {p q : Addr} (h : q.block ≠ p.block) (u : Value) : (w.setCell p u).cell? q = w.cell? q :=
  World.cell?_of_block (Below.heap_setCell w p u q.block h)
theorem Box.not_word {w : World} {b : Nat} {W : Int} {A : Option Addr} {n c : Nat} (h : Box w b W A n c) {p : Addr} {x : Nat} (hp : w.cell? p = some (.int .u64 x)) : p.block ≠ b := by
  rintro rfl
  unfold Box at h
  unfold World.cell? at hp
  rw [h] at hp
  simp only [] at hp
  split at hp
  · cases hp
  · rcases p with ⟨pb, po, ps⟩
    simp only [] at hp
    match po, hp with
    | 0, hp => simp at hp
    | 1, hp => simp at hp
    | k + 2, hp => simp at hp
/-- Words stay where they are when a set's variable is written. -/
theorem Arg.store {w : World} {A : Option Addr} {n : Nat} {ws : List Nat} {b : Nat} {W : Int} {A' : Option Addr} {n' c' : Nat} (h : Arg w A n ws) (hb : Box w b W A' n' c') (V : Int) (B : Option Addr) (m d : Nat) :
    Arg ((w.setCell ⟨b, 0, none⟩ (.int .i64 V)).setCell ⟨b, 1, none⟩ (.slice B m d)) A n ws := by
  refine ⟨?_, h.len, h.ok⟩
  rcases h.lies with h0 | ⟨ad, e, hlt, hc⟩
  · exact .inl h0
  · by_cases hw : ws = []
    · exact .inl (by subst hw; rfl)
    · refine .inr ⟨ad, e, by simpa [World.setCell] using hlt, fun j u hu => ?_⟩
      have h1 := hc j u hu
      obtain ⟨x, rfl⟩ : ∃ x : Nat, u = .int .u64 x := by
        unfold words at hu
        rw [List.getElem?_map] at hu
        cases hx : ws[j]? with
        | none => rw [hx] at hu; cases hu
        | some x => rw [hx] at hu; exact ⟨x, by simpa [u64] using hu.symm⟩
      have hne := hb.not_word h1
      rw [cell_far hne, cell_far hne]; exact h1

/-- Block b is a variable that holds the set zs, block r the result, still empty; below w all is as it was. -/
def Var (w : World) (b r : Nat) (W : Int) (zs : List Nat) (wr : World) : Prop :=
  ∃ (A : Option Addr) (n c : Nat), Box wr b W A n c ∧ Arg wr A n zs ∧ w.heap.size ≤ b ∧ b ≠ r ∧ w.heap.size ≤ r ∧ Box wr r 0 none 0 0 ∧ Below w.heap.size w wr
section
variable {w wr w' : World} {b r : Nat} {W : Int} {zs zs' : List Nat}
theorem Var.below (h : Var w b r W zs wr) (hb : Below wr.heap.size wr w') : Var w b r W zs w' := by
  obtain ⟨A, n, c, h1, h2, h3, h4, h5, h6, h7⟩ := h
  exact ⟨A, n, c, h1.below hb h1.lt, h2.below hb, h3, h4, h5, h6.below hb h6.lt, h7.trans (hb.mono h7.size)⟩
theorem Var.frame (h : Var w b r W zs wr) : Below w.heap.size w wr := by
  obtain ⟨_, _, _, _, _, _, _, _, _, h7⟩ := h; exact h7
theorem Var.load (h : Var w b r W zs wr) : ∃ (A : Option Addr) (n c : Nat), Box wr b W A n c ∧ wr.cell? ⟨b, 0, none⟩ = some (.int .i64 W) ∧ wr.cell? ⟨b, 1, none⟩ = some (.slice A n c) ∧ Arg wr A n zs ∧ b < wr.heap.size := by
  obtain ⟨A, n, c, h1, h2, h3, h4, h5, h6, h7⟩ := h
  exact ⟨A, n, c, h1, h1.c0, h1.c1, h2, h1.lt⟩
theorem Var.put {B : Option Addr} {m d : Nat} (h : Var w b r W zs wr) (hb : Below wr.heap.size wr w') (ha : Arg w' B m zs') (V : Int) :
    Var w b r V zs' ((w'.setCell ⟨b, 0, none⟩ (.int .i64 V)).setCell ⟨b, 1, none⟩ (.slice B m d)) := by
  obtain ⟨A, n, c, h1, h2, h3, h4, h5, h6, h7⟩ := h
  have l1 := h1.below hb h1.lt
  exact ⟨B, m, d, l1.set _ _ _ _, ha.store l1 _ _ _ _, h3, h4, h5, ((h6.below hb h6.lt).far (by simp; omega) _).far (by simp; omega) _, ((h7.trans (hb.mono h7.size)).setCell (by simpa using h3) _).setCell (by simpa using h3) _⟩
theorem Var.done (h : Var w b r W zs wr) :
    ∃ (A : Option Addr) (n c : Nat), wr.cell? ⟨b, 0, none⟩ = some (.int .i64 W) ∧ wr.cell? ⟨b, 1, none⟩ = some (.slice A n c) ∧
      Arg ((wr.setCell ⟨r, 0, none⟩ (.int .i64 W)).setCell ⟨r, 1, none⟩ (.slice A n c)) A n zs ∧
      Below w.heap.size w ((wr.setCell ⟨r, 0, none⟩ (.int .i64 W)).setCell ⟨r, 1, none⟩ (.slice A n c)) := by
  obtain ⟨A, n, c, h1, h2, h3, h4, h5, h6, h7⟩ := h
  exact ⟨A, n, c, h1.c0, h1.c1, h2.store h6 _ _ _ _, (h7.setCell (by simpa using h5) _).setCell (by simpa using h5) _⟩
theorem Var.cells (h : Var w b r W zs wr) :
    ((wr.cell? ⟨r, 0, none⟩ = some (.int .i64 0) ∧ wr.cell? ⟨r, 1, none⟩ = some (.slice none 0 0)) ∧ (wr.frozen? ⟨r, 0, none⟩ = false ∧ wr.frozen? ⟨r, 1, none⟩ = false)) ∧ b ≠ r := by
  obtain ⟨A, n, c, h1, h2, h3, h4, h5, h6, h7⟩ := h
  exact ⟨⟨⟨h6.c0, h6.c1⟩, h6.f 0, h6.f 1⟩, h4⟩
theorem Var.stores (h : Var w b r W zs wr) (hb : Below wr.heap.size wr w') :
    ∃ (A : Option Addr) (n c : Nat), w'.cell? ⟨b, 0, none⟩ = some (.int .i64 W) ∧ w'.cell? ⟨b, 1, none⟩ = some (.slice A n c) ∧ w'.frozen? ⟨b, 0, none⟩ = false ∧ w'.frozen? ⟨b, 1, none⟩ = false := by
  obtain ⟨A, n, c, h1, h2, h3, h4, h5, h6, h7⟩ := h
  have l1 := h1.below hb h1.lt
  exact ⟨A, n, c, l1.c0, l1.c1, l1.f 0, l1.f 1⟩
end

/-- Where a set's words lie: in blocks below B0, or in a row of their own. -/
def From (wr : World) (B0 : Nat) (A : Option Addr) (zs : List Nat) : Prop := At wr B0 A (words zs) ∨ ∃ g : Nat, A = some ⟨g, 0, none⟩ ∧ Row wr g zs
theorem At.far {wr : World} {B : Nat} {A : Option Addr} {xs : List Value} (h : At wr B A xs) {p : Addr} (hp : B ≤ p.block) (u : Value) : At (wr.setCell p u) B A xs :=
  h.keep (fun q hq => cell_far (by omega) u) (Nat.le_refl _)
theorem From.below {wr w' : World} {B0 : Nat} {A : Option Addr} {zs : List Nat} (h : From wr B0 A zs) (hb : Below wr.heap.size wr w') (hB : B0 ≤ wr.heap.size) : From w' B0 A zs := by
  rcases h with h | ⟨g, h, hr⟩
  · exact .inl (h.below (hb.mono hB) (Nat.le_refl _))
  · exact .inr ⟨g, h, hr.below hb hr.lt⟩
theorem From.store {wr : World} {B0 : Nat} {A : Option Addr} {zs : List Nat} {b : Nat} {W : Int} {A' : Option Addr} {n' c' : Nat} (h : From wr B0 A zs) (hb : Box wr b W A' n' c') (hB : B0 ≤ b) (V : Int) (B : Option Addr) (m d : Nat) :
    From ((wr.setCell ⟨b, 0, none⟩ (.int .i64 V)).setCell ⟨b, 1, none⟩ (.slice B m d)) B0 A zs := by
  rcases h with h | ⟨g, h, hr⟩
  · exact .inl ((h.far (p := ⟨b, 0, none⟩) hB _).far (p := ⟨b, 1, none⟩) hB _)
  · exact .inr ⟨g, h, (hr.far (p := ⟨b, 0, none⟩) (hb.row_ne hr) _).far (p := ⟨b, 1, none⟩) (hb.row_ne hr) _⟩
theorem From.grown {wr w' : World} {B0 : Nat} {A : Option Addr} {zs : List Nat} {row : Option Nat} (h : From wr B0 A zs) (hg : wr.grownBy w' row) (hB : B0 ≤ wr.heap.size) (h1 : ∀ k, row = some k → B0 ≤ k) (h2 : ∀ g, Row wr g zs → some g ≠ row) : From w' B0 A zs := by
  rcases h with h | ⟨g, h, hr⟩
  · refine .inl (h.keep (fun p hp => World.cell?_of_block (hg.block p.block (by omega) ?_)) (Nat.le_refl _))
    intro e
    have := h1 _ e.symm
    omega
  · exact .inr ⟨g, h, (hg.block g hr.lt (h2 g hr)).trans hr⟩
theorem From.arg {wr : World} {B0 n : Nat} {A : Option Addr} {zs : List Nat} (h : From wr B0 A zs) (hB : B0 ≤ wr.heap.size) (hl : zs.length = n) (hok : ∀ x ∈ zs, x < Bs.W64) : Arg wr A n zs := by
  rcases h with h | ⟨g, rfl, hr⟩
  · exact ⟨h.more hB, hl, hok⟩
  · exact ⟨(hr.arg hok).lies, hl, hok⟩
/-- As Var, and the words lie where they lay at first or in a row of their own. -/
def VarR (w : World) (b r : Nat) (W : Int) (B0 : Nat) (zs : List Nat) (wr : World) : Prop :=
  ∃ (A : Option Addr) (n c : Nat), Box wr b W A n c ∧ Arg wr A n zs ∧ (B0 ≤ w.heap.size ∧ From wr B0 A zs) ∧ w.heap.size ≤ b ∧ b ≠ r ∧ w.heap.size ≤ r ∧ Box wr r 0 none 0 0 ∧ Below w.heap.size w wr
/-- A set came back, whose words lie where they lay or in a row of their own. -/
def RetFrom (w : World) (B0 : Nat) (W : Int) (ws : List Nat) (e : Ending) (w' : World) : Prop :=
  ∃ (A : Option Addr) (n c : Nat), e = .returned (.agg #[.int .i64 W, .slice A n c]) ∧ Arg w' A n ws ∧ From w' B0 A ws ∧ Below w.heap.size w w'
section
variable {w wr w' : World} {b r : Nat} {W : Int} {B0 : Nat} {zs zs' : List Nat}
theorem VarR.below (h : VarR w b r W B0 zs wr) (hb : Below wr.heap.size wr w') : VarR w b r W B0 zs w' := by
  obtain ⟨A, n, c, h1, h2, hf, h3, h4, h5, h6, h7⟩ := h
  exact ⟨A, n, c, h1.below hb h1.lt, h2.below hb, ⟨hf.1, hf.2.below hb (Nat.le_trans hf.1 h7.size)⟩, h3, h4, h5, h6.below hb h6.lt, h7.trans (hb.mono h7.size)⟩
theorem VarR.frame (h : VarR w b r W B0 zs wr) : Below w.heap.size w wr := by
  obtain ⟨_, _, _, _, _, _, _, _, _, _, h7⟩ := h; exact h7
theorem VarR.load (h : VarR w b r W B0 zs wr) : ∃ (A : Option Addr) (n c : Nat), Box wr b W A n c ∧ wr.cell? ⟨b, 0, none⟩ = some (.int .i64 W) ∧ wr.cell? ⟨b, 1, none⟩ = some (.slice A n c) ∧ Arg wr A n zs ∧ b < wr.heap.size := by
  obtain ⟨A, n, c, h1, h2, hf, h3, h4, h5, h6, h7⟩ := h
  exact ⟨A, n, c, h1, h1.c0, h1.c1, h2, h1.lt⟩
theorem VarR.put {g m d : Nat} (h : VarR w b r W B0 zs wr) (hb : Below wr.heap.size wr w') (hr : Row w' g zs') (ha : Arg w' (some ⟨g, 0, none⟩) m zs') (V : Int) :
    VarR w b r V B0 zs' ((w'.setCell ⟨b, 0, none⟩ (.int .i64 V)).setCell ⟨b, 1, none⟩ (.slice (some ⟨g, 0, none⟩) m d)) := by
  obtain ⟨A, n, c, h1, h2, hf, h3, h4, h5, h6, h7⟩ := h
  have l1 := h1.below hb h1.lt
  have hfr : From w' B0 (some ⟨g, 0, none⟩) zs' := .inr ⟨g, rfl, hr⟩
  exact ⟨_, m, d, l1.set _ _ _ _, ha.store l1 _ _ _ _, ⟨hf.1, hfr.store l1 (Nat.le_trans hf.1 h3) _ _ _ _⟩, h3, h4, h5, ((h6.below hb h6.lt).far (by simp; omega) _).far (by simp; omega) _, ((h7.trans (hb.mono h7.size)).setCell (by simpa using h3) _).setCell (by simpa using h3) _⟩
theorem VarR.done (h : VarR w b r W B0 zs wr) :
    ∃ (A : Option Addr) (n c : Nat), wr.cell? ⟨b, 0, none⟩ = some (.int .i64 W) ∧ wr.cell? ⟨b, 1, none⟩ = some (.slice A n c) ∧
      Arg ((wr.setCell ⟨r, 0, none⟩ (.int .i64 W)).setCell ⟨r, 1, none⟩ (.slice A n c)) A n zs ∧ From ((wr.setCell ⟨r, 0, none⟩ (.int .i64 W)).setCell ⟨r, 1, none⟩ (.slice A n c)) B0 A zs ∧
      Below w.heap.size w ((wr.setCell ⟨r, 0, none⟩ (.int .i64 W)).setCell ⟨r, 1, none⟩ (.slice A n c)) := by
  obtain ⟨A, n, c, h1, h2, hf, h3, h4, h5, h6, h7⟩ := h
  exact ⟨A, n, c, h1.c0, h1.c1, h2.store h6 _ _ _ _, hf.2.store h6 (Nat.le_trans hf.1 h5) _ _ _ _, (h7.setCell (by simpa using h5) _).setCell (by simpa using h5) _⟩
theorem VarR.cells (h : VarR w b r W B0 zs wr) :
    ((wr.cell? ⟨r, 0, none⟩ = some (.int .i64 0) ∧ wr.cell? ⟨r, 1, none⟩ = some (.slice none 0 0)) ∧ (wr.frozen? ⟨r, 0, none⟩ = false ∧ wr.frozen? ⟨r, 1, none⟩ = false)) ∧ b ≠ r := by
  obtain ⟨A, n, c, h1, h2, hf, h3, h4, h5, h6, h7⟩ := h
  exact ⟨⟨⟨h6.c0, h6.c1⟩, h6.f 0, h6.f 1⟩, h4⟩
theorem VarR.stores (h : VarR w b r W B0 zs wr) (hb : Below wr.heap.size wr w') :
    ∃ (A : Option Addr) (n c : Nat), w'.cell? ⟨b, 0, none⟩ = some (.int .i64 W) ∧ w'.cell? ⟨b, 1, none⟩ = some (.slice A n c) ∧ w'.frozen? ⟨b, 0, none⟩ = false ∧ w'.frozen? ⟨b, 1, none⟩ = false := by
  obtain ⟨A, n, c, h1, h2, hf, h3, h4, h5, h6, h7⟩ := h
  have l1 := h1.below hb h1.lt
  exact ⟨A, n, c, l1.c0, l1.c1, l1.f 0, l1.f 1⟩
theorem RetFrom.ret {ws : List Nat} {e : Ending} (h : RetFrom w B0 W ws e w') : RetSet w W ws e w' := by
  obtain ⟨A, n, c, h1, h2, _, h3⟩ := h
  exact ⟨A, n, c, h1, h2, h3⟩
end

/-- The value of a function, while it is made: the first a members are done, and of member a the bits below b. -/
def vw (gs ss : List Nat) (f : Int → Int → Bool) (W a b : Nat) : List Nat :=
  Bs.ofP W (fun i => Bs.bit gs i || (List.range a).any (fun x => Bs.bit ss x && f x i) || (Bs.bit ss a && f a i && decide (i < b))) W
/-- P3.2: the value of a function. -/
def valR (gs ss : List Nat) (f : Int → Int → Bool) (W : Nat) : List Nat :=
  Bs.ofP W (fun i => Bs.bit gs i || (List.range W).any (fun x => Bs.bit ss x && f x i)) W
theorem fit_vw (gs ss : List Nat) (f : Int → Int → Bool) (W a b : Nat) : Bs.Fit W (vw gs ss f W a b) := Bs.fit_ofP _ _ _ (Nat.le_refl _)
theorem fit_valR (gs ss : List Nat) (f : Int → Int → Bool) (W : Nat) : Bs.Fit W (valR gs ss f W) := Bs.fit_ofP _ _ _ (Nat.le_refl _)
theorem vw_start {gs : List Nat} (ss : List Nat) (f : Int → Int → Bool) {W : Nat} (h : Bs.Fit W gs) : vw gs ss f W 0 0 = gs := by
  unfold vw
  exact (Bs.ofP_congr fun i _ => by simp).trans (Bs.ofP_bit h)
theorem vw_put {gs ss : List Nat} {f : Int → Int → Bool} {W a b : Nat} (h1 : f a b = true) (h2 : Bs.bit ss a = true) (hb : b < W) : Bs.put (vw gs ss f W a b) b = vw gs ss f W a (b + 1) := by
  unfold vw
  rw [Bs.put_ofP _ hb]
  refine Bs.ofP_congr fun i _ => ?_
  rw [h2]
  by_cases e : i = b
  · subst e; simp [h1]
  · have : (i < b + 1) = (i < b) := by apply propext; omega
    simp [e, this]
theorem vw_skip {gs ss : List Nat} {f : Int → Int → Bool} {W a b : Nat} (h1 : f a b = false) : vw gs ss f W a (b + 1) = vw gs ss f W a b := by
  unfold vw
  refine Bs.ofP_congr fun i _ => ?_
  by_cases e : i = b
  · subst e; simp [h1]
  · have : (i < b + 1) = (i < b) := by apply propext; omega
    simp [this]
theorem any_succ (p : Nat → Bool) (a : Nat) : (List.range (a + 1)).any p = ((List.range a).any p || p a) := by
  rw [List.range_succ, List.any_append]; simp
theorem vw_next (gs ss : List Nat) (f : Int → Int → Bool) (W a : Nat) : vw gs ss f W a W = vw gs ss f W (a + 1) 0 := by
  unfold vw
  refine Bs.ofP_congr fun i hi => ?_
  rw [any_succ]
  simp [hi, Bool.or_assoc]
theorem vw_not {gs ss : List Nat} {f : Int → Int → Bool} {W a : Nat} (h : Bs.bit ss a = false) (b : Nat) : vw gs ss f W a b = vw gs ss f W (a + 1) 0 := by
  unfold vw
  refine Bs.ofP_congr fun i _ => ?_
  rw [any_succ, h]
  simp
theorem vw_end (gs ss : List Nat) (f : Int → Int → Bool) (W : Nat) : vw gs ss f W W 0 = valR gs ss f W := by
  unfold vw valR
  exact Bs.ofP_congr fun i _ => by simp
end Go.Proofs.Ytadkjnjibefocaa
