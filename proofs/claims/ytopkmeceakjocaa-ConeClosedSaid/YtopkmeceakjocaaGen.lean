/- The tape's Width and Transfer: a small width, and a valid function of a width; nothing else changes but the tape. -/
import Derived.Test.YtopkmeceakjocaaSet
import Derived.Test.YtopkmeceakjocaaTfun
import Derived.Test.YtopkmeceakjocaaTap
namespace Go.Proofs.Ytopkmeceakjocaa
set_option maxRecDepth 20000
open Go.ChangeShapes Go.WideShapes Go.ChangeAt Go.RowKit

/-- A small width came back; nothing but the tape has changed. -/
def GenW (w : World) (T : Nat) (e : Ending) (w' : World) : Prop :=
  ∃ v : Nat, e = .returned (.int .i64 v) ∧ v ≤ 8 ∧ Tape w' T ∧ w.grownBy w' (some T)
theorem pick7 (r : Int) (h0 : 0 ≤ r) (h1 : r < 7 ∨ r = 0) (w w1 : World) {T : Nat} (hg : (w.alloc (Obj.cells #[Value.int IntKind.i64 3, Value.int IntKind.i64 1, Value.int IntKind.i64 4, Value.int IntKind.i64 2, Value.int IntKind.i64 6, Value.int IntKind.i64 0, Value.int IntKind.i64 8] 3)).grownBy w1 (some T)) (hT : w.heap.size ≠ T) :
    ∃ v : Nat, v ≤ 8 ∧ w1.cell? ⟨w.heap.size, r.toNat, none⟩ = some (.int .i64 v) := by
  obtain ⟨k, rfl⟩ := Int.eq_ofNat_of_zero_le h0
  have hh := heap_alloc_new w (Obj.cells #[Value.int IntKind.i64 3, Value.int IntKind.i64 1, Value.int IntKind.i64 4, Value.int IntKind.i64 2, Value.int IntKind.i64 6, Value.int IntKind.i64 0, Value.int IntKind.i64 8] 3)
  have hblk := hg.block w.heap.size (by rw [World.size_alloc]; omega) (by simpa using hT)
  rw [hh] at hblk
  have hk : k < 7 := by omega
  have : k = 0 ∨ k = 1 ∨ k = 2 ∨ k = 3 ∨ k = 4 ∨ k = 5 ∨ k = 6 := by omega
  rcases this with rfl | rfl | rfl | rfl | rfl | rfl | rfl
  · exact ⟨3, by omega, by simp [World.cell?, hblk]⟩
  · exact ⟨1, by omega, by simp [World.cell?, hblk]⟩
  · exact ⟨4, by omega, by simp [World.cell?, hblk]⟩
  · exact ⟨2, by omega, by simp [World.cell?, hblk]⟩
  · exact ⟨6, by omega, by simp [World.cell?, hblk]⟩
  · exact ⟨0, by omega, by simp [World.cell?, hblk]⟩
  · exact ⟨8, by omega, by simp [World.cell?, hblk]⟩

theorem width_any (T : Nat) (w : World) (ht : Tape w T) : Calls Try.prog 27 #[.pointer (some ⟨T, 0, none⟩)] w (GenW w T) := by
  have Ht := hid ht
  have hTl := ht.lt
  clear ht
  go_enter Try.func27, Try.ntmps27
  go_wp2_with fail
  refine (next_any T 7 _ (Ht.out.alloc _) (by omega)).mono ?_
  rintro e w4 ⟨r, rfl, h0, h1, ht4, hg4, hs4⟩
  obtain ⟨v, hv, hc⟩ := pick7 r h0 h1 w w4 hg4 (by omega)
  have h2 : r < 7 := by omega
  have Hs := hid hs4
  have Hg := hid (grown_trans (grown_of_below ((Below.refl w.heap.size w).alloc (Nat.le_refl _) _) (some T)) hg4)
  have Ht4 := hid ht4
  clear hg4 ht4 hs4 h1
  go_wp2
  go_ret
  exact ⟨v, rfl, hv, Ht4.out, Hg.out⟩

/-- A valid function of width W came back; nothing but the tape has changed. -/
def GenT (w : World) (T W : Nat) (e : Ending) (w' : World) : Prop :=
  ∃ (A : Option Addr) (n c : Nat) (B : Option Addr) (m d : Nat) (C : Option Addr) (k q : Nat) (gs ks : List Nat) (cs : List (Int × Int)),
    e = .returned (.agg #[.int .i64 W, .slice A n c, .int .i64 W, .slice B m d, .slice C k q]) ∧ Arg w' A n gs ∧ Arg w' B m ks ∧ ArgC w' C k cs ∧ validT W gs W ks cs = true ∧ cs.length ≤ 12 ∧ Tape w' T ∧ w.grownBy w' (some T)

/-- The copies that were made so far: in order, and each before (a, b). -/
def Upto (W : Nat) (cs : List (Int × Int)) (a b : Int) : Prop := (∀ i, i < cs.length → okAt W cs i = true) ∧ ∀ p ∈ cs, beforeB p (a, b) = true
theorem Upto.step {W : Nat} {cs : List (Int × Int)} {a b : Int} (h : Upto W cs a b) : Upto W cs a (b + 1) :=
  ⟨h.1, fun p hp => by have := h.2 p hp; unfold beforeB at *; simp at *; omega⟩
theorem Upto.row {W : Nat} {cs : List (Int × Int)} {a b : Int} (h : Upto W cs a b) : Upto W cs (a + 1) 0 :=
  ⟨h.1, fun p hp => by have := h.2 p hp; unfold beforeB at *; simp at *; omega⟩
theorem Upto.push {W : Nat} {cs : List (Int × Int)} {a b : Nat} (h : Upto W cs a b) (ha : a < W) (hb : b < W) : Upto W (cs ++ [((a : Int), (b : Int))]) a (b + 1) := by
  have g1 : ∀ i, i < cs.length → (cs ++ [((a : Int), (b : Int))]).getD i (0, 0) = cs.getD i (0, 0) := fun i hi => by
    rw [List.getD_eq_getElem?_getD, List.getD_eq_getElem?_getD, List.getElem?_append_left hi]
  refine ⟨fun i hi => ?_, fun p hp => ?_⟩
  · rw [List.length_append, List.length_singleton] at hi
    by_cases e : i < cs.length
    · have := h.1 i e
      unfold okAt at this ⊢
      rw [g1 i e, g1 (i - 1) (by omega)]; exact this
    · have e : i = cs.length := by omega
      subst e
      unfold okAt
      have g2 : (cs ++ [((a : Int), (b : Int))]).getD cs.length (0, 0) = ((a : Int), (b : Int)) := by
        rw [List.getD_eq_getElem?_getD, List.getElem?_append_right (Nat.le_refl _)]; simp
      rw [g2]
      have hin : inW W ((a : Int), (b : Int)) = true := by unfold inW; simp; omega
      rw [hin, Bool.true_and]
      by_cases h0 : cs.length = 0
      · simp [h0]
      · rw [g1 (cs.length - 1) (by omega)]
        have hm : cs.getD (cs.length - 1) (0, 0) ∈ cs := by
          rw [List.getD_eq_getElem?_getD, List.getElem?_eq_getElem (by omega), Option.getD_some]; exact List.getElem_mem _
        rw [h.2 _ hm]; simp
  · rcases List.mem_append.1 hp with h1 | h1
    · exact (h.step).2 p h1
    · simp at h1; subst h1; unfold beforeB; simp; omega

/-- While the function is made: the variable f lies in block b. -/
def Gening (w : World) (T b W : Nat) (cs : List (Int × Int)) (wr : World) : Prop :=
  ∃ (g1 g2 : Nat) (gs ks : List Nat) (C : Option Addr) (q : Nat), Fb wr b #[.int .i64 W, .slice (some ⟨g1, 0, none⟩) (Bs.nw W) (Bs.nw W), .int .i64 W, .slice (some ⟨g2, 0, none⟩) (Bs.nw W) (Bs.nw W), .slice C cs.length q] 61 ∧
    (Row wr g1 gs ∧ Bs.Fit W gs ∧ w.heap.size ≤ g1) ∧ (Row wr g2 ks ∧ Bs.Fit W ks ∧ w.heap.size ≤ g2) ∧ Cops wr (b + 1) (.slice C cs.length q) cs ∧
    Fb wr w.heap.size #[.int .i64 0, .slice none 0 0, .int .i64 0, .slice none 0 0, .slice none 0 0] 61 ∧ w.heap.size < b ∧ Tape wr T ∧ T < w.heap.size ∧ w.grownBy wr (some T)
section
variable {w wr w' : World} {T b W : Nat} {cs : List (Int × Int)}
theorem Gening.tape (h : Gening w T b W cs wr) (ht : Tape w' T) (hg : wr.grownBy w' (some T)) : Gening w T b W cs w' := by
  obtain ⟨g1, g2, gs, ks, C, q, h1, ⟨h2, h3, h4⟩, ⟨h5, h6, h7⟩, h8, h9, h10, h11, h12, h13⟩ := h
  refine ⟨g1, g2, gs, ks, C, q, h1.grown hg (by simp; omega), ⟨(hg.block g1 h2.lt (by simp; omega)).trans h2, h3, h4⟩, ⟨(hg.block g2 h5.lt (by simp; omega)).trans h5, h6, h7⟩, ?_, h9.grown hg (by simp; omega), h10, ht, h12, grown_trans h13 hg⟩
  exact World.ownsRow.kept h8 hg (by
    cases hv : (Value.slice C cs.length q).ownBlock with
    | none => exact .inl rfl
    | some k => exact .inr (by have := own_base h8 k hv; simp only [ne_eq, Option.some.injEq]; omega))
theorem Cops.setT {wx : World} {C : Option Addr} {q : Nat} (hx : Cops wx (b + 1) (.slice C cs.length q) cs) (j : Nat) (u : Value) : Cops (wx.setCell ⟨b, j, none⟩ u) (b + 1) (.slice C cs.length q) cs :=
  World.ownsRow.kept hx (setCell_grown wx _ u) (by
    cases hv : (Value.slice C cs.length q).ownBlock with
    | none => exact .inl rfl
    | some k => exact .inr (by have := own_base hx k hv; simp only [ne_eq, Option.some.injEq]; omega))
/-- A set is stored into the variable: its width and its words at place j. -/
theorem Gening.gen {g5 : Nat} {zs : List Nat} (h : Gening w T b W cs wr) (hf : Bs.Fit W zs) (hg : wr.heap.size ≤ g5) (hr : Row w' g5 zs) (hb : Below wr.heap.size wr w') :
    (∃ (v0 v1 : Value), w'.cell? ⟨b, 0, none⟩ = some v0 ∧ w'.cell? ⟨b, 1, none⟩ = some v1 ∧ w'.frozen? ⟨b, 0, none⟩ = false ∧ w'.frozen? ⟨b, 1, none⟩ = false) ∧
    Gening w T b W cs ((w'.setCell ⟨b, 0, none⟩ (.int .i64 W)).setCell ⟨b, 1, none⟩ (.slice (some ⟨g5, 0, none⟩) (Bs.nw W) (Bs.nw W))) := by
  obtain ⟨g1, g2, gs, ks, C, q, h1, ⟨h2, h3, h4⟩, ⟨h5, h6, h7⟩, h8, h9, h10, h11, h12, h13⟩ := h
  have e1 := h1.below hb h1.lt
  have e5 := h5.below hb h5.lt
  have hz := h13.size
  refine ⟨⟨_, _, e1.cell 0, e1.cell 1, e1.frozen 0, e1.frozen 1⟩, g5, g2, zs, ks, C, q, (e1.set 0 _).set 1 _, ⟨(hr.far (e1.row_ne (by decide) hr) _).far (e1.row_ne (by decide) hr) _, hf, by omega⟩,
    ⟨(e5.far (e1.row_ne (by decide) e5) _).far (e1.row_ne (by decide) e5) _, h6, h7⟩, Cops.setT (Cops.setT (own_below h8 hb) 0 _) 1 _, ((h9.below hb h9.lt).far (by simp; omega) _).far (by simp; omega) _, h10,
    ((h11.below hb (by omega)).far (by simp; omega) _).far (by simp; omega) _, h12, ?_⟩
  exact grown_set_new (grown_set_new (grown_trans h13 (grown_of_below hb _)) (by simp; omega) _) (by simp; omega) _
theorem Gening.kill {g5 : Nat} {zs : List Nat} (h : Gening w T b W cs wr) (hf : Bs.Fit W zs) (hg : wr.heap.size ≤ g5) (hr : Row w' g5 zs) (hb : Below wr.heap.size wr w') :
    (∃ (v0 v1 : Value), w'.cell? ⟨b, 2, none⟩ = some v0 ∧ w'.cell? ⟨b, 3, none⟩ = some v1 ∧ w'.frozen? ⟨b, 2, none⟩ = false ∧ w'.frozen? ⟨b, 3, none⟩ = false) ∧
    Gening w T b W cs ((w'.setCell ⟨b, 2, none⟩ (.int .i64 W)).setCell ⟨b, 3, none⟩ (.slice (some ⟨g5, 0, none⟩) (Bs.nw W) (Bs.nw W))) := by
  obtain ⟨g1, g2, gs, ks, C, q, h1, ⟨h2, h3, h4⟩, ⟨h5, h6, h7⟩, h8, h9, h10, h11, h12, h13⟩ := h
  have e1 := h1.below hb h1.lt
  have e2 := h2.below hb h2.lt
  have hz := h13.size
  refine ⟨⟨_, _, e1.cell 2, e1.cell 3, e1.frozen 2, e1.frozen 3⟩, g1, g5, gs, zs, C, q, (e1.set 2 _).set 3 _, ⟨(e2.far (e1.row_ne (by decide) e2) _).far (e1.row_ne (by decide) e2) _, h3, h4⟩,
    ⟨(hr.far (e1.row_ne (by decide) hr) _).far (e1.row_ne (by decide) hr) _, hf, by omega⟩, Cops.setT (Cops.setT (own_below h8 hb) 2 _) 3 _, ((h9.below hb h9.lt).far (by simp; omega) _).far (by simp; omega) _, h10,
    ((h11.below hb (by omega)).far (by simp; omega) _).far (by simp; omega) _, h12, ?_⟩
  exact grown_set_new (grown_set_new (grown_trans h13 (grown_of_below hb _)) (by simp; omega) _) (by simp; omega) _
/-- The copies' slice. -/
theorem Gening.slice (h : Gening w T b W cs wr) : ∃ (C : Option Addr) (q : Nat), wr.cell? ⟨b, 4, none⟩ = some (.slice C cs.length q) ∧ wr.frozen? ⟨b, 4, none⟩ = false ∧ Cops wr (b + 1) (.slice C cs.length q) cs ∧ b < wr.heap.size ∧
    ∀ (o : Obj) (w' : World) (v' : Value) (x y : Int), w'.ownsRow (b + 1) 89 2 v' (cs.length + 1) (pairs cs ++ [.int .i64 x, .int .i64 y]) → (wr.alloc o).grownBy w' (Value.slice C cs.length q).ownBlock →
      ∃ (C' : Option Addr) (q' : Nat), v' = .slice C' (cs.length + 1) q' ∧ (w'.cell? ⟨b, 4, none⟩ = some (.slice C cs.length q) ∧ w'.frozen? ⟨b, 4, none⟩ = false) ∧
        Gening w T b W (cs ++ [(x, y)]) (w'.setCell ⟨b, 4, none⟩ (.slice C' (cs.length + 1) q')) := by
  obtain ⟨g1, g2, gs, ks, C, q, h1, ⟨h2, h3, h4⟩, ⟨h5, h6, h7⟩, h8, h9, h10, h11, h12, h13⟩ := h
  refine ⟨C, q, h1.cell 4, h1.frozen 4, h8, h1.lt, fun o w' v' x y ho hg => ?_⟩
  obtain ⟨C', q', rfl⟩ : ∃ (C' : Option Addr) (q' : Nat), v' = .slice C' (cs.length + 1) q' := by
    rcases ho.2 with ⟨_, h0⟩ | ⟨g, cap, cur, rfl, _⟩
    · omega
    · exact ⟨_, cap, rfl⟩
  have e1 := (h1.alloc o).grown hg (own_row h8 (by omega))
  have e2 : Row w' g1 gs := (hg.block g1 (h2.alloc o).lt (own_not_row (by decide) (World.ownsRow.alloc h8 o) (h2.alloc o))).trans (h2.alloc o)
  have e5 : Row w' g2 ks := (hg.block g2 (h5.alloc o).lt (own_not_row (by decide) (World.ownsRow.alloc h8 o) (h5.alloc o))).trans (h5.alloc o)
  have e9 := (h9.alloc o).grown hg (own_row h8 (by omega))
  have hz := h13.size
  have hk := own_base h8
  have e11 : Tape w' T := (h11.alloc o).keep fun k hkT => hg.block k (by rw [World.size_alloc]; omega) (by
    cases hv : (Value.slice C cs.length q).ownBlock with
    | none => simp
    | some x => have := hk x hv; simp only [ne_eq, Option.some.injEq]; omega)
  have e13 : w.grownBy w' (some T) := by
    have s1 := grown_trans h13 (grown_of_below ((Below.refl _ _).alloc (Nat.le_refl _) o) (some T))
    refine ⟨hg.os.trans s1.os, hg.tape.trans s1.tape, hg.output.trans s1.output, Nat.le_trans s1.size hg.size, fun i hi hne => (hg.block i (Nat.lt_of_lt_of_le hi s1.size) ?_).trans (s1.block i hi hne)⟩
    cases hv : (Value.slice C cs.length q).ownBlock with
    | none => simp
    | some x => have := hk x hv; simp only [ne_eq, Option.some.injEq]; omega
  refine ⟨C', q', rfl, ⟨e1.cell 4, e1.frozen 4⟩, g1, g2, gs, ks, C', q', ?_, ⟨e2.far (e1.row_ne (by decide) e2) _, h3, h4⟩, ⟨e5.far (e1.row_ne (by decide) e5) _, h6, h7⟩, ?_, e9.far (by simp; omega) _, h10, e11.far (by simp; omega) _, h12, grown_set_new e13 (by simp; omega) _⟩
  · have := e1.set 4 (.slice C' (cs.length + 1) q')
    simpa using this
  · unfold Cops
    rw [pairs_snoc, List.length_append]
    have hk' := own_base ho
    exact World.ownsRow.kept ho (setCell_grown w' _ _) (by
      cases hv : (Value.slice C' (cs.length + 1) q').ownBlock with
      | none => exact .inl rfl
      | some k => exact .inr (by have := hk' k hv; simp only [ne_eq, Option.some.injEq]; omega))
end
/-- The whole variable is stored into the result's cell. -/
theorem Gening.done {w wr : World} {T b W : Nat} {cs : List (Int × Int)} (h : Gening w T b W cs wr) (hW : W ≤ 256) (hu : Upto W cs W 0) (h12 : cs.length ≤ 12) :
    ∃ (g1 g2 : Nat) (C : Option Addr) (q : Nat), (wr.cell? ⟨b, 0, none⟩ = some (.int .i64 W) ∧ wr.cell? ⟨b, 1, none⟩ = some (.slice (some ⟨g1, 0, none⟩) (Bs.nw W) (Bs.nw W)) ∧ wr.cell? ⟨b, 2, none⟩ = some (.int .i64 W) ∧ wr.cell? ⟨b, 3, none⟩ = some (.slice (some ⟨g2, 0, none⟩) (Bs.nw W) (Bs.nw W)) ∧ wr.cell? ⟨b, 4, none⟩ = some (.slice C cs.length q)) ∧
    ((wr.cell? ⟨w.heap.size, 0, none⟩ = some (.int .i64 0) ∧ wr.cell? ⟨w.heap.size, 1, none⟩ = some (.slice none 0 0) ∧ wr.cell? ⟨w.heap.size, 2, none⟩ = some (.int .i64 0) ∧ wr.cell? ⟨w.heap.size, 3, none⟩ = some (.slice none 0 0) ∧ wr.cell? ⟨w.heap.size, 4, none⟩ = some (.slice none 0 0)) ∧
     (wr.frozen? ⟨w.heap.size, 0, none⟩ = false ∧ wr.frozen? ⟨w.heap.size, 1, none⟩ = false ∧ wr.frozen? ⟨w.heap.size, 2, none⟩ = false ∧ wr.frozen? ⟨w.heap.size, 3, none⟩ = false ∧ wr.frozen? ⟨w.heap.size, 4, none⟩ = false)) ∧ w.heap.size < wr.heap.size ∧
    GenT w T W (.returned (.agg #[.int .i64 W, .slice (some ⟨g1, 0, none⟩) (Bs.nw W) (Bs.nw W), .int .i64 W, .slice (some ⟨g2, 0, none⟩) (Bs.nw W) (Bs.nw W), .slice C cs.length q]))
      (((((wr.setCell ⟨w.heap.size, 0, none⟩ (.int .i64 W)).setCell ⟨w.heap.size, 1, none⟩ (.slice (some ⟨g1, 0, none⟩) (Bs.nw W) (Bs.nw W))).setCell ⟨w.heap.size, 2, none⟩ (.int .i64 W)).setCell ⟨w.heap.size, 3, none⟩ (.slice (some ⟨g2, 0, none⟩) (Bs.nw W) (Bs.nw W))).setCell ⟨w.heap.size, 4, none⟩ (.slice C cs.length q)) := by
  obtain ⟨g1, g2, gs, ks, C, q, h1, ⟨h2, h3, h4⟩, ⟨h5, h6, h7⟩, h8, h9, h10, h11, h12', h13⟩ := h
  refine ⟨g1, g2, C, q, h1.five, ⟨h9.five, h9.frozen 0, h9.frozen 1, h9.frozen 2, h9.frozen 3, h9.frozen 4⟩, h9.lt, ?_⟩
  have n1 := h9.row_ne (by decide) h2
  have n2 := h9.row_ne (by decide) h5
  have r1 : ∀ {wx : World} (j : Nat) (u : Value), Row wx g1 gs → Row (wx.setCell ⟨w.heap.size, j, none⟩ u) g1 gs := fun j u h => h.far n1 u
  have r2 : ∀ {wx : World} (j : Nat) (u : Value), Row wx g2 ks → Row (wx.setCell ⟨w.heap.size, j, none⟩ u) g2 ks := fun j u h => h.far n2 u
  have kc : ∀ {wx : World} (j : Nat) (u : Value), Cops wx (b + 1) (.slice C cs.length q) cs → Cops (wx.setCell ⟨w.heap.size, j, none⟩ u) (b + 1) (.slice C cs.length q) cs := fun {wx} j u hx =>
    World.ownsRow.kept hx (setCell_grown wx _ u) (by
      cases hv : (Value.slice C cs.length q).ownBlock with
      | none => exact .inl rfl
      | some k => exact .inr (by have := own_base hx k hv; simp only [ne_eq, Option.some.injEq]; omega))
  have kt : ∀ {wx : World} (j : Nat) (u : Value), Tape wx T → Tape (wx.setCell ⟨w.heap.size, j, none⟩ u) T := fun j u h => h.far (by simp; omega) u
  have kg : ∀ {wx : World} (j : Nat) (u : Value), w.grownBy wx (some T) → w.grownBy (wx.setCell ⟨w.heap.size, j, none⟩ u) (some T) := fun j u h => grown_set_new h (by simp) u
  have e1 := r1 4 (.slice C cs.length q) (r1 3 (.slice (some ⟨g2, 0, none⟩) (Bs.nw W) (Bs.nw W)) (r1 2 (.int .i64 W) (r1 1 (.slice (some ⟨g1, 0, none⟩) (Bs.nw W) (Bs.nw W)) (r1 0 (.int .i64 W) h2))))
  have e2 := r2 4 (.slice C cs.length q) (r2 3 (.slice (some ⟨g2, 0, none⟩) (Bs.nw W) (Bs.nw W)) (r2 2 (.int .i64 W) (r2 1 (.slice (some ⟨g1, 0, none⟩) (Bs.nw W) (Bs.nw W)) (r2 0 (.int .i64 W) h5))))
  have e3 := kc 4 (.slice C cs.length q) (kc 3 (.slice (some ⟨g2, 0, none⟩) (Bs.nw W) (Bs.nw W)) (kc 2 (.int .i64 W) (kc 1 (.slice (some ⟨g1, 0, none⟩) (Bs.nw W) (Bs.nw W)) (kc 0 (.int .i64 W) h8))))
  refine ⟨_, _, _, _, _, _, C, cs.length, q, gs, ks, cs, rfl, ⟨(e1.arg h3.ok).lies, h3.len, h3.ok⟩, ⟨(e2.arg h6.ok).lies, h6.len, h6.ok⟩, ⟨own_at e3, rfl⟩, ?_, h12, kt _ _ (kt _ _ (kt _ _ (kt _ _ (kt _ _ h11)))), kg _ _ (kg _ _ (kg _ _ (kg _ _ (kg _ _ h13))))⟩
  unfold validT
  rw [Bs.valid_of_fit h3 hW, Bs.valid_of_fit h6 hW]
  simp only [decide_true, Bool.true_and, Bool.and_eq_true, decide_eq_true_eq, List.all_eq_true, List.mem_range]
  exact ⟨by omega, hu.1⟩

set_option maxHeartbeats 1600000 in
theorem transfer_any (T W : Nat) (w : World) (ht : Tape w T) (hW : W ≤ 16) : Calls Try.prog 29 #[.pointer (some ⟨T, 0, none⟩), .int .i64 W] w (GenT w T W) := by
  obtain ⟨i0, hi, hz0, hz1, hz2⟩ := info_parts info35
  have Hi := hid hi; have Hz0 := hid hz0; have Hz1 := hid hz1; have Hz2 := hid hz2
  have Ht := hid ht
  have hTl := ht.lt
  have HR := hid (Fb.new w #[.int .i64 0, .slice none 0 0, .int .i64 0, .slice none 0 0, .slice none 0 0] 61)
  have HB := hid ((Below.refl w.heap.size w).alloc (Nat.le_refl _) (.cells #[.int .i64 0, .slice none 0 0, .int .i64 0, .slice none 0 0, .slice none 0 0] 61))
  clear ht hi hz0 hz1 hz2
  go_enter Try.func29, Try.ntmps29
  go_wp2_with fail
  refine (refEmpty_any W _ (by omega)).mono ?_
  rintro e w2 ⟨g1, rfl, hg1, hrow1, hb2⟩
  rw [len_emp]
  rw [World.size_alloc] at hg1
  have HR2 := hid (HR.out.below hb2 (by simp))
  have HB2 := hid (HB.out.trans (hb2.mono (by simp)))
  have Hr1 := hid hrow1
  clear hrow1 hb2 HR HB
  go_wp2_with fail
  refine (refEmpty_any W _ (by omega)).mono ?_
  rintro e w3 ⟨g2, rfl, hg2, hrow2, hb3⟩
  rw [len_emp]
  have hlt2 := HR2.out.lt
  have HR3 := hid (HR2.out.below hb3 HR2.out.lt)
  have HB3 := hid (HB2.out.trans (hb3.mono HB2.out.size))
  have Hr3 := hid (Hr1.out.below hb3 Hr1.out.lt)
  have Hr2 := hid hrow2
  have hlt3 := HR3.out.lt
  clear hrow2 hb3 HR2 HB2 Hr1
  have Hst := hid (show Gening w T w3.heap.size W [] (w3.alloc (.cells #[.int .i64 W, .slice (some ⟨g1, 0, none⟩) (Bs.nw W) (Bs.nw W), .int .i64 W, .slice (some ⟨g2, 0, none⟩) (Bs.nw W) (Bs.nw W), .slice none 0 0] 61)) from
    ⟨g1, g2, Bs.emp W, Bs.emp W, none, 0, Fb.new _ _ _, ⟨Hr3.out.alloc _, Bs.fit_emp W, by omega⟩, ⟨Hr2.out.alloc _, Bs.fit_emp W, by omega⟩, World.ownsRow_nil _ _ _ _, HR3.out.alloc _, hlt3, (Ht.out.below HB3.out hTl).alloc _, hTl, grown_of_below (HB3.out.alloc HB3.out.size _) _⟩)
  go_wp2_with fail
  generalize w3.alloc (.cells #[.int .i64 W, .slice (some ⟨g1, 0, none⟩) (Bs.nw W) (Bs.nw W), .int .i64 W, .slice (some ⟨g2, 0, none⟩) (Bs.nw W) (Bs.nw W), .slice none 0 0] 61) = wv at *
  generalize w3.heap.size = b at *
  clear HR3 HB3 Hr3 Hr2
  go_loopw [6] (fun i wr => ∃ k : Nat, k ≤ W ∧ i = .int .i64 k ∧ Hid (Gening w T b W [] wr)) (fun i _ => W - (intOf i).toNat)
  case atStart => exact ⟨0, by omega, rfl, Hst⟩
  case round =>
    obtain ⟨k, hk, rfl, hG⟩ := hrel
    clear Hst
    by_cases hlt : k < W
    · have Htt := hid (show Tape wr T from by obtain ⟨_, _, _, _, _, _, _, _, _, _, _, _, h, _⟩ := hG.out; exact h)
      go_wp2_with fail
      refine (next_any T 6 _ Htt.out (by omega)).mono ?_
      rintro e w4 ⟨r4, rfl, h40, h41, ht4, hg4, hs4⟩
      have HG4 := hid (hG.out.tape ht4 hg4)
      clear h41 ht4 hg4 hs4 Htt hG
      by_cases h1 : r4 = 1
      · have t : (r4 == 1) = true := by simp [h1]
        obtain ⟨x1, x2, gs, ks, C, q, p1, ⟨p2, p3, p4⟩, ⟨p5, p6, p7⟩, p8⟩ := HG4.out
        obtain ⟨c0, c1, c2, c3, c4⟩ := p1.five
        have Ha := hid (show Arg w4 (some ⟨x1, 0, none⟩) (Bs.nw W) gs from ⟨(p2.arg p3.ok).lies, p3.len, p3.ok⟩)
        have Hf := hid p3
        clear h1 p1 p2 p3 p5 p6 p8 p4 p7
        go_wp2_with fail
        refine (refPut_any W _ _ _ gs k _ Ha.out (by omega) Hf.out.len hlt).mono ?_
        rintro e w5 ⟨g5, rfl, hg5, hr5, hb5⟩
        rw [show (Bs.put gs k).length = Bs.nw W from by rw [Bs.length_put]; exact Hf.out.len]
        obtain ⟨⟨v0, v1, m0, m1, f0, f1⟩, hfin⟩ := HG4.out.gen (Bs.fit_put Hf.out hlt) hg5 hr5 hb5
        have Hfin := hid hfin
        clear hfin hr5 hb5 c0 c1 c2 c3 c4
        go_wp2_with fail
        go_roundw
        case rel => exact ⟨k + 1, by omega, by go_num, Hfin⟩
        case measure => simp [intOf]; omega
      · have t : (r4 == 1) = false := by simp [h1]
        clear h1
        have hthree : (r4 = 2) ∨ (r4 ≠ 2 ∧ r4 = 3) ∨ (r4 ≠ 2 ∧ r4 ≠ 3) := by omega
        rcases hthree with h2 | ⟨h2, h3⟩ | ⟨h2, h3⟩
        · have t2 : (r4 == 2) = true := by simp [h2]
          obtain ⟨x1, x2, gs, ks, C, q, p1, ⟨p2, p3, p4⟩, ⟨p5, p6, p7⟩, p8⟩ := HG4.out
          obtain ⟨c0, c1, c2, c3, c4⟩ := p1.five
          have Ha := hid (show Arg w4 (some ⟨x2, 0, none⟩) (Bs.nw W) ks from ⟨(p5.arg p6.ok).lies, p6.len, p6.ok⟩)
          have Hf := hid p6
          clear h2 p1 p2 p3 p5 p6 p8 p4 p7
          go_wp2_with fail
          refine (refPut_any W _ _ _ ks k _ Ha.out (by omega) Hf.out.len hlt).mono ?_
          rintro e w5 ⟨g5, rfl, hg5, hr5, hb5⟩
          rw [show (Bs.put ks k).length = Bs.nw W from by rw [Bs.length_put]; exact Hf.out.len]
          obtain ⟨⟨v0, v1, m0, m1, f0, f1⟩, hfin⟩ := HG4.out.kill (Bs.fit_put Hf.out hlt) hg5 hr5 hb5
          have Hfin := hid hfin
          clear hfin hr5 hb5 c0 c1 c2 c3 c4
          go_wp2_with fail
          go_roundw
          case rel => exact ⟨k + 1, by omega, by go_num, Hfin⟩
          case measure => simp [intOf]; omega
        · have t2 : (r4 == 2) = false := by simp [h2]
          have t3 : (r4 == 3) = true := by simp [h3]
          obtain ⟨x1, x2, gs, ks, C, q, p1, ⟨p2, p3, p4⟩, ⟨p5, p6, p7⟩, p8⟩ := HG4.out
          obtain ⟨c0, c1, c2, c3, c4⟩ := p1.five
          have Ha := hid (show Arg w4 (some ⟨x2, 0, none⟩) (Bs.nw W) ks from ⟨(p5.arg p6.ok).lies, p6.len, p6.ok⟩)
          have Hf := hid p6
          clear h2 h3 p1 p2 p3 p5 p6 p8 p4 p7
          go_wp2_with fail
          refine (refPut_any W _ _ _ ks k _ Ha.out (by omega) Hf.out.len hlt).mono ?_
          rintro e w5 ⟨g5, rfl, hg5, hr5, hb5⟩
          rw [show (Bs.put ks k).length = Bs.nw W from by rw [Bs.length_put]; exact Hf.out.len]
          obtain ⟨⟨v0, v1, m0, m1, f0, f1⟩, hfin⟩ := HG4.out.kill (Bs.fit_put Hf.out hlt) hg5 hr5 hb5
          have Hfin := hid hfin
          clear hfin hr5 hb5 c0 c1 c2 c3 c4
          go_wp2_with fail
          go_roundw
          case rel => exact ⟨k + 1, by omega, by go_num, Hfin⟩
          case measure => simp [intOf]; omega
        · have t2 : (r4 == 2) = false := by simp [h2]
          have t3 : (r4 == 3) = false := by simp [h3]
          clear h2 h3
          go_wp2_with fail
          go_roundw
          case rel => exact ⟨k + 1, by omega, by go_num, HG4⟩
          case measure => simp [intOf]; omega
    · have hkW : W = k := by omega
      subst hkW
      clear hk
      go_wp2_with fail
      go_loopw [7, 8] (fun i _ wr => ∃ a : Nat, a ≤ W ∧ i = .int .i64 a ∧ Hid (∃ cs : List (Int × Int), Gening w T b W cs wr ∧ Upto W cs a 0 ∧ cs.length ≤ 12)) (fun i _ _ => W - (intOf i).toNat)
      case atStart => exact ⟨0, by omega, rfl, [], hG.out, ⟨fun i hi => by simp at hi, fun p hp => by simp at hp⟩, by simp⟩
      case round =>
        clear hG
        obtain ⟨a, ha, rfl, hG⟩ := hrel
        by_cases hla : a < W
        · go_wp2_with fail
          go_loopw [8] (fun i wr => ∃ c : Nat, c ≤ W ∧ i = .int .i64 c ∧ Hid (∃ cs : List (Int × Int), Gening w T b W cs wr ∧ Upto W cs a c ∧ cs.length ≤ 12)) (fun i _ => W - (intOf i).toNat)
          case atStart => exact ⟨0, by omega, rfl, hG⟩
          case round =>
            clear hG
            obtain ⟨c, hc, rfl, hG⟩ := hrel
            by_cases hlc : c < W
            · obtain ⟨cs, hG1, hU, h12⟩ := hG.out
              obtain ⟨C, q, c4, f4, hC, hbl, hpush⟩ := hG1.slice
              have Htt := hid (show Tape wr T from by obtain ⟨_, _, _, _, _, _, _, _, _, _, _, _, h, _⟩ := hG1; exact h)
              have HG1 := hid hG1; have HU := hid hU
              clear hG1 hU hG hC hpush f4
              by_cases hl : cs.length < 12
              · go_wp2_with fail
                refine (next_any T (2 * (W : Int)) _ Htt.out (by omega)).mono ?_
                rintro e w4 ⟨r4, rfl, h40, h41, ht4, hg4, hs4⟩
                have HG4 := hid (HG1.out.tape ht4 hg4)
                clear h41 ht4 hg4 hs4 Htt HG1 c4
                by_cases h1 : r4 = 1
                · have t : (r4 == 1) = true := by simp [h1]
                  clear h1
                  obtain ⟨C, q, c4, f4, hC, hbl4, hpush⟩ := HG4.out.slice
                  have HC := hid hC; have Hpush := hid hpush
                  clear hC hpush
                  go_wp2_with (first
                    | (at_builtin
                       refine wpList_append_own _ rfl _ _ 59 rfl (b + 1) 89 i0 _ 2 16 Try.underlying59 Hi.out Hz0.out Hz1.out Hz2.out rfl (by decide) (.slice C cs.length q) cs.length (pairs cs) rfl (HC.out.alloc _) ⟨w4.heap.size, 0, none⟩ 1 1 [.int .i64 (a : Int), .int .i64 (c : Int)] rfl rfl (two_new _ _ _ _) (by intro u hu; simp at hu; rcases hu with rfl | rfl <;> rfl) (by unfold maxLen; omega) (by omega) (by rw [World.size_alloc]; omega) ?_
                       intro v' w3 hown3 hgr3 hnil3
                       obtain ⟨C3, q3, rfl, ⟨y0, y1⟩, hK3⟩ := Hpush.out _ _ _ _ _ hown3 hgr3
                       have HK3 := hid hK3
                       clear hown3 hgr3 hnil3 hK3))
                  go_roundw
                  case rel => exact ⟨c + 1, by omega, by go_num, _, HK3.out, HU.out.push hla hlc, by rw [List.length_append, List.length_singleton]; omega⟩
                  case measure => simp [intOf]; omega
                · have t : (r4 == 1) = false := by simp [h1]
                  clear h1
                  go_wp2_with fail
                  go_roundw
                  case rel => exact ⟨c + 1, by omega, by go_num, cs, HG4.out, HU.out.step, h12⟩
                  case measure => simp [intOf]; omega
              · go_wp2_with fail
                go_roundw
                case rel => exact ⟨a + 1, by omega, by go_num, cs, HG1.out, (show Upto W cs ((a + 1 : Nat) : Int) 0 from by have := HU.out.row; exact this), h12⟩
                case measure => simp [intOf]; omega
            · obtain ⟨cs, hG1, hU, h12⟩ := hG.out
              have HG1 := hid hG1; have HU := hid hU
              clear hG1 hU hG
              go_wp2_with fail
              go_roundw
              case rel => exact ⟨a + 1, by omega, by go_num, cs, HG1.out, (show Upto W cs ((a + 1 : Nat) : Int) 0 from by have := HU.out.row; exact this), h12⟩
              case measure => simp [intOf]; omega
        · have haW : W = a := by omega
          subst haW
          obtain ⟨cs, hG1, hU, h12⟩ := hG.out
          obtain ⟨g1', g2', C, q, ⟨c0, c1, c2, c3, c4⟩, ⟨⟨r0, r1, r2, r3, r4⟩, f0, f1, f2, f3, f4⟩, hlR, hfin⟩ := hG1.done (by omega) hU h12
          have Hfin := hid hfin
          clear hfin hG1 hU h12 hG
          go_wp2_with fail
          refine bodyPost_ret (v := .agg #[.int .i64 W, .slice (some ⟨g1', 0, none⟩) (Bs.nw W) (Bs.nw W), .int .i64 W, .slice (some ⟨g2', 0, none⟩) (Bs.nw W) (Bs.nw W), .slice C cs.length q]) (by simp [results, Try.results29, go_sem, r0, r1, r2, r3, r4]) rfl ?_
          exact Hfin.out
end Go.Proofs.Ytopkmeceakjocaa
