/- Texts that the proof leans on, merged. -/
import Derived.Test.YtadkjnjibefocaaCa
import Derived.Test.YtadkjnjibefocaaTap
import Derived.Test.YtadkjnjibefocaaFar
import Derived.Test.YtadkjnjibefocaaOpen
import Derived.Deep.Slices
import Derived.Deep.Fields
import Derived.ChangeSame
import Derived.Test.YtadkjnjibefocaaSym
namespace Go.Proofs.Ytadkjnjibefocaa
set_option maxRecDepth 20000
open Go.ChangeShapes Go.WideShapes Go.ChangeAt Go.RowKit

/-- A small width came back; nothing but the tape has changed. -/
def GenW (w : World) (T : Nat) (e : Ending) (w' : World) : Prop :=
  ∃ v : Nat, e = .returned (.int .i64 v) ∧ v ≤ 8 ∧ Tape w' T ∧ w.grownBy w' (some T)
theorem pick7 (r : Int) (h0 : 0 ≤ r) (h1 : r < 7 ∨ r = 0) (w w1 : World) {T : Nat} (hg : (w.alloc (Obj.cells #[Value.int IntKind.i64 3, Value.int IntKind.i64 1, Value.int IntKind.i64 4, Value.int IntKind.i64 2, Value.int IntKind.i64 6, Value.int IntKind.i64 0, Value.int IntKind.i64 8] 3)).grownBy w1 (some T)) (hT : w.heap.size ≠ T) :
    ∃ v : Nat, v ≤ 8 ∧ w1.cell? ⟨w.heap.size, r.toNat, none⟩ = some (.int .i64 v) := by
  obtain ⟨k, rfl⟩ := Int.eq_ofNat_of_zero_le h0
  have hh := heap_alloc_new w (Obj.cells #[Value.int IntKind.i64 3, Value.int IntKind.i64 1, Value.int IntKind.i64 4, Value.int IntKind.i64 2, Value.int IntKind.i64 6, Value.int IntKind.i64 0, Value.int IntKind.i64 8] 3)
  have hblk := hg.block w.heap.size (by rw [World.size_alloc]; omega) (by simpa using hT)
  rw [hh] at hblk
  have hk : k < 7 := by omega
  have : k = 0 ∨ k = 1 ∨ k = 2 ∨ k = 3 ∨ k = 4 ∨ k = 5 ∨ k = 6 := by omega
  rcases this with rfl | rfl | rfl | rfl | rfl | rfl | rfl
  · exact ⟨3, by omega, by simp [World.cell?, hblk]⟩
  · exact ⟨1, by omega, by simp [World.cell?, hblk]⟩
  · exact ⟨4, by omega, by simp [World.cell?, hblk]⟩
  · exact ⟨2, by omega, by simp [World.cell?, hblk]⟩
  · exact ⟨6, by omega, by simp [World.cell?, hblk]⟩
  · exact ⟨0, by omega, by simp [World.cell?, hblk]⟩
  · exact ⟨8, by omega, by simp [World.cell?, hblk]⟩

theorem width_any (T : Nat) (w : World) (ht : Tape w T) : Calls Try.prog 13 #[.pointer (some ⟨T, 0, none⟩)] w (GenW w T) := by
  have Ht := hid ht
  have hTl := ht.lt
  clear ht
  go_enter Try.func13, Try.ntmps13
  go_wp2_with fail
  refine (next_any T 7 _ (Ht.out.alloc _) (by omega)).mono ?_
  rintro e w4 ⟨r, rfl, h0, h1, ht4, hg4, hs4⟩
  obtain ⟨v, hv, hc⟩ := pick7 r h0 h1 w w4 hg4 (by omega)
  have h2 : r < 7 := by omega
  have Hs := hid hs4
  have Hg := hid (grown_trans (grown_of_below ((Below.refl w.heap.size w).alloc (Nat.le_refl _) _) (some T)) hg4)
  have Ht4 := hid ht4
  clear hg4 ht4 hs4 h1
  go_wp2
  go_ret
  exact ⟨v, rfl, hv, Ht4.out, Hg.out⟩

/-- A valid function of width W came back; nothing but the tape has changed. -/
def GenT (w : World) (T W : Nat) (e : Ending) (w' : World) : Prop :=
  ∃ (A : Option Addr) (n c : Nat) (B : Option Addr) (m d : Nat) (C : Option Addr) (k q : Nat) (gs ks : List Nat) (cs : List (Int × Int)),
    e = .returned (.agg #[.int .i64 W, .slice A n c, .int .i64 W, .slice B m d, .slice C k q]) ∧ Arg w' A n gs ∧ Arg w' B m ks ∧ ArgC w' C k cs ∧ validT W gs W ks cs = true ∧ cs.length ≤ 12 ∧ Tape w' T ∧ w.grownBy w' (some T)

/-- The copies that were made so far: in order, and each before (a, b). -/
def Upto (W : Nat) (cs : List (Int × Int)) (a b : Int) : Prop := (∀ i, i < cs.length → okAt W cs i = true) ∧ ∀ p ∈ cs, beforeB p (a, b) = true
theorem Upto.step {W : Nat} {cs : List (Int × Int)} {a b : Int} (h : Upto W cs a b) : Upto W cs a (b + 1) :=
  ⟨h.1, fun p hp => by have := h.2 p hp; unfold beforeB at *; simp at *; omega⟩
theorem Upto.row {W : Nat} {cs : List (Int × Int)} {a b : Int} (h : Upto W cs a b) : Upto W cs (a + 1) 0 :=
  ⟨h.1, fun p hp => by have := h.2 p hp; unfold beforeB at *; simp at *; omega⟩
theorem Upto.push {W : Nat} {cs : List (Int × Int)} {a b : Nat} (h : Upto W cs a b) (ha : a < W) (hb : b < W) : Upto W (cs ++ [((a : Int), (b : Int))]) a (b + 1) := by
  have g1 : ∀ i, i < cs.length → (cs ++ [((a : Int), (b : Int))]).getD i (0, 0) = cs.getD i (0, 0) := fun i hi => by
    rw [List.getD_eq_getElem?_getD, List.getD_eq_getElem?_getD, List.getElem?_append_left hi]
  refine ⟨fun i hi => ?_, fun p hp => ?_⟩
  · rw [List.length_append, List.length_singleton] at hi
    by_cases e : i < cs.length
    · have := h.1 i e
      unfold okAt at this ⊢
      rw [g1 i e, g1 (i - 1) (by omega)]; exact this
    · have e : i = cs.length := by omega
      subst e
      unfold okAt
      have g2 : (cs ++ [((a : Int), (b : Int))]).getD cs.length (0, 0) = ((a : Int), (b : Int)) := by
        rw [List.getD_eq_getElem?_getD, List.getElem?_append_right (Nat.le_refl _)]; simp
      rw [g2]
      have hin : inW W ((a : Int), (b : Int)) = true := by unfold inW; simp; omega
      rw [hin, Bool.true_and]
      by_cases h0 : cs.length = 0
      · simp [h0]
      · rw [g1 (cs.length - 1) (by omega)]
        have hm : cs.getD (cs.length - 1) (0, 0) ∈ cs := by
          rw [List.getD_eq_getElem?_getD, List.getElem?_eq_getElem (by omega), Option.getD_some]; exact List.getElem_mem _
        rw [h.2 _ hm]; simp
  · rcases List.mem_append.1 hp with h1 | h1
    · exact (h.step).2 p h1
    · simp at h1; subst h1; unfold beforeB; simp; omega

/-- While the function is made: the variable f lies in block b. -/
def Gening (w : World) (T b W : Nat) (cs : List (Int × Int)) (wr : World) : Prop :=
  ∃ (g1 g2 : Nat) (gs ks : List Nat) (C : Option Addr) (q : Nat), Fb wr b #[.int .i64 W, .slice (some ⟨g1, 0, none⟩) (Bs.nw W) (Bs.nw W), .int .i64 W, .slice (some ⟨g2, 0, none⟩) (Bs.nw W) (Bs.nw W), .slice C cs.length q] 51 ∧
    (Row wr g1 gs ∧ Bs.Fit W gs ∧ w.heap.size ≤ g1) ∧ (Row wr g2 ks ∧ Bs.Fit W ks ∧ w.heap.size ≤ g2) ∧ Cops wr (b + 1) (.slice C cs.length q) cs ∧
    Fb wr w.heap.size #[.int .i64 0, .slice none 0 0, .int .i64 0, .slice none 0 0, .slice none 0 0] 51 ∧ w.heap.size < b ∧ Tape wr T ∧ T < w.heap.size ∧ w.grownBy wr (some T)
section
variable {w wr w' : World} {T b W : Nat} {cs : List (Int × Int)}
theorem Gening.tape (h : Gening w T b W cs wr) (ht : Tape w' T) (hg : wr.grownBy w' (some T)) : Gening w T b W cs w' := by
  obtain ⟨g1, g2, gs, ks, C, q, h1, ⟨h2, h3, h4⟩, ⟨h5, h6, h7⟩, h8, h9, h10, h11, h12, h13⟩ := h
  refine ⟨g1, g2, gs, ks, C, q, h1.grown hg (by simp; omega), ⟨(hg.block g1 h2.lt (by simp; omega)).trans h2, h3, h4⟩, ⟨(hg.block g2 h5.lt (by simp; omega)).trans h5, h6, h7⟩, ?_, h9.grown hg (by simp; omega), h10, ht, h12, grown_trans h13 hg⟩
  exact World.ownsRow.kept h8 hg (by
    cases hv : (Value.slice C cs.length q).ownBlock with
    | none => exact .inl rfl
    | some k => exact .inr (by have := own_base h8 k hv; simp only [ne_eq, Option.some.injEq]; omega))
theorem Cops.setT {wx : World} {C : Option Addr} {q : Nat} (hx : Cops wx (b + 1) (.slice C cs.length q) cs) (j : Nat) (u : Value) : Cops (wx.setCell ⟨b, j, none⟩ u) (b + 1) (.slice C cs.length q) cs :=
  World.ownsRow.kept hx (setCell_grown wx _ u) (by
    cases hv : (Value.slice C cs.length q).ownBlock with
    | none => exact .inl rfl
    | some k => exact .inr (by have := own_base hx k hv; simp only [ne_eq, Option.some.injEq]; omega))
/-- A set is stored into the variable: its width and its words at place j. -/
theorem Gening.gen {g5 : Nat} {zs : List Nat} (h : Gening w T b W cs wr) (hf : Bs.Fit W zs) (hg : wr.heap.size ≤ g5) (hr : Row w' g5 zs) (hb : Below wr.heap.size wr w') :
    (∃ (v0 v1 : Value), w'.cell? ⟨b, 0, none⟩ = some v0 ∧ w'.cell? ⟨b, 1, none⟩ = some v1 ∧ w'.frozen? ⟨b, 0, none⟩ = false ∧ w'.frozen? ⟨b, 1, none⟩ = false) ∧
    Gening w T b W cs ((w'.setCell ⟨b, 0, none⟩ (.int .i64 W)).setCell ⟨b, 1, none⟩ (.slice (some ⟨g5, 0, none⟩) (Bs.nw W) (Bs.nw W))) := by
  obtain ⟨g1, g2, gs, ks, C, q, h1, ⟨h2, h3, h4⟩, ⟨h5, h6, h7⟩, h8, h9, h10, h11, h12, h13⟩ := h
  have e1 := h1.below hb h1.lt
  have e5 := h5.below hb h5.lt
  have hz := h13.size
  refine ⟨⟨_, _, e1.cell 0, e1.cell 1, e1.frozen 0, e1.frozen 1⟩, g5, g2, zs, ks, C, q, (e1.set 0 _).set 1 _, ⟨(hr.far (e1.row_ne (by decide) hr) _).far (e1.row_ne (by decide) hr) _, hf, by omega⟩,
    ⟨(e5.far (e1.row_ne (by decide) e5) _).far (e1.row_ne (by decide) e5) _, h6, h7⟩, Cops.setT (Cops.setT (own_below h8 hb) 0 _) 1 _, ((h9.below hb h9.lt).far (by simp; omega) _).far (by simp; omega) _, h10,
    ((h11.below hb (by omega)).far (by simp; omega) _).far (by simp; omega) _, h12, ?_⟩
  exact grown_set_new (grown_set_new (grown_trans h13 (grown_of_below hb _)) (by simp; omega) _) (by simp; omega) _
theorem Gening.kill {g5 : Nat} {zs : List Nat} (h : Gening w T b W cs wr) (hf : Bs.Fit W zs) (hg : wr.heap.size ≤ g5) (hr : Row w' g5 zs) (hb : Below wr.heap.size wr w') :
    (∃ (v0 v1 : Value), w'.cell? ⟨b, 2, none⟩ = some v0 ∧ w'.cell? ⟨b, 3, none⟩ = some v1 ∧ w'.frozen? ⟨b, 2, none⟩ = false ∧ w'.frozen? ⟨b, 3, none⟩ = false) ∧
    Gening w T b W cs ((w'.setCell ⟨b, 2, none⟩ (.int .i64 W)).setCell ⟨b, 3, none⟩ (.slice (some ⟨g5, 0, none⟩) (Bs.nw W) (Bs.nw W))) := by
  obtain ⟨g1, g2, gs, ks, C, q, h1, ⟨h2, h3, h4⟩, ⟨h5, h6, h7⟩, h8, h9, h10, h11, h12, h13⟩ := h
  have e1 := h1.below hb h1.lt
  have e2 := h2.below hb h2.lt
  have hz := h13.size
  refine ⟨⟨_, _, e1.cell 2, e1.cell 3, e1.frozen 2, e1.frozen 3⟩, g1, g5, gs, zs, C, q, (e1.set 2 _).set 3 _, ⟨(e2.far (e1.row_ne (by decide) e2) _).far (e1.row_ne (by decide) e2) _, h3, h4⟩,
    ⟨(hr.far (e1.row_ne (by decide) hr) _).far (e1.row_ne (by decide) hr) _, hf, by omega⟩, Cops.setT (Cops.setT (own_below h8 hb) 2 _) 3 _, ((h9.below hb h9.lt).far (by simp; omega) _).far (by simp; omega) _, h10,
    ((h11.below hb (by omega)).far (by simp; omega) _).far (by simp; omega) _, h12, ?_⟩
  exact grown_set_new (grown_set_new (grown_trans h13 (grown_of_below hb _)) (by simp; omega) _) (by simp; omega) _
/-- The copies' slice. -/
theorem Gening.slice (h : Gening w T b W cs wr) : ∃ (C : Option Addr) (q : Nat), wr.cell? ⟨b, 4, none⟩ = some (.slice C cs.length q) ∧ wr.frozen? ⟨b, 4, none⟩ = false ∧ Cops wr (b + 1) (.slice C cs.length q) cs ∧ b < wr.heap.size ∧
    ∀ (o : Obj) (w' : World) (v' : Value) (x y : Int), w'.ownsRow (b + 1) 62 2 v' (cs.length + 1) (pairs cs ++ [.int .i64 x, .int .i64 y]) → (wr.alloc o).grownBy w' (Value.slice C cs.length q).ownBlock →
      ∃ (C' : Option Addr) (q' : Nat), v' = .slice C' (cs.length + 1) q' ∧ (w'.cell? ⟨b, 4, none⟩ = some (.slice C cs.length q) ∧ w'.frozen? ⟨b, 4, none⟩ = false) ∧
        Gening w T b W (cs ++ [(x, y)]) (w'.setCell ⟨b, 4, none⟩ (.slice C' (cs.length + 1) q')) := by
  obtain ⟨g1, g2, gs, ks, C, q, h1, ⟨h2, h3, h4⟩, ⟨h5, h6, h7⟩, h8, h9, h10, h11, h12, h13⟩ := h
  refine ⟨C, q, h1.cell 4, h1.frozen 4, h8, h1.lt, fun o w' v' x y ho hg => ?_⟩
  obtain ⟨C', q', rfl⟩ : ∃ (C' : Option Addr) (q' : Nat), v' = .slice C' (cs.length + 1) q' := by
    rcases ho.2 with ⟨_, h0⟩ | ⟨g, cap, cur, rfl, _⟩
    · omega
    · exact ⟨_, cap, rfl⟩
  have e1 := (h1.alloc o).grown hg (own_row h8 (by omega))
  have e2 : Row w' g1 gs := (hg.block g1 (h2.alloc o).lt (own_not_row (by decide) (World.ownsRow.alloc h8 o) (h2.alloc o))).trans (h2.alloc o)
  have e5 : Row w' g2 ks := (hg.block g2 (h5.alloc o).lt (own_not_row (by decide) (World.ownsRow.alloc h8 o) (h5.alloc o))).trans (h5.alloc o)
  have e9 := (h9.alloc o).grown hg (own_row h8 (by omega))
  have hz := h13.size
  have hk := own_base h8
  have e11 : Tape w' T := (h11.alloc o).keep fun k hkT => hg.block k (by rw [World.size_alloc]; omega) (by
    cases hv : (Value.slice C cs.length q).ownBlock with
    | none => simp
    | some x => have := hk x hv; simp only [ne_eq, Option.some.injEq]; omega)
  have e13 : w.grownBy w' (some T) := by
    have s1 := grown_trans h13 (grown_of_below ((Below.refl _ _).alloc (Nat.le_refl _) o) (some T))
    refine ⟨hg.os.trans s1.os, hg.tape.trans s1.tape, hg.output.trans s1.output, Nat.le_trans s1.size hg.size, fun i hi hne => (hg.block i (Nat.lt_of_lt_of_le hi s1.size) ?_).trans (s1.block i hi hne)⟩
    cases hv : (Value.slice C cs.length q).ownBlock with
    | none => simp
    | some x => have := hk x hv; simp only [ne_eq, Option.some.injEq]; omega
  refine ⟨C', q', rfl, ⟨e1.cell 4, e1.frozen 4⟩, g1, g2, gs, ks, C', q', ?_, ⟨e2.far (e1.row_ne (by decide) e2) _, h3, h4⟩, ⟨e5.far (e1.row_ne (by decide) e5) _, h6, h7⟩, ?_, e9.far (by simp; omega) _, h10, e11.far (by simp; omega) _, h12, grown_set_new e13 (by simp; omega) _⟩
  · have := e1.set 4 (.slice C' (cs.length + 1) q')
    simpa using this
  · unfold Cops
    rw [pairs_snoc, List.length_append]
    have hk' := own_base ho
    exact World.ownsRow.kept ho (setCell_grown w' _ _) (by
      cases hv : (Value.slice C' (cs.length + 1) q').ownBlock with
      | none => exact .inl rfl
      | some k => exact .inr (by have := hk' k hv; simp only [ne_eq, Option.some.injEq]; omega))
end
/-- The whole variable is stored into the result's cell. -/
theorem Gening.done {w wr : World} {T b W : Nat} {cs : List (Int × Int)} (h : Gening w T b W cs wr) (hW : W ≤ 256) (hu : Upto W cs W 0) (h12 : cs.length ≤ 12) :
    ∃ (g1 g2 : Nat) (C : Option Addr) (q : Nat), (wr.cell? ⟨b, 0, none⟩ = some (.int .i64 W) ∧ wr.cell? ⟨b, 1, none⟩ = some (.slice (some ⟨g1, 0, none⟩) (Bs.nw W) (Bs.nw W)) ∧ wr.cell? ⟨b, 2, none⟩ = some (.int .i64 W) ∧ wr.cell? ⟨b, 3, none⟩ = some (.slice (some ⟨g2, 0, none⟩) (Bs.nw W) (Bs.nw W)) ∧ wr.cell? ⟨b, 4, none⟩ = some (.slice C cs.length q)) ∧
    ((wr.cell? ⟨w.heap.size, 0, none⟩ = some (.int .i64 0) ∧ wr.cell? ⟨w.heap.size, 1, none⟩ = some (.slice none 0 0) ∧ wr.cell? ⟨w.heap.size, 2, none⟩ = some (.int .i64 0) ∧ wr.cell? ⟨w.heap.size, 3, none⟩ = some (.slice none 0 0) ∧ wr.cell? ⟨w.heap.size, 4, none⟩ = some (.slice none 0 0)) ∧
     (wr.frozen? ⟨w.heap.size, 0, none⟩ = false ∧ wr.frozen? ⟨w.heap.size, 1, none⟩ = false ∧ wr.frozen? ⟨w.heap.size, 2, none⟩ = false ∧ wr.frozen? ⟨w.heap.size, 3, none⟩ = false ∧ wr.frozen? ⟨w.heap.size, 4, none⟩ = false)) ∧ w.heap.size < wr.heap.size ∧
    GenT w T W (.returned (.agg #[.int .i64 W, .slice (some ⟨g1, 0, none⟩) (Bs.nw W) (Bs.nw W), .int .i64 W, .slice (some ⟨g2, 0, none⟩) (Bs.nw W) (Bs.nw W), .slice C cs.length q]))
      (((((wr.setCell ⟨w.heap.size, 0, none⟩ (.int .i64 W)).setCell ⟨w.heap.size, 1, none⟩ (.slice (some ⟨g1, 0, none⟩) (Bs.nw W) (Bs.nw W))).setCell ⟨w.heap.size, 2, none⟩ (.int .i64 W)).setCell ⟨w.heap.size, 3, none⟩ (.slice (some ⟨g2, 0, none⟩) (Bs.nw W) (Bs.nw W))).setCell ⟨w.heap.size, 4, none⟩ (.slice C cs.length q)) := by
  obtain ⟨g1, g2, gs, ks, C, q, h1, ⟨h2, h3, h4⟩, ⟨h5, h6, h7⟩, h8, h9, h10, h11, h12', h13⟩ := h
  refine ⟨g1, g2, C, q, h1.five, ⟨h9.five, h9.frozen 0, h9.frozen 1, h9.frozen 2, h9.frozen 3, h9.frozen 4⟩, h9.lt, ?_⟩
  have n1 := h9.row_ne (by decide) h2
  have n2 := h9.row_ne (by decide) h5
  have r1 : ∀ {wx : World} (j : Nat) (u : Value), Row wx g1 gs → Row (wx.setCell ⟨w.heap.size, j, none⟩ u) g1 gs := fun j u h => h.far n1 u
  have r2 : ∀ {wx : World} (j : Nat) (u : Value), Row wx g2 ks → Row (wx.setCell ⟨w.heap.size, j, none⟩ u) g2 ks := fun j u h => h.far n2 u
  have kc : ∀ {wx : World} (j : Nat) (u : Value), Cops wx (b + 1) (.slice C cs.length q) cs → Cops (wx.setCell ⟨w.heap.size, j, none⟩ u) (b + 1) (.slice C cs.length q) cs := fun {wx} j u hx =>
    World.ownsRow.kept hx (setCell_grown wx _ u) (by
      cases hv : (Value.slice C cs.length q).ownBlock with
      | none => exact .inl rfl
      | some k => exact .inr (by have := own_base hx k hv; simp only [ne_eq, Option.some.injEq]; omega))
  have kt : ∀ {wx : World} (j : Nat) (u : Value), Tape wx T → Tape (wx.setCell ⟨w.heap.size, j, none⟩ u) T := fun j u h => h.far (by simp; omega) u
  have kg : ∀ {wx : World} (j : Nat) (u : Value), w.grownBy wx (some T) → w.grownBy (wx.setCell ⟨w.heap.size, j, none⟩ u) (some T) := fun j u h => grown_set_new h (by simp) u
  have e1 := r1 4 (.slice C cs.length q) (r1 3 (.slice (some ⟨g2, 0, none⟩) (Bs.nw W) (Bs.nw W)) (r1 2 (.int .i64 W) (r1 1 (.slice (some ⟨g1, 0, none⟩) (Bs.nw W) (Bs.nw W)) (r1 0 (.int .i64 W) h2))))
  have e2 := r2 4 (.slice C cs.length q) (r2 3 (.slice (some ⟨g2, 0, none⟩) (Bs.nw W) (Bs.nw W)) (r2 2 (.int .i64 W) (r2 1 (.slice (some ⟨g1, 0, none⟩) (Bs.nw W) (Bs.nw W)) (r2 0 (.int .i64 W) h5))))
  have e3 := kc 4 (.slice C cs.length q) (kc 3 (.slice (some ⟨g2, 0, none⟩) (Bs.nw W) (Bs.nw W)) (kc 2 (.int .i64 W) (kc 1 (.slice (some ⟨g1, 0, none⟩) (Bs.nw W) (Bs.nw W)) (kc 0 (.int .i64 W) h8))))
  refine ⟨_, _, _, _, _, _, C, cs.length, q, gs, ks, cs, rfl, ⟨(e1.arg h3.ok).lies, h3.len, h3.ok⟩, ⟨(e2.arg h6.ok).lies, h6.len, h6.ok⟩, ⟨own_at e3, rfl⟩, ?_, h12, kt _ _ (kt _ _ (kt _ _ (kt _ _ (kt _ _ h11)))), kg _ _ (kg _ _ (kg _ _ (kg _ _ (kg _ _ h13))))⟩
  unfold validT
  rw [Bs.valid_of_fit h3 hW, Bs.valid_of_fit h6 hW]
  simp only [decide_true, Bool.true_and, Bool.and_eq_true, decide_eq_true_eq, List.all_eq_true, List.mem_range]
  exact ⟨by omega, hu.1⟩

set_option maxHeartbeats 1600000 in
theorem transfer_any (T W : Nat) (w : World) (ht : Tape w T) (hW : W ≤ 16) : Calls Try.prog 17 #[.pointer (some ⟨T, 0, none⟩), .int .i64 W] w (GenT w T W) := by
  obtain ⟨i0, hi, hz0, hz1, hz2⟩ := info_parts info35
  have Hi := hid hi; have Hz0 := hid hz0; have Hz1 := hid hz1; have Hz2 := hid hz2
  have Ht := hid ht
  have hTl := ht.lt
  have HR := hid (Fb.new w #[.int .i64 0, .slice none 0 0, .int .i64 0, .slice none 0 0, .slice none 0 0] 51)
  have HB := hid ((Below.refl w.heap.size w).alloc (Nat.le_refl _) (.cells #[.int .i64 0, .slice none 0 0, .int .i64 0, .slice none 0 0, .slice none 0 0] 51))
  clear ht hi hz0 hz1 hz2
  go_enter Try.func17, Try.ntmps17
  go_wp2_with fail
  refine (refEmpty_any W _ (by omega)).mono ?_
  rintro e w2 ⟨g1, rfl, hg1, hrow1, hb2⟩
  rw [len_emp]
  rw [World.size_alloc] at hg1
  have HR2 := hid (HR.out.below hb2 (by simp))
  have HB2 := hid (HB.out.trans (hb2.mono (by simp)))
  have Hr1 := hid hrow1
  clear hrow1 hb2 HR HB
  go_wp2_with fail
  refine (refEmpty_any W _ (by omega)).mono ?_
  rintro e w3 ⟨g2, rfl, hg2, hrow2, hb3⟩
  rw [len_emp]
  have hlt2 := HR2.out.lt
  have HR3 := hid (HR2.out.below hb3 HR2.out.lt)
  have HB3 := hid (HB2.out.trans (hb3.mono HB2.out.size))
  have Hr3 := hid (Hr1.out.below hb3 Hr1.out.lt)
  have Hr2 := hid hrow2
  have hlt3 := HR3.out.lt
  clear hrow2 hb3 HR2 HB2 Hr1
  have Hst := hid (show Gening w T w3.heap.size W [] (w3.alloc (.cells #[.int .i64 W, .slice (some ⟨g1, 0, none⟩) (Bs.nw W) (Bs.nw W), .int .i64 W, .slice (some ⟨g2, 0, none⟩) (Bs.nw W) (Bs.nw W), .slice none 0 0] 51)) from
    ⟨g1, g2, Bs.emp W, Bs.emp W, none, 0, Fb.new _ _ _, ⟨Hr3.out.alloc _, Bs.fit_emp W, by omega⟩, ⟨Hr2.out.alloc _, Bs.fit_emp W, by omega⟩, World.ownsRow_nil _ _ _ _, HR3.out.alloc _, hlt3, (Ht.out.below HB3.out hTl).alloc _, hTl, grown_of_below (HB3.out.alloc HB3.out.size _) _⟩)
  go_wp2_with fail
  generalize w3.alloc (.cells #[.int .i64 W, .slice (some ⟨g1, 0, none⟩) (Bs.nw W) (Bs.nw W), .int .i64 W, .slice (some ⟨g2, 0, none⟩) (Bs.nw W) (Bs.nw W), .slice none 0 0] 51) = wv at *
  generalize w3.heap.size = b at *
  clear HR3 HB3 Hr3 Hr2
  go_loopw [6] (fun i wr => ∃ k : Nat, k ≤ W ∧ i = .int .i64 k ∧ Hid (Gening w T b W [] wr)) (fun i _ => W - (intOf i).toNat)
  case atStart => exact ⟨0, by omega, rfl, Hst⟩
  case round =>
    obtain ⟨k, hk, rfl, hG⟩ := hrel
    clear Hst
    by_cases hlt : k < W
    · have Htt := hid (show Tape wr T from by obtain ⟨_, _, _, _, _, _, _, _, _, _, _, _, h, _⟩ := hG.out; exact h)
      go_wp2_with fail
      refine (next_any T 6 _ Htt.out (by omega)).mono ?_
      rintro e w4 ⟨r4, rfl, h40, h41, ht4, hg4, hs4⟩
      have HG4 := hid (hG.out.tape ht4 hg4)
      clear h41 ht4 hg4 hs4 Htt hG
      by_cases h1 : r4 = 1
      · have t : (r4 == 1) = true := by simp [h1]
        obtain ⟨x1, x2, gs, ks, C, q, p1, ⟨p2, p3, p4⟩, ⟨p5, p6, p7⟩, p8⟩ := HG4.out
        obtain ⟨c0, c1, c2, c3, c4⟩ := p1.five
        have Ha := hid (show Arg w4 (some ⟨x1, 0, none⟩) (Bs.nw W) gs from ⟨(p2.arg p3.ok).lies, p3.len, p3.ok⟩)
        have Hf := hid p3
        clear h1 p1 p2 p3 p5 p6 p8 p4 p7
        go_wp2_with fail
        refine (refPut_any W _ _ _ gs k _ Ha.out (by omega) Hf.out.len hlt).mono ?_
        rintro e w5 ⟨g5, rfl, hg5, hr5, hb5⟩
        rw [show (Bs.put gs k).length = Bs.nw W from by rw [Bs.length_put]; exact Hf.out.len]
        obtain ⟨⟨v0, v1, m0, m1, f0, f1⟩, hfin⟩ := HG4.out.gen (Bs.fit_put Hf.out hlt) hg5 hr5 hb5
        have Hfin := hid hfin
        clear hfin hr5 hb5 c0 c1 c2 c3 c4
        go_wp2_with fail
        go_roundw
        case rel => exact ⟨k + 1, by omega, by go_num, Hfin⟩
        case measure => simp [intOf]; omega
      · have t : (r4 == 1) = false := by simp [h1]
        clear h1
        have hthree : (r4 = 2) ∨ (r4 ≠ 2 ∧ r4 = 3) ∨ (r4 ≠ 2 ∧ r4 ≠ 3) := by omega
        rcases hthree with h2 | ⟨h2, h3⟩ | ⟨h2, h3⟩
        · have t2 : (r4 == 2) = true := by simp [h2]
          obtain ⟨x1, x2, gs, ks, C, q, p1, ⟨p2, p3, p4⟩, ⟨p5, p6, p7⟩, p8⟩ := HG4.out
          obtain ⟨c0, c1, c2, c3, c4⟩ := p1.five
          have Ha := hid (show Arg w4 (some ⟨x2, 0, none⟩) (Bs.nw W) ks from ⟨(p5.arg p6.ok).lies, p6.len, p6.ok⟩)
          have Hf := hid p6
          clear h2 p1 p2 p3 p5 p6 p8 p4 p7
          go_wp2_with fail
          refine (refPut_any W _ _ _ ks k _ Ha.out (by omega) Hf.out.len hlt).mono ?_
          rintro e w5 ⟨g5, rfl, hg5, hr5, hb5⟩
          rw [show (Bs.put ks k).length = Bs.nw W from by rw [Bs.length_put]; exact Hf.out.len]
          obtain ⟨⟨v0, v1, m0, m1, f0, f1⟩, hfin⟩ := HG4.out.kill (Bs.fit_put Hf.out hlt) hg5 hr5 hb5
          have Hfin := hid hfin
          clear hfin hr5 hb5 c0 c1 c2 c3 c4
          go_wp2_with fail
          go_roundw
          case rel => exact ⟨k + 1, by omega, by go_num, Hfin⟩
          case measure => simp [intOf]; omega
        · have t2 : (r4 == 2) = false := by simp [h2]
          have t3 : (r4 == 3) = true := by simp [h3]
          obtain ⟨x1, x2, gs, ks, C, q, p1, ⟨p2, p3, p4⟩, ⟨p5, p6, p7⟩, p8⟩ := HG4.out
          obtain ⟨c0, c1, c2, c3, c4⟩ := p1.five
          have Ha := hid (show Arg w4 (some ⟨x2, 0, none⟩) (Bs.nw W) ks from ⟨(p5.arg p6.ok).lies, p6.len, p6.ok⟩)
          have Hf := hid p6
          clear h2 h3 p1 p2 p3 p5 p6 p8 p4 p7
          go_wp2_with fail
          refine (refPut_any W _ _ _ ks k _ Ha.out (by omega) Hf.out.len hlt).mono ?_
          rintro e w5 ⟨g5, rfl, hg5, hr5, hb5⟩
          rw [show (Bs.put ks k).length = Bs.nw W from by rw [Bs.length_put]; exact Hf.out.len]
          obtain ⟨⟨v0, v1, m0, m1, f0, f1⟩, hfin⟩ := HG4.out.kill (Bs.fit_put Hf.out hlt) hg5 hr5 hb5
          have Hfin := hid hfin
          clear hfin hr5 hb5 c0 c1 c2 c3 c4
          go_wp2_with fail
          go_roundw
          case rel => exact ⟨k + 1, by omega, by go_num, Hfin⟩
          case measure => simp [intOf]; omega
        · have t2 : (r4 == 2) = false := by simp [h2]
          have t3 : (r4 == 3) = false := by simp [h3]
          clear h2 h3
          go_wp2_with fail
          go_roundw
          case rel => exact ⟨k + 1, by omega, by go_num, HG4⟩
          case measure => simp [intOf]; omega
    · have hkW : W = k := by omega
      subst hkW
      clear hk
      go_wp2_with fail
      go_loopw [7, 8] (fun i _ wr => ∃ a : Nat, a ≤ W ∧ i = .int .i64 a ∧ Hid (∃ cs : List (Int × Int), Gening w T b W cs wr ∧ Upto W cs a 0 ∧ cs.length ≤ 12)) (fun i _ _ => W - (intOf i).toNat)
      case atStart => exact ⟨0, by omega, rfl, [], hG.out, ⟨fun i hi => by simp at hi, fun p hp => by simp at hp⟩, by simp⟩
      case round =>
        clear hG
        obtain ⟨a, ha, rfl, hG⟩ := hrel
        by_cases hla : a < W
        · go_wp2_with fail
          go_loopw [8] (fun i wr => ∃ c : Nat, c ≤ W ∧ i = .int .i64 c ∧ Hid (∃ cs : List (Int × Int), Gening w T b W cs wr ∧ Upto W cs a c ∧ cs.length ≤ 12)) (fun i _ => W - (intOf i).toNat)
          case atStart => exact ⟨0, by omega, rfl, hG⟩
          case round =>
            clear hG
            obtain ⟨c, hc, rfl, hG⟩ := hrel
            by_cases hlc : c < W
            · obtain ⟨cs, hG1, hU, h12⟩ := hG.out
              obtain ⟨C, q, c4, f4, hC, hbl, hpush⟩ := hG1.slice
              have Htt := hid (show Tape wr T from by obtain ⟨_, _, _, _, _, _, _, _, _, _, _, _, h, _⟩ := hG1; exact h)
              have HG1 := hid hG1; have HU := hid hU
              clear hG1 hU hG hC hpush f4
              by_cases hl : cs.length < 12
              · go_wp2_with fail
                refine (next_any T (2 * (W : Int)) _ Htt.out (by omega)).mono ?_
                rintro e w4 ⟨r4, rfl, h40, h41, ht4, hg4, hs4⟩
                have HG4 := hid (HG1.out.tape ht4 hg4)
                clear h41 ht4 hg4 hs4 Htt HG1 c4
                by_cases h1 : r4 = 1
                · have t : (r4 == 1) = true := by simp [h1]
                  clear h1
                  obtain ⟨C, q, c4, f4, hC, hbl4, hpush⟩ := HG4.out.slice
                  have HC := hid hC; have Hpush := hid hpush
                  clear hC hpush
                  go_wp2_with (first
                    | (at_builtin
                       refine wpList_append_own _ rfl _ _ 49 rfl (b + 1) 62 i0 _ 2 16 Try.underlying49 Hi.out Hz0.out Hz1.out Hz2.out rfl (by decide) (.slice C cs.length q) cs.length (pairs cs) rfl (HC.out.alloc _) ⟨w4.heap.size, 0, none⟩ 1 1 [.int .i64 (a : Int), .int .i64 (c : Int)] rfl rfl (two_new _ _ _ _) (by intro u hu; simp at hu; rcases hu with rfl | rfl <;> rfl) (by unfold maxLen; omega) (by omega) (by rw [World.size_alloc]; omega) ?_
                       intro v' w3 hown3 hgr3 hnil3
                       obtain ⟨C3, q3, rfl, ⟨y0, y1⟩, hK3⟩ := Hpush.out _ _ _ _ _ hown3 hgr3
                       have HK3 := hid hK3
                       clear hown3 hgr3 hnil3 hK3))
                  go_roundw
                  case rel => exact ⟨c + 1, by omega, by go_num, _, HK3.out, HU.out.push hla hlc, by rw [List.length_append, List.length_singleton]; omega⟩
                  case measure => simp [intOf]; omega
                · have t : (r4 == 1) = false := by simp [h1]
                  clear h1
                  go_wp2_with fail
                  go_roundw
                  case rel => exact ⟨c + 1, by omega, by go_num, cs, HG4.out, HU.out.step, h12⟩
                  case measure => simp [intOf]; omega
              · go_wp2_with fail
                go_roundw
                case rel => exact ⟨a + 1, by omega, by go_num, cs, HG1.out, (show Upto W cs ((a + 1 : Nat) : Int) 0 from by have := HU.out.row; exact this), h12⟩
                case measure => simp [intOf]; omega
            · obtain ⟨cs, hG1, hU, h12⟩ := hG.out
              have HG1 := hid hG1; have HU := hid hU
              clear hG1 hU hG
              go_wp2_with fail
              go_roundw
              case rel => exact ⟨a + 1, by omega, by go_num, cs, HG1.out, (show Upto W cs ((a + 1 : Nat) : Int) 0 from by have := HU.out.row; exact this), h12⟩
              case measure => simp [intOf]; omega
        · have haW : W = a := by omega
          subst haW
          obtain ⟨cs, hG1, hU, h12⟩ := hG.out
          obtain ⟨g1', g2', C, q, ⟨c0, c1, c2, c3, c4⟩, ⟨⟨r0, r1, r2, r3, r4⟩, f0, f1, f2, f3, f4⟩, hlR, hfin⟩ := hG1.done (by omega) hU h12
          have Hfin := hid hfin
          clear hfin hG1 hU h12 hG
          go_wp2_with fail
          refine bodyPost_ret (v := .agg #[.int .i64 W, .slice (some ⟨g1', 0, none⟩) (Bs.nw W) (Bs.nw W), .int .i64 W, .slice (some ⟨g2', 0, none⟩) (Bs.nw W) (Bs.nw W), .slice C cs.length q]) (by simp [results, Try.results17, go_sem, r0, r1, r2, r3, r4]) rfl ?_
          exact Hfin.out
end Go.Proofs.Ytadkjnjibefocaa

namespace Go.Proofs.Ytadkjnjibefocaa
set_option maxRecDepth 20000
open Go.ChangeShapes Go.WideShapes Go.ChangeAt Go.RowKit

/-- A valid function of width W came back, its words in rows; nothing but the tape has changed. -/
def GenT2 (w : World) (T W : Nat) (e : Ending) (w' : World) : Prop :=
  ∃ (g1 g2 : Nat) (C : Option Addr) (k q : Nat) (gs ks : List Nat) (cs : List (Int × Int)),
    e = .returned (.agg #[.int .i64 W, .slice (some ⟨g1, 0, none⟩) (Bs.nw W) (Bs.nw W), .int .i64 W, .slice (some ⟨g2, 0, none⟩) (Bs.nw W) (Bs.nw W), .slice C k q]) ∧ Arg w' (some ⟨g1, 0, none⟩) (Bs.nw W) gs ∧ Arg w' (some ⟨g2, 0, none⟩) (Bs.nw W) ks ∧ ArgC w' C k cs ∧ validT W gs W ks cs = true ∧ cs.length ≤ 12 ∧ Tape w' T ∧ w.grownBy w' (some T)

/-- The whole variable is stored into the result's cell. -/
theorem Gening.done2 {w wr : World} {T b W : Nat} {cs : List (Int × Int)} (h : Gening w T b W cs wr) (hW : W ≤ 256) (hu : Upto W cs W 0) (h12 : cs.length ≤ 12) :
    ∃ (g1 g2 : Nat) (C : Option Addr) (q : Nat), (wr.cell? ⟨b, 0, none⟩ = some (.int .i64 W) ∧ wr.cell? ⟨b, 1, none⟩ = some (.slice (some ⟨g1, 0, none⟩) (Bs.nw W) (Bs.nw W)) ∧ wr.cell? ⟨b, 2, none⟩ = some (.int .i64 W) ∧ wr.cell? ⟨b, 3, none⟩ = some (.slice (some ⟨g2, 0, none⟩) (Bs.nw W) (Bs.nw W)) ∧ wr.cell? ⟨b, 4, none⟩ = some (.slice C cs.length q)) ∧
    ((wr.cell? ⟨w.heap.size, 0, none⟩ = some (.int .i64 0) ∧ wr.cell? ⟨w.heap.size, 1, none⟩ = some (.slice none 0 0) ∧ wr.cell? ⟨w.heap.size, 2, none⟩ = some (.int .i64 0) ∧ wr.cell? ⟨w.heap.size, 3, none⟩ = some (.slice none 0 0) ∧ wr.cell? ⟨w.heap.size, 4, none⟩ = some (.slice none 0 0)) ∧
     (wr.frozen? ⟨w.heap.size, 0, none⟩ = false ∧ wr.frozen? ⟨w.heap.size, 1, none⟩ = false ∧ wr.frozen? ⟨w.heap.size, 2, none⟩ = false ∧ wr.frozen? ⟨w.heap.size, 3, none⟩ = false ∧ wr.frozen? ⟨w.heap.size, 4, none⟩ = false)) ∧ w.heap.size < wr.heap.size ∧
    GenT2 w T W (.returned (.agg #[.int .i64 W, .slice (some ⟨g1, 0, none⟩) (Bs.nw W) (Bs.nw W), .int .i64 W, .slice (some ⟨g2, 0, none⟩) (Bs.nw W) (Bs.nw W), .slice C cs.length q]))
      (((((wr.setCell ⟨w.heap.size, 0, none⟩ (.int .i64 W)).setCell ⟨w.heap.size, 1, none⟩ (.slice (some ⟨g1, 0, none⟩) (Bs.nw W) (Bs.nw W))).setCell ⟨w.heap.size, 2, none⟩ (.int .i64 W)).setCell ⟨w.heap.size, 3, none⟩ (.slice (some ⟨g2, 0, none⟩) (Bs.nw W) (Bs.nw W))).setCell ⟨w.heap.size, 4, none⟩ (.slice C cs.length q)) := by
  obtain ⟨g1, g2, gs, ks, C, q, h1, ⟨h2, h3, h4⟩, ⟨h5, h6, h7⟩, h8, h9, h10, h11, h12', h13⟩ := h
  refine ⟨g1, g2, C, q, h1.five, ⟨h9.five, h9.frozen 0, h9.frozen 1, h9.frozen 2, h9.frozen 3, h9.frozen 4⟩, h9.lt, ?_⟩
  have n1 := h9.row_ne (by decide) h2
  have n2 := h9.row_ne (by decide) h5
  have r1 : ∀ {wx : World} (j : Nat) (u : Value), Row wx g1 gs → Row (wx.setCell ⟨w.heap.size, j, none⟩ u) g1 gs := fun j u h => h.far n1 u
  have r2 : ∀ {wx : World} (j : Nat) (u : Value), Row wx g2 ks → Row (wx.setCell ⟨w.heap.size, j, none⟩ u) g2 ks := fun j u h => h.far n2 u
  have kc : ∀ {wx : World} (j : Nat) (u : Value), Cops wx (b + 1) (.slice C cs.length q) cs → Cops (wx.setCell ⟨w.heap.size, j, none⟩ u) (b + 1) (.slice C cs.length q) cs := fun {wx} j u hx =>
    World.ownsRow.kept hx (setCell_grown wx _ u) (by
      cases hv : (Value.slice C cs.length q).ownBlock with
      | none => exact .inl rfl
      | some k => exact .inr (by have := own_base hx k hv; simp only [ne_eq, Option.some.injEq]; omega))
  have kt : ∀ {wx : World} (j : Nat) (u : Value), Tape wx T → Tape (wx.setCell ⟨w.heap.size, j, none⟩ u) T := fun j u h => h.far (by simp; omega) u
  have kg : ∀ {wx : World} (j : Nat) (u : Value), w.grownBy wx (some T) → w.grownBy (wx.setCell ⟨w.heap.size, j, none⟩ u) (some T) := fun j u h => grown_set_new h (by simp) u
  have e1 := r1 4 (.slice C cs.length q) (r1 3 (.slice (some ⟨g2, 0, none⟩) (Bs.nw W) (Bs.nw W)) (r1 2 (.int .i64 W) (r1 1 (.slice (some ⟨g1, 0, none⟩) (Bs.nw W) (Bs.nw W)) (r1 0 (.int .i64 W) h2))))
  have e2 := r2 4 (.slice C cs.length q) (r2 3 (.slice (some ⟨g2, 0, none⟩) (Bs.nw W) (Bs.nw W)) (r2 2 (.int .i64 W) (r2 1 (.slice (some ⟨g1, 0, none⟩) (Bs.nw W) (Bs.nw W)) (r2 0 (.int .i64 W) h5))))
  have e3 := kc 4 (.slice C cs.length q) (kc 3 (.slice (some ⟨g2, 0, none⟩) (Bs.nw W) (Bs.nw W)) (kc 2 (.int .i64 W) (kc 1 (.slice (some ⟨g1, 0, none⟩) (Bs.nw W) (Bs.nw W)) (kc 0 (.int .i64 W) h8))))
  refine ⟨g1, g2, C, cs.length, q, gs, ks, cs, rfl, ⟨(e1.arg h3.ok).lies, h3.len, h3.ok⟩, ⟨(e2.arg h6.ok).lies, h6.len, h6.ok⟩, ⟨own_at e3, rfl⟩, ?_, h12, kt _ _ (kt _ _ (kt _ _ (kt _ _ (kt _ _ h11)))), kg _ _ (kg _ _ (kg _ _ (kg _ _ (kg _ _ h13))))⟩
  unfold validT
  rw [Bs.valid_of_fit h3 hW, Bs.valid_of_fit h6 hW]
  simp only [decide_true, Bool.true_and, Bool.and_eq_true, decide_eq_true_eq, List.all_eq_true, List.mem_range]
  exact ⟨by omega, hu.1⟩

set_option maxHeartbeats 1600000 in
theorem transfer2_any (T W : Nat) (w : World) (ht : Tape w T) (hW : W ≤ 16) : Calls Try.prog 17 #[.pointer (some ⟨T, 0, none⟩), .int .i64 W] w (GenT2 w T W) := by
  obtain ⟨i0, hi, hz0, hz1, hz2⟩ := info_parts info35
  have Hi := hid hi; have Hz0 := hid hz0; have Hz1 := hid hz1; have Hz2 := hid hz2
  have Ht := hid ht
  have hTl := ht.lt
  have HR := hid (Fb.new w #[.int .i64 0, .slice none 0 0, .int .i64 0, .slice none 0 0, .slice none 0 0] 51)
  have HB := hid ((Below.refl w.heap.size w).alloc (Nat.le_refl _) (.cells #[.int .i64 0, .slice none 0 0, .int .i64 0, .slice none 0 0, .slice none 0 0] 51))
  clear ht hi hz0 hz1 hz2
  go_enter Try.func17, Try.ntmps17
  go_wp2_with fail
  refine (refEmpty_any W _ (by omega)).mono ?_
  rintro e w2 ⟨g1, rfl, hg1, hrow1, hb2⟩
  rw [len_emp]
  rw [World.size_alloc] at hg1
  have HR2 := hid (HR.out.below hb2 (by simp))
  have HB2 := hid (HB.out.trans (hb2.mono (by simp)))
  have Hr1 := hid hrow1
  clear hrow1 hb2 HR HB
  go_wp2_with fail
  refine (refEmpty_any W _ (by omega)).mono ?_
  rintro e w3 ⟨g2, rfl, hg2, hrow2, hb3⟩
  rw [len_emp]
  have hlt2 := HR2.out.lt
  have HR3 := hid (HR2.out.below hb3 HR2.out.lt)
  have HB3 := hid (HB2.out.trans (hb3.mono HB2.out.size))
  have Hr3 := hid (Hr1.out.below hb3 Hr1.out.lt)
  have Hr2 := hid hrow2
  have hlt3 := HR3.out.lt
  clear hrow2 hb3 HR2 HB2 Hr1
  have Hst := hid (show Gening w T w3.heap.size W [] (w3.alloc (.cells #[.int .i64 W, .slice (some ⟨g1, 0, none⟩) (Bs.nw W) (Bs.nw W), .int .i64 W, .slice (some ⟨g2, 0, none⟩) (Bs.nw W) (Bs.nw W), .slice none 0 0] 51)) from
    ⟨g1, g2, Bs.emp W, Bs.emp W, none, 0, Fb.new _ _ _, ⟨Hr3.out.alloc _, Bs.fit_emp W, by omega⟩, ⟨Hr2.out.alloc _, Bs.fit_emp W, by omega⟩, World.ownsRow_nil _ _ _ _, HR3.out.alloc _, hlt3, (Ht.out.below HB3.out hTl).alloc _, hTl, grown_of_below (HB3.out.alloc HB3.out.size _) _⟩)
  go_wp2_with fail
  generalize w3.alloc (.cells #[.int .i64 W, .slice (some ⟨g1, 0, none⟩) (Bs.nw W) (Bs.nw W), .int .i64 W, .slice (some ⟨g2, 0, none⟩) (Bs.nw W) (Bs.nw W), .slice none 0 0] 51) = wv at *
  generalize w3.heap.size = b at *
  clear HR3 HB3 Hr3 Hr2
  go_loopw [6] (fun i wr => ∃ k : Nat, k ≤ W ∧ i = .int .i64 k ∧ Hid (Gening w T b W [] wr)) (fun i _ => W - (intOf i).toNat)
  case atStart => exact ⟨0, by omega, rfl, Hst⟩
  case round =>
    obtain ⟨k, hk, rfl, hG⟩ := hrel
    clear Hst
    by_cases hlt : k < W
    · have Htt := hid (show Tape wr T from by obtain ⟨_, _, _, _, _, _, _, _, _, _, _, _, h, _⟩ := hG.out; exact h)
      go_wp2_with fail
      refine (next_any T 6 _ Htt.out (by omega)).mono ?_
      rintro e w4 ⟨r4, rfl, h40, h41, ht4, hg4, hs4⟩
      have HG4 := hid (hG.out.tape ht4 hg4)
      clear h41 ht4 hg4 hs4 Htt hG
      by_cases h1 : r4 = 1
      · have t : (r4 == 1) = true := by simp [h1]
        obtain ⟨x1, x2, gs, ks, C, q, p1, ⟨p2, p3, p4⟩, ⟨p5, p6, p7⟩, p8⟩ := HG4.out
        obtain ⟨c0, c1, c2, c3, c4⟩ := p1.five
        have Ha := hid (show Arg w4 (some ⟨x1, 0, none⟩) (Bs.nw W) gs from ⟨(p2.arg p3.ok).lies, p3.len, p3.ok⟩)
        have Hf := hid p3
        clear h1 p1 p2 p3 p5 p6 p8 p4 p7
        go_wp2_with fail
        refine (refPut_any W _ _ _ gs k _ Ha.out (by omega) Hf.out.len hlt).mono ?_
        rintro e w5 ⟨g5, rfl, hg5, hr5, hb5⟩
        rw [show (Bs.put gs k).length = Bs.nw W from by rw [Bs.length_put]; exact Hf.out.len]
        obtain ⟨⟨v0, v1, m0, m1, f0, f1⟩, hfin⟩ := HG4.out.gen (Bs.fit_put Hf.out hlt) hg5 hr5 hb5
        have Hfin := hid hfin
        clear hfin hr5 hb5 c0 c1 c2 c3 c4
        go_wp2_with fail
        go_roundw
        case rel => exact ⟨k + 1, by omega, by go_num, Hfin⟩
        case measure => simp [intOf]; omega
      · have t : (r4 == 1) = false := by simp [h1]
        clear h1
        have hthree : (r4 = 2) ∨ (r4 ≠ 2 ∧ r4 = 3) ∨ (r4 ≠ 2 ∧ r4 ≠ 3) := by omega
        rcases hthree with h2 | ⟨h2, h3⟩ | ⟨h2, h3⟩
        · have t2 : (r4 == 2) = true := by simp [h2]
          obtain ⟨x1, x2, gs, ks, C, q, p1, ⟨p2, p3, p4⟩, ⟨p5, p6, p7⟩, p8⟩ := HG4.out
          obtain ⟨c0, c1, c2, c3, c4⟩ := p1.five
          have Ha := hid (show Arg w4 (some ⟨x2, 0, none⟩) (Bs.nw W) ks from ⟨(p5.arg p6.ok).lies, p6.len, p6.ok⟩)
          have Hf := hid p6
          clear h2 p1 p2 p3 p5 p6 p8 p4 p7
          go_wp2_with fail
          refine (refPut_any W _ _ _ ks k _ Ha.out (by omega) Hf.out.len hlt).mono ?_
          rintro e w5 ⟨g5, rfl, hg5, hr5, hb5⟩
          rw [show (Bs.put ks k).length = Bs.nw W from by rw [Bs.length_put]; exact Hf.out.len]
          obtain ⟨⟨v0, v1, m0, m1, f0, f1⟩, hfin⟩ := HG4.out.kill (Bs.fit_put Hf.out hlt) hg5 hr5 hb5
          have Hfin := hid hfin
          clear hfin hr5 hb5 c0 c1 c2 c3 c4
          go_wp2_with fail
          go_roundw
          case rel => exact ⟨k + 1, by omega, by go_num, Hfin⟩
          case measure => simp [intOf]; omega
        · have t2 : (r4 == 2) = false := by simp [h2]
          have t3 : (r4 == 3) = true := by simp [h3]
          obtain ⟨x1, x2, gs, ks, C, q, p1, ⟨p2, p3, p4⟩, ⟨p5, p6, p7⟩, p8⟩ := HG4.out
          obtain ⟨c0, c1, c2, c3, c4⟩ := p1.five
          have Ha := hid (show Arg w4 (some ⟨x2, 0, none⟩) (Bs.nw W) ks from ⟨(p5.arg p6.ok).lies, p6.len, p6.ok⟩)
          have Hf := hid p6
          clear h2 h3 p1 p2 p3 p5 p6 p8 p4 p7
          go_wp2_with fail
          refine (refPut_any W _ _ _ ks k _ Ha.out (by omega) Hf.out.len hlt).mono ?_
          rintro e w5 ⟨g5, rfl, hg5, hr5, hb5⟩
          rw [show (Bs.put ks k).length = Bs.nw W from by rw [Bs.length_put]; exact Hf.out.len]
          obtain ⟨⟨v0, v1, m0, m1, f0, f1⟩, hfin⟩ := HG4.out.kill (Bs.fit_put Hf.out hlt) hg5 hr5 hb5
          have Hfin := hid hfin
          clear hfin hr5 hb5 c0 c1 c2 c3 c4
          go_wp2_with fail
          go_roundw
          case rel => exact ⟨k + 1, by omega, by go_num, Hfin⟩
          case measure => simp [intOf]; omega
        · have t2 : (r4 == 2) = false := by simp [h2]
          have t3 : (r4 == 3) = false := by simp [h3]
          clear h2 h3
          go_wp2_with fail
          go_roundw
          case rel => exact ⟨k + 1, by omega, by go_num, HG4⟩
          case measure => simp [intOf]; omega
    · have hkW : W = k := by omega
      subst hkW
      clear hk
      go_wp2_with fail
      go_loopw [7, 8] (fun i _ wr => ∃ a : Nat, a ≤ W ∧ i = .int .i64 a ∧ Hid (∃ cs : List (Int × Int), Gening w T b W cs wr ∧ Upto W cs a 0 ∧ cs.length ≤ 12)) (fun i _ _ => W - (intOf i).toNat)
      case atStart => exact ⟨0, by omega, rfl, [], hG.out, ⟨fun i hi => by simp at hi, fun p hp => by simp at hp⟩, by simp⟩
      case round =>
        clear hG
        obtain ⟨a, ha, rfl, hG⟩ := hrel
        by_cases hla : a < W
        · go_wp2_with fail
          go_loopw [8] (fun i wr => ∃ c : Nat, c ≤ W ∧ i = .int .i64 c ∧ Hid (∃ cs : List (Int × Int), Gening w T b W cs wr ∧ Upto W cs a c ∧ cs.length ≤ 12)) (fun i _ => W - (intOf i).toNat)
          case atStart => exact ⟨0, by omega, rfl, hG⟩
          case round =>
            clear hG
            obtain ⟨c, hc, rfl, hG⟩ := hrel
            by_cases hlc : c < W
            · obtain ⟨cs, hG1, hU, h12⟩ := hG.out
              obtain ⟨C, q, c4, f4, hC, hbl, hpush⟩ := hG1.slice
              have Htt := hid (show Tape wr T from by obtain ⟨_, _, _, _, _, _, _, _, _, _, _, _, h, _⟩ := hG1; exact h)
              have HG1 := hid hG1; have HU := hid hU
              clear hG1 hU hG hC hpush f4
              by_cases hl : cs.length < 12
              · go_wp2_with fail
                refine (next_any T (2 * (W : Int)) _ Htt.out (by omega)).mono ?_
                rintro e w4 ⟨r4, rfl, h40, h41, ht4, hg4, hs4⟩
                have HG4 := hid (HG1.out.tape ht4 hg4)
                clear h41 ht4 hg4 hs4 Htt HG1 c4
                by_cases h1 : r4 = 1
                · have t : (r4 == 1) = true := by simp [h1]
                  clear h1
                  obtain ⟨C, q, c4, f4, hC, hbl4, hpush⟩ := HG4.out.slice
                  have HC := hid hC; have Hpush := hid hpush
                  clear hC hpush
                  go_wp2_with (first
                    | (at_builtin
                       refine wpList_append_own _ rfl _ _ 49 rfl (b + 1) 62 i0 _ 2 16 Try.underlying49 Hi.out Hz0.out Hz1.out Hz2.out rfl (by decide) (.slice C cs.length q) cs.length (pairs cs) rfl (HC.out.alloc _) ⟨w4.heap.size, 0, none⟩ 1 1 [.int .i64 (a : Int), .int .i64 (c : Int)] rfl rfl (two_new _ _ _ _) (by intro u hu; simp at hu; rcases hu with rfl | rfl <;> rfl) (by unfold maxLen; omega) (by omega) (by rw [World.size_alloc]; omega) ?_
                       intro v' w3 hown3 hgr3 hnil3
                       obtain ⟨C3, q3, rfl, ⟨y0, y1⟩, hK3⟩ := Hpush.out _ _ _ _ _ hown3 hgr3
                       have HK3 := hid hK3
                       clear hown3 hgr3 hnil3 hK3))
                  go_roundw
                  case rel => exact ⟨c + 1, by omega, by go_num, _, HK3.out, HU.out.push hla hlc, by rw [List.length_append, List.length_singleton]; omega⟩
                  case measure => simp [intOf]; omega
                · have t : (r4 == 1) = false := by simp [h1]
                  clear h1
                  go_wp2_with fail
                  go_roundw
                  case rel => exact ⟨c + 1, by omega, by go_num, cs, HG4.out, HU.out.step, h12⟩
                  case measure => simp [intOf]; omega
              · go_wp2_with fail
                go_roundw
                case rel => exact ⟨a + 1, by omega, by go_num, cs, HG1.out, (show Upto W cs ((a + 1 : Nat) : Int) 0 from by have := HU.out.row; exact this), h12⟩
                case measure => simp [intOf]; omega
            · obtain ⟨cs, hG1, hU, h12⟩ := hG.out
              have HG1 := hid hG1; have HU := hid hU
              clear hG1 hU hG
              go_wp2_with fail
              go_roundw
              case rel => exact ⟨a + 1, by omega, by go_num, cs, HG1.out, (show Upto W cs ((a + 1 : Nat) : Int) 0 from by have := HU.out.row; exact this), h12⟩
              case measure => simp [intOf]; omega
        · have haW : W = a := by omega
          subst haW
          obtain ⟨cs, hG1, hU, h12⟩ := hG.out
          obtain ⟨g1', g2', C, q, ⟨c0, c1, c2, c3, c4⟩, ⟨⟨r0, r1, r2, r3, r4⟩, f0, f1, f2, f3, f4⟩, hlR, hfin⟩ := hG1.done2 (by omega) hU h12
          have Hfin := hid hfin
          clear hfin hG1 hU h12 hG
          go_wp2_with fail
          refine bodyPost_ret (v := .agg #[.int .i64 W, .slice (some ⟨g1', 0, none⟩) (Bs.nw W) (Bs.nw W), .int .i64 W, .slice (some ⟨g2', 0, none⟩) (Bs.nw W) (Bs.nw W), .slice C cs.length q]) (by simp [results, Try.results17, go_sem, r0, r1, r2, r3, r4]) rfl ?_
          exact Hfin.out
end Go.Proofs.Ytadkjnjibefocaa

namespace Go.Proofs.Ytadkjnjibefocaa
set_option maxRecDepth 20000
open Go.ChangeShapes Go.WideShapes Go.ChangeAt Go.RowKit

theorem ex1a : applyR 2 [0] 2 [2] [(0, 1)] 2 [1] = (2, [3], 0) := by rfl
theorem ex1b : applyR 2 [0] 2 [2] [(0, 1)] 2 [2] = (2, [0], 0) := by rfl
theorem put0 : Bs.put (Bs.emp 2) 0 = [1] := by rfl
theorem put1 : Bs.put (Bs.emp 2) 1 = [2] := by rfl
theorem emp2 : Bs.emp 2 = [0] := by rfl
theorem full2 : Bs.ofP 2 (fun _ => true) 2 = [3] := by rfl

/-- A function in a variable: its block, its words, its copies. -/
structure VarT (w : World) (b : Nat) (W : Int) (gs ks : List Nat) (cs : List (Int × Int)) (A : Option Addr) (n c : Nat) (B : Option Addr) (m d : Nat) (C : Option Addr) (k q : Nat) : Prop where
  box : Fb w b #[.int .i64 W, .slice A n c, .int .i64 W, .slice B m d, .slice C k q] 51
  gen : Arg w A n gs
  kill : Arg w B m ks
  cops : ArgC w C k cs
theorem VarT.below {w w' : World} {b : Nat} {W : Int} {gs ks : List Nat} {cs : List (Int × Int)} {A : Option Addr} {n c : Nat} {B : Option Addr} {m d : Nat} {C : Option Addr} {k q : Nat} (h : VarT w b W gs ks cs A n c B m d C k q) (hb : Below w.heap.size w w') :
    VarT w' b W gs ks cs A n c B m d C k q := ⟨h.box.below hb h.box.lt, h.gen.below hb, h.kill.below hb, h.cops.below hb⟩
theorem pairs_lit (w : World) (cs : List (Int × Int)) (xs : Array Value) (h : xs.toList = pairs cs) : ArgC (w.alloc (.cells xs 62)) (some ⟨w.heap.size, 0, none⟩) cs.length cs := by
  refine ⟨.inr ⟨_, rfl, by simp, fun j u hu => ?_⟩, rfl⟩
  rw [add_of, World.cell?_alloc_at _ _ _ _ rfl]
  rw [← h] at hu
  simpa using hu


theorem Box.four {w : World} {b : Nat} {W : Int} {A : Option Addr} {n c : Nat} (h : Box w b W A n c) : w.cell? ⟨b, 0, none⟩ = some (.int .i64 W) ∧ w.cell? ⟨b, 1, none⟩ = some (.slice A n c) ∧ w.frozen? ⟨b, 0, none⟩ = false ∧ w.frozen? ⟨b, 1, none⟩ = false := ⟨h.c0, h.c1, h.f 0, h.f 1⟩
/-- The result's variable, made before a call. -/
def Fresh (W w : World) (b : Nat) : Prop := Box w b 0 none 0 0 ∧ W.heap.size ≤ b
theorem Fresh.mk {W w0 w1 : World} (h0 : Below W.heap.size W w0) (hb : Below (w0.alloc (.cells #[.int .i64 0, .slice none 0 0] 47)).heap.size (w0.alloc (.cells #[.int .i64 0, .slice none 0 0] 47)) w1) : Fresh W w1 w0.heap.size :=
  ⟨(Box.new w0 0 none 0 0).below hb (by simp), h0.size⟩
theorem Fresh.mkD {w0 w1 : World} (hb : Below (w0.alloc (.cells #[.int .i64 0, .slice none 0 0] 47)).drew.heap.size (w0.alloc (.cells #[.int .i64 0, .slice none 0 0] 47)).drew w1) : Fresh w0 w1 w0.heap.size :=
  ⟨(show Box (w0.alloc (.cells #[.int .i64 0, .slice none 0 0] 47)).drew w0.heap.size 0 none 0 0 from Box.new w0 0 none 0 0).below hb (by show w0.heap.size < (w0.alloc _).heap.size; simp), Nat.le_refl _⟩
theorem Fresh.below {W w w1 : World} {b : Nat} (h : Fresh W w b) (hb : Below w.heap.size w w1) : Fresh W w1 b := ⟨h.1.below hb h.1.lt, h.2⟩
theorem Fresh.stored {W w : World} {b : Nat} (h : Fresh W w b) (hb : Below W.heap.size W w) (V : Int) (B : Option Addr) (m d : Nat) : Below W.heap.size W ((w.setCell ⟨b, 0, none⟩ (.int .i64 V)).setCell ⟨b, 1, none⟩ (.slice B m d)) :=
  (hb.setCell (by exact h.2) _).setCell (by exact h.2) _

end Go.Proofs.Ytadkjnjibefocaa

namespace Go.Proofs.Ytadkjnjibefocaa
set_option maxRecDepth 20000
open Go.ChangeShapes Go.WideShapes Go.ChangeAt Go.RowKit

theorem new_any (A : Option Addr) (n c : Nat) (w : World) :
    Calls Try.prog 4 #[.slice A n c] w fun e w' => e = .returned (.pointer (some ⟨w.heap.size, 0, none⟩)) ∧ w.alloc (.cells #[.slice A n c, .int .i64 0] 42) = w' := by
  go_enter Try.func4, Try.ntmps4
  go_wp2
  go_ret
  exact ⟨rfl, rfl⟩
theorem tape_new {w : World} {A : Option Addr} {n c : Nat} {zs : List Int} (h : IArg w A n zs) (hn : n ≤ maxLen) : Tape (w.alloc (.cells #[.slice A n c, .int .i64 0] 42)) w.heap.size :=
  ⟨A, n, c, 0, zs, heap_alloc_new w _, h.len, hn, Nat.zero_le _, h.lies.keep (fun p hp => World.cell?_alloc_lt w _ p hp) (Nat.le_refl _)⟩

/-- The statement's tape stands, and nothing old has changed. -/
def Going (w : World) (T : Nat) (wr : World) : Prop := Tape wr T ∧ Below w.heap.size w wr ∧ w.heap.size ≤ T
theorem Going.step {w wr w' : World} {T : Nat} (h : Going w T wr) (ht : Tape w' T) (hg : wr.grownBy w' (some T)) : Going w T w' :=
  ⟨ht, after_app h.2.1 hg h.2.2, h.2.2⟩
theorem Going.below {w wr w' : World} {T : Nat} (h : Going w T wr) (hb : Below wr.heap.size wr w') : Going w T w' :=
  h.step (h.1.below hb h.1.lt) (grown_of_below hb _)
theorem Going.alloc {w wr : World} {T : Nat} (h : Going w T wr) (o : Obj) : Going w T (wr.alloc o) := h.below ((Below.refl _ _).alloc (Nat.le_refl _) o)

/-- Copies do not lie in a tape: there two numbers never lie side by side. -/
theorem ArgC.tape {w w' : World} {T : Nat} {A : Option Addr} {n : Nat} {cs : List (Int × Int)} (h : ArgC w A n cs) (ht : Tape w T) (hg : w.grownBy w' (some T)) : ArgC w' A n cs := by
  refine ⟨?_, h.len⟩
  rcases h.lies with h0 | ⟨ad, e, hb, hc⟩
  · exact .inl h0
  · cases cs with
    | nil => exact .inl rfl
    | cons p cs =>
      have hne : ad.block ≠ T := by
        intro he
        have c0 := hc 0 (.int .i64 p.1) rfl
        have c1 := hc 1 (.int .i64 p.2) rfl
        obtain ⟨A', n', c', k', zs, h1, _⟩ := ht
        have ha : ad.add 0 = ad := by unfold Addr.add; simp
        rw [ha] at c0
        unfold World.cell? at c0 c1
        rw [he, h1] at c0
        rw [show (ad.add 1).block = T from by rw [add_block]; exact he, h1] at c1
        have e1 : (ad.add 1).off = ad.off + 1 := by unfold Addr.add; simp
        have e2 : (ad.add 1).spot = none := by unfold Addr.add; simp
        simp only [e1, e2] at c1
        simp only at c0
        split at c0
        · cases c0
        · match hoff : ad.off, c0 with
          | 0, c0 => simp at c0
          | 1, c0 => rw [hoff] at c1; simp at c1
          | n + 2, c0 => simp at c0
      refine .inr ⟨ad, e, by have := hg.size; omega, fun j u hu => hg.cell (hc j u hu) (by rw [add_block]; intro h; injection h with h; exact hne h)⟩
end Go.Proofs.Ytadkjnjibefocaa

namespace Go.Proofs.Ytadkjnjibefocaa
set_option maxRecDepth 20000
set_option linter.unusedVariables false
open Go.ChangeShapes Go.WideShapes Go.ChangeAt Go.RowKit

def cells5 (W : Int) (A : Option Addr) (n c : Nat) (V : Int) (B : Option Addr) (m d : Nat) (C : Option Addr) (k q : Nat) : Array Value :=
  #[.int .i64 W, .slice A n c, .int .i64 V, .slice B m d, .slice C k q]
theorem noU {w : World} {g t : Nat} {cs : Array Value} (h : Fb w g cs t) (hc : ∀ (j : Nat) (x : Int), cs[j]? ≠ some (Value.int .u64 x)) {p : Addr} {x : Int} (hp : w.cell? p = some (.int .u64 x)) : p.block ≠ g := by
  rintro rfl
  unfold World.cell? at hp
  unfold Fb at h
  rw [h] at hp
  simp only at hp
  split at hp
  · cases hp
  · exact hc _ _ hp
theorem arg_far {w : World} {g t : Nat} {cs : Array Value} {A : Option Addr} {n : Nat} {ws : List Nat} (h : Arg w A n ws) (hf : Fb w g cs t) (hc : ∀ (j : Nat) (x : Int), cs[j]? ≠ some (Value.int .u64 x)) {p : Addr} (hp : p.block = g) (u : Value) : Arg (w.setCell p u) A n ws := by
  refine h.far ?_ u
  rcases h.lies with h0 | ⟨ad, e, hb, hx⟩
  · exact .inl (List.map_eq_nil_iff.1 h0)
  · cases ws with
    | nil => exact .inl rfl
    | cons x ws =>
      refine .inr fun ad' e' => ?_
      rw [e] at e'
      injection e' with e'
      subst e'
      have h1 := hx 0 (.int .u64 (x : Int)) rfl
      have := noU hf hc h1
      rw [add_block] at this
      rw [hp]; exact this
theorem cells5_no (W : Int) (A : Option Addr) (n c : Nat) (V : Int) (B : Option Addr) (m d : Nat) (C : Option Addr) (k q : Nat) : ∀ (j : Nat) (x : Int), (cells5 W A n c V B m d C k q)[j]? ≠ some (Value.int .u64 x) := by
  intro j x h
  unfold cells5 at h
  match j with
  | 0 => simp at h
  | 1 => simp at h
  | 2 => simp at h
  | 3 => simp at h
  | 4 => simp at h
  | j + 5 => simp at h
theorem fb_ne_own {w : World} {g t base ty size n : Nat} {cs : Array Value} {v : Value} {xs : List Value} (hf : Fb w g cs t) (h : w.ownsRow base ty size v n xs) (ht : t ≠ ty) : some g ≠ v.ownBlock := by
  rcases h.2 with ⟨rfl, _⟩ | ⟨g', cap, cur, rfl, _, hg, _⟩
  · simp [Value.ownBlock]
  · intro e
    simp only [Value.ownBlock, Option.some.injEq] at e
    subst e
    unfold Fb at hf
    rw [hf] at hg
    injection hg with hg
    injection hg with _ hg
    exact ht hg
theorem own_row' {w : World} {base : Nat} {ty : TypeId} {size : Nat} {v : Value} {n : Nat} {xs : List Value} (h : w.ownsRow base ty size v n xs) {k : Nat} (hk : k < base) : v.ownBlock = none ∨ v.ownBlock ≠ some k := by
  cases e : v.ownBlock with
  | none => exact .inl rfl
  | some j => exact .inr (by have := (h.lt j e).1; simp only [ne_eq, Option.some.injEq]; omega)
structure Spf (w : World) (T : Nat) (fc : Array Value) (W1 : Int) (A1 : Option Addr) (n1 c1 : Nat) (V1 : Int) (B1 : Option Addr) (m1 d1 : Nat) (C1 k1 q1 : Nat) (gs1 ks1 : List Nat) (cs1 : List (Int × Int)) (wr : World) : Prop where
  len : cs1.length = k1
  f0 : Fb wr w.heap.size fc 51
  r0 : Fb wr (w.heap.size + 1) #[.int .i64 0, .slice none 0 0, .int .i64 0, .slice none 0 0, .slice none 0 0] 51
  q0 : Fb wr (w.heap.size + 1 + 1) (cells5 W1 A1 n1 c1 V1 B1 m1 d1 (some ⟨C1, 0, none⟩) k1 q1) 51
  gen : Arg wr A1 n1 gs1
  kill : Arg wr B1 m1 ks1
  own : wr.ownsRow (w.heap.size + 1 + 1 + 1) 62 2 (.slice (some ⟨C1, 0, none⟩) k1 q1) k1 (pairs cs1)
  tape : Tape wr T
  gr : w.grownBy wr (some T)
  tl : T < w.heap.size
section
variable {w wr w' : World} {T : Nat} {fc : Array Value} {W1 V1 : Int} {A1 B1 : Option Addr} {n1 c1 m1 d1 C1 k1 q1 : Nat} {gs1 ks1 : List Nat} {cs1 : List (Int × Int)}
theorem Spf.step (h : Spf w T fc W1 A1 n1 c1 V1 B1 m1 d1 C1 k1 q1 gs1 ks1 cs1 wr) (ht : Tape w' T) (hg : wr.grownBy w' (some T)) : Spf w T fc W1 A1 n1 c1 V1 B1 m1 d1 C1 k1 q1 gs1 ks1 cs1 w' := by
  have hT := h.tl
  exact ⟨h.len, h.f0.grown hg (by simp; omega), h.r0.grown hg (by simp; omega), h.q0.grown hg (by simp; omega), h.gen.tape h.tape hg, h.kill.tape h.tape hg, h.own.kept hg (own_row' h.own (by omega)), ht, grown_trans h.gr hg, h.tl⟩
theorem Spf.below (h : Spf w T fc W1 A1 n1 c1 V1 B1 m1 d1 C1 k1 q1 gs1 ks1 cs1 wr) (hb : Below wr.heap.size wr w') : Spf w T fc W1 A1 n1 c1 V1 B1 m1 d1 C1 k1 q1 gs1 ks1 cs1 w' :=
  h.step (h.tape.below hb h.tape.lt) (grown_of_below hb _)
theorem Spf.cells (h : Spf w T fc W1 A1 n1 c1 V1 B1 m1 d1 C1 k1 q1 gs1 ks1 cs1 wr) :
    (wr.cell? ⟨w.heap.size + 1 + 1, 0, none⟩ = some (.int .i64 W1) ∧ wr.cell? ⟨w.heap.size + 1 + 1, 1, none⟩ = some (.slice A1 n1 c1) ∧ wr.cell? ⟨w.heap.size + 1 + 1, 2, none⟩ = some (.int .i64 V1) ∧ wr.cell? ⟨w.heap.size + 1 + 1, 3, none⟩ = some (.slice B1 m1 d1) ∧ wr.cell? ⟨w.heap.size + 1 + 1, 4, none⟩ = some (.slice (some ⟨C1, 0, none⟩) k1 q1)) ∧
    (wr.frozen? ⟨w.heap.size + 1 + 1, 0, none⟩ = false ∧ wr.frozen? ⟨w.heap.size + 1 + 1, 1, none⟩ = false ∧ wr.frozen? ⟨w.heap.size + 1 + 1, 2, none⟩ = false ∧ wr.frozen? ⟨w.heap.size + 1 + 1, 3, none⟩ = false ∧ wr.frozen? ⟨w.heap.size + 1 + 1, 4, none⟩ = false) ∧ w.heap.size + 1 + 1 < wr.heap.size :=
  ⟨h.q0.five, ⟨h.q0.frozen 0, h.q0.frozen 1, h.q0.frozen 2, h.q0.frozen 3, h.q0.frozen 4⟩, h.q0.lt⟩
theorem Spf.setGen {W9 : Int} {A9 : Option Addr} {n9 c9 : Nat} {gs9 : List Nat} (h : Spf w T fc W1 A1 n1 c1 V1 B1 m1 d1 C1 k1 q1 gs1 ks1 cs1 wr) (ha : Arg wr A9 n9 gs9) :
    Spf w T fc W9 A9 n9 c9 V1 B1 m1 d1 C1 k1 q1 gs9 ks1 cs1 ((wr.setCell ⟨w.heap.size + 1 + 1, 0, none⟩ (.int .i64 W9)).setCell ⟨w.heap.size + 1 + 1, 1, none⟩ (.slice A9 n9 c9)) := by
  obtain ⟨hl, h1, h2, h3, h4, h5, h6, h7, h8, h9⟩ := h
  have e1 : Fb (wr.setCell ⟨w.heap.size + 1 + 1, 0, none⟩ (.int .i64 W9)) (w.heap.size + 1 + 1) (cells5 W9 A1 n1 c1 V1 B1 m1 d1 (some ⟨C1, 0, none⟩) k1 q1) 51 := h3.set 0 _
  have e2 : Fb ((wr.setCell ⟨w.heap.size + 1 + 1, 0, none⟩ (.int .i64 W9)).setCell ⟨w.heap.size + 1 + 1, 1, none⟩ (.slice A9 n9 c9)) (w.heap.size + 1 + 1) (cells5 W9 A9 n9 c9 V1 B1 m1 d1 (some ⟨C1, 0, none⟩) k1 q1) 51 := e1.set 1 _
  have kk := fun (A : Option Addr) (n : Nat) (ws : List Nat) (hx : Arg wr A n ws) => arg_far (p := ⟨w.heap.size + 1 + 1, 1, none⟩) (arg_far (p := ⟨w.heap.size + 1 + 1, 0, none⟩) hx h3 (cells5_no _ _ _ _ _ _ _ _ _ _ _) rfl (.int .i64 W9)) e1 (cells5_no _ _ _ _ _ _ _ _ _ _ _) rfl (.slice A9 n9 c9)
  exact ⟨hl, (h1.far (by simp; omega) _).far (by simp; omega) _, (h2.far (by simp) _).far (by simp) _, e2, kk _ _ _ ha, kk _ _ _ h5,
    World.ownsRow.kept (World.ownsRow.kept h6 (setCell_grown wr _ _) (own_row' h6 (by simp))) (setCell_grown _ _ _) (own_row' h6 (by simp)), (h7.far (by simp; omega) _).far (by simp; omega) _, grown_set_new (grown_set_new h8 (by simp; omega) _) (by simp; omega) _, h9⟩
theorem Spf.setKill {W9 : Int} {A9 : Option Addr} {n9 c9 : Nat} {gs9 : List Nat} (h : Spf w T fc W1 A1 n1 c1 V1 B1 m1 d1 C1 k1 q1 gs1 ks1 cs1 wr) (ha : Arg wr A9 n9 gs9) :
    Spf w T fc W1 A1 n1 c1 W9 A9 n9 c9 C1 k1 q1 gs1 gs9 cs1 ((wr.setCell ⟨w.heap.size + 1 + 1, 2, none⟩ (.int .i64 W9)).setCell ⟨w.heap.size + 1 + 1, 3, none⟩ (.slice A9 n9 c9)) := by
  obtain ⟨hl, h1, h2, h3, h4, h5, h6, h7, h8, h9⟩ := h
  have e1 : Fb (wr.setCell ⟨w.heap.size + 1 + 1, 2, none⟩ (.int .i64 W9)) (w.heap.size + 1 + 1) (cells5 W1 A1 n1 c1 W9 B1 m1 d1 (some ⟨C1, 0, none⟩) k1 q1) 51 := h3.set 2 _
  have e2 : Fb ((wr.setCell ⟨w.heap.size + 1 + 1, 2, none⟩ (.int .i64 W9)).setCell ⟨w.heap.size + 1 + 1, 3, none⟩ (.slice A9 n9 c9)) (w.heap.size + 1 + 1) (cells5 W1 A1 n1 c1 W9 A9 n9 c9 (some ⟨C1, 0, none⟩) k1 q1) 51 := e1.set 3 _
  have kk := fun (A : Option Addr) (n : Nat) (ws : List Nat) (hx : Arg wr A n ws) => arg_far (p := ⟨w.heap.size + 1 + 1, 3, none⟩) (arg_far (p := ⟨w.heap.size + 1 + 1, 2, none⟩) hx h3 (cells5_no _ _ _ _ _ _ _ _ _ _ _) rfl (.int .i64 W9)) e1 (cells5_no _ _ _ _ _ _ _ _ _ _ _) rfl (.slice A9 n9 c9)
  exact ⟨hl, (h1.far (by simp; omega) _).far (by simp; omega) _, (h2.far (by simp) _).far (by simp) _, e2, kk _ _ _ h4, kk _ _ _ ha,
    World.ownsRow.kept (World.ownsRow.kept h6 (setCell_grown wr _ _) (own_row' h6 (by simp))) (setCell_grown _ _ _) (own_row' h6 (by simp)), (h7.far (by simp; omega) _).far (by simp; omega) _, grown_set_new (grown_set_new h8 (by simp; omega) _) (by simp; omega) _, h9⟩
/-- The copies have become others, in a row of the call's own; the sets are those that came in. -/
theorem Spf.copies {C9 k9 q9 : Nat} {cs9 : List (Int × Int)} {row : Option Nat} (h : Spf w T fc W1 A1 n1 c1 V1 B1 m1 d1 C1 k1 q1 gs1 ks1 cs1 wr) (hgen : Arg w A1 n1 gs1) (hkill : Arg w B1 m1 ks1) (ht0 : Tape w T)
    (hl9 : cs9.length = k9) (hown : w'.ownsRow (w.heap.size + 1 + 1 + 1) 62 2 (.slice (some ⟨C9, 0, none⟩) k9 q9) k9 (pairs cs9)) (hg : wr.grownBy w' row) (hrow : ∀ k, row = some k → w.heap.size + 1 + 1 + 1 ≤ k) :
    (w'.cell? ⟨w.heap.size + 1 + 1, 4, none⟩ = some (.slice (some ⟨C1, 0, none⟩) k1 q1) ∧ w'.frozen? ⟨w.heap.size + 1 + 1, 4, none⟩ = false) ∧
    Spf w T fc W1 A1 n1 c1 V1 B1 m1 d1 C9 k9 q9 gs1 ks1 cs9 (w'.setCell ⟨w.heap.size + 1 + 1, 4, none⟩ (.slice (some ⟨C9, 0, none⟩) k9 q9)) := by
  obtain ⟨hl, h1, h2, h3, h4, h5, h6, h7, h8, h9⟩ := h
  have hne : ∀ j, j < w.heap.size + 1 + 1 + 1 → some j ≠ row := fun j hj e => by have := hrow j e.symm; omega
  have e1 := h1.grown hg (hne _ (by omega))
  have e2 := h2.grown hg (hne _ (by omega))
  have e3 := h3.grown hg (hne _ (by omega))
  have hz := h8.size
  have e7 : Tape w' T := h7.keep fun k hk => hg.block k (by omega) (hne _ (by omega))
  have e8 : w.grownBy w' (some T) := ⟨hg.os.trans h8.os, hg.tape.trans h8.tape, hg.output.trans h8.output, Nat.le_trans h8.size hg.size, fun k hk hn => (hg.block k (by omega) (hne _ (by omega))).trans (h8.block k hk hn)⟩
  have e9 := grown_set_new e8 (p := ⟨w.heap.size + 1 + 1, 4, none⟩) (by show w.heap.size ≤ w.heap.size + 1 + 1; omega) (.slice (some ⟨C9, 0, none⟩) k9 q9)
  refine ⟨⟨e3.cell 4, e3.frozen 4⟩, hl9, e1.far (by simp; omega) _, e2.far (by simp) _, e3.set 4 _, hgen.tape ht0 e9, hkill.tape ht0 e9, World.ownsRow.kept hown (setCell_grown _ _ _) (own_row' hown (by simp)), e7.far (by simp; omega) _, e9, h9⟩
/-- A spoiled function came back. -/
def GenF (w : World) (T : Nat) (e : Ending) (w' : World) : Prop :=
  ∃ (W V : Int) (A : Option Addr) (n c : Nat) (B : Option Addr) (m d : Nat) (C : Option Addr) (k q : Nat) (gs ks : List Nat) (cs : List (Int × Int)),
    e = .returned (.agg #[.int .i64 W, .slice A n c, .int .i64 V, .slice B m d, .slice C k q]) ∧ FArg w' A n B m C k gs ks cs ∧ Tape w' T ∧ w.grownBy w' (some T) ∧ w'.ownsRow (w.heap.size + 1 + 1 + 1) 62 2 (.slice C k q) k (pairs cs)
theorem Spf.done (h : Spf w T fc W1 A1 n1 c1 V1 B1 m1 d1 C1 k1 q1 gs1 ks1 cs1 wr) :
    GenF w T (.returned (.agg #[.int .i64 W1, .slice A1 n1 c1, .int .i64 V1, .slice B1 m1 d1, .slice (some ⟨C1, 0, none⟩) k1 q1]))
      (((((wr.setCell ⟨w.heap.size + 1, 0, none⟩ (.int .i64 W1)).setCell ⟨w.heap.size + 1, 1, none⟩ (.slice A1 n1 c1)).setCell ⟨w.heap.size + 1, 2, none⟩ (.int .i64 V1)).setCell ⟨w.heap.size + 1, 3, none⟩ (.slice B1 m1 d1)).setCell ⟨w.heap.size + 1, 4, none⟩ (.slice (some ⟨C1, 0, none⟩) k1 q1)) := by
  obtain ⟨hl, h1, h2, h3, h4, h5, h6, h7, h8, h9⟩ := h
  have e0 : Fb wr (w.heap.size + 1) (cells5 0 none 0 0 0 none 0 0 none 0 0) 51 := h2
  have e1 : Fb _ (w.heap.size + 1) (cells5 W1 none 0 0 0 none 0 0 none 0 0) 51 := e0.set 0 (.int .i64 W1)
  have e2 : Fb _ (w.heap.size + 1) (cells5 W1 A1 n1 c1 0 none 0 0 none 0 0) 51 := e1.set 1 (.slice A1 n1 c1)
  have e3 : Fb _ (w.heap.size + 1) (cells5 W1 A1 n1 c1 V1 none 0 0 none 0 0) 51 := e2.set 2 (.int .i64 V1)
  have e4 : Fb _ (w.heap.size + 1) (cells5 W1 A1 n1 c1 V1 B1 m1 d1 none 0 0) 51 := e3.set 3 (.slice B1 m1 d1)
  have kk := fun (A : Option Addr) (n : Nat) (ws : List Nat) (hx : Arg wr A n ws) =>
    arg_far (p := ⟨w.heap.size + 1, 4, none⟩) (arg_far (p := ⟨w.heap.size + 1, 3, none⟩) (arg_far (p := ⟨w.heap.size + 1, 2, none⟩) (arg_far (p := ⟨w.heap.size + 1, 1, none⟩) (arg_far (p := ⟨w.heap.size + 1, 0, none⟩) hx e0 (cells5_no _ _ _ _ _ _ _ _ _ _ _) rfl (.int .i64 W1))
      e1 (cells5_no _ _ _ _ _ _ _ _ _ _ _) rfl (.slice A1 n1 c1)) e2 (cells5_no _ _ _ _ _ _ _ _ _ _ _) rfl (.int .i64 V1)) e3 (cells5_no _ _ _ _ _ _ _ _ _ _ _) rfl (.slice B1 m1 d1)) e4 (cells5_no _ _ _ _ _ _ _ _ _ _ _) rfl (.slice (some ⟨C1, 0, none⟩) k1 q1)
  have ko : ∀ {wx : World} (j : Nat) (u : Value), wx.ownsRow (w.heap.size + 1 + 1 + 1) 62 2 (.slice (some ⟨C1, 0, none⟩) k1 q1) k1 (pairs cs1) → (wx.setCell ⟨w.heap.size + 1, j, none⟩ u).ownsRow (w.heap.size + 1 + 1 + 1) 62 2 (.slice (some ⟨C1, 0, none⟩) k1 q1) k1 (pairs cs1) := fun {wx} j u hx =>
    World.ownsRow.kept hx (setCell_grown wx _ u) (own_row' hx (by simp))
  have kt : ∀ {wx : World} (j : Nat) (u : Value), Tape wx T → Tape (wx.setCell ⟨w.heap.size + 1, j, none⟩ u) T := fun j u h => h.far (by simp; omega) u
  have kg : ∀ {wx : World} (j : Nat) (u : Value), w.grownBy wx (some T) → w.grownBy (wx.setCell ⟨w.heap.size + 1, j, none⟩ u) (some T) := fun j u h => grown_set_new h (by simp) u
  exact ⟨W1, V1, A1, n1, c1, B1, m1, d1, some ⟨C1, 0, none⟩, k1, q1, gs1, ks1, cs1, rfl, ⟨kk _ _ _ h4, kk _ _ _ h5, ⟨own_at (ko 4 _ (ko 3 _ (ko 2 _ (ko 1 _ (ko 0 _ h6))))), hl⟩⟩, kt _ _ (kt _ _ (kt _ _ (kt _ _ (kt _ _ h7)))), kg _ _ (kg _ _ (kg _ _ (kg _ _ (kg _ _ h8)))), ko 4 _ (ko 3 _ (ko 2 _ (ko 1 _ (ko 0 _ h6))))⟩
end
end Go.Proofs.Ytadkjnjibefocaa

namespace Go.Proofs.Ytadkjnjibefocaa
set_option maxRecDepth 20000
set_option linter.unusedVariables false
set_option linter.unusedSimpArgs false
open Go.Joins Go.ChangeShapes Go.WideShapes Go.ChangeAt Go.RowKit Go.Deep

theorem flat_at {α β : Type} {f : α → List β} {c : Nat} (hc : ∀ x, (f x).length = c) : ∀ (l : List α) (k : Nat) (u : β), (l.flatMap f)[k]? = some u → ∃ (i : Nat) (x : α) (j : Nat), l[i]? = some x ∧ (f x)[j]? = some u ∧ k = i * c + j := by
  intro l
  induction l with
  | nil => intro k u h; simp at h
  | cons x l ih =>
    intro k u h
    rw [List.flatMap_cons] at h
    rcases Nat.lt_or_ge k (f x).length with hk | hk
    · rw [List.getElem?_append_left hk] at h
      exact ⟨0, x, k, rfl, h, by omega⟩
    · rw [List.getElem?_append_right hk] at h
      obtain ⟨i, y, j, h1, h2, h3⟩ := ih _ _ h
      refine ⟨i + 1, y, j, by simpa using h1, h2, ?_⟩
      rw [hc] at hk h3
      rw [Nat.succ_mul]
      omega
theorem choose_list {α : Type} {P : Nat → α → Prop} : ∀ n : Nat, (∀ i, i < n → ∃ x, P i x) → ∃ l : List α, l.length = n ∧ ∀ (i : Nat) (x : α), l[i]? = some x → P i x := by
  intro n
  induction n with
  | zero => intro _; exact ⟨[], rfl, fun i x h => by simp at h⟩
  | succ n ih =>
    intro h
    obtain ⟨l, hl, hp⟩ := ih fun i hi => h i (by omega)
    obtain ⟨x, hx⟩ := h n (by omega)
    refine ⟨l ++ [x], by simp [hl], fun i y hy => ?_⟩
    rcases Nat.lt_or_ge i l.length with hi | hi
    · rw [List.getElem?_append_left hi] at hy; exact hp i y hy
    · rw [List.getElem?_append_right hi] at hy
      have e : i = n := by
        have : i - l.length < 1 := by simpa using (List.getElem?_eq_some_iff.1 hy).1
        omega
      subst e
      rw [hl, Nat.sub_self] at hy
      simp at hy
      subst hy
      exact hx
section
variable {H : Type} {enc : TypeId × Value → H} {w : World} {base : Nat} {spare : Nat → Bool} {held : Bool}
theorem open_copies {fuel : Nat} {v : Value} {x : DataW H × List MemPlace} (h : DataW.trod enc Try.prog w base spare held fuel 49 [v] = some x) :
    ∃ (A : Option Addr) (n c : Nat) (cs : List (Int × Int)), v = .slice A n c ∧ ArgC w A n cs ∧ n ≤ maxLen := by
  rcases open_slice Try.underlying49 h with ⟨e1, -⟩ | ⟨a, len, cap, m, n, D, Pl, e1, -, hl, hcap, hm, -, hi⟩
  · injection e1 with e1
    exact ⟨none, 0, 0, [], e1, ⟨.inl rfl, rfl⟩, by simp [maxLen]⟩
  · injection e1 with e1
    obtain ⟨l, hll, hp⟩ := choose_list (P := fun i (z : Int × Int) => w.cell? (a.add (i * 2)) = some (.int .i64 z.1) ∧ w.cell? (a.add (i * 2 + 1)) = some (.int .i64 z.2)) len fun i him => by
      have him2 : i < m := by rw [hm]; split <;> omega
      obtain ⟨cs', hc, ht'⟩ := hi i him2
      rw [show Try.prog.cellsOf 62 = 2 by kernel_rfl] at hc
      obtain ⟨_, hcl, hat⟩ := World.cells?_some hc
      obtain ⟨ys, n', hn', hy, hlen, hyl, hf⟩ := DataW.trod_struct Try.underlying62 ht'
      match cs', hcl with
      | [c0, c1], _ =>
        have h0 : DataW.trod enc Try.prog w base spare held n' 3 (([c0, c1].drop 0).take (Try.prog.cellsOf 3)) = ys[0]? := hf 0 _ rfl
        have h1 : DataW.trod enc Try.prog w base spare held n' 3 (([c0, c1].drop 1).take (Try.prog.cellsOf 3)) = ys[1]? := hf 1 _ rfl
        rw [show ys[0]? = some (ys[0]'(by rw [hyl]; decide)) from List.getElem?_eq_getElem _] at h0
        rw [show ys[1]? = some (ys[1]'(by rw [hyl]; decide)) from List.getElem?_eq_getElem _] at h1
        rw [show Try.prog.cellsOf 3 = 1 by kernel_rfl] at h0 h1
        obtain ⟨z0, e0, -⟩ := DataW.trod_int Try.underlying3 h0
        obtain ⟨z1, e1, -⟩ := DataW.trod_int Try.underlying3 h1
        simp at e0 e1
        subst e0; subst e1
        have g0 := hat 0 (by omega)
        have g1 := hat 1 (by omega)
        rw [Go.Deep.add_add] at g0 g1
        exact ⟨(z0, z1), g0, g1⟩
    refine ⟨some a, len, cap, l, e1, ⟨?_, hll⟩, by omega⟩
    by_cases h0 : len = 0
    · subst h0
      rw [List.length_eq_zero_iff.1 hll]
      exact .inl rfl
    · refine .inr ⟨a, rfl, ?_, fun k u hk => ?_⟩
      · have := (hp 0 _ (List.getElem?_eq_getElem (by omega))).1
        have := cell_in this
        rwa [add_block] at this
      · obtain ⟨i, x, j, h1, h2, rfl⟩ := flat_at (f := fun p : Int × Int => [Value.int .i64 p.1, Value.int .i64 p.2]) (c := 2) (fun x => rfl) l k u hk
        obtain ⟨g0, g1⟩ := hp i x h1
        match j, h2 with
        | 0, h2 => simp at h2; subst h2; exact g0
        | 1, h2 => simp at h2; subst h2; exact g1
        | j + 2, h2 => simp at h2
theorem open_wordsT {fuel : Nat} {v : Value} {x : DataW H × List MemPlace} (h : DataW.trod enc Try.prog w base spare held fuel 45 [v] = some x) :
    ∃ (A : Option Addr) (n c : Nat) (ws : List Nat), v = .slice A n c ∧ Arg w A n ws ∧ n ≤ maxLen := by
  rcases open_ints Try.underlying45 Try.underlying72 cells62 h with ⟨hcs, _⟩ | ⟨x, l, c', zs, hcs, _, hl, hm, hz, _, hcell, hwz⟩
  · simp at hcs
    exact ⟨none, 0, 0, [], hcs, Arg.nil _ _, by simp [maxLen]⟩
  · simp at hcs
    have hle : l ≤ zs.length := by rw [hz]; split <;> omega
    refine ⟨some x, l, c', (zs.take l).map Int.toNat, hcs, ⟨?_, by rw [List.length_map, List.length_take]; omega, ?_⟩, Nat.le_trans hl hm⟩
    · by_cases h0 : l = 0
      · subst h0; exact .inl rfl
      · refine .inr ⟨x, rfl, ?_, fun j u hu => ?_⟩
        · have := cell_in (hcell 0 (by omega)); rwa [add_block] at this
        · unfold words at hu
          rw [List.getElem?_map, List.getElem?_map] at hu
          have hj : j < l := by
            rcases Nat.lt_or_ge j l with h | h
            · exact h
            · rw [List.getElem?_eq_none (by rw [List.length_take]; omega)] at hu; simp at hu
          rw [List.getElem?_take, if_pos hj, List.getElem?_eq_getElem (by omega)] at hu
          have := hcell j (by omega)
          rw [List.getD_eq_getElem?_getD, List.getElem?_eq_getElem (by omega)] at this
          have hw := hwz zs[j] (List.getElem_mem _)
          rw [this]
          simp [u64] at hu ⊢
          rw [← hu]
          have h0 := wf_u64 hw
          simp; omega
    · intro y hy
      obtain ⟨z, hz1, rfl⟩ := List.mem_map.1 hy
      have hw := hwz z (List.mem_of_mem_take hz1)
      unfold Bs.W64
      have h0 := wf_u64 hw
      omega
theorem open_setT {fuel : Nat} {cs : List Value} {x : DataW H × List MemPlace} (h : DataW.trod enc Try.prog w base spare held fuel 47 cs = some x) :
    ∃ (Wd : Int) (A : Option Addr) (n c : Nat) (ws : List Nat), cs = [.int .i64 Wd, .slice A n c] ∧ Arg w A n ws ∧ n ≤ maxLen := by
  obtain ⟨ys, n', hn', hy, hlen, hyl, hf⟩ := DataW.trod_struct Try.underlying47 h
  rw [cells25] at hlen
  match cs, hlen with
  | [c0, c1], _ =>
    have h0 : DataW.trod enc Try.prog w base spare held n' 3 (([c0, c1].drop 0).take (Try.prog.cellsOf 3)) = ys[0]? := hf 0 _ rfl
    have h1 : DataW.trod enc Try.prog w base spare held n' 45 (([c0, c1].drop 1).take (Try.prog.cellsOf 45)) = ys[1]? := hf 1 _ rfl
    rw [show ys[0]? = some (ys[0]'(by rw [hyl]; decide)) from List.getElem?_eq_getElem _] at h0
    rw [show ys[1]? = some (ys[1]'(by rw [hyl]; decide)) from List.getElem?_eq_getElem _] at h1
    rw [show Try.prog.cellsOf 3 = 1 by kernel_rfl] at h0
    rw [show Try.prog.cellsOf 45 = 1 by kernel_rfl] at h1
    obtain ⟨z0, e0, -⟩ := DataW.trod_int Try.underlying3 h0
    obtain ⟨A, n, c, ws, e1, hA, hn⟩ := open_wordsT h1
    simp at e0
    subst e0; subst e1
    exact ⟨z0, A, n, c, ws, rfl, hA, hn⟩
theorem open_transferT {fuel : Nat} {cs : List Value} {x : DataW H × List MemPlace} (h : DataW.trod enc Try.prog w base spare held fuel 51 cs = some x) :
    ∃ (W V : Int) (A B C : Option Addr) (n c m d k q : Nat) (gs ks : List Nat) (ps : List (Int × Int)), cs = [.int .i64 W, .slice A n c, .int .i64 V, .slice B m d, .slice C k q] ∧ FArg w A n B m C k gs ks ps := by
  obtain ⟨ys, n', hn', hy, hlen, hyl, hf⟩ := DataW.trod_struct Try.underlying51 h
  rw [show Try.prog.cellsOf 51 = 5 by kernel_rfl] at hlen
  match cs, hlen with
  | [c0, c1, c2, c3, c4], _ =>
    have h0 : DataW.trod enc Try.prog w base spare held n' 47 (([c0, c1, c2, c3, c4].drop 0).take (Try.prog.cellsOf 47)) = ys[0]? := hf 0 _ rfl
    have h1 : DataW.trod enc Try.prog w base spare held n' 47 (([c0, c1, c2, c3, c4].drop 2).take (Try.prog.cellsOf 47)) = ys[1]? := hf 1 _ rfl
    have h2 : DataW.trod enc Try.prog w base spare held n' 49 (([c0, c1, c2, c3, c4].drop 4).take (Try.prog.cellsOf 49)) = ys[2]? := hf 2 _ rfl
    rw [show ys[0]? = some (ys[0]'(by rw [hyl]; decide)) from List.getElem?_eq_getElem _] at h0
    rw [show ys[1]? = some (ys[1]'(by rw [hyl]; decide)) from List.getElem?_eq_getElem _] at h1
    rw [show ys[2]? = some (ys[2]'(by rw [hyl]; decide)) from List.getElem?_eq_getElem _] at h2
    rw [cells25] at h0 h1
    rw [show Try.prog.cellsOf 49 = 1 by kernel_rfl] at h2
    obtain ⟨W, A, n, c, gs, e0, hA, -⟩ := open_setT h0
    obtain ⟨V, B, m, d, ks, e1, hB, -⟩ := open_setT h1
    obtain ⟨C, k, q, ps, e2, hC, -⟩ := open_copies h2
    simp at e0 e1
    obtain ⟨rfl, rfl⟩ := e0
    obtain ⟨rfl, rfl⟩ := e1
    subst e2
    exact ⟨W, V, A, B, C, n, c, m, d, k, q, gs, ks, ps, rfl, ⟨hA, hB, hC⟩⟩
theorem open_transfer {r : Reach} {b0 : Nat} {v : Value} {d : DataW H} {p : List MemPlace} (hv : Value.okWide Try.prog w r b0 51 v) (h : DataW.Trod enc Try.prog w base spare held 51 v d p) :
    ∃ (W V : Int) (A B C : Option Addr) (n c m d k q : Nat) (gs ks : List Nat) (ps : List (Int × Int)), v = .agg #[.int .i64 W, .slice A n c, .int .i64 V, .slice B m d, .slice C k q] ∧ FArg w A n B m C k gs ks ps := by
  obtain ⟨cs, rfl, hsz⟩ := okWide_struct Try.underlying51 hv
  obtain ⟨fuel, hf⟩ := h
  obtain ⟨W, V, A, B, C, n, c, m, d, k, q, gs, ks, ps, e, hF⟩ := open_transferT hf
  refine ⟨W, V, A, B, C, n, c, m, d, k, q, gs, ks, ps, ?_, hF⟩
  obtain ⟨l⟩ := cs
  simp [Value.cells] at e
  rw [e]
end
end Go.Proofs.Ytadkjnjibefocaa

namespace Go.Proofs.Ytadkjnjibefocaa
set_option maxRecDepth 20000
open Go.ChangeShapes Go.WideShapes Go.ChangeAt Go.RowKit

/-- A valid function of width W came back, its words and copies in rows of the call's own; nothing but the tape has changed. -/
def GenT3 (w : World) (T W : Nat) (e : Ending) (w' : World) : Prop :=
  ∃ (g1 g2 b0 : Nat) (C : Option Addr) (k q : Nat) (gs ks : List Nat) (cs : List (Int × Int)),
    e = .returned (.agg #[.int .i64 W, .slice (some ⟨g1, 0, none⟩) (Bs.nw W) (Bs.nw W), .int .i64 W, .slice (some ⟨g2, 0, none⟩) (Bs.nw W) (Bs.nw W), .slice C k q]) ∧ (Row w' g1 gs ∧ Bs.Fit W gs ∧ w.heap.size ≤ g1) ∧ (Row w' g2 ks ∧ Bs.Fit W ks ∧ w.heap.size ≤ g2) ∧ (w'.ownsRow b0 62 2 (.slice C k q) k (pairs cs) ∧ w.heap.size ≤ b0 ∧ cs.length = k) ∧ validT W gs W ks cs = true ∧ cs.length ≤ 12 ∧ Tape w' T ∧ w.grownBy w' (some T)

/-- The whole variable is stored into the result's cell. -/
theorem Gening.done3 {w wr : World} {T b W : Nat} {cs : List (Int × Int)} (h : Gening w T b W cs wr) (hW : W ≤ 256) (hu : Upto W cs W 0) (h12 : cs.length ≤ 12) :
    ∃ (g1 g2 : Nat) (C : Option Addr) (q : Nat), (wr.cell? ⟨b, 0, none⟩ = some (.int .i64 W) ∧ wr.cell? ⟨b, 1, none⟩ = some (.slice (some ⟨g1, 0, none⟩) (Bs.nw W) (Bs.nw W)) ∧ wr.cell? ⟨b, 2, none⟩ = some (.int .i64 W) ∧ wr.cell? ⟨b, 3, none⟩ = some (.slice (some ⟨g2, 0, none⟩) (Bs.nw W) (Bs.nw W)) ∧ wr.cell? ⟨b, 4, none⟩ = some (.slice C cs.length q)) ∧
    ((wr.cell? ⟨w.heap.size, 0, none⟩ = some (.int .i64 0) ∧ wr.cell? ⟨w.heap.size, 1, none⟩ = some (.slice none 0 0) ∧ wr.cell? ⟨w.heap.size, 2, none⟩ = some (.int .i64 0) ∧ wr.cell? ⟨w.heap.size, 3, none⟩ = some (.slice none 0 0) ∧ wr.cell? ⟨w.heap.size, 4, none⟩ = some (.slice none 0 0)) ∧
     (wr.frozen? ⟨w.heap.size, 0, none⟩ = false ∧ wr.frozen? ⟨w.heap.size, 1, none⟩ = false ∧ wr.frozen? ⟨w.heap.size, 2, none⟩ = false ∧ wr.frozen? ⟨w.heap.size, 3, none⟩ = false ∧ wr.frozen? ⟨w.heap.size, 4, none⟩ = false)) ∧ w.heap.size < wr.heap.size ∧
    GenT3 w T W (.returned (.agg #[.int .i64 W, .slice (some ⟨g1, 0, none⟩) (Bs.nw W) (Bs.nw W), .int .i64 W, .slice (some ⟨g2, 0, none⟩) (Bs.nw W) (Bs.nw W), .slice C cs.length q]))
      (((((wr.setCell ⟨w.heap.size, 0, none⟩ (.int .i64 W)).setCell ⟨w.heap.size, 1, none⟩ (.slice (some ⟨g1, 0, none⟩) (Bs.nw W) (Bs.nw W))).setCell ⟨w.heap.size, 2, none⟩ (.int .i64 W)).setCell ⟨w.heap.size, 3, none⟩ (.slice (some ⟨g2, 0, none⟩) (Bs.nw W) (Bs.nw W))).setCell ⟨w.heap.size, 4, none⟩ (.slice C cs.length q)) := by
  obtain ⟨g1, g2, gs, ks, C, q, h1, ⟨h2, h3, h4⟩, ⟨h5, h6, h7⟩, h8, h9, h10, h11, h12', h13⟩ := h
  refine ⟨g1, g2, C, q, h1.five, ⟨h9.five, h9.frozen 0, h9.frozen 1, h9.frozen 2, h9.frozen 3, h9.frozen 4⟩, h9.lt, ?_⟩
  have n1 := h9.row_ne (by decide) h2
  have n2 := h9.row_ne (by decide) h5
  have r1 : ∀ {wx : World} (j : Nat) (u : Value), Row wx g1 gs → Row (wx.setCell ⟨w.heap.size, j, none⟩ u) g1 gs := fun j u h => h.far n1 u
  have r2 : ∀ {wx : World} (j : Nat) (u : Value), Row wx g2 ks → Row (wx.setCell ⟨w.heap.size, j, none⟩ u) g2 ks := fun j u h => h.far n2 u
  have kc : ∀ {wx : World} (j : Nat) (u : Value), Cops wx (b + 1) (.slice C cs.length q) cs → Cops (wx.setCell ⟨w.heap.size, j, none⟩ u) (b + 1) (.slice C cs.length q) cs := fun {wx} j u hx =>
    World.ownsRow.kept hx (setCell_grown wx _ u) (by
      cases hv : (Value.slice C cs.length q).ownBlock with
      | none => exact .inl rfl
      | some k => exact .inr (by have := own_base hx k hv; simp only [ne_eq, Option.some.injEq]; omega))
  have kt : ∀ {wx : World} (j : Nat) (u : Value), Tape wx T → Tape (wx.setCell ⟨w.heap.size, j, none⟩ u) T := fun j u h => h.far (by simp; omega) u
  have kg : ∀ {wx : World} (j : Nat) (u : Value), w.grownBy wx (some T) → w.grownBy (wx.setCell ⟨w.heap.size, j, none⟩ u) (some T) := fun j u h => grown_set_new h (by simp) u
  have e1 := r1 4 (.slice C cs.length q) (r1 3 (.slice (some ⟨g2, 0, none⟩) (Bs.nw W) (Bs.nw W)) (r1 2 (.int .i64 W) (r1 1 (.slice (some ⟨g1, 0, none⟩) (Bs.nw W) (Bs.nw W)) (r1 0 (.int .i64 W) h2))))
  have e2 := r2 4 (.slice C cs.length q) (r2 3 (.slice (some ⟨g2, 0, none⟩) (Bs.nw W) (Bs.nw W)) (r2 2 (.int .i64 W) (r2 1 (.slice (some ⟨g1, 0, none⟩) (Bs.nw W) (Bs.nw W)) (r2 0 (.int .i64 W) h5))))
  have e3 := kc 4 (.slice C cs.length q) (kc 3 (.slice (some ⟨g2, 0, none⟩) (Bs.nw W) (Bs.nw W)) (kc 2 (.int .i64 W) (kc 1 (.slice (some ⟨g1, 0, none⟩) (Bs.nw W) (Bs.nw W)) (kc 0 (.int .i64 W) h8))))
  refine ⟨g1, g2, b + 1, C, cs.length, q, gs, ks, cs, rfl, ⟨e1, h3, h4⟩, ⟨e2, h6, h7⟩, ⟨e3, by omega, rfl⟩, ?_, h12, kt _ _ (kt _ _ (kt _ _ (kt _ _ (kt _ _ h11)))), kg _ _ (kg _ _ (kg _ _ (kg _ _ (kg _ _ h13))))⟩
  unfold validT
  rw [Bs.valid_of_fit h3 hW, Bs.valid_of_fit h6 hW]
  simp only [decide_true, Bool.true_and, Bool.and_eq_true, decide_eq_true_eq, List.all_eq_true, List.mem_range]
  exact ⟨by omega, hu.1⟩

set_option maxHeartbeats 1600000 in
theorem transfer3_any (T W : Nat) (w : World) (ht : Tape w T) (hW : W ≤ 16) : Calls Try.prog 17 #[.pointer (some ⟨T, 0, none⟩), .int .i64 W] w (GenT3 w T W) := by
  obtain ⟨i0, hi, hz0, hz1, hz2⟩ := info_parts info35
  have Hi := hid hi; have Hz0 := hid hz0; have Hz1 := hid hz1; have Hz2 := hid hz2
  have Ht := hid ht
  have hTl := ht.lt
  have HR := hid (Fb.new w #[.int .i64 0, .slice none 0 0, .int .i64 0, .slice none 0 0, .slice none 0 0] 51)
  have HB := hid ((Below.refl w.heap.size w).alloc (Nat.le_refl _) (.cells #[.int .i64 0, .slice none 0 0, .int .i64 0, .slice none 0 0, .slice none 0 0] 51))
  clear ht hi hz0 hz1 hz2
  go_enter Try.func17, Try.ntmps17
  go_wp2_with fail
  refine (refEmpty_any W _ (by omega)).mono ?_
  rintro e w2 ⟨g1, rfl, hg1, hrow1, hb2⟩
  rw [len_emp]
  rw [World.size_alloc] at hg1
  have HR2 := hid (HR.out.below hb2 (by simp))
  have HB2 := hid (HB.out.trans (hb2.mono (by simp)))
  have Hr1 := hid hrow1
  clear hrow1 hb2 HR HB
  go_wp2_with fail
  refine (refEmpty_any W _ (by omega)).mono ?_
  rintro e w3 ⟨g2, rfl, hg2, hrow2, hb3⟩
  rw [len_emp]
  have hlt2 := HR2.out.lt
  have HR3 := hid (HR2.out.below hb3 HR2.out.lt)
  have HB3 := hid (HB2.out.trans (hb3.mono HB2.out.size))
  have Hr3 := hid (Hr1.out.below hb3 Hr1.out.lt)
  have Hr2 := hid hrow2
  have hlt3 := HR3.out.lt
  clear hrow2 hb3 HR2 HB2 Hr1
  have Hst := hid (show Gening w T w3.heap.size W [] (w3.alloc (.cells #[.int .i64 W, .slice (some ⟨g1, 0, none⟩) (Bs.nw W) (Bs.nw W), .int .i64 W, .slice (some ⟨g2, 0, none⟩) (Bs.nw W) (Bs.nw W), .slice none 0 0] 51)) from
    ⟨g1, g2, Bs.emp W, Bs.emp W, none, 0, Fb.new _ _ _, ⟨Hr3.out.alloc _, Bs.fit_emp W, by omega⟩, ⟨Hr2.out.alloc _, Bs.fit_emp W, by omega⟩, World.ownsRow_nil _ _ _ _, HR3.out.alloc _, hlt3, (Ht.out.below HB3.out hTl).alloc _, hTl, grown_of_below (HB3.out.alloc HB3.out.size _) _⟩)
  go_wp2_with fail
  generalize w3.alloc (.cells #[.int .i64 W, .slice (some ⟨g1, 0, none⟩) (Bs.nw W) (Bs.nw W), .int .i64 W, .slice (some ⟨g2, 0, none⟩) (Bs.nw W) (Bs.nw W), .slice none 0 0] 51) = wv at *
  generalize w3.heap.size = b at *
  clear HR3 HB3 Hr3 Hr2
  go_loopw [6] (fun i wr => ∃ k : Nat, k ≤ W ∧ i = .int .i64 k ∧ Hid (Gening w T b W [] wr)) (fun i _ => W - (intOf i).toNat)
  case atStart => exact ⟨0, by omega, rfl, Hst⟩
  case round =>
    obtain ⟨k, hk, rfl, hG⟩ := hrel
    clear Hst
    by_cases hlt : k < W
    · have Htt := hid (show Tape wr T from by obtain ⟨_, _, _, _, _, _, _, _, _, _, _, _, h, _⟩ := hG.out; exact h)
      go_wp2_with fail
      refine (next_any T 6 _ Htt.out (by omega)).mono ?_
      rintro e w4 ⟨r4, rfl, h40, h41, ht4, hg4, hs4⟩
      have HG4 := hid (hG.out.tape ht4 hg4)
      clear h41 ht4 hg4 hs4 Htt hG
      by_cases h1 : r4 = 1
      · have t : (r4 == 1) = true := by simp [h1]
        obtain ⟨x1, x2, gs, ks, C, q, p1, ⟨p2, p3, p4⟩, ⟨p5, p6, p7⟩, p8⟩ := HG4.out
        obtain ⟨c0, c1, c2, c3, c4⟩ := p1.five
        have Ha := hid (show Arg w4 (some ⟨x1, 0, none⟩) (Bs.nw W) gs from ⟨(p2.arg p3.ok).lies, p3.len, p3.ok⟩)
        have Hf := hid p3
        clear h1 p1 p2 p3 p5 p6 p8 p4 p7
        go_wp2_with fail
        refine (refPut_any W _ _ _ gs k _ Ha.out (by omega) Hf.out.len hlt).mono ?_
        rintro e w5 ⟨g5, rfl, hg5, hr5, hb5⟩
        rw [show (Bs.put gs k).length = Bs.nw W from by rw [Bs.length_put]; exact Hf.out.len]
        obtain ⟨⟨v0, v1, m0, m1, f0, f1⟩, hfin⟩ := HG4.out.gen (Bs.fit_put Hf.out hlt) hg5 hr5 hb5
        have Hfin := hid hfin
        clear hfin hr5 hb5 c0 c1 c2 c3 c4
        go_wp2_with fail
        go_roundw
        case rel => exact ⟨k + 1, by omega, by go_num, Hfin⟩
        case measure => simp [intOf]; omega
      · have t : (r4 == 1) = false := by simp [h1]
        clear h1
        have hthree : (r4 = 2) ∨ (r4 ≠ 2 ∧ r4 = 3) ∨ (r4 ≠ 2 ∧ r4 ≠ 3) := by omega
        rcases hthree with h2 | ⟨h2, h3⟩ | ⟨h2, h3⟩
        · have t2 : (r4 == 2) = true := by simp [h2]
          obtain ⟨x1, x2, gs, ks, C, q, p1, ⟨p2, p3, p4⟩, ⟨p5, p6, p7⟩, p8⟩ := HG4.out
          obtain ⟨c0, c1, c2, c3, c4⟩ := p1.five
          have Ha := hid (show Arg w4 (some ⟨x2, 0, none⟩) (Bs.nw W) ks from ⟨(p5.arg p6.ok).lies, p6.len, p6.ok⟩)
          have Hf := hid p6
          clear h2 p1 p2 p3 p5 p6 p8 p4 p7
          go_wp2_with fail
          refine (refPut_any W _ _ _ ks k _ Ha.out (by omega) Hf.out.len hlt).mono ?_
          rintro e w5 ⟨g5, rfl, hg5, hr5, hb5⟩
          rw [show (Bs.put ks k).length = Bs.nw W from by rw [Bs.length_put]; exact Hf.out.len]
          obtain ⟨⟨v0, v1, m0, m1, f0, f1⟩, hfin⟩ := HG4.out.kill (Bs.fit_put Hf.out hlt) hg5 hr5 hb5
          have Hfin := hid hfin
          clear hfin hr5 hb5 c0 c1 c2 c3 c4
          go_wp2_with fail
          go_roundw
          case rel => exact ⟨k + 1, by omega, by go_num, Hfin⟩
          case measure => simp [intOf]; omega
        · have t2 : (r4 == 2) = false := by simp [h2]
          have t3 : (r4 == 3) = true := by simp [h3]
          obtain ⟨x1, x2, gs, ks, C, q, p1, ⟨p2, p3, p4⟩, ⟨p5, p6, p7⟩, p8⟩ := HG4.out
          obtain ⟨c0, c1, c2, c3, c4⟩ := p1.five
          have Ha := hid (show Arg w4 (some ⟨x2, 0, none⟩) (Bs.nw W) ks from ⟨(p5.arg p6.ok).lies, p6.len, p6.ok⟩)
          have Hf := hid p6
          clear h2 h3 p1 p2 p3 p5 p6 p8 p4 p7
          go_wp2_with fail
          refine (refPut_any W _ _ _ ks k _ Ha.out (by omega) Hf.out.len hlt).mono ?_
          rintro e w5 ⟨g5, rfl, hg5, hr5, hb5⟩
          rw [show (Bs.put ks k).length = Bs.nw W from by rw [Bs.length_put]; exact Hf.out.len]
          obtain ⟨⟨v0, v1, m0, m1, f0, f1⟩, hfin⟩ := HG4.out.kill (Bs.fit_put Hf.out hlt) hg5 hr5 hb5
          have Hfin := hid hfin
          clear hfin hr5 hb5 c0 c1 c2 c3 c4
          go_wp2_with fail
          go_roundw
          case rel => exact ⟨k + 1, by omega, by go_num, Hfin⟩
          case measure => simp [intOf]; omega
        · have t2 : (r4 == 2) = false := by simp [h2]
          have t3 : (r4 == 3) = false := by simp [h3]
          clear h2 h3
          go_wp2_with fail
          go_roundw
          case rel => exact ⟨k + 1, by omega, by go_num, HG4⟩
          case measure => simp [intOf]; omega
    · have hkW : W = k := by omega
      subst hkW
      clear hk
      go_wp2_with fail
      go_loopw [7, 8] (fun i _ wr => ∃ a : Nat, a ≤ W ∧ i = .int .i64 a ∧ Hid (∃ cs : List (Int × Int), Gening w T b W cs wr ∧ Upto W cs a 0 ∧ cs.length ≤ 12)) (fun i _ _ => W - (intOf i).toNat)
      case atStart => exact ⟨0, by omega, rfl, [], hG.out, ⟨fun i hi => by simp at hi, fun p hp => by simp at hp⟩, by simp⟩
      case round =>
        clear hG
        obtain ⟨a, ha, rfl, hG⟩ := hrel
        by_cases hla : a < W
        · go_wp2_with fail
          go_loopw [8] (fun i wr => ∃ c : Nat, c ≤ W ∧ i = .int .i64 c ∧ Hid (∃ cs : List (Int × Int), Gening w T b W cs wr ∧ Upto W cs a c ∧ cs.length ≤ 12)) (fun i _ => W - (intOf i).toNat)
          case atStart => exact ⟨0, by omega, rfl, hG⟩
          case round =>
            clear hG
            obtain ⟨c, hc, rfl, hG⟩ := hrel
            by_cases hlc : c < W
            · obtain ⟨cs, hG1, hU, h12⟩ := hG.out
              obtain ⟨C, q, c4, f4, hC, hbl, hpush⟩ := hG1.slice
              have Htt := hid (show Tape wr T from by obtain ⟨_, _, _, _, _, _, _, _, _, _, _, _, h, _⟩ := hG1; exact h)
              have HG1 := hid hG1; have HU := hid hU
              clear hG1 hU hG hC hpush f4
              by_cases hl : cs.length < 12
              · go_wp2_with fail
                refine (next_any T (2 * (W : Int)) _ Htt.out (by omega)).mono ?_
                rintro e w4 ⟨r4, rfl, h40, h41, ht4, hg4, hs4⟩
                have HG4 := hid (HG1.out.tape ht4 hg4)
                clear h41 ht4 hg4 hs4 Htt HG1 c4
                by_cases h1 : r4 = 1
                · have t : (r4 == 1) = true := by simp [h1]
                  clear h1
                  obtain ⟨C, q, c4, f4, hC, hbl4, hpush⟩ := HG4.out.slice
                  have HC := hid hC; have Hpush := hid hpush
                  clear hC hpush
                  go_wp2_with (first
                    | (at_builtin
                       refine wpList_append_own _ rfl _ _ 49 rfl (b + 1) 62 i0 _ 2 16 Try.underlying49 Hi.out Hz0.out Hz1.out Hz2.out rfl (by decide) (.slice C cs.length q) cs.length (pairs cs) rfl (HC.out.alloc _) ⟨w4.heap.size, 0, none⟩ 1 1 [.int .i64 (a : Int), .int .i64 (c : Int)] rfl rfl (two_new _ _ _ _) (by intro u hu; simp at hu; rcases hu with rfl | rfl <;> rfl) (by unfold maxLen; omega) (by omega) (by rw [World.size_alloc]; omega) ?_
                       intro v' w3 hown3 hgr3 hnil3
                       obtain ⟨C3, q3, rfl, ⟨y0, y1⟩, hK3⟩ := Hpush.out _ _ _ _ _ hown3 hgr3
                       have HK3 := hid hK3
                       clear hown3 hgr3 hnil3 hK3))
                  go_roundw
                  case rel => exact ⟨c + 1, by omega, by go_num, _, HK3.out, HU.out.push hla hlc, by rw [List.length_append, List.length_singleton]; omega⟩
                  case measure => simp [intOf]; omega
                · have t : (r4 == 1) = false := by simp [h1]
                  clear h1
                  go_wp2_with fail
                  go_roundw
                  case rel => exact ⟨c + 1, by omega, by go_num, cs, HG4.out, HU.out.step, h12⟩
                  case measure => simp [intOf]; omega
              · go_wp2_with fail
                go_roundw
                case rel => exact ⟨a + 1, by omega, by go_num, cs, HG1.out, (show Upto W cs ((a + 1 : Nat) : Int) 0 from by have := HU.out.row; exact this), h12⟩
                case measure => simp [intOf]; omega
            · obtain ⟨cs, hG1, hU, h12⟩ := hG.out
              have HG1 := hid hG1; have HU := hid hU
              clear hG1 hU hG
              go_wp2_with fail
              go_roundw
              case rel => exact ⟨a + 1, by omega, by go_num, cs, HG1.out, (show Upto W cs ((a + 1 : Nat) : Int) 0 from by have := HU.out.row; exact this), h12⟩
              case measure => simp [intOf]; omega
        · have haW : W = a := by omega
          subst haW
          obtain ⟨cs, hG1, hU, h12⟩ := hG.out
          obtain ⟨g1', g2', C, q, ⟨c0, c1, c2, c3, c4⟩, ⟨⟨r0, r1, r2, r3, r4⟩, f0, f1, f2, f3, f4⟩, hlR, hfin⟩ := hG1.done3 (by omega) hU h12
          have Hfin := hid hfin
          clear hfin hG1 hU h12 hG
          go_wp2_with fail
          refine bodyPost_ret (v := .agg #[.int .i64 W, .slice (some ⟨g1', 0, none⟩) (Bs.nw W) (Bs.nw W), .int .i64 W, .slice (some ⟨g2', 0, none⟩) (Bs.nw W) (Bs.nw W), .slice C cs.length q]) (by simp [results, Try.results17, go_sem, r0, r1, r2, r3, r4]) rfl ?_
          exact Hfin.out
/-- A valid set of width W came back, its words in a row of the call's own. -/
def GenS3 (w : World) (T W : Nat) (e : Ending) (w' : World) : Prop :=
  ∃ (g : Nat) (ws : List Nat), e = .returned (.agg #[.int .i64 W, .slice (some ⟨g, 0, none⟩) (Bs.nw W) (Bs.nw W)]) ∧ Bs.Fit W ws ∧ Row w' g ws ∧ w.heap.size ≤ g ∧ Tape w' T ∧ w.grownBy w' (some T)
set_option maxHeartbeats 1600000 in
theorem set3_any (T W : Nat) (w : World) (ht : Tape w T) (hW : W ≤ 256) : Calls Try.prog 16 #[.pointer (some ⟨T, 0, none⟩), .int .i64 W] w (GenS3 w T W) := by
  have Ht := hid ht
  have hTl := ht.lt
  clear ht
  go_enter Try.func16, Try.ntmps16
  go_wp2_with fail
  refine (refEmpty_any W _ (by omega)).mono ?_
  rintro e w2 ⟨g, rfl, hg, hrow, hb2⟩
  rw [len_emp]
  have hz2 := hb2.size
  rw [World.size_alloc] at hz2 hg
  have hinv : Growing w T w2.heap.size w.heap.size W (w2.alloc (.cells #[.int .i64 W, .slice (some ⟨g, 0, none⟩) (Bs.nw W) (Bs.nw W)] 47)) :=
    ⟨g, Bs.emp W, Bs.fit_emp W, Box.new _ _ _ _ _, hrow.alloc _, by omega, ((Box.new w 0 none 0 0).below hb2 (by simp)).alloc _, ((Ht.out.alloc _).below hb2 (by rw [World.size_alloc]; omega)).alloc _,
      grown_trans (grown_trans (grown_of_below ((Below.refl _ _).alloc (Nat.le_refl _) _) _) (grown_of_below hb2 _)) (grown_of_below ((Below.refl _ _).alloc (Nat.le_refl _) _) _)⟩
  have Hinv := hid hinv
  clear hinv hrow hb2 hg
  go_wp2_with fail
  go_loopw [6] (fun i wr => ∃ k : Nat, k ≤ W ∧ i = .int .i64 k ∧ Hid (Growing w T w2.heap.size w.heap.size W wr)) (fun i _ => W - (intOf i).toNat)
  case atStart => exact ⟨0, by omega, rfl, Hinv⟩
  case round =>
    obtain ⟨k, hk, rfl, hG⟩ := hrel
    by_cases hlt : k < W
    · have htt : Tape wr T := by obtain ⟨g, ws, h1, h2, h3, h4, h5, h6, h7⟩ := hG.out; exact h6
      have Htt := hid htt
      clear htt
      go_wp2_with fail
      refine (next_any T 3 _ Htt.out (by omega)).mono ?_
      rintro e w4 ⟨r4, rfl, h40, h41, ht4, hg4, hs4⟩
      have hG4 := hid (hG.out.tape ht4 hg4 hTl (by omega) (by omega))
      clear h41 ht4 hg4 hs4
      by_cases h1 : r4 = 1
      · have t : (r4 == 1) = true := by simp [h1]
        clear h1
        obtain ⟨g2, ws, hfit, hbox, hrow, hgg, hbr, htt4, hgr⟩ := hG4.out
        have hc0 := hbox.c0
        have hc1 := hbox.c1
        have Hfit := hid hfit; have Hrow := hid hrow; have Hbox := hid hbox
        clear hfit hbox hrow hgg hbr htt4 hgr
        go_wp2_with fail
        refine (refPut_any W _ _ _ ws k _ ⟨(Row.arg Hrow.out Hfit.out.ok).lies, Hfit.out.len, Hfit.out.ok⟩ (by omega) Hfit.out.len hlt).mono ?_
        rintro e w5 ⟨g5, rfl, hg5, hrow5, hb5⟩
        obtain ⟨⟨hc50, hc51⟩, hf50, hf51⟩ := box_stores Hbox.out hb5
        have hfin := hG4.out.put hTl (by omega) (by omega) (Bs.fit_put Hfit.out hlt) hg5 hrow5 hb5
        rw [show (Bs.put ws k).length = Bs.nw W from by rw [Bs.length_put]; exact Hfit.out.len]
        have Hfin := hid hfin
        clear hfin hrow5 hb5
        go_wp2_with fail
        go_roundw
        case rel => exact ⟨k + 1, by omega, by go_num, Hfin⟩
        case measure => simp [intOf]; omega
      · have t : (r4 == 1) = false := by simp [h1]
        clear h1
        go_wp2_with fail
        go_roundw
        case rel => exact ⟨k + 1, by omega, by go_num, hG4⟩
        case measure => simp [intOf]; omega
    · have hkW : k = W := by omega
      subst hkW
      obtain ⟨g2, ws, hfit, hbox, hrow, hgg, hbr, htt, hgr⟩ := hG.out
      have hb0 := hbox.c0
      have hb1 := hbox.c1
      have hc0 := hbr.c0
      have hc1 := hbr.c1
      have hf0 := hbr.f 0
      have hf1 := hbr.f 1
      have hgl := hrow.lt
      have hne := hbr.row_ne hrow
      have Hrow := hid hrow; have Hfit := hid hfit; have Htt := hid htt; have Hgr := hid hgr; have Hbr := hid hbr; have Hgg := hid hgg
      clear hrow hfit htt hgr hbr hbox hgg
      go_wp2
      refine bodyPost_ret (v := .agg #[.int .i64 k, .slice (some ⟨g2, 0, none⟩) (Bs.nw k) (Bs.nw k)]) (by simp [results, Try.results16, go_sem, hc0, hc1]) rfl ⟨_, ws, rfl, Hfit.out, ?_, Hgg.out, ?_, ?_⟩
      · exact (Hrow.out.far (p := ⟨w.heap.size, 0, none⟩) hne (.int .i64 k)).far (p := ⟨w.heap.size, 1, none⟩) hne (.slice (some ⟨g2, 0, none⟩) (Bs.nw k) (Bs.nw k))
      · exact (Htt.out.far (by simp; omega) _).far (by simp; omega) _
      · exact grown_set_new (grown_set_new Hgr.out (by simp) _) (by simp) _
end Go.Proofs.Ytadkjnjibefocaa

namespace Go.Proofs.Ytadkjnjibefocaa
set_option maxRecDepth 20000
set_option linter.unusedVariables false
set_option linter.unusedSimpArgs false
open Go.ChangeShapes Go.WideShapes Go.ChangeAt Go.RowKit

def Typ (w : World) (g t : Nat) : Prop := ∃ cs m, w.heap[g]? = some (.cells cs t m)
theorem Typ.ne {w : World} {g g' t t' : Nat} (h : Typ w g t) (h' : Typ w g' t') (ht : t ≠ t') : g ≠ g' := by
  rintro rfl
  obtain ⟨cs, m, h⟩ := h
  obtain ⟨cs', m', h'⟩ := h'
  rw [h] at h'
  injection h' with h'
  injection h' with _ h2
  exact ht h2
theorem Fb.typ {w : World} {g t : Nat} {cs : Array Value} (h : Fb w g cs t) : Typ w g t := ⟨cs, _, h⟩
theorem Row.typ {w : World} {g : Nat} {ws : List Nat} (h : Row w g ws) : Typ w g 72 := ⟨_, _, h⟩
theorem Tape.typ {w : World} {T : Nat} (h : Tape w T) : Typ w T 42 := by
  obtain ⟨A, n, c, k, zs, h, _⟩ := h
  exact ⟨_, _, h⟩
theorem own_typ {w : World} {base ty k n : Nat} {v : Value} {xs : List Value} (h : w.ownsRow base ty k v n xs) {g : Nat} (hg : v.ownBlock = some g) : Typ w g ty := by
  rcases h.2 with ⟨rfl, _⟩ | ⟨g', cap, cur, rfl, _, h', _⟩
  · cases hg
  · obtain rfl := Option.some.inj hg
    exact ⟨_, _, h'⟩
theorem own_noteq {w : World} {base ty k n : Nat} {v : Value} {xs : List Value} (h : w.ownsRow base ty k v n xs) {g t : Nat} (hg : Typ w g t) (ht : t ≠ ty) : v.ownBlock = none ∨ v.ownBlock ≠ some g := by
  cases hv : v.ownBlock with
  | none => exact .inl rfl
  | some k => exact .inr fun e => hg.ne (own_typ h (hv.trans e)) ht rfl
theorem own_slice3 {w : World} {base ty k n : Nat} {v : Value} {xs : List Value} (h : w.ownsRow base ty k v n xs) : ∃ (A : Option Addr) (c : Nat), v = .slice A n c := by
  rcases h.2 with ⟨rfl, rfl⟩ | ⟨g', cap, cur, rfl, _, h', _⟩
  · exact ⟨_, _, rfl⟩
  · exact ⟨_, _, rfl⟩
/-- A step that writes a block of type t alone. -/
def Stp1 (t : Nat) (w w' : World) : Prop := ∃ row, w.grownBy w' row ∧ ∀ g, row = some g → Typ w g t
theorem Stp1.below {t : Nat} {w w' : World} (h : Below w.heap.size w w') : Stp1 t w w' := ⟨none, grown_of_below h _, fun g h => by cases h⟩
theorem Stp1.refl (t : Nat) (w : World) : Stp1 t w w := Stp1.below (Below.refl _ _)
theorem Stp1.block {t t' : Nat} {w w' : World} (h : Stp1 t w w') {g : Nat} (hg : Typ w g t') (ht : t' ≠ t) (hlt : g < w.heap.size) : w'.heap[g]? = w.heap[g]? := by
  obtain ⟨row, h1, h2⟩ := h
  exact h1.block g hlt fun e => hg.ne (h2 g e.symm) ht rfl
theorem Typ.lt {w : World} {g t : Nat} (h : Typ w g t) : g < w.heap.size := by
  obtain ⟨cs, m, h⟩ := h
  rcases Nat.lt_or_ge g w.heap.size with hlt | hge
  · exact hlt
  · rw [Array.getElem?_eq_none hge] at h; cases h
theorem Stp1.fb {t t' : Nat} {w w' : World} (h : Stp1 t w w') {g : Nat} {cs : Array Value} (hf : Fb w g cs t') (ht : t' ≠ t) : Fb w' g cs t' := (h.block hf.typ ht hf.lt).trans hf
theorem Stp1.row {t : Nat} {w w' : World} (h : Stp1 t w w') {g : Nat} {ws : List Nat} (hf : Row w g ws) (ht : 72 ≠ t) : Row w' g ws := (h.block hf.typ ht hf.lt).trans hf
theorem Stp1.own {t base ty k n : Nat} {w w' : World} {v : Value} {xs : List Value} (h : Stp1 t w w') (ho : w.ownsRow base ty k v n xs) (ht : ty ≠ t) : w'.ownsRow base ty k v n xs := by
  obtain ⟨row, h1, h2⟩ := h
  refine ho.kept h1 ?_
  cases hv : v.ownBlock with
  | none => exact .inl rfl
  | some g => exact .inr fun e => (own_typ ho hv).ne (h2 g e.symm) ht rfl
theorem Stp1.typ {t t' : Nat} {w w' : World} (h : Stp1 t w w') {g : Nat} (hg : Typ w g t') (ht : t' ≠ t) : Typ w' g t' := by
  obtain ⟨cs, m, hc⟩ := hg
  exact ⟨cs, m, (h.block ⟨cs, m, hc⟩ ht (Typ.lt ⟨cs, m, hc⟩)).trans hc⟩
/-- All but these blocks is as it was. -/
structure GrX (w : World) (ex : List (Option Nat)) (u : World) : Prop where
  os : u.os = w.os
  tape : u.tape = w.tape
  output : u.output = w.output
  size : w.heap.size ≤ u.heap.size
  block : ∀ k, k < w.heap.size → some k ∉ ex → u.heap[k]? = w.heap[k]?
theorem GrX.refl (w : World) (ex : List (Option Nat)) : GrX w ex w := ⟨rfl, rfl, rfl, Nat.le_refl _, fun _ _ _ => rfl⟩
theorem GrX.step {w u u' : World} {ex : List (Option Nat)} {row : Option Nat} (h : GrX w ex u) (hg : u.grownBy u' row) (hr : ∀ g, row = some g → row ∈ ex ∨ w.heap.size ≤ g) : GrX w ex u' :=
  ⟨hg.os.trans h.os, hg.tape.trans h.tape, hg.output.trans h.output, Nat.le_trans h.size hg.size, fun k hk hne => (hg.block k (by have := h.size; omega) fun e => by
    rcases hr k e.symm with h1 | h1
    · exact hne (e ▸ h1)
    · omega).trans (h.block k hk hne)⟩
theorem GrX.below {w u u' : World} {ex : List (Option Nat)} (h : GrX w ex u) (hb : Below u.heap.size u u') : GrX w ex u' := h.step (grown_of_below hb none) (fun g e => by cases e)
theorem GrX.go {w u : World} {ex ex' : List (Option Nat)} (h : GrX w ex u) (he : ∀ k, k < w.heap.size → some k ∈ ex' → some k ∈ ex) : Go2 w ex u ex' := fun k hk =>
  ⟨h.block k hk.1 hk.2, by have := h.size; have := hk.1; omega, fun h' => hk.2 (he k hk.1 h')⟩
theorem GrX.grown {w0 w u : World} {ex : List (Option Nat)} {T : Nat} (h : GrX w ex u) (h0 : w0.grownBy w (some T)) (hex : ∀ k, some k ∈ ex → k = T ∨ w0.heap.size ≤ k) : w0.grownBy u (some T) :=
  ⟨h.os.trans h0.os, h.tape.trans h0.tape, h.output.trans h0.output, Nat.le_trans h0.size h.size, fun k hk hne => by
    have := h0.size
    refine (h.block k (by omega) fun hm => ?_).trans (h0.block k hk hne)
    rcases hex k hm with h1 | h1
    · exact hne (by rw [h1])
    · omega⟩
/-- A function of the generator's, by its rows. -/
structure Ft (u : World) (W : Nat) (F : FH) : Prop where
  gen : ∃ g, F.G.A = some ⟨g, 0, none⟩ ∧ Row u g F.G.ws
  kill : ∃ g, F.K.A = some ⟨g, 0, none⟩ ∧ Row u g F.K.ws
  cops : ∃ b, u.ownsRow b 62 2 (.slice F.C F.k F.q) F.k (pairs F.cs)
  g1 : F.G.W = W ∧ Bs.Fit W F.G.ws ∧ F.G.n = Bs.nw W
  k1 : F.K.W = W ∧ Bs.Fit W F.K.ws ∧ F.K.n = Bs.nw W
  c1 : F.cs.length = F.k ∧ F.k ≤ 12
  ok : validT W F.G.ws W F.K.ws F.cs = true
theorem Stp1.ft {t : Nat} {u u' : World} {W : Nat} {F : FH} (h : Stp1 t u u') (hf : Ft u W F) (h1 : 72 ≠ t) (h2 : 62 ≠ t) : Ft u' W F := by
  obtain ⟨⟨g, a1, a2⟩, ⟨g', b1, b2⟩, ⟨b, c⟩, r1, r2, r3, r4⟩ := hf
  exact ⟨⟨g, a1, h.row a2 h1⟩, ⟨g', b1, h.row b2 h1⟩, ⟨b, h.own c h2⟩, r1, r2, r3, r4⟩
theorem Ft.fh {u : World} {W : Nat} {F : FH} {ex : List (Option Nat)} (h : Ft u W F) (hex : ∀ k, some k ∈ ex → ¬ Typ u k 72 ∧ ¬ Typ u k 62) : FHok u ex F := by
  obtain ⟨⟨g, a1, a2⟩, ⟨g', b1, b2⟩, ⟨b, c⟩, ⟨_, f1, n1⟩, ⟨_, f2, n2⟩, ⟨l1, _⟩, _⟩ := h
  refine ⟨⟨?_, by rw [f1.len, n1], f1.ok⟩, ⟨?_, by rw [f2.len, n2], f2.ok⟩, EAt.own c fun k hk hm => (hex k hm).2 (own_typ c hk), l1⟩
  · rw [a1]; exact EAt.fb a2 (fun hm => (hex g hm).1 a2.typ) (fun j x hx => by simpa using hx)
  · rw [b1]; exact EAt.fb b2 (fun hm => (hex g' hm).1 b2.typ) (fun j x hx => by simpa using hx)
end Go.Proofs.Ytadkjnjibefocaa
