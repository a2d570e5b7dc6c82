/- The package's parser: blocks. -/
import Derived.Test.YtidabbbjllofmaaDoorDp6
import Derived.Deep.DeepCutAuto
namespace Go.Proofs.YtidabbbjllofmaaDoor
set_option maxRecDepth 20000
set_option linter.unusedVariables false
set_option linter.unusedSimpArgs false
open Go.ChangeShapes Go.WideShapes Go.ChangeAt Go.RowKit
attribute [local go_sem] fieldTok0 fieldTok1 fieldTok2 fieldTok3

theorem own_mono {w : World} {base base' k n : Nat} {e : TypeId} {v : Value} {xs : List Value} (h : w.ownsRow base e k v n xs) (hb : base' ≤ base) : w.ownsRow base' e k v n xs := by
  obtain ⟨h1, h2⟩ := h
  refine ⟨h1, ?_⟩
  rcases h2 with h2 | ⟨g, cap, cur, a1, a2, a3⟩
  · exact .inl h2
  · exact .inr ⟨g, cap, cur, a1, Nat.le_trans hb a2, a3⟩
structure Bd {α : Type} (K : Kind α) (w0 : World) (b g : Nat) (σ : Ds) (nm : ByteArray) (v : Value) (l : List α) (w : World) : Prop where
  st : DTo w0 b σ w
  old : b < w0.heap.size
  hi : w0.heap.size < g
  f2 : Fb w w0.heap.size #[.string ⟨#[]⟩, .slice none 0 0] K.tb
  f3 : Fb w g #[.string nm, v] K.tb
  own : w.ownsRow (g + 1) K.te K.k v l.length (l.flatMap K.f)
  all : ∀ x ∈ l, Fr (g + 1) (K.P x) w
section
variable {α : Type} {K : Kind α} {w0 w w' : World} {b g : Nat} {σ σ' : Ds} {nm : ByteArray} {v : Value} {l : List α}
theorem Bd.start (h : DTo w0 b σ w) (ho : b < w0.heap.size) (hf : Fb w w0.heap.size #[.string ⟨#[]⟩, .slice none 0 0] K.tb) (y : ByteArray) :
    Bd K w0 b w.heap.size σ y (.slice none 0 0) [] (w.alloc (.cells #[.string y, .slice none 0 0] K.tb)) :=
  ⟨h.belowr ((Below.refl _ _).alloc (Nat.le_refl _) _), ho, hf.lt, hf.alloc _, Fb.new w _ _, World.ownsRow_nil _ _ _ _, by simp⟩
theorem Bd.call (h : Bd K w0 b g σ nm v l w) (hr : DTo w b σ' w') : Bd K w0 b g σ' nm v l w' :=
  ⟨h.st.trans hr, h.old, h.hi, h.f2.grown hr.2 (by have := h.old; simp; omega), h.f3.grown hr.2 (by have := h.old; have := h.hi; simp; omega), DTo.own h.own hr (by have := h.old; have := h.hi; omega),
    fun x hx => (h.all x hx).grown (K.go x) hr.2 (fun k hk => by injection hk with hk; have := h.old; have := h.hi; omega)⟩
theorem Bd.size (h : Bd K w0 b g σ nm v l w) : g + 1 ≤ w.heap.size := h.f3.lt
theorem Bd.cells (h : Bd K w0 b g σ nm v l w) :
    (w.cell? ⟨g, 0, none⟩ = some (.string nm) ∧ w.cell? ⟨g, 1, none⟩ = some v) ∧ (w.frozen? ⟨g, 0, none⟩ = false ∧ w.frozen? ⟨g, 1, none⟩ = false) ∧
    (w.cell? ⟨w0.heap.size, 0, none⟩ = some (.string ⟨#[]⟩) ∧ w.cell? ⟨w0.heap.size, 1, none⟩ = some (.slice none 0 0)) ∧ (w.frozen? ⟨w0.heap.size, 0, none⟩ = false ∧ w.frozen? ⟨w0.heap.size, 1, none⟩ = false) ∧ g < w.heap.size ∧ w0.heap.size < w.heap.size ∧ w0.heap.size ≠ g :=
  ⟨⟨h.f3.cell 0, h.f3.cell 1⟩, ⟨h.f3.frozen 0, h.f3.frozen 1⟩, ⟨h.f2.cell 0, h.f2.cell 1⟩, ⟨h.f2.frozen 0, h.f2.frozen 1⟩, h.f3.lt, h.f2.lt, by have := h.hi; omega⟩
/-- The list is stored. -/
theorem Bd.putL {wc : World} {B : Option Addr} {d n : Nat} {l2 : List α} (h : Bd K w0 b g σ nm v l w) (hc : g + 1 ≤ wc.heap.size) (hown : w.ownsRow wc.heap.size K.te K.k (.slice B n d) n (l2.flatMap K.f)) (hn : n = l2.length) (hall : ∀ x ∈ l2, Fr wc.heap.size (K.P x) w) :
    Bd K w0 b g σ nm (.slice B n d) l2 (w.setCell ⟨g, 1, none⟩ (.slice B n d)) := by
  have ho := h.old
  have hi := h.hi
  have hg := setCell_grown w ⟨g, 1, none⟩ (.slice B n d)
  subst hn
  refine ⟨⟨h.st.1.far (by show b < g; omega) _, grown_set_new h.st.2 (by show w0.heap.size ≤ g; omega) _⟩, ho, hi, h.f2.far (by show w0.heap.size ≠ g; omega) _, ?_, ?_, fun x hx => ((hall x hx).less hc).grown (K.go x) hg (fun k hk => by injection hk with hk; have : g = k := hk; omega)⟩
  · have := h.f3.set 1 (.slice B l2.length d)
    simpa using this
  · exact (own_mono hown hc).kept hg (by
      cases e : (Value.slice B l2.length d).ownBlock with
      | none => exact .inl rfl
      | some k => exact .inr (by have h2 := (hown.lt k e).1; show some k ≠ some g; simp; omega))
end
theorem Bd.doneB {w0 w : World} {b g n d : Nat} {B : Option Addr} {σ : Ds} {nm : ByteArray} {l : List SH} (h : Bd KS w0 b g σ nm (.slice B n d) l w) (hn : l.length = n) (hl : n ≤ 40) (hnm : nm.size ≤ 16) (p q : Value) {R : Blk × Ds} (hR : R = (⟨nm, l.map SH.t⟩, σ)) :
    RetDb w0 b R (.returned (agB ⟨nm, B, n, d, l⟩)) ((w.setCell ⟨w0.heap.size, 0, none⟩ p).setCell ⟨w0.heap.size, 1, none⟩ q) := by
  subst hR
  have ho := h.old
  have hi := h.hi
  have hg : w.grownBy ((w.setCell ⟨w0.heap.size, 0, none⟩ p).setCell ⟨w0.heap.size, 1, none⟩ q) (some w0.heap.size) := grown_two (setCell_grown w ⟨w0.heap.size, 0, none⟩ p) (setCell_grown _ ⟨w0.heap.size, 1, none⟩ q)
  refine ⟨⟨nm, B, n, d, l⟩, rfl, rfl, ?_, h.st.1.grown hg (fun k hk => by injection hk with hk; omega), set2_grown h.st.2 p q⟩
  have h1 : Fr (g + 1) (BP ⟨nm, B, n, d, l⟩) w := by
    subst hn
    exact fun ex he => ⟨EAt.own h.own (fun k hg2 hin => by have h1 := (h.own.lt k hg2).1; have h2 := he k hin; omega), rfl, hl, by show nm.size ≤ 1000; omega, fun y hy => (h.all y hy) ex he⟩
  exact (h1.grown (fun h hg => BHok.go h hg) hg (fun k hk => by injection hk with hk; omega)).less (by omega)
theorem Bd.doneF {w0 w : World} {b g n d : Nat} {B : Option Addr} {σ : Ds} {nm : ByteArray} {l : List BH} (h : Bd KB w0 b g σ nm (.slice B n d) l w) (hn : l.length = n) (hl : n ≤ 40) (hnm : nm.size ≤ 16) (p q : Value) {R : Fnc × Ds} (hR : R = (⟨nm, l.map BH.b⟩, σ)) :
    RetDf w0 b R (.returned (agF ⟨nm, B, n, d, l⟩)) ((w.setCell ⟨w0.heap.size, 0, none⟩ p).setCell ⟨w0.heap.size, 1, none⟩ q) := by
  subst hR
  have ho := h.old
  have hi := h.hi
  have hg : w.grownBy ((w.setCell ⟨w0.heap.size, 0, none⟩ p).setCell ⟨w0.heap.size, 1, none⟩ q) (some w0.heap.size) := grown_two (setCell_grown w ⟨w0.heap.size, 0, none⟩ p) (setCell_grown _ ⟨w0.heap.size, 1, none⟩ q)
  refine ⟨⟨nm, B, n, d, l⟩, rfl, rfl, ?_, h.st.1.grown hg (fun k hk => by injection hk with hk; omega), set2_grown h.st.2 p q⟩
  have h1 : Fr (g + 1) (FP ⟨nm, B, n, d, l⟩) w := by
    subst hn
    exact fun ex he => ⟨EAt.own h.own (fun k hg2 hin => by have h1 := (h.own.lt k hg2).1; have h2 := he k hin; omega), rfl, hl, by show nm.size ≤ 1000; omega, fun y hy => (h.all y hy) ex he⟩
  exact (h1.grown (fun h hg => FHok.go h hg) hg (fun k hk => by injection hk with hk; omega)).less (by omega)
set_option maxHeartbeats 3200000 in
theorem devBlock_any (b : Nat) (σ : Ds) (w : World) (h : Dst w b σ) : Calls Tryd.prog 101 #[.pointer (some ⟨b, 0, none⟩)] w (RetDb w b (blockS σ)) := by
  have HR : Hid (blockS σ = (⟨(nameS (wordS kwBlock σ)).1, (someS begS stmtS 32 (endS (nameS (wordS kwBlock σ)).2)).1⟩, (someS begS stmtS 32 (endS (nameS (wordS kwBlock σ)).2)).2)) := hid rfl
  have Hlt := hid h.lt
  have h0 := hid (show Dst (w.alloc (.cells #[.string ⟨#[]⟩, .slice none 0 0] 63)) b σ from h.below ((Below.refl _ _).alloc (Nat.le_refl _) _) h.lt)
  have hf0 := hid (Fb.new w #[.string ⟨#[]⟩, .slice none 0 0] 63)
  have hb0 := hid ((Below.refl w.heap.size w).alloc (Nat.le_refl _) (.cells #[.string ⟨#[]⟩, .slice none 0 0] 63))
  clear h
  go_enter Tryd.func101, Tryd.ntmps101
  go_wp2_with fail
  generalize w.alloc (.cells #[.string ⟨#[]⟩, .slice none 0 0] 63) = wa at *
  refine (devWord_any b σ kwBlock kwbl.2.1 _ h0.out).mono ?_
  rintro e w1 ⟨rfl, h1⟩
  have H1 := hid (DTo.belowl hb0.out h1)
  have hf1 := hid (hf0.out.grown h1.2 (by have := Hlt.out; simp; omega))
  clear h1 h0 hf0 hb0
  generalize wordS kwBlock σ = σ1 at *
  go_wp2_with fail
  refine (devName_any b σ1 _ H1.out.1).mono ?_
  rintro e w2 ⟨rfl, h2⟩
  have H2 := hid (H1.out.trans h2)
  have H16 := hid H1.out.1.name16
  have hf2 := hid (hf1.out.grown h2.2 (by have := Hlt.out; simp; omega))
  clear h2 H1 hf1
  generalize (nameS σ1).1 = y at *
  generalize (nameS σ1).2 = σ2 at *
  have H3 := hid (Bd.start (K := KS) H2.out Hlt.out hf2.out y)
  have H3' : Hid (Bd KS w b w2.heap.size σ2 y (.slice none 0 0) [] (w2.alloc (.cells #[.string y, .slice none 0 0] 63))) := H3
  clear H2 hf2 H3
  go_wp2_with fail
  generalize w2.alloc (.cells #[.string y, .slice none 0 0] 63) = w3 at *
  generalize w2.heap.size = g at *
  refine (devEnd_any b σ2 _ H3'.out.st.1).mono ?_
  rintro e w4 ⟨rfl, h4⟩
  have H4 := hid (H3'.out.call h4)
  clear h4 H3'
  generalize endS σ2 = σ3 at *
  go_wp2_with fail
  refine (devSome_stmt b σ3 _ H4.out.st.1).mono ?_
  rintro e w5 ⟨B, d, l, rfl, hl, hown, hfr, h5⟩
  have H5 := hid (H4.out.call h5)
  have hl2 : l.length ≤ 32 := by
    have h1 : (l.map SH.t).length = (someS begS stmtS 32 σ3).1.length := by rw [hl]
    have h2 : (someS begS stmtS 32 σ3).1.length ≤ 32 := listS_len begS stmtS 32 σ3
    rw [List.length_map] at h1; omega
  rw [← hl] at HR
  obtain ⟨⟨q0, q1⟩, ⟨r0, r1⟩, -, -, hz, -, -⟩ := H5.out.cells
  have H6 := hid (H5.out.putL H4.out.size hown rfl hfr)
  clear hl hown hfr h5 H4 H5
  generalize (someS begS stmtS 32 σ3).2 = σ4 at *
  generalize hm : l.length = m at *
  have Hm := hid hm
  clear hm
  go_upto_region 5 with fail
  generalize w5.setCell ⟨g, 1, none⟩ (.slice B m d) = w6 at *
  clear q0 q1 r0 r1 hz
  obtain ⟨⟨p0, p1⟩, -, ⟨v0, v1⟩, ⟨s0, s1⟩, hsz, hsz2, hsz3⟩ := H6.out.cells
  go_wp2_with fail
  refine bodyPost_ret (v := agB ⟨y, B, m, d, l⟩) (by simp [results, Tryd.results101, go_sem, p0, p1, s0, s1, v0, v1, hsz, hsz2, agB]) rfl ?_
  exact H6.out.doneB Hm.out (by omega) H16.out _ _ HR.out
end Go.Proofs.YtidabbbjllofmaaDoor
