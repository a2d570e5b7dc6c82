/- The package's parser: statements. -/
import Derived.Test.YtcgichfanfijjaaDoorDp4
import Derived.Laws.OwnMore
import Derived.Deep.RegionLaw
import Derived.Deep.DrawnRows
namespace Go.Proofs.YtcgichfanfijjaaDoor
set_option maxRecDepth 20000
set_option linter.unusedVariables false
set_option linter.unusedSimpArgs false
open Go.ChangeShapes Go.WideShapes Go.ChangeAt Go.RowKit
attribute [local go_sem] fieldTok0 fieldTok1 fieldTok2 fieldTok3
attribute [local go_sem ↓] Go.wp_at_zero Go.wp_at_succ

structure Sd (w0 : World) (b g : Nat) (σ : Ds) (x : SH) (w : World) : Prop where
  st : DTo w0 b σ w
  old : b < w0.heap.size
  hi : w0.heap.size < g
  f2 : Fb w w0.heap.size #[.int .i64 0, .string ⟨#[]⟩, .slice none 0 0, .slice none 0 0] 57
  f3 : Fb w g #[.int .i64 x.t.op, .string x.t.d, .slice x.A x.n x.c, .slice x.B x.m x.c2] 57
  fr : Fr (g + 1) (TP x) w
section
variable {w0 w w' : World} {b g : Nat} {σ σ' : Ds} {A1 : Option Addr} {n1 c1 : Nat} {B1 : Option Addr} {m1 d1 : Nat} {op : Int} {d : ByteArray} {us ts : List ByteArray} {x : SH}
theorem Sd.start (h : DTo w0 b σ w) (ho : b < w0.heap.size) (hf : Fb w w0.heap.size #[.int .i64 0, .string ⟨#[]⟩, .slice none 0 0, .slice none 0 0] 57) (o : Int) :
    Sd w0 b w.heap.size σ ⟨none, 0, 0, none, 0, 0, ⟨o, ⟨#[]⟩, [], []⟩⟩ (w.alloc (.cells #[.int .i64 o, .string ⟨#[]⟩, .slice none 0 0, .slice none 0 0] 57)) :=
  ⟨h.belowr ((Below.refl _ _).alloc (Nat.le_refl _) _), ho, hf.lt, hf.alloc _, Fb.new w _ _, fun ex _ => ⟨SSafe.nil _ _ _, SSafe.nil _ _ _, by show (0 : Nat) ≤ 1000; omega⟩⟩
theorem Sd.call (h : Sd w0 b g σ x w) (hr : DTo w b σ' w') : Sd w0 b g σ' x w' :=
  ⟨h.st.trans hr, h.old, h.hi, h.f2.grown hr.2 (by have := h.old; simp; omega), h.f3.grown hr.2 (by have := h.old; have := h.hi; simp; omega), h.fr.grown TP.go hr.2 (fun k hk => by injection hk with hk; have := h.old; have := h.hi; omega)⟩
theorem Sd.below (h : Sd w0 b g σ x w) (hb : Below w.heap.size w w') : Sd w0 b g σ x w' := h.call ((DTo.refl h.st.1).belowr hb)
theorem Sd.alloc (h : Sd w0 b g σ x w) (o : Obj) : Sd w0 b g σ x (w.alloc o) := h.below ((Below.refl _ _).alloc (Nat.le_refl _) o)
theorem Sd.drewN (h : Sd w0 b g σ x w) (q : Nat) : Sd w0 b g σ x (w.drewN q) := h.below (below_drewN (Below.refl _ _) q)
theorem Sd.size (h : Sd w0 b g σ x w) : g + 1 ≤ w.heap.size := h.f3.lt
theorem Sd.put (h : Sd w0 b g σ x w) (j : Nat) (u : Value) (x' : SH)
    (hc : (#[.int .i64 x.t.op, .string x.t.d, .slice x.A x.n x.c, .slice x.B x.m x.c2] : Array Value).setIfInBounds j u = #[.int .i64 x'.t.op, .string x'.t.d, .slice x'.A x'.n x'.c, .slice x'.B x'.m x'.c2])
    (hf : Fr (g + 1) (TP x') w) : Sd w0 b g σ x' (w.setCell ⟨g, j, none⟩ u) := by
  have ho := h.old
  have hi := h.hi
  refine ⟨⟨h.st.1.far (by show b < g; omega) u, grown_set_new h.st.2 (by show w0.heap.size ≤ g; omega) u⟩, ho, hi, h.f2.far (by show w0.heap.size ≠ g; omega) u, ?_, hf.grown TP.go (setCell_grown w _ _) (fun k hk => by injection hk with hk; have : g = k := hk; omega)⟩
  have := h.f3.set j u
  rw [hc] at this
  exact this
theorem Sd.putD (h : Sd w0 b g σ ⟨A1, n1, c1, B1, m1, d1, ⟨op, d, us, ts⟩⟩ w) (y : ByteArray) (hy : y.size ≤ 16) : Sd w0 b g σ ⟨A1, n1, c1, B1, m1, d1, ⟨op, y, us, ts⟩⟩ (w.setCell ⟨g, 1, none⟩ (.string y)) :=
  h.put 1 _ _ rfl (fun ex he => ⟨(h.fr ex he).uses, (h.fr ex he).targets, by show y.size ≤ 1000; omega⟩)
theorem Sd.putU (h : Sd w0 b g σ ⟨A1, n1, c1, B1, m1, d1, ⟨op, d, us, ts⟩⟩ w) {A2 : Option Addr} {n2 c2 : Nat} {us2 : List ByteArray} (hf : Fr (g + 1) (SP A2 n2 us2) w) :
    Sd w0 b g σ ⟨A2, n2, c2, B1, m1, d1, ⟨op, d, us2, ts⟩⟩ (w.setCell ⟨g, 2, none⟩ (.slice A2 n2 c2)) :=
  h.put 2 _ _ rfl (fun ex he => ⟨hf ex he, (h.fr ex he).targets, (h.fr ex he).small⟩)
theorem Sd.putT (h : Sd w0 b g σ ⟨A1, n1, c1, B1, m1, d1, ⟨op, d, us, ts⟩⟩ w) {A2 : Option Addr} {n2 c2 : Nat} {ts2 : List ByteArray} (hf : Fr (g + 1) (SP A2 n2 ts2) w) :
    Sd w0 b g σ ⟨A1, n1, c1, A2, n2, c2, ⟨op, d, us, ts2⟩⟩ (w.setCell ⟨g, 3, none⟩ (.slice A2 n2 c2)) :=
  h.put 3 _ _ rfl (fun ex he => ⟨(h.fr ex he).uses, hf ex he, (h.fr ex he).small⟩)
theorem Sd.putU1 (h : Sd w0 b g σ ⟨A1, n1, c1, B1, m1, d1, ⟨op, d, us, ts⟩⟩ w) (y : ByteArray) (hy : y.size ≤ 16) :
    Sd w0 b g σ ⟨some ⟨w.heap.size, 0, none⟩, 1, 1, B1, m1, d1, ⟨op, d, [y], ts⟩⟩ ((w.setCell ⟨g, 2, none⟩ (.slice (some ⟨w.heap.size, 0, none⟩) 1 1)).alloc (.cells #[.string y] 9)) := by
  have hz := h.size
  have e : Sd w0 b g σ ⟨some ⟨w.heap.size, 0, none⟩, 1, 1, B1, m1, d1, ⟨op, d, [y], ts⟩⟩ ((w.alloc (.cells #[.string y] 9)).setCell ⟨g, 2, none⟩ (.slice (some ⟨w.heap.size, 0, none⟩) 1 1)) := (h.alloc _).putU (frs_one h.size (by omega))
  rw [World.setCell_alloc_past _ _ _ _ (by omega)] at e
  exact e
theorem Sd.putT1 (h : Sd w0 b g σ ⟨A1, n1, c1, B1, m1, d1, ⟨op, d, us, ts⟩⟩ w) (y : ByteArray) (hy : y.size ≤ 16) :
    Sd w0 b g σ ⟨A1, n1, c1, some ⟨w.heap.size, 0, none⟩, 1, 1, ⟨op, d, us, [y]⟩⟩ ((w.setCell ⟨g, 3, none⟩ (.slice (some ⟨w.heap.size, 0, none⟩) 1 1)).alloc (.cells #[.string y] 9)) := by
  have hz := h.size
  have e : Sd w0 b g σ ⟨A1, n1, c1, some ⟨w.heap.size, 0, none⟩, 1, 1, ⟨op, d, us, [y]⟩⟩ ((w.alloc (.cells #[.string y] 9)).setCell ⟨g, 3, none⟩ (.slice (some ⟨w.heap.size, 0, none⟩) 1 1)) := (h.alloc _).putT (frs_one h.size (by omega))
  rw [World.setCell_alloc_past _ _ _ _ (by omega)] at e
  exact e
theorem Sd.cells (h : Sd w0 b g σ ⟨A1, n1, c1, B1, m1, d1, ⟨op, d, us, ts⟩⟩ w) :
    (w.cell? ⟨g, 0, none⟩ = some (.int .i64 op) ∧ w.cell? ⟨g, 1, none⟩ = some (.string d) ∧ w.cell? ⟨g, 2, none⟩ = some (.slice A1 n1 c1) ∧ w.cell? ⟨g, 3, none⟩ = some (.slice B1 m1 d1)) ∧
    (w.frozen? ⟨g, 0, none⟩ = false ∧ w.frozen? ⟨g, 1, none⟩ = false ∧ w.frozen? ⟨g, 2, none⟩ = false ∧ w.frozen? ⟨g, 3, none⟩ = false) ∧
    (w.cell? ⟨w0.heap.size, 0, none⟩ = some (.int .i64 0) ∧ w.cell? ⟨w0.heap.size, 1, none⟩ = some (.string ⟨#[]⟩) ∧ w.cell? ⟨w0.heap.size, 2, none⟩ = some (.slice none 0 0) ∧ w.cell? ⟨w0.heap.size, 3, none⟩ = some (.slice none 0 0)) ∧
    (w.frozen? ⟨w0.heap.size, 0, none⟩ = false ∧ w.frozen? ⟨w0.heap.size, 1, none⟩ = false ∧ w.frozen? ⟨w0.heap.size, 2, none⟩ = false ∧ w.frozen? ⟨w0.heap.size, 3, none⟩ = false) ∧ g < w.heap.size ∧ w0.heap.size < w.heap.size ∧ w0.heap.size ≠ g :=
  ⟨h.f3.four, ⟨h.f3.frozen 0, h.f3.frozen 1, h.f3.frozen 2, h.f3.frozen 3⟩, h.f2.four, ⟨h.f2.frozen 0, h.f2.frozen 1, h.f2.frozen 2, h.f2.frozen 3⟩, h.f3.lt, h.f2.lt, by have := h.hi; omega⟩
theorem Sd.row {wa w9 : World} {k : Nat} (h : Sd w0 b g σ x w) (ha : Below w.heap.size w wa) {v : Value} (hg : wa.grownBy w9 v.ownBlock) (hge : ∀ k, v.ownBlock = some k → g + 1 ≤ k) (j : Nat) (u : Value) (x' : SH)
    (hc : (#[.int .i64 x.t.op, .string x.t.d, .slice x.A x.n x.c, .slice x.B x.m x.c2] : Array Value).setIfInBounds j u = #[.int .i64 x'.t.op, .string x'.t.d, .slice x'.A x'.n x'.c, .slice x'.B x'.m x'.c2])
    (hf : Fr (g + 1) (TP x') w9) : Sd w0 b g σ x' (w9.setCell ⟨g, j, none⟩ u) := by
  have h1 := h.below ha
  have ho := h.old
  have hi := h.hi
  have hz := h1.size
  have hne : ∀ i, i ≤ g → some i ≠ v.ownBlock := fun i hi2 e => by have := hge i e.symm; omega
  refine ⟨⟨(h1.st.1.grown hg (fun k hk => by have := hge k hk; omega)).far (by show b < g; omega) u, grown_set_new ?_ (by show w0.heap.size ≤ g; omega) u⟩, ho, hi, (h1.f2.grown hg (hne _ (by omega))).far (by show w0.heap.size ≠ g; omega) u, ?_, hf.grown TP.go (setCell_grown _ _ _) (fun k hk => by injection hk with hk; have : g = k := hk; omega)⟩
  · have h2 := h1.st.2
    exact ⟨hg.os.trans h2.os, hg.tape.trans h2.tape, hg.output.trans h2.output, Nat.le_trans h2.size hg.size, fun i hi2 hne2 => (hg.block i (Nat.lt_of_lt_of_le hi2 h2.size) (hne i (by omega))).trans (h2.block i hi2 hne2)⟩
  · have := (h1.f3.grown hg (hne _ (Nat.le_refl _))).set j u
    rw [hc] at this
    exact this
theorem Sd.done (h : Sd w0 b g σ x w) (p q r s : Value) {R : Stm × Ds} (hR : R = (x.t, σ)) :
    RetDs w0 b R (.returned (agS x)) ((((w.setCell ⟨w0.heap.size, 0, none⟩ p).setCell ⟨w0.heap.size, 1, none⟩ q).setCell ⟨w0.heap.size, 2, none⟩ r).setCell ⟨w0.heap.size, 3, none⟩ s) := by
  subst hR
  have hi := h.hi
  have hg : w.grownBy ((((w.setCell ⟨w0.heap.size, 0, none⟩ p).setCell ⟨w0.heap.size, 1, none⟩ q).setCell ⟨w0.heap.size, 2, none⟩ r).setCell ⟨w0.heap.size, 3, none⟩ s) (some w0.heap.size) :=
    grown_two (grown_two (grown_two (setCell_grown w ⟨w0.heap.size, 0, none⟩ p) (setCell_grown _ ⟨w0.heap.size, 1, none⟩ q)) (setCell_grown _ ⟨w0.heap.size, 2, none⟩ r)) (setCell_grown _ ⟨w0.heap.size, 3, none⟩ s)
  refine ⟨x, rfl, rfl, (h.fr.grown TP.go hg (fun k hk => by injection hk with hk; omega)).less (by omega), h.st.1.grown hg (fun k hk => by injection hk with hk; have := h.old; omega), ?_⟩
  have e := fun (w' : World) (g : w0.grownBy w' (some b)) (p : Addr) (hp : p.block = w0.heap.size) u => grown_set_new g (p := p) (by omega) u
  exact e _ (e _ (e _ (e _ h.st.2 _ rfl p) _ rfl q) _ rfl r) _ rfl s
end
theorem begS_ne {l : List Tok} (he : begS (nxt l).text = true) : l ≠ [] := by
  rintro rfl
  rw [show (nxt []).text = noB from rfl, begS_no] at he
  cases he
theorem opS1 (x : ByteArray) (σ : Ds) : opS 1 x σ = (⟨1, x, (listS nameB nameS 4 (wordS kwEq σ)).1, []⟩, (listS nameB nameS 4 (wordS kwEq σ)).2) := rfl
theorem opS2 (x : ByteArray) (σ : Ds) : opS 2 x σ = (⟨2, ⟨#[]⟩, (someS nameB nameS 4 σ).1, []⟩, (someS nameB nameS 4 σ).2) := rfl
theorem opS3 (x : ByteArray) (σ : Ds) : opS 3 x σ = (⟨3, ⟨#[]⟩, [], [(nameS σ).1]⟩, (nameS σ).2) := rfl
theorem opS4 (x : ByteArray) (σ : Ds) : opS 4 x σ = (⟨4, (nameS σ).1, [], []⟩, (nameS σ).2) := rfl
theorem opS5 (x : ByteArray) (σ : Ds) : opS 5 x σ = (⟨5, ⟨#[]⟩, [(nameS σ).1], []⟩, (nameS σ).2) := rfl
theorem opS6 (x : ByteArray) (σ : Ds) : opS 6 x σ = (⟨6, (nameS σ).1, [], []⟩, (nameS σ).2) := rfl
theorem opS7 (x : ByteArray) (σ : Ds) : opS 7 x σ = (⟨7, ⟨#[]⟩, [], [(nameS σ).1]⟩, (nameS σ).2) := rfl
theorem opS8 (x : ByteArray) (σ : Ds) : opS 8 x σ = (⟨8, ⟨#[]⟩, [(nameS σ).1], [(nameS (nameS σ).2).1, (nameS (nameS (nameS σ).2).2).1]⟩, (nameS (nameS (nameS σ).2).2).2) := rfl
theorem opS9 (x : ByteArray) (σ : Ds) : opS 9 x σ = (⟨9, ⟨#[]⟩, [], []⟩, σ) := rfl
theorem opS0 (x : ByteArray) (σ : Ds) : opS 0 x σ = (⟨0, ⟨#[]⟩, [], []⟩, σ) := rfl
theorem opW_range (x : ByteArray) : opW x = 0 ∨ opW x = 1 ∨ opW x = 2 ∨ opW x = 3 ∨ opW x = 4 ∨ opW x = 5 ∨ opW x = 6 ∨ opW x = 7 ∨ opW x = 8 ∨ opW x = 9 := by
  unfold opW
  repeat' split
  all_goals simp
set_option maxHeartbeats 3200000 in
theorem devStmt0 (b : Nat) (σ : Ds) (w : World) (h : Dst w b σ) (ho : opW (takeS (begS (nxt σ.l).text) σ).1 = 0) :
    Calls Tryd.prog 177 #[.pointer (some ⟨b, 0, none⟩)] w (RetDs w b (stmtS σ)) := by
  have H := hid h
  have Hlt := hid h.lt
  have H16 := hid (h.take16 (begS (nxt σ.l).text))
  have hR : stmtS σ = ((opS (opW (takeS (begS (nxt σ.l).text) σ).1) (takeS (begS (nxt σ.l).text) σ).1 (takeS (begS (nxt σ.l).text) σ).2).1, endS (opS (opW (takeS (begS (nxt σ.l).text) σ).1) (takeS (begS (nxt σ.l).text) σ).1 (takeS (begS (nxt σ.l).text) σ).2).2) := rfl
  rw [ho, opS0] at hR
  have HR := hid hR
  have Ho := hid ho
  have Hne := hid (@begS_ne σ.l)
  have h0 := hid (show Dst (w.alloc (.cells #[.int .i64 0, .string ⟨#[]⟩, .slice none 0 0, .slice none 0 0] 57)) b σ from h.below ((Below.refl _ _).alloc (Nat.le_refl _) _) h.lt)
  have hf0 := hid (Fb.new w #[.int .i64 0, .string ⟨#[]⟩, .slice none 0 0, .slice none 0 0] 57)
  have hb0 := hid ((Below.refl w.heap.size w).alloc (Nat.le_refl _) (.cells #[.int .i64 0, .string ⟨#[]⟩, .slice none 0 0, .slice none 0 0] 57))
  clear h hR ho
  go_enter Tryd.func177, Tryd.ntmps177
  go_wp2_with fail
  generalize w.alloc (.cells #[.int .i64 0, .string ⟨#[]⟩, .slice none 0 0, .slice none 0 0] 57) = wa at *
  refine (devNext_any b σ _ h0.out).mono ?_
  rintro e w1 ⟨rfl, hb1⟩
  have H1 := hid (h0.out.below hb1 h0.out.lt)
  have hf1 := hid (hf0.out.below hb1 hf0.out.lt)
  have hb2 := hid (below_step hb0.out hb1)
  clear hb1 h0 hf0 hb0
  unfold agT
  go_wp2_with fail
  refine (devBegS_any (nxt σ.l).text _ H1.out.text16 H1.out.tab).mono ?_
  rintro e w' ⟨rfl, rfl⟩
  generalize begS (nxt σ.l).text = bb at *
  go_wp2_with fail
  refine (devTake_any b σ bb _ H1.out Hne.out).mono ?_
  rintro e w2 ⟨rfl, h2⟩
  have H2 := hid (DTo.belowl hb2.out h2)
  have hf2 := hid (hf1.out.grown h2.2 (by have := Hlt.out; simp; omega))
  clear h2 H1 hf1 hb2 Hne
  generalize (takeS bb σ).1 = y at *
  generalize (takeS bb σ).2 = σ1 at *
  go_wp2_with fail
  refine (devOperation_any y _ H16.out H2.out.1.tab).mono ?_
  rw [Ho.out]
  rintro e w' ⟨rfl, rfl⟩
  have H3 := hid (Sd.start H2.out Hlt.out hf2.out 0)
  clear H2 hf2
  go_wp2_with fail
  generalize w2.alloc (.cells #[.int .i64 0, .string ⟨#[]⟩, .slice none 0 0, .slice none 0 0] 57) = w3 at *
  generalize w2.heap.size = g at *
  refine (devEnd_any b σ1 _ H3.out.st.1).mono ?_
  rintro e wz ⟨rfl, hz0⟩
  have HZ := hid (H3.out.call hz0)
  clear hz0
  obtain ⟨⟨p0, p1, p2, p3⟩, -, ⟨v0, v1, v2, v3⟩, ⟨s0, s1, s2, s3⟩, hsz, hsz2, hsz3⟩ := HZ.out.cells
  go_wp2_with fail
  refine bodyPost_ret (v := agS ⟨none, 0, 0, none, 0, 0, ⟨0, ⟨#[]⟩, [], []⟩⟩) (by simp [results, Tryd.results177, go_sem, p0, p1, p2, p3, s0, s1, s2, s3, v0, v1, v2, v3, hsz, hsz2, agS]) rfl ?_
  exact HZ.out.done _ _ _ _ HR.out
set_option maxHeartbeats 3200000 in
theorem devStmt9 (b : Nat) (σ : Ds) (w : World) (h : Dst w b σ) (ho : opW (takeS (begS (nxt σ.l).text) σ).1 = 9) :
    Calls Tryd.prog 177 #[.pointer (some ⟨b, 0, none⟩)] w (RetDs w b (stmtS σ)) := by
  have H := hid h
  have Hlt := hid h.lt
  have H16 := hid (h.take16 (begS (nxt σ.l).text))
  have hR : stmtS σ = ((opS (opW (takeS (begS (nxt σ.l).text) σ).1) (takeS (begS (nxt σ.l).text) σ).1 (takeS (begS (nxt σ.l).text) σ).2).1, endS (opS (opW (takeS (begS (nxt σ.l).text) σ).1) (takeS (begS (nxt σ.l).text) σ).1 (takeS (begS (nxt σ.l).text) σ).2).2) := rfl
  rw [ho, opS9] at hR
  have HR := hid hR
  have Ho := hid ho
  have Hne := hid (@begS_ne σ.l)
  have h0 := hid (show Dst (w.alloc (.cells #[.int .i64 0, .string ⟨#[]⟩, .slice none 0 0, .slice none 0 0] 57)) b σ from h.below ((Below.refl _ _).alloc (Nat.le_refl _) _) h.lt)
  have hf0 := hid (Fb.new w #[.int .i64 0, .string ⟨#[]⟩, .slice none 0 0, .slice none 0 0] 57)
  have hb0 := hid ((Below.refl w.heap.size w).alloc (Nat.le_refl _) (.cells #[.int .i64 0, .string ⟨#[]⟩, .slice none 0 0, .slice none 0 0] 57))
  clear h hR ho
  go_enter Tryd.func177, Tryd.ntmps177
  go_wp2_with fail
  generalize w.alloc (.cells #[.int .i64 0, .string ⟨#[]⟩, .slice none 0 0, .slice none 0 0] 57) = wa at *
  refine (devNext_any b σ _ h0.out).mono ?_
  rintro e w1 ⟨rfl, hb1⟩
  have H1 := hid (h0.out.below hb1 h0.out.lt)
  have hf1 := hid (hf0.out.below hb1 hf0.out.lt)
  have hb2 := hid (below_step hb0.out hb1)
  clear hb1 h0 hf0 hb0
  unfold agT
  go_wp2_with fail
  refine (devBegS_any (nxt σ.l).text _ H1.out.text16 H1.out.tab).mono ?_
  rintro e w' ⟨rfl, rfl⟩
  generalize begS (nxt σ.l).text = bb at *
  go_wp2_with fail
  refine (devTake_any b σ bb _ H1.out Hne.out).mono ?_
  rintro e w2 ⟨rfl, h2⟩
  have H2 := hid (DTo.belowl hb2.out h2)
  have hf2 := hid (hf1.out.grown h2.2 (by have := Hlt.out; simp; omega))
  clear h2 H1 hf1 hb2 Hne
  generalize (takeS bb σ).1 = y at *
  generalize (takeS bb σ).2 = σ1 at *
  go_wp2_with fail
  refine (devOperation_any y _ H16.out H2.out.1.tab).mono ?_
  rw [Ho.out]
  rintro e w' ⟨rfl, rfl⟩
  have H3 := hid (Sd.start H2.out Hlt.out hf2.out 9)
  clear H2 hf2
  go_wp2_with fail
  generalize w2.alloc (.cells #[.int .i64 9, .string ⟨#[]⟩, .slice none 0 0, .slice none 0 0] 57) = w3 at *
  generalize w2.heap.size = g at *
  refine (devEnd_any b σ1 _ H3.out.st.1).mono ?_
  rintro e wz ⟨rfl, hz0⟩
  have HZ := hid (H3.out.call hz0)
  clear hz0
  obtain ⟨⟨p0, p1, p2, p3⟩, -, ⟨v0, v1, v2, v3⟩, ⟨s0, s1, s2, s3⟩, hsz, hsz2, hsz3⟩ := HZ.out.cells
  go_wp2_with fail
  refine bodyPost_ret (v := agS ⟨none, 0, 0, none, 0, 0, ⟨9, ⟨#[]⟩, [], []⟩⟩) (by simp [results, Tryd.results177, go_sem, p0, p1, p2, p3, s0, s1, s2, s3, v0, v1, v2, v3, hsz, hsz2, agS]) rfl ?_
  exact HZ.out.done _ _ _ _ HR.out
set_option maxHeartbeats 3200000 in
theorem devStmt4 (b : Nat) (σ : Ds) (w : World) (h : Dst w b σ) (ho : opW (takeS (begS (nxt σ.l).text) σ).1 = 4) :
    Calls Tryd.prog 177 #[.pointer (some ⟨b, 0, none⟩)] w (RetDs w b (stmtS σ)) := by
  have H := hid h
  have Hlt := hid h.lt
  have H16 := hid (h.take16 (begS (nxt σ.l).text))
  have hR : stmtS σ = ((opS (opW (takeS (begS (nxt σ.l).text) σ).1) (takeS (begS (nxt σ.l).text) σ).1 (takeS (begS (nxt σ.l).text) σ).2).1, endS (opS (opW (takeS (begS (nxt σ.l).text) σ).1) (takeS (begS (nxt σ.l).text) σ).1 (takeS (begS (nxt σ.l).text) σ).2).2) := rfl
  rw [ho, opS4] at hR
  have HR := hid hR
  have Ho := hid ho
  have Hne := hid (@begS_ne σ.l)
  have h0 := hid (show Dst (w.alloc (.cells #[.int .i64 0, .string ⟨#[]⟩, .slice none 0 0, .slice none 0 0] 57)) b σ from h.below ((Below.refl _ _).alloc (Nat.le_refl _) _) h.lt)
  have hf0 := hid (Fb.new w #[.int .i64 0, .string ⟨#[]⟩, .slice none 0 0, .slice none 0 0] 57)
  have hb0 := hid ((Below.refl w.heap.size w).alloc (Nat.le_refl _) (.cells #[.int .i64 0, .string ⟨#[]⟩, .slice none 0 0, .slice none 0 0] 57))
  clear h hR ho
  go_enter Tryd.func177, Tryd.ntmps177
  go_wp2_with fail
  generalize w.alloc (.cells #[.int .i64 0, .string ⟨#[]⟩, .slice none 0 0, .slice none 0 0] 57) = wa at *
  refine (devNext_any b σ _ h0.out).mono ?_
  rintro e w1 ⟨rfl, hb1⟩
  have H1 := hid (h0.out.below hb1 h0.out.lt)
  have hf1 := hid (hf0.out.below hb1 hf0.out.lt)
  have hb2 := hid (below_step hb0.out hb1)
  clear hb1 h0 hf0 hb0
  unfold agT
  go_wp2_with fail
  refine (devBegS_any (nxt σ.l).text _ H1.out.text16 H1.out.tab).mono ?_
  rintro e w' ⟨rfl, rfl⟩
  generalize begS (nxt σ.l).text = bb at *
  go_wp2_with fail
  refine (devTake_any b σ bb _ H1.out Hne.out).mono ?_
  rintro e w2 ⟨rfl, h2⟩
  have H2 := hid (DTo.belowl hb2.out h2)
  have hf2 := hid (hf1.out.grown h2.2 (by have := Hlt.out; simp; omega))
  clear h2 H1 hf1 hb2 Hne
  generalize (takeS bb σ).1 = y at *
  generalize (takeS bb σ).2 = σ1 at *
  go_wp2_with fail
  refine (devOperation_any y _ H16.out H2.out.1.tab).mono ?_
  rw [Ho.out]
  rintro e w' ⟨rfl, rfl⟩
  have H3 := hid (Sd.start H2.out Hlt.out hf2.out 4)
  clear H2 hf2
  go_wp2_with fail
  generalize w2.alloc (.cells #[.int .i64 4, .string ⟨#[]⟩, .slice none 0 0, .slice none 0 0] 57) = w3 at *
  generalize w2.heap.size = g at *
  refine (devName_any b σ1 _ H3.out.st.1).mono ?_
  rintro e w4 ⟨rfl, h4⟩
  have H4 := hid (H3.out.call h4)
  have H16z := hid (H3.out.st.1.name16)
  clear h4
  generalize (nameS σ1).1 = z at *
  generalize (nameS σ1).2 = σ2 at *
  obtain ⟨⟨q0, q1, q2, q3⟩, ⟨r0, r1, r2, r3⟩, -, -, hz, -, -⟩ := H4.out.cells
  go_wp2_with fail
  have H5 := hid (H4.out.putD z H16z.out)
  clear q0 q1 q2 q3 r0 r1 r2 r3 hz
  refine (devEnd_any b σ2 _ H5.out.st.1).mono ?_
  rintro e wz ⟨rfl, hz0⟩
  have HZ := hid (H5.out.call hz0)
  clear hz0
  obtain ⟨⟨p0, p1, p2, p3⟩, -, ⟨v0, v1, v2, v3⟩, ⟨s0, s1, s2, s3⟩, hsz, hsz2, hsz3⟩ := HZ.out.cells
  go_wp2_with fail
  refine bodyPost_ret (v := agS ⟨none, 0, 0, none, 0, 0, ⟨4, z, [], []⟩⟩) (by simp [results, Tryd.results177, go_sem, p0, p1, p2, p3, s0, s1, s2, s3, v0, v1, v2, v3, hsz, hsz2, agS]) rfl ?_
  exact HZ.out.done _ _ _ _ HR.out
set_option maxHeartbeats 3200000 in
theorem devStmt6 (b : Nat) (σ : Ds) (w : World) (h : Dst w b σ) (ho : opW (takeS (begS (nxt σ.l).text) σ).1 = 6) :
    Calls Tryd.prog 177 #[.pointer (some ⟨b, 0, none⟩)] w (RetDs w b (stmtS σ)) := by
  have H := hid h
  have Hlt := hid h.lt
  have H16 := hid (h.take16 (begS (nxt σ.l).text))
  have hR : stmtS σ = ((opS (opW (takeS (begS (nxt σ.l).text) σ).1) (takeS (begS (nxt σ.l).text) σ).1 (takeS (begS (nxt σ.l).text) σ).2).1, endS (opS (opW (takeS (begS (nxt σ.l).text) σ).1) (takeS (begS (nxt σ.l).text) σ).1 (takeS (begS (nxt σ.l).text) σ).2).2) := rfl
  rw [ho, opS6] at hR
  have HR := hid hR
  have Ho := hid ho
  have Hne := hid (@begS_ne σ.l)
  have h0 := hid (show Dst (w.alloc (.cells #[.int .i64 0, .string ⟨#[]⟩, .slice none 0 0, .slice none 0 0] 57)) b σ from h.below ((Below.refl _ _).alloc (Nat.le_refl _) _) h.lt)
  have hf0 := hid (Fb.new w #[.int .i64 0, .string ⟨#[]⟩, .slice none 0 0, .slice none 0 0] 57)
  have hb0 := hid ((Below.refl w.heap.size w).alloc (Nat.le_refl _) (.cells #[.int .i64 0, .string ⟨#[]⟩, .slice none 0 0, .slice none 0 0] 57))
  clear h hR ho
  go_enter Tryd.func177, Tryd.ntmps177
  go_wp2_with fail
  generalize w.alloc (.cells #[.int .i64 0, .string ⟨#[]⟩, .slice none 0 0, .slice none 0 0] 57) = wa at *
  refine (devNext_any b σ _ h0.out).mono ?_
  rintro e w1 ⟨rfl, hb1⟩
  have H1 := hid (h0.out.below hb1 h0.out.lt)
  have hf1 := hid (hf0.out.below hb1 hf0.out.lt)
  have hb2 := hid (below_step hb0.out hb1)
  clear hb1 h0 hf0 hb0
  unfold agT
  go_wp2_with fail
  refine (devBegS_any (nxt σ.l).text _ H1.out.text16 H1.out.tab).mono ?_
  rintro e w' ⟨rfl, rfl⟩
  generalize begS (nxt σ.l).text = bb at *
  go_wp2_with fail
  refine (devTake_any b σ bb _ H1.out Hne.out).mono ?_
  rintro e w2 ⟨rfl, h2⟩
  have H2 := hid (DTo.belowl hb2.out h2)
  have hf2 := hid (hf1.out.grown h2.2 (by have := Hlt.out; simp; omega))
  clear h2 H1 hf1 hb2 Hne
  generalize (takeS bb σ).1 = y at *
  generalize (takeS bb σ).2 = σ1 at *
  go_wp2_with fail
  refine (devOperation_any y _ H16.out H2.out.1.tab).mono ?_
  rw [Ho.out]
  rintro e w' ⟨rfl, rfl⟩
  have H3 := hid (Sd.start H2.out Hlt.out hf2.out 6)
  clear H2 hf2
  go_wp2_with fail
  generalize w2.alloc (.cells #[.int .i64 6, .string ⟨#[]⟩, .slice none 0 0, .slice none 0 0] 57) = w3 at *
  generalize w2.heap.size = g at *
  refine (devName_any b σ1 _ H3.out.st.1).mono ?_
  rintro e w4 ⟨rfl, h4⟩
  have H4 := hid (H3.out.call h4)
  have H16z := hid (H3.out.st.1.name16)
  clear h4
  generalize (nameS σ1).1 = z at *
  generalize (nameS σ1).2 = σ2 at *
  obtain ⟨⟨q0, q1, q2, q3⟩, ⟨r0, r1, r2, r3⟩, -, -, hz, -, -⟩ := H4.out.cells
  go_wp2_with fail
  have H5 := hid (H4.out.putD z H16z.out)
  clear q0 q1 q2 q3 r0 r1 r2 r3 hz
  refine (devEnd_any b σ2 _ H5.out.st.1).mono ?_
  rintro e wz ⟨rfl, hz0⟩
  have HZ := hid (H5.out.call hz0)
  clear hz0
  obtain ⟨⟨p0, p1, p2, p3⟩, -, ⟨v0, v1, v2, v3⟩, ⟨s0, s1, s2, s3⟩, hsz, hsz2, hsz3⟩ := HZ.out.cells
  go_wp2_with fail
  refine bodyPost_ret (v := agS ⟨none, 0, 0, none, 0, 0, ⟨6, z, [], []⟩⟩) (by simp [results, Tryd.results177, go_sem, p0, p1, p2, p3, s0, s1, s2, s3, v0, v1, v2, v3, hsz, hsz2, agS]) rfl ?_
  exact HZ.out.done _ _ _ _ HR.out
set_option maxHeartbeats 3200000 in
theorem devStmt5 (b : Nat) (σ : Ds) (w : World) (h : Dst w b σ) (ho : opW (takeS (begS (nxt σ.l).text) σ).1 = 5) :
    Calls Tryd.prog 177 #[.pointer (some ⟨b, 0, none⟩)] w (RetDs w b (stmtS σ)) := by
  have H := hid h
  have Hlt := hid h.lt
  have H16 := hid (h.take16 (begS (nxt σ.l).text))
  have hR : stmtS σ = ((opS (opW (takeS (begS (nxt σ.l).text) σ).1) (takeS (begS (nxt σ.l).text) σ).1 (takeS (begS (nxt σ.l).text) σ).2).1, endS (opS (opW (takeS (begS (nxt σ.l).text) σ).1) (takeS (begS (nxt σ.l).text) σ).1 (takeS (begS (nxt σ.l).text) σ).2).2) := rfl
  rw [ho, opS5] at hR
  have HR := hid hR
  have Ho := hid ho
  have Hne := hid (@begS_ne σ.l)
  have h0 := hid (show Dst (w.alloc (.cells #[.int .i64 0, .string ⟨#[]⟩, .slice none 0 0, .slice none 0 0] 57)) b σ from h.below ((Below.refl _ _).alloc (Nat.le_refl _) _) h.lt)
  have hf0 := hid (Fb.new w #[.int .i64 0, .string ⟨#[]⟩, .slice none 0 0, .slice none 0 0] 57)
  have hb0 := hid ((Below.refl w.heap.size w).alloc (Nat.le_refl _) (.cells #[.int .i64 0, .string ⟨#[]⟩, .slice none 0 0, .slice none 0 0] 57))
  clear h hR ho
  go_enter Tryd.func177, Tryd.ntmps177
  go_wp2_with fail
  generalize w.alloc (.cells #[.int .i64 0, .string ⟨#[]⟩, .slice none 0 0, .slice none 0 0] 57) = wa at *
  refine (devNext_any b σ _ h0.out).mono ?_
  rintro e w1 ⟨rfl, hb1⟩
  have H1 := hid (h0.out.below hb1 h0.out.lt)
  have hf1 := hid (hf0.out.below hb1 hf0.out.lt)
  have hb2 := hid (below_step hb0.out hb1)
  clear hb1 h0 hf0 hb0
  unfold agT
  go_wp2_with fail
  refine (devBegS_any (nxt σ.l).text _ H1.out.text16 H1.out.tab).mono ?_
  rintro e w' ⟨rfl, rfl⟩
  generalize begS (nxt σ.l).text = bb at *
  go_wp2_with fail
  refine (devTake_any b σ bb _ H1.out Hne.out).mono ?_
  rintro e w2 ⟨rfl, h2⟩
  have H2 := hid (DTo.belowl hb2.out h2)
  have hf2 := hid (hf1.out.grown h2.2 (by have := Hlt.out; simp; omega))
  clear h2 H1 hf1 hb2 Hne
  generalize (takeS bb σ).1 = y at *
  generalize (takeS bb σ).2 = σ1 at *
  go_wp2_with fail
  refine (devOperation_any y _ H16.out H2.out.1.tab).mono ?_
  rw [Ho.out]
  rintro e w' ⟨rfl, rfl⟩
  have H3 := hid (Sd.start H2.out Hlt.out hf2.out 5)
  clear H2 hf2
  go_wp2_with fail
  generalize w2.alloc (.cells #[.int .i64 5, .string ⟨#[]⟩, .slice none 0 0, .slice none 0 0] 57) = w3 at *
  generalize w2.heap.size = g at *
  refine (devName_any b σ1 _ H3.out.st.1).mono ?_
  rintro e w4 ⟨rfl, h4⟩
  have H4 := hid (H3.out.call h4)
  have H16z := hid (H3.out.st.1.name16)
  clear h4
  generalize (nameS σ1).1 = z at *
  generalize (nameS σ1).2 = σ2 at *
  obtain ⟨⟨q0, q1, q2, q3⟩, ⟨r0, r1, r2, r3⟩, -, -, hz, -, -⟩ := H4.out.cells
  go_wp2_with fail
  have H5 := hid (H4.out.putU1 z H16z.out)
  clear q0 q1 q2 q3 r0 r1 r2 r3 hz
  refine (devEnd_any b σ2 _ H5.out.st.1).mono ?_
  rintro e wz ⟨rfl, hz0⟩
  have HZ := hid (H5.out.call hz0)
  clear hz0
  obtain ⟨⟨p0, p1, p2, p3⟩, -, ⟨v0, v1, v2, v3⟩, ⟨s0, s1, s2, s3⟩, hsz, hsz2, hsz3⟩ := HZ.out.cells
  go_wp2_with fail
  refine bodyPost_ret (v := agS ⟨some ⟨w4.heap.size, 0, none⟩, 1, 1, none, 0, 0, ⟨5, ⟨#[]⟩, [z], []⟩⟩) (by simp [results, Tryd.results177, go_sem, p0, p1, p2, p3, s0, s1, s2, s3, v0, v1, v2, v3, hsz, hsz2, agS]) rfl ?_
  exact HZ.out.done _ _ _ _ HR.out
end Go.Proofs.YtcgichfanfijjaaDoor
