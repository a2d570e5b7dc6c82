/- The generator's names and statements. -/
import Derived.Test.YtfapgnbnfhpicaaGreatDoorPrg
namespace Go.Proofs.YtfapgnbnfhpicaaGreatDoor
set_option maxRecDepth 20000
set_option linter.unusedVariables false
set_option linter.unusedSimpArgs false
open Go.ChangeShapes Go.WideShapes Go.ChangeAt Go.RowKit

def varsL : List ByteArray := [⟨#[120]⟩, ⟨#[121]⟩, ⟨#[122]⟩, ⟨#[119]⟩]
def fnsL : List ByteArray := [⟨#[109]⟩, ⟨#[102]⟩, ⟨#[103]⟩]
def blsL : List ByteArray := [⟨#[97]⟩, ⟨#[98]⟩, ⟨#[99]⟩]
def strC (l : List ByteArray) : Array Value := (l.map Value.string).toArray
/-- One of a block's strings. -/
theorem pickL {w w1 : World} {g T t : Nat} {l : List ByteArray} (h : Fb w g (strC l) t) (hg : w.grownBy w1 (some T)) (hne : g ≠ T) {r : Int} (h0 : 0 ≤ r) (h1 : r.toNat < l.length) :
    ∃ x, l[r.toNat]? = some x ∧ w1.cell? ⟨g, r.toNat, none⟩ = some (.string x) := by
  have h' := h.grown hg (by simpa using hne)
  refine ⟨l[r.toNat], List.getElem?_eq_getElem h1, ?_⟩
  rw [h'.cell]
  unfold strC
  simp [List.getElem?_eq_getElem h1]
theorem name2_any (w0 : World) (T : Nat) (w : World) (h : Going w0 T w) : Calls Tryz.prog 44 #[.pointer (some ⟨T, 0, none⟩)] w fun e w' => ∃ x : ByteArray, e = .returned (.string x) ∧ x ∈ varsL ∧ Going w0 T w' ∧ w.grownBy w' (some T) := by
  have Hfb := hid (show Fb _ _ (strC varsL) 9 from Fb.new w nameCells 9)
  have H3 := hid (h.alloc (.cells nameCells 9))
  have hne := hid (show w.heap.size ≠ T by have := h.lt; omega)
  have hgr := hid (show w.grownBy (w.alloc (.cells nameCells 9)) (some T) from grown_of_below ((Below.refl _ _).alloc (Nat.le_refl _) _) _)
  clear h
  go_enter Tryz.func44, Tryz.ntmps44
  go_wp2_with fail
  refine (next_any T 4 _ H3.out.1 (by omega)).mono ?_
  rintro e w3 ⟨r, rfl, hr0, hr1, ht3, hg3, -⟩
  obtain ⟨y, hm, hy⟩ := pickL Hfb.out hg3 hne.out hr0 (by show r.toNat < 4; omega)
  have Hm := hid (List.mem_of_getElem? hm)
  have hr12 : r < 4 := by omega
  have H4 := hid (H3.out.step ht3 hg3)
  have hg4 := hid (grown_trans hgr.out hg3)
  clear ht3 hg3 Hfb H3 hne hm
  go_wp2
  go_ret
  exact ⟨y, rfl, Hm.out, H4.out, hg4.out⟩

/-- A statement of the generator's that ends no block. -/
def genS (k : Nat) (t : Stm) : Prop :=
  (t.op = 2 ∧ t.d = ⟨#[]⟩ ∧ (1 ≤ t.us.length ∧ t.us.length ≤ 2 ∧ ∀ x ∈ t.us, x ∈ varsL) ∧ t.ts = []) ∨
  ((t.op = 4 ∨ t.op = 6) ∧ t.d ∈ varsL ∧ t.us = [] ∧ t.ts = []) ∨
  (t.op = 5 ∧ t.d = ⟨#[]⟩ ∧ (∃ x ∈ varsL, t.us = [x]) ∧ t.ts = []) ∨
  (t.op = 3 ∧ t.d = ⟨#[]⟩ ∧ t.us = [] ∧ ∃ i x, i < k ∧ fnsL[i]? = some x ∧ t.ts = [x]) ∨
  (t.op = 1 ∧ t.d ∈ varsL ∧ (t.us.length ≤ 3 ∧ ∀ x ∈ t.us, x ∈ varsL) ∧ t.ts = [])
def agS (x : SH) : Value := .agg #[.int .i64 x.t.op, .string x.t.d, .slice x.A x.n x.c, .slice x.B x.m x.c2]
/-- What is new is safe from all that was written before. -/
def Fresh4 (w : World) (w' : World) (x : SH) : Prop := ∀ ex : List (Option Nat), (∀ k, some k ∈ ex → k < w.heap.size) → SHok w' ex x
def RetS (w0 : World) (T k : Nat) (w : World) (e : Ending) (w' : World) : Prop :=
  ∃ x : SH, e = .returned (agS x) ∧ genS k x.t ∧ Fresh4 w w' x ∧ Going w0 T w' ∧ w.grownBy w' (some T)
/-- While a statement is made: its block, and what the statement's strings lie in. -/
def Gen4 (w0 : World) (T : Nat) (w : World) (wr : World) : Prop := Going w0 T wr ∧ w.grownBy wr (some T) ∧ T < w.heap.size ∧ Fb wr w.heap.size #[.int .i64 0, .string ⟨#[]⟩, .slice none 0 0, .slice none 0 0] 68
theorem Gen4.step {w0 w wr w' : World} {T : Nat} (h : Gen4 w0 T w wr) (ht : Going w0 T w') (hg : wr.grownBy w' (some T)) : Gen4 w0 T w w' :=
  ⟨ht, grown_trans h.2.1 hg, h.2.2.1, h.2.2.2.grown hg (by have := h.2.2.1; simp; omega)⟩
theorem varsL_small : ∀ x ∈ varsL, x.size ≤ 1 := by decide +kernel
theorem fnsL_small : ∀ x ∈ fnsL, x.size ≤ 1 := by decide +kernel
theorem SSafe.new {wr : World} {ex : List (Option Nat)} {g m : Nat} {l : List ByteArray} (h : Fb wr g (strC l) 9) (he : some g ∉ ex) (hm : m ≤ l.length) (hl : l.length ≤ 40) (hs : ∀ x ∈ l, x.size ≤ 1000) : SSafe wr ex (some ⟨g, 0, none⟩) m (l.take m) :=
  ⟨EAt.fb h he fun j u hu => by
      unfold strC
      rw [List.getElem?_toArray]
      rw [List.map_take, List.getElem?_take] at hu
      split at hu
      · exact hu
      · exact (nomatch hu), by rw [List.length_take]; omega, by omega, fun x hx => hs x (List.mem_of_mem_take hx)⟩
theorem gen_done {w0 w wr : World} {T : Nat} {x : SH} (h : Gen4 w0 T w wr) (hs : ∀ ex : List (Option Nat), (∀ j, some j ∈ ex → j ≤ w.heap.size) → SHok wr ex x) (a b c d : Value) :
    Fresh4 w ((((wr.setCell ⟨w.heap.size, 0, none⟩ a).setCell ⟨w.heap.size, 1, none⟩ b).setCell ⟨w.heap.size, 2, none⟩ c).setCell ⟨w.heap.size, 3, none⟩ d) x ∧
      Going w0 T ((((wr.setCell ⟨w.heap.size, 0, none⟩ a).setCell ⟨w.heap.size, 1, none⟩ b).setCell ⟨w.heap.size, 2, none⟩ c).setCell ⟨w.heap.size, 3, none⟩ d) ∧
      w.grownBy ((((wr.setCell ⟨w.heap.size, 0, none⟩ a).setCell ⟨w.heap.size, 1, none⟩ b).setCell ⟨w.heap.size, 2, none⟩ c).setCell ⟨w.heap.size, 3, none⟩ d) (some T) := by
  obtain ⟨h1, h2, h3, h4⟩ := h
  have hg : wr.grownBy ((((wr.setCell ⟨w.heap.size, 0, none⟩ a).setCell ⟨w.heap.size, 1, none⟩ b).setCell ⟨w.heap.size, 2, none⟩ c).setCell ⟨w.heap.size, 3, none⟩ d) (some w.heap.size) :=
    grown_trans (grown_trans (grown_trans (setCell_grown wr ⟨w.heap.size, 0, none⟩ a) (setCell_grown _ ⟨w.heap.size, 1, none⟩ b)) (setCell_grown _ ⟨w.heap.size, 2, none⟩ c)) (setCell_grown _ ⟨w.heap.size, 3, none⟩ d)
  refine ⟨fun ex he => ?_, ⟨?_, ?_, h1.2.2⟩, ?_⟩
  · have e1 := hs (some w.heap.size :: ex) (fun j hj => by
      rcases List.mem_cons.1 hj with hj | hj
      · injection hj with hj; omega
      · have := he j hj; omega)
    exact (e1.go (Go2.same hg (.inr (by simp)))).go (Go2.less _ fun k hk => List.mem_cons_of_mem _ hk)
  · exact (((h1.1.far (p := ⟨w.heap.size, 0, none⟩) h3 a).far (p := ⟨w.heap.size, 1, none⟩) h3 b).far (p := ⟨w.heap.size, 2, none⟩) h3 c).far (p := ⟨w.heap.size, 3, none⟩) h3 d
  · have hz : w0.heap.size ≤ w.heap.size := Nat.le_trans h1.2.2 (Nat.le_of_lt h3)
    exact (((h1.2.1.setCell hz a).setCell hz b).setCell hz c).setCell hz d
  · have e := fun (w' : World) (g : w.grownBy w' (some T)) (p : Addr) (hp : p.block = w.heap.size) u => grown_set_new g (p := p) (by omega) u
    exact e _ (e _ (e _ (e _ h2 _ rfl a) _ rfl b) _ rfl c) _ rfl d
theorem Gen4.cells {w0 w wr : World} {T : Nat} (h : Gen4 w0 T w wr) :
    (wr.cell? ⟨w.heap.size, 0, none⟩ = some (.int .i64 0) ∧ wr.cell? ⟨w.heap.size, 1, none⟩ = some (.string ⟨#[]⟩) ∧ wr.cell? ⟨w.heap.size, 2, none⟩ = some (.slice none 0 0) ∧ wr.cell? ⟨w.heap.size, 3, none⟩ = some (.slice none 0 0)) ∧
    (wr.frozen? ⟨w.heap.size, 0, none⟩ = false ∧ wr.frozen? ⟨w.heap.size, 1, none⟩ = false ∧ wr.frozen? ⟨w.heap.size, 2, none⟩ = false ∧ wr.frozen? ⟨w.heap.size, 3, none⟩ = false) ∧ w.heap.size < wr.heap.size :=
  ⟨h.2.2.2.four, ⟨h.2.2.2.frozen 0, h.2.2.2.frozen 1, h.2.2.2.frozen 2, h.2.2.2.frozen 3⟩, h.2.2.2.lt⟩
theorem Gen4.alloc {w0 w wr : World} {T : Nat} (h : Gen4 w0 T w wr) (o : Obj) : Gen4 w0 T w (wr.alloc o) :=
  h.step (h.1.alloc o) (grown_of_below ((Below.refl _ _).alloc (Nat.le_refl _) _) _)
theorem gt_of {w0 w wr : World} {T : Nat} (h : Gen4 w0 T w wr) : w.heap.size < wr.heap.size ∧ wr.heap.size ≠ T := ⟨h.2.2.2.lt, by have := h.1.lt; omega⟩

set_option maxHeartbeats 3200000 in
theorem stmt_any (w0 : World) (T k : Nat) (w : World) (h : Going w0 T w) (hk1 : 1 ≤ k) (hk : k ≤ 3) : Calls Tryz.prog 42 #[.pointer (some ⟨T, 0, none⟩), .int .i64 (k : Int)] w (RetS w0 T k w) := by
  have h0 := hid (show Gen4 w0 T w (w.alloc (.cells #[.int .i64 0, .string ⟨#[]⟩, .slice none 0 0, .slice none 0 0] 68)) from
    ⟨h.alloc _, grown_of_below ((Below.refl _ _).alloc (Nat.le_refl _) _) _, h.lt, Fb.new _ _ _⟩)
  clear h
  go_enter Tryz.func42, Tryz.ntmps42
  go_wp2_with fail
  refine (next_any T 9 _ h0.out.1.1 (by omega)).mono ?_
  rintro e w1 ⟨r, rfl, hr0, hr1, ht1, hg1, -⟩
  have h1 := hid (h0.out.step (h0.out.1.step ht1 hg1) hg1)
  clear h0 ht1 hg1
  by_cases e1 : r = 1
  · as_aux_lemma =>
    subst e1
    go_wp2_with fail
    refine (name2_any w0 T _ h1.out.1).mono ?_
    rintro e w2 ⟨x, rfl, hx, ht2, hg2⟩
    have h2 := hid (h1.out.step ht2 hg2)
    have Hx := hid hx
    clear hx ht2 hg2 h1
    go_wp2_with fail
    refine (name2_any w0 T _ h2.out.1).mono ?_
    rintro e w3 ⟨y, rfl, hy, ht3, hg3⟩
    have h3 := hid (h2.out.step ht3 hg3)
    have Hy := hid hy
    have Hall := hid (show ∀ z ∈ [x, y], z ∈ varsL by intro z hz; simp at hz; rcases hz with rfl | rfl; exact Hx.out; exact Hy.out)
    clear hy ht3 hg3 h2
    have h4 := hid (h3.out.alloc (.cells #[.string x, .string y] 9))
    have Hf := hid (show Fb _ _ (strC [x, y]) 9 from Fb.new w3 #[.string x, .string y] 9)
    have Hne := hid (gt_of h3.out)
    clear h3
    go_wp2_with fail
    refine (next_any T 2 _ h4.out.1.1 (by omega)).mono ?_
    rintro e w5 ⟨r5, rfl, hr50, hr51, ht5, hg5, -⟩
    have h5 := hid (h4.out.step (h4.out.1.step ht5 hg5) hg5)
    have Hf5 := hid (Hf.out.grown hg5 (by have := Hne.out.2; simpa using this))
    have hr52 : r5 = 0 ∨ r5 = 1 := by omega
    clear ht5 hg5 h4 Hf hr50 hr51
    obtain ⟨⟨q0, q1, q2, q3⟩, ⟨f0, f1, f2, f3⟩, hz⟩ := h5.out.cells
    have Hs := hid (fun m (hm : m ≤ 2) (ex : List (Option Nat)) (he : ∀ j, some j ∈ ex → j ≤ w.heap.size) => SSafe.new (m := m) Hf5.out (ex := ex) (fun hin => by have := he _ hin; have := Hne.out.1; omega) hm (by simp) (fun z hz => by have := varsL_small z (Hall.out z hz); omega))
    rcases hr52 with rfl | rfl
    · go_wp2_with fail
      have HD := hid (gen_done (x := ⟨some ⟨w3.heap.size, 0, none⟩, 1, 2, none, 0, 0, ⟨2, ⟨#[]⟩, [x], []⟩⟩) h5.out (fun ex he => ⟨Hs.out 1 (by omega) ex he, SSafe.nil _ _ _, Nat.zero_le _⟩))
      refine bodyPost_ret (v := agS ⟨some ⟨w3.heap.size, 0, none⟩, 1, 2, none, 0, 0, ⟨2, ⟨#[]⟩, [x], []⟩⟩) (by simp [results, Tryz.results42, go_sem, q0, q1, q2, q3, hz, agS]) rfl ?_
      exact ⟨_, rfl, .inl ⟨rfl, rfl, ⟨by simp, by simp, fun z hz => Hall.out z (by simp at hz ⊢; exact .inl hz)⟩, rfl⟩, HD.out _ _ _ _⟩
    · go_wp2_with fail
      have HD := hid (gen_done (x := ⟨some ⟨w3.heap.size, 0, none⟩, 2, 2, none, 0, 0, ⟨2, ⟨#[]⟩, [x, y], []⟩⟩) h5.out (fun ex he => ⟨Hs.out 2 (by omega) ex he, SSafe.nil _ _ _, Nat.zero_le _⟩))
      refine bodyPost_ret (v := agS ⟨some ⟨w3.heap.size, 0, none⟩, 2, 2, none, 0, 0, ⟨2, ⟨#[]⟩, [x, y], []⟩⟩) (by simp [results, Tryz.results42, go_sem, q0, q1, q2, q3, hz, agS]) rfl ?_
      exact ⟨_, rfl, .inl ⟨rfl, rfl, ⟨by simp, by simp, Hall.out⟩, rfl⟩, HD.out _ _ _ _⟩
  by_cases e2 : r = 2 ∨ r = 4
  · as_aux_lemma =>
    rcases e2 with rfl | rfl
    all_goals
      go_wp2_with fail
      refine (name2_any w0 T _ h1.out.1).mono ?_
      rintro e w2 ⟨x, rfl, hx, ht2, hg2⟩
      have h2 := hid (h1.out.step ht2 hg2)
      have Hx := hid hx
      clear hx ht2 hg2 h1
      obtain ⟨⟨q0, q1, q2, q3⟩, ⟨f0, f1, f2, f3⟩, hz⟩ := h2.out.cells
      go_wp2_with fail
    · have HD := hid (gen_done (x := ⟨none, 0, 0, none, 0, 0, ⟨4, x, [], []⟩⟩) h2.out (fun ex he => ⟨SSafe.nil _ _ _, SSafe.nil _ _ _, by have := varsL_small x Hx.out; show x.size ≤ 1000; omega⟩))
      refine bodyPost_ret (v := agS ⟨none, 0, 0, none, 0, 0, ⟨4, x, [], []⟩⟩) (by simp [results, Tryz.results42, go_sem, q0, q1, q2, q3, hz, agS]) rfl ?_
      exact ⟨_, rfl, .inr (.inl ⟨.inl rfl, Hx.out, rfl, rfl⟩), HD.out _ _ _ _⟩
    · have HD := hid (gen_done (x := ⟨none, 0, 0, none, 0, 0, ⟨6, x, [], []⟩⟩) h2.out (fun ex he => ⟨SSafe.nil _ _ _, SSafe.nil _ _ _, by have := varsL_small x Hx.out; show x.size ≤ 1000; omega⟩))
      refine bodyPost_ret (v := agS ⟨none, 0, 0, none, 0, 0, ⟨6, x, [], []⟩⟩) (by simp [results, Tryz.results42, go_sem, q0, q1, q2, q3, hz, agS]) rfl ?_
      exact ⟨_, rfl, .inr (.inl ⟨.inr rfl, Hx.out, rfl, rfl⟩), HD.out _ _ _ _⟩
  by_cases e3 : r = 3
  · as_aux_lemma =>
    subst e3
    go_wp2_with fail
    refine (name2_any w0 T _ h1.out.1).mono ?_
    rintro e w2 ⟨x, rfl, hx, ht2, hg2⟩
    have h2 := hid (h1.out.step ht2 hg2)
    have Hx := hid hx
    clear hx ht2 hg2 h1
    have h4 := hid (h2.out.alloc (.cells #[.string x] 9))
    have Hf := hid (show Fb _ _ (strC [x]) 9 from Fb.new w2 #[.string x] 9)
    have Hne := hid (gt_of h2.out)
    clear h2
    obtain ⟨⟨q0, q1, q2, q3⟩, ⟨f0, f1, f2, f3⟩, hz⟩ := h4.out.cells
    have Hs := hid (fun m (hm : m ≤ 1) (ex : List (Option Nat)) (he : ∀ j, some j ∈ ex → j ≤ w.heap.size) => SSafe.new (m := m) Hf.out (ex := ex) (fun hin => by have := he _ hin; have := Hne.out.1; omega) hm (by simp) (fun z hz => by simp at hz; subst hz; have := varsL_small z Hx.out; omega))
    go_wp2_with fail
    have HD := hid (gen_done (x := ⟨some ⟨w2.heap.size, 0, none⟩, 1, 1, none, 0, 0, ⟨5, ⟨#[]⟩, [x], []⟩⟩) h4.out (fun ex he => ⟨Hs.out 1 (by omega) ex he, SSafe.nil _ _ _, Nat.zero_le _⟩))
    refine bodyPost_ret (v := agS ⟨some ⟨w2.heap.size, 0, none⟩, 1, 1, none, 0, 0, ⟨5, ⟨#[]⟩, [x], []⟩⟩) (by simp [results, Tryz.results42, go_sem, q0, q1, q2, q3, hz, agS]) rfl ?_
    exact ⟨_, rfl, .inr (.inr (.inl ⟨rfl, rfl, ⟨x, Hx.out, rfl⟩, rfl⟩)), HD.out _ _ _ _⟩
  by_cases e5 : r = 5 ∨ r = 6
  · as_aux_lemma =>
    have h2 := hid (h1.out.alloc (.cells #[.string ⟨#[109]⟩, .string ⟨#[102]⟩, .string ⟨#[103]⟩] 9))
    have Hf := hid (show Fb _ _ (strC fnsL) 9 from Fb.new w1 #[.string ⟨#[109]⟩, .string ⟨#[102]⟩, .string ⟨#[103]⟩] 9)
    have Hne := hid (gt_of h1.out)
    clear h1
    rcases e5 with rfl | rfl
    all_goals
      go_wp2_with fail
      refine (next_any T k _ h2.out.1.1 (by omega)).mono ?_
      rintro e w5 ⟨r5, rfl, hr50, hr51, ht5, hg5, -⟩
      have h5 := hid (h2.out.step (h2.out.1.step ht5 hg5) hg5)
      obtain ⟨x, hm, hx⟩ := pickL Hf.out hg5 Hne.out.2 hr50 (by show r5.toNat < 3; omega)
      have hr52 : r5 < 3 := by omega
      have Hrk := hid (show r5.toNat < k by omega)
      have Hm := hid hm
      have Hx := hid (fnsL_small x (List.mem_of_getElem? hm))
      have h6 := hid (h5.out.alloc (.cells #[.string x] 9))
      have Hf6 := hid (show Fb _ _ (strC [x]) 9 from Fb.new w5 #[.string x] 9)
      have Hne6 := hid (gt_of h5.out)
      clear ht5 hg5 h2 Hf hm hr51 h5
      obtain ⟨⟨q0, q1, q2, q3⟩, ⟨f0, f1, f2, f3⟩, hz⟩ := h6.out.cells
      have Hs := hid (fun m (hm : m ≤ 1) (ex : List (Option Nat)) (he : ∀ j, some j ∈ ex → j ≤ w.heap.size) => SSafe.new (m := m) Hf6.out (ex := ex) (fun hin => by have := he _ hin; have := Hne6.out.1; omega) hm (by simp) (fun z hz => by simp at hz; subst hz; have := Hx.out; omega))
      go_wp2_with fail
      have HD := hid (gen_done (x := ⟨none, 0, 0, some ⟨w5.heap.size, 0, none⟩, 1, 1, ⟨3, ⟨#[]⟩, [], [x]⟩⟩) h6.out (fun ex he => ⟨SSafe.nil _ _ _, Hs.out 1 (by omega) ex he, Nat.zero_le _⟩))
      refine bodyPost_ret (v := agS ⟨none, 0, 0, some ⟨w5.heap.size, 0, none⟩, 1, 1, ⟨3, ⟨#[]⟩, [], [x]⟩⟩) (by simp [results, Tryz.results42, go_sem, q0, q1, q2, q3, hz, agS]) rfl ?_
      exact ⟨_, rfl, .inr (.inr (.inr (.inl ⟨rfl, rfl, rfl, _, x, Hrk.out, Hm.out, rfl⟩))), HD.out _ _ _ _⟩
  have e0 : r = 0 ∨ r = 7 ∨ r = 8 := by omega
  clear e1 e2 e3 e5
  as_aux_lemma =>
    rcases e0 with rfl | rfl | rfl
    all_goals
      go_wp2_with fail
      refine (name2_any w0 T _ h1.out.1).mono ?_
      rintro e w2 ⟨d, rfl, hd, ht2, hg2⟩
      have h2 := hid (h1.out.step ht2 hg2)
      have Hd := hid hd
      clear hd ht2 hg2 h1
      go_wp2_with fail
      refine (name2_any w0 T _ h2.out.1).mono ?_
      rintro e w3 ⟨x, rfl, hx, ht3, hg3⟩
      have h3 := hid (h2.out.step ht3 hg3)
      have Hx := hid hx
      clear hx ht3 hg3 h2
      go_wp2_with fail
      refine (name2_any w0 T _ h3.out.1).mono ?_
      rintro e w4 ⟨y, rfl, hy, ht4, hg4⟩
      have h4 := hid (h3.out.step ht4 hg4)
      have Hy := hid hy
      clear hy ht4 hg4 h3
      go_wp2_with fail
      refine (name2_any w0 T _ h4.out.1).mono ?_
      rintro e w5 ⟨z, rfl, hz, ht5, hg5⟩
      have h5 := hid (h4.out.step ht5 hg5)
      have Hall := hid (show ∀ v ∈ [x, y, z], v ∈ varsL by intro v hv; simp at hv; rcases hv with rfl | rfl | rfl; exact Hx.out; exact Hy.out; exact hz)
      clear hz ht5 hg5 h4 Hx Hy
      have h6 := hid (h5.out.alloc (.cells #[.string x, .string y, .string z] 9))
      have Hf := hid (show Fb _ _ (strC [x, y, z]) 9 from Fb.new w5 #[.string x, .string y, .string z] 9)
      have Hne := hid (gt_of h5.out)
      clear h5
      go_wp2_with fail
      refine (next_any T 4 _ h6.out.1.1 (by omega)).mono ?_
      rintro e w7 ⟨r7, rfl, hr70, hr71, ht7, hg7, -⟩
      have h7 := hid (h6.out.step (h6.out.1.step ht7 hg7) hg7)
      have Hf7 := hid (Hf.out.grown hg7 (by have := Hne.out.2; simpa using this))
      clear ht7 hg7 h6 Hf
      obtain ⟨m, rfl⟩ := Int.eq_ofNat_of_zero_le hr70
      have hm3 : m ≤ 3 := by omega
      clear hr70 hr71
      obtain ⟨⟨q0, q1, q2, q3⟩, ⟨f0, f1, f2, f3⟩, hz⟩ := h7.out.cells
      have Hs := hid (fun m (hm : m ≤ 3) (ex : List (Option Nat)) (he : ∀ j, some j ∈ ex → j ≤ w.heap.size) => SSafe.new (m := m) Hf7.out (ex := ex) (fun hin => by have := he _ hin; have := Hne.out.1; omega) hm (by simp) (fun z hz => by have := varsL_small z (Hall.out z hz); omega))
      go_wp2_with fail
      have HD := hid (gen_done (x := ⟨some ⟨w5.heap.size, 0, none⟩, m, 3, none, 0, 0, ⟨1, d, [x, y, z].take m, []⟩⟩) h7.out (fun ex he => ⟨Hs.out m hm3 ex he, SSafe.nil _ _ _, by have := varsL_small d Hd.out; show d.size ≤ 1000; omega⟩))
      refine bodyPost_ret (v := agS ⟨some ⟨w5.heap.size, 0, none⟩, m, 3, none, 0, 0, ⟨1, d, [x, y, z].take m, []⟩⟩) (by simp [results, Tryz.results42, go_sem, q0, q1, q2, q3, hz, agS]) rfl ?_
      exact ⟨_, rfl, .inr (.inr (.inr (.inr ⟨rfl, Hd.out, ⟨by rw [List.length_take]; simp; omega, fun v hv => Hall.out v (List.mem_of_mem_take hv)⟩, rfl⟩))), HD.out _ _ _ _⟩
end Go.Proofs.YtfapgnbnfhpicaaGreatDoor
