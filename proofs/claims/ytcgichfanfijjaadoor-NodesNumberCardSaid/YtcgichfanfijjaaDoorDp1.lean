/- The package's parser: next, fail, take, word, name, end. -/
import Derived.Test.YtcgichfanfijjaaDoorPms
import Derived.Test.YtcgichfanfijjaaDoorRp3
import Derived.Deep.Slices
namespace Go.Proofs.YtcgichfanfijjaaDoor
set_option maxRecDepth 20000
set_option linter.unusedVariables false
set_option linter.unusedSimpArgs false
open Go.ChangeShapes Go.WideShapes Go.ChangeAt Go.RowKit

/-- The table of shapes: keyword, whether it defines, least and most uses, targets. -/
def shp (k : ByteArray) (d : Bool) (l m t : Int) : List Value := [.string k, .bool d, .int .i64 l, .int .i64 m, .int .i64 t]
def shpCells : List Value := shp noB false 0 0 0 ++ shp noB true 0 4 0 ++ shp kwUse false 1 4 0 ++ shp kwCall false 0 0 1 ++ shp kwSource true 0 0 0 ++ shp kwSink false 1 1 0 ++ shp kwSanitize true 0 0 0 ++ shp kwGoto false 0 0 1 ++ shp kwBranch false 1 1 2 ++ shp kwReturn false 0 0 0
def Shp (w : World) : Prop := ∀ (j : Nat) (u : Value), shpCells[j]? = some u → w.cell? ⟨0, j, none⟩ = some u
theorem Shp.keep {w w' : World} (h : Shp w) (hk : w'.heap[0]? = w.heap[0]?) : Shp w' := fun j u hu => (World.cell?_of_block hk).trans (h j u hu)
/-- The package's parser in block b. -/
structure Dst (w : World) (b : Nat) (σ : Ds) : Prop where
  ex : ∃ (A : Option Addr) (c : Nat), Fb w b #[.slice A σ.l.length c, .int .i64 (σ.line : Int), .int .i64 (σ.col : Int), .int .i64 σ.e] 108 ∧ At w b A (tcells σ.l) ∧ σ.l.length ≤ c
  few : σ.l.length ≤ 100000
  toks : AllOk σ.l
  tab : Shp w
  pos : 0 < b
section
variable {w w' : World} {b : Nat} {σ : Ds}
theorem Dst.lt (h : Dst w b σ) : b < w.heap.size := by obtain ⟨A, c, hf, _⟩ := h.ex; exact hf.lt
theorem Dst.keep (h : Dst w b σ) (hb : ∀ k, k ≤ b → w'.heap[k]? = w.heap[k]?) : Dst w' b σ := by
  obtain ⟨A, c, hf, ha, hc⟩ := h.ex
  exact ⟨⟨A, c, (hb b (Nat.le_refl _)).trans hf, ha.keep (fun p hp => World.cell?_of_block (hb _ (by omega))) (Nat.le_refl _), hc⟩, h.few, h.toks, h.tab.keep (hb 0 (by omega)), h.pos⟩
theorem Dst.below {B : Nat} (h : Dst w b σ) (hb : Below B w w') (hB : b < B) : Dst w' b σ := h.keep fun k hk => hb.block k (by omega)
theorem Dst.grown {row : Option Nat} (h : Dst w b σ) (hg : w.grownBy w' row) (hr : ∀ k, row = some k → b < k) : Dst w' b σ :=
  h.keep fun k hk => hg.block k (Nat.lt_of_le_of_lt hk h.lt) (fun e => by have := hr k e.symm; omega)
theorem Dst.far (h : Dst w b σ) {p : Addr} (hp : b < p.block) (u : Value) : Dst (w.setCell p u) b σ := h.keep fun k hk => Below.heap_setCell w p u k (by omega)
theorem Dst.drewN (h : Dst w b σ) (q : Nat) : Dst (w.drewN q) b σ := h.keep fun _ _ => rfl
end
def DTo (w : World) (b : Nat) (σ : Ds) (w' : World) : Prop := Dst w' b σ ∧ w.grownBy w' (some b)
section
variable {w w' w'' : World} {b : Nat} {σ σ' : Ds}
theorem DTo.trans (h : DTo w b σ w') (h2 : DTo w' b σ' w'') : DTo w b σ' w'' := ⟨h2.1, grown_two h.2 h2.2⟩
theorem DTo.belowl (hb : Below w.heap.size w w') (h2 : DTo w' b σ w'') : DTo w b σ w'' := ⟨h2.1, grown_two (grown_of_below hb _) h2.2⟩
theorem DTo.belowr (h : DTo w b σ w') (hb : Below w'.heap.size w' w'') : DTo w b σ w'' := ⟨h.1.below hb h.1.lt, grown_two h.2 (grown_of_below hb _)⟩
theorem DTo.refl (h : Dst w b σ) : DTo w b σ w := ⟨h, World.grownBy.refl _ _⟩
end
theorem Fb.fourc {w : World} {g t : Nat} {a b c d : Value} (h : Fb w g #[a, b, c, d] t) :
    (w.cell? ⟨g, 0, none⟩ = some a ∧ w.cell? ⟨g, 1, none⟩ = some b ∧ w.cell? ⟨g, 2, none⟩ = some c ∧ w.cell? ⟨g, 3, none⟩ = some d) ∧
      (w.frozen? ⟨g, 0, none⟩ = false ∧ w.frozen? ⟨g, 1, none⟩ = false ∧ w.frozen? ⟨g, 2, none⟩ = false ∧ w.frozen? ⟨g, 3, none⟩ = false) :=
  ⟨⟨h.cell 0, h.cell 1, h.cell 2, h.cell 3⟩, h.frozen 0, h.frozen 1, h.frozen 2, h.frozen 3⟩
def agT (t : Tok) : Value := .agg #[.int .i64 t.kind, .string t.text, .int .i64 (t.line : Int), .int .i64 (t.col : Int)]
theorem fieldTok0 (a b c d : Value) (w : World) : Sem.run Tryd.prog (Instr.field 79 (.agg #[a, b, c, d]) 0) w = .ok a w := by rfl
theorem fieldTok1 (a b c d : Value) (w : World) : Sem.run Tryd.prog (Instr.field 79 (.agg #[a, b, c, d]) 1) w = .ok b w := by rfl
theorem fieldTok2 (a b c d : Value) (w : World) : Sem.run Tryd.prog (Instr.field 79 (.agg #[a, b, c, d]) 2) w = .ok c w := by rfl
theorem fieldTok3 (a b c d : Value) (w : World) : Sem.run Tryd.prog (Instr.field 79 (.agg #[a, b, c, d]) 3) w = .ok d w := by rfl
attribute [local go_sem] fieldTok0 fieldTok1 fieldTok2 fieldTok3
set_option maxHeartbeats 1600000 in
theorem devNext_any (b : Nat) (σ : Ds) (w : World) (h : Dst w b σ) :
    Calls Tryd.prog 147 #[.pointer (some ⟨b, 0, none⟩)] w fun e w' => e = .returned (agT (nxt σ.l)) ∧ Below w.heap.size w w' := by
  have hlt := h.lt
  have hfew := h.few
  obtain ⟨A, c, hf, ha, hc⟩ := h.ex
  obtain ⟨l, line, col, er⟩ := σ
  simp only at hf ha hc hfew
  obtain ⟨⟨c0, c1, c2, c3⟩, -⟩ := hf.fourc
  have HB := hid (fun o => (Below.refl w.heap.size w).alloc (Nat.le_refl _) o)
  clear hf h
  cases l with
  | nil =>
    clear ha hc
    go_enter Tryd.func147, Tryd.ntmps147
    go_wp2_with fail
    refine bodyPost_ret (v := agT zTok) (by simp [results, Tryd.results147, go_sem, agT, zTok, noB]) rfl ⟨rfl, HB.out _⟩
  | cons t l =>
    obtain ⟨a, rfl, hab, ⟨a0, a1⟩, a2, a3⟩ := (show TArg w A (t :: l).length (t :: l) from ⟨ha.more (Nat.le_of_lt hlt), rfl⟩).cell (i := 0) (by simp)
    have hnx : nxt (t :: l) = t := rfl
    rw [hnx]
    simp only [List.getElem_cons_zero, Nat.zero_mul] at a0 a1 a2 a3
    have hz : a.add 0 = a := by unfold Addr.add; simp
    rw [hz] at a0 a1 a2 a3
    have hll : (t :: l).length = l.length + 1 := by simp
    clear ha hc hnx hz
    rw [hll] at c0 hfew
    clear hll
    obtain ⟨kd, tx, ln, cl⟩ := t
    simp only at a0 a1 a2 a3
    go_enter Tryd.func147, Tryd.ntmps147
    go_wp2_with fail
    refine bodyPost_ret (v := agT ⟨kd, tx, ln, cl⟩) (by simp [results, Tryd.results147, go_sem, agT]) rfl ⟨rfl, HB.out _⟩
theorem Shp.far {w : World} (h : Shp w) {p : Addr} (hp : 0 < p.block) (u : Value) : Shp (w.setCell p u) := h.keep (Below.heap_setCell w p u 0 (by omega))
theorem Dst.err {w : World} {b : Nat} {σ : Ds} (h : Dst w b σ) (n m : Nat) (x : Int) : DTo w b ⟨[], n, m, x⟩ ((((w.setCell ⟨b, 1, none⟩ (.int .i64 (n : Int))).setCell ⟨b, 2, none⟩ (.int .i64 (m : Int))).setCell ⟨b, 3, none⟩ (.int .i64 x)).setCell ⟨b, 0, none⟩ (.slice none 0 0)) := by
  obtain ⟨A, c, hf, ha, hc⟩ := h.ex
  refine ⟨⟨⟨none, 0, ?_, At.nil, Nat.le_refl _⟩, by simp, fun t ht => by simp at ht, (((h.tab.far (p := ⟨b, 1, none⟩) h.pos _).far (p := ⟨b, 2, none⟩) h.pos _).far (p := ⟨b, 3, none⟩) h.pos _).far (p := ⟨b, 0, none⟩) h.pos _, h.pos⟩, ?_⟩
  · have := (((hf.set 1 (.int .i64 (n : Int))).set 2 (.int .i64 (m : Int))).set 3 (.int .i64 x)).set 0 (.slice none 0 0)
    simpa using this
  · exact grown_two (grown_two (grown_two (setCell_grown w ⟨b, 1, none⟩ _) (setCell_grown _ ⟨b, 2, none⟩ _)) (setCell_grown _ ⟨b, 3, none⟩ _)) (setCell_grown _ ⟨b, 0, none⟩ _)
theorem Dst.step {w : World} {b c : Nat} {A : Option Addr} {l : List Tok} {ln cl : Nat} {er : Int} (h : Dst w b ⟨l, ln, cl, er⟩) (hf : ∃ (A : Option Addr) (c : Nat), Fb w b #[.slice A l.length c, .int .i64 (ln : Int), .int .i64 (cl : Int), .int .i64 er] 108)
    (ha : At w b A (tcells l.tail)) (hc : l.tail.length ≤ c) : DTo w b ⟨l.tail, ln, cl, er⟩ (w.setCell ⟨b, 0, none⟩ (.slice A l.tail.length c)) := by
  obtain ⟨A0, c0, hf⟩ := hf
  refine ⟨⟨⟨A, c, ?_, ha.far (Nat.le_refl _) _, hc⟩, by have := h.few; simp at this ⊢; omega, h.toks.tail, h.tab.far (p := ⟨b, 0, none⟩) h.pos _, h.pos⟩, setCell_grown w _ _⟩
  have := hf.set 0 (.slice A l.tail.length c)
  simpa using this
theorem Dst.frozen {w : World} {b : Nat} {σ : Ds} (h : Dst w b σ) : w.frozen? ⟨b, 0, none⟩ = false ∧ w.frozen? ⟨b, 1, none⟩ = false ∧ w.frozen? ⟨b, 2, none⟩ = false ∧ w.frozen? ⟨b, 3, none⟩ = false := by
  obtain ⟨A, c, hf, _⟩ := h.ex
  exact hf.fourc.2
set_option maxHeartbeats 1600000 in
theorem devFail_any (b : Nat) (σ : Ds) (x : Int) (w : World) (h : Dst w b σ) :
    Calls Tryd.prog 103 #[.pointer (some ⟨b, 0, none⟩), .int .i64 x] w fun e w' => e = .returned (.tuple #[]) ∧ DTo w b (failS x σ) w' := by
  have hlt := h.lt
  have H := hid h
  obtain ⟨A, c, hf, -, -⟩ := h.ex
  obtain ⟨⟨c0, c1, c2, c3⟩, ⟨f0, f1, f2, f3⟩⟩ := hf.fourc
  clear hf h
  cases he : (σ.e == 0) with
  | false =>
    have Hr := hid (show failS x σ = σ by unfold failS; rw [he]; rfl)
    go_enter Tryd.func103, Tryd.ntmps103
    go_wp2_with fail
    refine bodyPost_end (v := .tuple #[]) (by simp [results, Tryd.results103]) rfl ⟨rfl, ?_⟩
    rw [Hr.out]; exact .refl H.out
  | true =>
    have Hr := hid (show failS x σ = ⟨[], (nxt σ.l).line, (nxt σ.l).col, x⟩ by unfold failS; rw [he]; rfl)
    go_enter Tryd.func103, Tryd.ntmps103
    go_wp2_with fail
    refine (devNext_any b σ _ H.out).mono ?_
    rintro e w1 ⟨rfl, hb1⟩
    have H1 := hid (H.out.below hb1 H.out.lt)
    have HB1 := hid hb1
    clear hb1 c0 c1 c2 c3 f0 f1 f2 f3
    unfold agT
    go_wp2_with fail
    refine (devNext_any b σ _ H1.out).mono ?_
    rintro e w2 ⟨rfl, hb2⟩
    have H2 := hid (H1.out.below hb2 H1.out.lt)
    have HB2 := hid (below_step HB1.out hb2)
    clear hb2
    unfold agT
    have hlt2 := H2.out.lt
    obtain ⟨A2, c', hf2, -, -⟩ := H2.out.ex
    obtain ⟨⟨c0, c1, c2, c3⟩, ⟨f0, f1, f2, f3⟩⟩ := hf2.fourc
    have HE := hid (H2.out.err (nxt σ.l).line (nxt σ.l).col x)
    clear hf2
    go_wp2_with fail
    refine bodyPost_end (v := .tuple #[]) (by simp [results, Tryd.results103]) rfl ⟨rfl, ?_⟩
    rw [Hr.out]; exact .belowl HB2.out HE.out
theorem At.tail {w : World} {b : Nat} {a : Addr} {t : Tok} {l : List Tok} (h : At w b (some a) (tcells (t :: l))) : At w b (some (a.add 4)) (tcells l) := by
  rcases h with h | ⟨ad, e, hb, hc⟩
  · have := tcells_len (t :: l); rw [h] at this; simp at this
  · injection e with e; subst e
    refine .inr ⟨_, rfl, by rw [add_block]; exact hb, fun j u hu => ?_⟩
    have h4 : (tcells (t :: l))[4 + j]? = some u := by
      show (tcell t ++ tcells l)[4 + j]? = some u
      rw [List.getElem?_append_right (by simp [tcell])]
      simpa [tcell] using hu
    rw [Go.Deep.add_add]
    exact hc _ u h4
set_option maxHeartbeats 1600000 in
theorem devTake_any (b : Nat) (σ : Ds) (bb : Bool) (w : World) (h : Dst w b σ) (hbb : bb = true → σ.l ≠ []) :
    Calls Tryd.prog 173 #[.pointer (some ⟨b, 0, none⟩), .bool bb] w fun e w' => e = .returned (.string (takeS bb σ).1) ∧ DTo w b (takeS bb σ).2 w' := by
  have H := hid h
  clear h
  cases bb with
  | false =>
    clear hbb
    have Hr := hid (show takeS false σ = (⟨#[]⟩, failS 4 σ) from rfl)
    go_enter Tryd.func173, Tryd.ntmps173
    go_wp2_with fail
    refine (devFail_any b σ 4 _ H.out).mono ?_
    rintro e w1 ⟨rfl, h1⟩
    have H1 := hid h1
    clear h1
    go_wp2
    go_ret
    rw [Hr.out]
    exact ⟨rfl, H1.out⟩
  | true =>
    have hne := hbb rfl
    clear hbb
    obtain ⟨l, ln, cl, er⟩ := σ
    cases l with
    | nil => exact absurd rfl hne
    | cons t l =>
      have Hr := hid (show takeS true ⟨t :: l, ln, cl, er⟩ = (t.text, ⟨l, ln, cl, er⟩) from rfl)
      clear hne
      go_enter Tryd.func173, Tryd.ntmps173
      go_wp2_with fail
      refine (devNext_any b ⟨t :: l, ln, cl, er⟩ _ H.out).mono ?_
      rintro e w1 ⟨rfl, hb1⟩
      have H1 := hid (H.out.below hb1 H.out.lt)
      have HB1 := hid hb1
      clear hb1
      unfold agT
      have hlt := H1.out.lt
      have hfew := H1.out.few
      obtain ⟨A, c, hf, ha, hc⟩ := H1.out.ex
      simp only at hf ha hc hfew
      obtain ⟨⟨c0, c1, c2, c3⟩, ⟨f0, f1, f2, f3⟩⟩ := hf.fourc
      obtain ⟨a, rfl, hab, -⟩ := (show TArg w1 A (t :: l).length (t :: l) from ⟨ha.more (Nat.le_of_lt hlt), rfl⟩).cell (i := 0) (by simp)
      have hnx : nxt (t :: l) = t := rfl
      rw [hnx]
      have hll : (t :: l).length = l.length + 1 := by simp
      rw [hll] at c0 hc hfew
      by_cases hc1 : c = 1
      · subst hc1
        have hl0 : l = [] := List.eq_nil_of_length_eq_zero (by omega)
        subst hl0
        have Hs := hid (H1.out.step (A := some a) (c := 0) ⟨_, _, hf⟩ At.nil (by simp))
        clear hf ha hnx hll
        go_wp2
        go_ret
        rw [Hr.out]
        exact ⟨rfl, .belowl HB1.out Hs.out⟩
      · have Hs := hid (H1.out.step (A := some (a.add 4)) (c := c - 1) ⟨_, _, hf⟩ ha.tail (by show l.length ≤ c - 1; omega))
        clear hf ha hnx hll
        go_wp2
        go_ret
        rw [Hr.out]
        exact ⟨rfl, .belowl HB1.out Hs.out⟩
end Go.Proofs.YtcgichfanfijjaaDoor
