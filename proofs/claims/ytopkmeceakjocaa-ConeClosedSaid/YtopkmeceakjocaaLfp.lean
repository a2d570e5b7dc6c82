/- Webs of small functions, their right sides and rounds, as values: what the package's rounds are. -/
import Derived.Test.YtopkmeceakjocaaVls
namespace Go.Proofs.Ytopkmeceakjocaa
set_option maxRecDepth 20000
set_option linter.unusedVariables false
set_option linter.unusedSimpArgs false

/-- A function of a width. -/
structure Pf where
  gs : List Nat
  ks : List Nat
  cs : List (Int × Int)
def Pf.vl (f : Pf) (v : Nat) (ss : List Nat) : List Nat := Ytopkmeceakjocaa.vl v f.gs f.ks f.cs ss
/-- A web: the width, the sets, the arcs into each unknown. -/
structure PW where
  v : Nat
  bd : List (List Nat)
  arcs : List (List (Nat × Pf))
def at0 (l : List (List Nat)) (m : Nat) : List Nat := l.getD m []
/-- A set joined with what follows from these arcs. -/
def side (v : Nat) (vals : List (List Nat)) (s : List Nat) (l : List (Nat × Pf)) : List Nat := l.foldl (fun s a => orR v s (a.2.vl v (at0 vals a.1))) s
theorem side_cons (v : Nat) (vals : List (List Nat)) (s : List Nat) (a : Nat × Pf) (l : List (Nat × Pf)) : side v vals s (a :: l) = side v vals (orR v s (a.2.vl v (at0 vals a.1))) l := rfl
theorem side_snoc (v : Nat) (vals : List (List Nat)) (s : List Nat) (a : Nat × Pf) (l : List (Nat × Pf)) : side v vals s (l ++ [a]) = orR v (side v vals s l) (a.2.vl v (at0 vals a.1)) := by
  unfold side; rw [List.foldl_append]; rfl
theorem fit_side {v : Nat} {vals : List (List Nat)} {s : List Nat} {l : List (Nat × Pf)} (hs : Bs.Fit v s) : Bs.Fit v (side v vals s l) := by
  induction l generalizing s with
  | nil => exact hs
  | cons a l ih => rw [side_cons]; exact ih (Bs.fit_ofP _ _ _ (Nat.le_refl _))
theorem bit_side {v i : Nat} (hi : i < v) (vals : List (List Nat)) (l : List (Nat × Pf)) (s : List Nat) : Bs.bit (side v vals s l) i = true ↔ (Bs.bit s i = true ∨ ∃ a ∈ l, Bs.bit (a.2.vl v (at0 vals a.1)) i = true) := by
  induction l generalizing s with
  | nil => simp [side]
  | cons a l ih =>
    rw [side_cons, ih, bit_orR hi, Bool.or_eq_true]
    constructor
    · rintro ((h | h) | ⟨b, hb, h⟩)
      · exact .inl h
      · exact .inr ⟨a, List.mem_cons_self, h⟩
      · exact .inr ⟨b, List.mem_cons_of_mem _ hb, h⟩
    · rintro (h | ⟨b, hb, h⟩)
      · exact .inl (.inl h)
      · rcases List.mem_cons.1 hb with rfl | hb
        · exact .inl (.inr h)
        · exact .inr ⟨b, hb, h⟩
theorem Pf.mono (f : Pf) {v i : Nat} (hi : i < v) {ss ts : List Nat} (h : ∀ i, i < v → Bs.bit ss i = true → Bs.bit ts i = true) (hb : Bs.bit (f.vl v ss) i = true) : Bs.bit (f.vl v ts) i = true := by
  unfold Pf.vl Ytopkmeceakjocaa.vl at *
  rw [bit_valR_iff hi] at *
  rcases hb with h1 | ⟨x, hx, h1, h2⟩
  · exact .inl h1
  · exact .inr ⟨x, hx, h x hx h1, h2⟩
/-- The number of unknowns, and the right side of one. -/
def PW.n (w : PW) : Nat := w.arcs.length
def PW.right (w : PW) (vals : List (List Nat)) (k : Nat) : List Nat := side w.v vals (at0 w.bd k) (w.arcs.getD k [])
def PW.rights (w : PW) (vals : List (List Nat)) : List (List Nat) := (List.range w.n).map fun k => w.right vals k
structure PW.Ok (w : PW) : Prop where
  len : w.bd.length = w.n
  fit : ∀ s ∈ w.bd, Bs.Fit w.v s
/-- Values of all unknowns. -/
structure PW.Vals (w : PW) (vals : List (List Nat)) : Prop where
  len : vals.length = w.n
  fit : ∀ s ∈ vals, Bs.Fit w.v s
theorem at0_mem {l : List (List Nat)} {k : Nat} (h : k < l.length) : at0 l k ∈ l := by
  unfold at0; rw [List.getD_eq_getElem?_getD, List.getElem?_eq_getElem h]; exact List.getElem_mem _
theorem at0_get {l : List (List Nat)} {k : Nat} {s : List Nat} (h : l[k]? = some s) : at0 l k = s := by
  unfold at0; rw [List.getD_eq_getElem?_getD, h]; rfl
theorem at0_map {n : Nat} {f : Nat → List Nat} {k : Nat} (h : k < n) : at0 ((List.range n).map f) k = f k := at0_get (by rw [List.getElem?_map, List.getElem?_range h]; rfl)
theorem vals_ext {n : Nat} {a b : List (List Nat)} (ha : a.length = n) (hb : b.length = n) (h : ∀ k, k < n → at0 a k = at0 b k) : a = b := by
  apply List.ext_getElem?
  intro k
  by_cases hk : k < n
  · have := h k hk
    unfold at0 at this
    rw [List.getD_eq_getElem?_getD, List.getD_eq_getElem?_getD, List.getElem?_eq_getElem (by omega), List.getElem?_eq_getElem (by omega)] at this
    rw [List.getElem?_eq_getElem (by omega), List.getElem?_eq_getElem (by omega)]
    simpa using this
  · rw [List.getElem?_eq_none (by omega), List.getElem?_eq_none (by omega)]
theorem PW.Vals.at {w : PW} {vals : List (List Nat)} (h : w.Vals vals) {k : Nat} (hk : k < w.n) : Bs.Fit w.v (at0 vals k) := h.fit _ (at0_mem (by rw [h.len]; exact hk))
theorem PW.map_vals (w : PW) {f : Nat → List Nat} (h : ∀ k, k < w.n → Bs.Fit w.v (f k)) : w.Vals ((List.range w.n).map f) :=
  ⟨by simp, fun s hs => by obtain ⟨k, hk, rfl⟩ := List.mem_map.1 hs; exact h k (List.mem_range.1 hk)⟩
theorem PW.Ok.right {w : PW} (h : w.Ok) (vals : List (List Nat)) {k : Nat} (hk : k < w.n) : Bs.Fit w.v (w.right vals k) := fit_side (h.fit _ (at0_mem (by rw [h.len]; exact hk)))
theorem PW.Ok.rights {w : PW} (h : w.Ok) (vals : List (List Nat)) : w.Vals (w.rights vals) := w.map_vals fun k hk => h.right vals hk
/-- One list of values is contained in another. -/
def LeV (w : PW) (a b : List (List Nat)) : Prop := ∀ k, k < w.n → ∀ i, i < w.v → Bs.bit (at0 a k) i = true → Bs.bit (at0 b k) i = true
theorem LeV.refl (w : PW) (a : List (List Nat)) : LeV w a a := fun _ _ _ _ h => h
theorem LeV.trans {w : PW} {a b c : List (List Nat)} (h : LeV w a b) (h2 : LeV w b c) : LeV w a c := fun k hk i hi hb => h2 k hk i hi (h k hk i hi hb)
theorem LeV.antisymm {w : PW} {a b : List (List Nat)} (ha : w.Vals a) (hb : w.Vals b) (h : LeV w a b) (h2 : LeV w b a) : a = b :=
  vals_ext ha.len hb.len fun k hk => Bs.ext (ha.at hk) (hb.at hk) fun i hi => Bool.eq_iff_iff.2 ⟨h k hk i hi, h2 k hk i hi⟩
/-- All arcs begin at unknowns. -/
def PW.In (w : PW) : Prop := ∀ l ∈ w.arcs, ∀ a ∈ l, a.1 < w.n
theorem PW.In.at {w : PW} (h : w.In) {k : Nat} {a : Nat × Pf} (ha : a ∈ w.arcs.getD k []) : a.1 < w.n := by
  rw [List.getD_eq_getElem?_getD] at ha
  cases e : w.arcs[k]? with
  | none => rw [e] at ha; simp at ha
  | some l => rw [e] at ha; exact h l (List.mem_of_getElem? e) a ha
theorem PW.right_mono {w : PW} (hw : w.In) {a b : List (List Nat)} (h : LeV w a b) {k i : Nat} (hi : i < w.v) (hb : Bs.bit (w.right a k) i = true) : Bs.bit (w.right b k) i = true := by
  unfold PW.right at *
  rw [bit_side hi] at *
  rcases hb with h1 | ⟨c, hc, h1⟩
  · exact .inl h1
  · exact .inr ⟨c, hc, c.2.mono hi (fun j hj hs => h c.1 (hw.at hc) j hj hs) h1⟩
theorem PW.rights_at {w : PW} {vals : List (List Nat)} {k : Nat} (hk : k < w.n) : at0 (w.rights vals) k = w.right vals k := at0_map hk
theorem PW.rights_mono {w : PW} (hw : w.In) {a b : List (List Nat)} (h : LeV w a b) : LeV w (w.rights a) (w.rights b) := fun k hk i hi hb => by
  rw [PW.rights_at hk] at *; exact PW.right_mono hw h hi hb
/-- The rounds. -/
def PW.round (w : PW) : Nat → List (List Nat)
  | 0 => (List.range w.n).map fun _ => Bs.emp w.v
  | k + 1 => w.rights (w.round k)
theorem PW.round_vals {w : PW} (h : w.Ok) (k : Nat) : w.Vals (w.round k) := by
  cases k with
  | zero => exact w.map_vals fun _ _ => Bs.fit_emp _
  | succ k => exact h.rights _
theorem PW.round_up {w : PW} (hw : w.In) (k : Nat) : LeV w (w.round k) (w.round (k + 1)) := by
  induction k with
  | zero => intro k hk i hi hb; rw [PW.round, at0_map hk, Bs.bit_emp] at hb; cases hb
  | succ k ih => exact PW.rights_mono hw ih
theorem PW.round_at {w : PW} {k m : Nat} (hm : m < w.n) : at0 (w.round (k + 1)) m = w.right (w.round k) m := PW.rights_at hm
/-- What the package does for a round: only the arcs from what has changed. -/
def PW.adv (w : PW) (vals : List (List Nat)) (ch : Nat → Bool) (k : Nat) : List Nat := side w.v vals (at0 vals k) ((w.arcs.getD k []).filter fun a => ch a.1)
def PW.advs (w : PW) (vals : List (List Nat)) (ch : Nat → Bool) : List (List Nat) := (List.range w.n).map fun k => w.adv vals ch k
theorem PW.adv_round {w : PW} (h : w.Ok) (hw : w.In) (k : Nat) (ch : Nat → Bool) (hch : ∀ m, m < w.n → (ch m = true ↔ at0 (w.round k) m ≠ at0 (w.round (k + 1)) m)) : w.advs (w.round (k + 1)) ch = w.round (k + 2) := by
  refine vals_ext (n := w.n) (by simp [PW.advs]) (PW.round_vals h _).len fun m hm => ?_
  rw [PW.advs, at0_map hm, PW.round_at hm]
  refine Bs.ext (fit_side ((PW.round_vals h (k + 1)).at hm)) (h.right _ hm) fun i hi => Bool.eq_iff_iff.2 ?_
  have hup := PW.round_up hw (k + 1) m hm i hi
  unfold PW.adv
  rw [bit_side hi]
  constructor
  · rintro (h1 | ⟨a, ha, h1⟩)
    · have := hup h1
      rw [PW.round_at (k := k + 1) hm] at this
      exact this
    · unfold PW.right
      rw [bit_side hi]
      exact .inr ⟨a, (List.mem_filter.1 ha).1, h1⟩
  · intro h1
    unfold PW.right at h1
    rw [bit_side hi] at h1
    rcases h1 with h1 | ⟨a, ha, h1⟩
    · refine .inl ?_
      rw [PW.round_at hm]
      unfold PW.right
      rw [bit_side hi]
      exact .inl h1
    · by_cases hc : ch a.1 = true
      · exact .inr ⟨a, List.mem_filter.2 ⟨ha, hc⟩, h1⟩
      · have he : at0 (w.round k) a.1 = at0 (w.round (k + 1)) a.1 := Classical.byContradiction fun hne => hc ((hch _ (hw.at ha)).2 hne)
        refine .inl ?_
        rw [PW.round_at hm]
        unfold PW.right
        rw [bit_side hi]
        exact .inr ⟨a, ha, by rw [he]; exact h1⟩
def cntB (W : Nat) (ws : List Nat) : Nat := ((List.range W).filter (Bs.bit ws)).length
/-- The bits that are missing. -/
def PW.left (w : PW) (a : List (List Nat)) : Nat := ((List.range w.n).map fun k => w.v - cntB w.v (at0 a k)).sum
theorem sum_lt {n : Nat} {f g : Nat → Nat} (h : ∀ k, k < n → f k ≤ g k) {m : Nat} (hm : m < n) (h1 : f m < g m) : ((List.range n).map f).sum < ((List.range n).map g).sum := by
  induction n with
  | zero => omega
  | succ n ih =>
    simp only [List.range_succ, List.map_append, List.sum_append, List.map_cons, List.map_nil, List.sum_cons, List.sum_nil]
    have hle : ((List.range n).map f).sum ≤ ((List.range n).map g).sum := by
      clear ih hm h1 m
      induction n with
      | zero => simp
      | succ n ih =>
        simp only [List.range_succ, List.map_append, List.sum_append, List.map_cons, List.map_nil, List.sum_cons, List.sum_nil]
        have := ih fun k hk => h k (by omega)
        have := h n (by omega)
        omega
    have hn := h n (by omega)
    by_cases e : m = n
    · subst e; omega
    · have := ih (fun k hk => h k (by omega)) (by omega)
      omega
theorem cntB_mono {W : Nat} {a b : List Nat} (h : ∀ i, i < W → Bs.bit a i = true → Bs.bit b i = true) : cntB W a ≤ cntB W b := by
  unfold cntB
  induction W with
  | zero => simp
  | succ W ih =>
    have := ih fun i hi => h i (by omega)
    have hW := h W (by omega)
    simp only [List.range_succ, List.filter_append, List.length_append, List.filter_cons, List.filter_nil]
    split
    · next h1 => rw [if_pos (hW h1)]; simp only [List.length_cons]; omega
    · simp only [List.length_nil]; omega
theorem cntB_eq {W : Nat} {a b : List Nat} (h : ∀ i, i < W → Bs.bit a i = true → Bs.bit b i = true) (he : cntB W a = cntB W b) : ∀ i, i < W → Bs.bit a i = Bs.bit b i := by
  induction W with
  | zero => intro i hi; omega
  | succ W ih =>
    have hm := cntB_mono (W := W) fun i hi => h i (by omega)
    have hW := h W (by omega)
    have e : ∀ c : List Nat, cntB (W + 1) c = cntB W c + if Bs.bit c W then 1 else 0 := fun c => by
      unfold cntB
      simp only [List.range_succ, List.filter_append, List.length_append, List.filter_cons, List.filter_nil]
      split <;> simp
    rw [e, e] at he
    have key : Bs.bit a W = Bs.bit b W ∧ cntB W a = cntB W b := by
      cases ha : Bs.bit a W with
      | true => rw [ha, hW ha] at he; exact ⟨(hW ha).symm, by omega⟩
      | false =>
        cases hb : Bs.bit b W with
        | false => rw [ha, hb] at he; exact ⟨rfl, by simpa using he⟩
        | true => rw [ha, hb] at he; simp at he; omega
    intro i hi
    by_cases e2 : i = W
    · subst e2; exact key.1
    · exact ih (fun j hj => h j (by omega)) key.2 i (by omega)
theorem cntB_lt2 {W : Nat} {a b : List Nat} (ha : Bs.Fit W a) (hb : Bs.Fit W b) (h : ∀ i, i < W → Bs.bit a i = true → Bs.bit b i = true) (hne : a ≠ b) : cntB W a < cntB W b := by
  have h1 := cntB_mono h
  rcases Nat.lt_or_ge (cntB W a) (cntB W b) with h2 | h2
  · exact h2
  · exact absurd (Bs.ext ha hb (cntB_eq h (by omega))) hne
theorem PW.left_lt {w : PW} {a b : List (List Nat)} (ha : w.Vals a) (hb : w.Vals b) (h : LeV w a b) {m : Nat} (hm : m < w.n) (hne : at0 a m ≠ at0 b m) : w.left b < w.left a := by
  have hle : ∀ k, k < w.n → cntB w.v (at0 a k) ≤ cntB w.v (at0 b k) := fun k hk => cntB_mono (fun x hx => h k hk x hx)
  have hmx : ∀ k, cntB w.v (at0 b k) ≤ w.v := fun k => by unfold cntB; exact Nat.le_trans (List.length_filter_le _ _) (by simp)
  have hlt : cntB w.v (at0 a m) < cntB w.v (at0 b m) := cntB_lt2 (ha.at hm) (hb.at hm) (fun i hi => h m hm i hi) hne
  exact sum_lt (fun k hk => by have := hle k hk; omega) hm (by have := hmx m; omega)
/-- There are at most as many rounds as bits. -/
theorem PW.left_empty (w : PW) : w.left (w.round 0) ≤ w.n * w.v := by
  unfold PW.left
  have : ∀ n, ((List.range n).map fun k => w.v - cntB w.v (at0 (w.round 0) k)).sum ≤ n * w.v := fun n => by
    induction n with
    | zero => simp
    | succ n ih =>
      simp only [List.range_succ, List.map_append, List.sum_append, List.map_cons, List.map_nil, List.sum_cons, List.sum_nil]
      rw [Nat.succ_mul]
      omega
  exact this _
/-- From a round that is the next one on, nothing changes; and what is contained in its own right sides from above contains every round. -/
theorem PW.round_least {w : PW} (hw : w.In) {b : List (List Nat)} (h : LeV w (w.rights b) b) (k : Nat) : LeV w (w.round k) b := by
  induction k with
  | zero => intro k hk i hi hb; rw [PW.round, at0_map hk, Bs.bit_emp] at hb; cases hb
  | succ k ih => exact (PW.rights_mono hw ih).trans h
end Go.Proofs.Ytopkmeceakjocaa
