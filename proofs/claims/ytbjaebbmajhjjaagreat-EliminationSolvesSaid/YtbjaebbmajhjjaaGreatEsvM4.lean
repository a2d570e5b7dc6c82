/- Merged texts: what YtbjaebbmajhjjaaGreatEliminationSolvesProof leans on. -/
import Derived.Deep.RegionLaw
import Derived.Laws.IdiomCopy
import Derived.Deep.DeepCutAuto
import Derived.Shelf.Spec.SlicesInsertGrow
import Derived.Deep.AppendLies
import Derived.Test.YtbjaebbmajhjjaaGreatEsvM0a
import Derived.Test.YtbjaebbmajhjjaaGreatEsvM0
namespace Go.Proofs.YtbjaebbmajhjjaaGreat
set_option maxRecDepth 20000
set_option linter.unusedVariables false
set_option linter.unusedSimpArgs false
open Go.ChangeShapes Go.WideShapes Go.ChangeAt Go.RowKit
structure FWt (u : World) (v : Nat) (f : FH) : Prop where
  ok : FOk v f
  t : FArgT u f.G.A f.G.n f.K.A f.K.n f.C f.k f.G.ws f.K.ws f.cs
theorem FWt.stp {t v : Nat} {u u' : World} {f : FH} (h : FWt u v f) (hs : Stp1 t u u') (h1 : 97 ≠ t) (h2 : 27 ≠ t) : FWt u' v f := ⟨h.ok, h.t.stp hs h1 h2⟩
theorem FWt.below {v : Nat} {u u' : World} {f : FH} (h : FWt u v f) (hb : Below u.heap.size u u') : FWt u' v f := ⟨h.ok, h.t.below hb⟩
structure ZWt (u : World) (v : Nat) (z : ZH) : Prop where
  w : z.W = v
  fit : Bs.Fit v z.ws
  t : ArgT u z.A z.n z.ws
theorem ZWt.stp {t v : Nat} {u u' : World} {z : ZH} (h : ZWt u v z) (hs : Stp1 t u u') (h1 : 97 ≠ t) : ZWt u' v z := ⟨h.w, h.fit, h.t.stp hs h1⟩
theorem ZWt.below {v : Nat} {u u' : World} {z : ZH} (h : ZWt u v z) (hb : Below u.heap.size u u') : ZWt u' v z := ⟨h.w, h.fit, h.t.below hb⟩
structure RowA (b : Nat) (u : World) (v N : Nat) (r : AL) : Prop where
  own : u.ownsRow b 33 6 r.v r.n (r.l.flatMap AH.cells)
  arcs : ∀ a ∈ r.l, FWt u v a.f
  ris : RisP N (r.l.map AH.m)
section
variable {b v N : Nat} {u u' : World} {r : AL}
theorem RowA.len (h : RowA b u v N r) : r.l.length = r.n := by
  have h1 := h.own.1
  rw [flat_len AH.cells_len] at h1
  omega
theorem RowA.few (h : RowA b u v N r) : r.n ≤ N := by
  have := ris_len h.ris
  rw [List.length_map, h.len] at this
  exact this
theorem RowA.stp {t : Nat} (h : RowA b u v N r) (hs : Stp1 t u u') (h1 : 97 ≠ t) (h2 : 27 ≠ t) (h3 : 33 ≠ t) : RowA b u' v N r := ⟨hs.own h.own h3, fun a ha => (h.arcs a ha).stp hs h1 h2, h.ris⟩
theorem RowA.below (h : RowA b u v N r) (hb : Below u.heap.size u u') : RowA b u' v N r := h.stp (Stp1.below (t := 0) hb) (by decide) (by decide) (by decide)
theorem RowA.at (h : RowA b u v N r) {i : Nat} {a : AH} (hi : r.l[i]? = some a) : ∃ g, r.A = some ⟨g, 0, none⟩ ∧ b ≤ g ∧ g < u.heap.size ∧ Typ u g 33 ∧ (∀ j, j < 6 → u.cell? ⟨g, i * 6 + j, none⟩ = (a.cells)[j]?) ∧ (∀ j, u.frozen? ⟨g, j, none⟩ = false) := by
  have hl := (List.getElem?_eq_some_iff.1 hi).1
  rcases h.own.2 with ⟨e, e2⟩ | ⟨g, cap, cur, e, hg, hc, h1, h2, h3, h4⟩
  · have := h.len; omega
  · unfold AL.v at e
    injection e with e1 e2 e3
    have hbk : r.v.ownBlock = some g := by unfold AL.v; rw [e1]; rfl
    refine ⟨g, e1, hg, (h.own.lt g hbk).2, own_typ h.own hbk, fun j hj => ?_, fun j => by simp [World.frozen?, hc]⟩
    have hx := flat_cell AH.cells_len hi hj
    have hs : (a.cells)[j]? = some ((a.cells)[j]'(by rw [AH.cells_len]; exact hj)) := List.getElem?_eq_getElem _
    rw [hs] at hx
    have := h.own.cells hbk _ _ hx
    rw [add_of] at this
    rw [this, hs]
end
structure Ow (w0 : World) (v N gB gI : Nat) (B : List ZH) (M : List Value) (J : List AL) (u : World) : Prop where
  bel : Below w0.heap.size w0 u
  gb : w0.heap.size ≤ gB
  gi : w0.heap.size ≤ gI
  fb : Fb u gB (B.flatMap ZH.cs).toArray 24
  fi : Fb u gI M.toArray 34
  bl : B.length = N
  ml : M.length = N
  jl : J.length = N
  bt : ∀ z ∈ B, ZWt u v z
  rt : ∀ r ∈ J, RowA w0.heap.size u v N r
  ap : ∀ (j k : Nat) (x y : AL) (g : Nat), J[j]? = some x → J[k]? = some y → x.v.ownBlock = some g → y.v.ownBlock = some g → j = k
section
variable {w0 u u' : World} {v N gB gI : Nat} {B : List ZH} {M : List Value} {J : List AL}
theorem Ow.below (h : Ow w0 v N gB gI B M J u) (hb : Below u.heap.size u u') : Ow w0 v N gB gI B M J u' :=
  ⟨below_step h.bel hb, h.gb, h.gi, h.fb.below hb h.fb.lt, h.fi.below hb h.fi.lt, h.bl, h.ml, h.jl, fun z hz => (h.bt z hz).below hb, fun r hr => (h.rt r hr).below hb, h.ap⟩
theorem below_set {g j : Nat} (h : Below w0.heap.size w0 u) (hg : w0.heap.size ≤ g) (x : Value) : Below w0.heap.size w0 (u.setCell ⟨g, j, none⟩ x) := h.setCell (by exact hg) x
theorem Ow.setM (h : Ow w0 v N gB gI B M J u) {k : Nat} (hk : k < N) (x : Value) : Ow w0 v N gB gI B (M.set k x) J (u.setCell ⟨gI, k, none⟩ x) := by
  have hs := stp_cell h.fi k x
  have hfi := h.fi.set k x
  rw [List.setIfInBounds_toArray] at hfi
  exact ⟨below_set h.bel h.gi x, h.gb, h.gi, hs.fb h.fb (by decide), hfi, h.bl, by rw [List.length_set]; exact h.ml, h.jl, fun z hz => (h.bt z hz).stp hs (by decide), fun r hr => (h.rt r hr).stp hs (by decide) (by decide) (by decide), h.ap⟩
theorem Ow.cellM (h : Ow w0 v N gB gI B M J u) {k : Nat} {x : Value} (hk : M[k]? = some x) : u.cell? ⟨gI, k, none⟩ = some x := by rw [h.fi.cell]; simpa using hk
theorem Ow.cellB (h : Ow w0 v N gB gI B M J u) {k : Nat} {z : ZH} (hk : B[k]? = some z) : u.cell? ⟨gB, k * 2, none⟩ = some (.int .i64 z.W) ∧ u.cell? ⟨gB, k * 2 + 1, none⟩ = some (.slice z.A z.n z.c) := by
  have h0 := flat_cell ZH.cs_len hk (j := 0) (by decide)
  have h1 := flat_cell ZH.cs_len hk (j := 1) (by decide)
  rw [Nat.add_zero] at h0
  constructor
  · rw [h.fb.cell]; simpa [ZH.cs] using h0
  · rw [h.fb.cell]; simpa [ZH.cs] using h1
theorem flat_put {B : List ZH} {k : Nat} (hk : k < B.length) (z : ZH) : ((B.flatMap ZH.cs).set (k * 2) (.int .i64 z.W)).set (k * 2 + 1) (.slice z.A z.n z.c) = (B.set k z).flatMap ZH.cs := by
  apply List.ext_getElem?
  intro j
  have hl := flat_len ZH.cs_len B
  have hl2 := flat_len ZH.cs_len (B.set k z)
  rw [List.length_set] at hl2
  by_cases hj : j < B.length * 2
  · have hi : j / 2 < B.length := by omega
    have hB : B[j / 2]? = some (B[j / 2]'hi) := List.getElem?_eq_getElem _
    have h4 : j % 2 < 2 := Nat.mod_lt _ (by decide)
    have e : j / 2 * 2 + j % 2 = j := by omega
    have hc := flat_cell ZH.cs_len hB h4
    rw [e] at hc
    by_cases hjk : j / 2 = k
    · have hB2 : (B.set k z)[j / 2]? = some z := by rw [hjk, List.getElem?_set_self hk]
      have hc2 := flat_cell ZH.cs_len hB2 h4
      rw [e] at hc2
      rw [hc2]
      by_cases h0 : j % 2 = 0
      · have ej : j = k * 2 := by omega
        rw [h0, ej, List.getElem?_set_ne (by omega), List.getElem?_set_self (by omega)]; rfl
      · have h1 : j % 2 = 1 := by omega
        have ej : j = k * 2 + 1 := by omega
        rw [h1, ej, List.getElem?_set_self (by rw [List.length_set]; omega)]; rfl
    · have hB2 : (B.set k z)[j / 2]? = some (B[j / 2]'hi) := by rw [List.getElem?_set_ne (fun e => hjk e.symm)]; exact hB
      have hc2 := flat_cell ZH.cs_len hB2 h4
      rw [e] at hc2
      rw [hc2, List.getElem?_set_ne (by omega), List.getElem?_set_ne (by omega), hc]
  · rw [List.getElem?_eq_none (by simp only [List.length_set]; omega), List.getElem?_eq_none (by rw [hl2]; omega)]
theorem Ow.setB (h : Ow w0 v N gB gI B M J u) {k : Nat} (hk : k < N) {z : ZH} (hz : ZWt u v z) : Ow w0 v N gB gI (B.set k z) M J ((u.setCell ⟨gB, k * 2, none⟩ (.int .i64 z.W)).setCell ⟨gB, k * 2 + 1, none⟩ (.slice z.A z.n z.c)) := by
  have s1 := stp_cell h.fb (k * 2) (.int .i64 z.W)
  have f1 := h.fb.set (k * 2) (.int .i64 z.W)
  have s2 := stp_cell f1 (k * 2 + 1) (.slice z.A z.n z.c)
  have f2 := f1.set (k * 2 + 1) (.slice z.A z.n z.c)
  rw [List.setIfInBounds_toArray, List.setIfInBounds_toArray, flat_put (by rw [h.bl]; exact hk)] at f2
  refine ⟨below_set (below_set h.bel h.gb _) h.gb _, h.gb, h.gi, f2, s2.fb (s1.fb h.fi (by decide)) (by decide), by rw [List.length_set]; exact h.bl, h.ml, h.jl, fun y hy => ?_, fun r hr => ((h.rt r hr).stp s1 (by decide) (by decide) (by decide)).stp s2 (by decide) (by decide) (by decide), h.ap⟩
  rcases List.mem_or_eq_of_mem_set hy with h1 | rfl
  · exact ((h.bt y h1).stp s1 (by decide)).stp s2 (by decide)
  · exact (hz.stp s1 (by decide)).stp s2 (by decide)
theorem Ow.row (h : Ow w0 v N gB gI B M J u) {t : Nat} {r r' : AL} (ht : J[t]? = some r) (hg : u.grownBy u' r.v.ownBlock) (hr : RowA w0.heap.size u' v N r') (hn : ∀ g, r'.v.ownBlock = some g → r.v.ownBlock = some g ∨ u.heap.size ≤ g) :
    Ow w0 v N gB gI B M (J.set t r') u' := by
  have hra := h.rt r (List.mem_of_getElem? ht)
  have hs : Stp1 33 u u' := ⟨_, hg, fun g e => own_typ hra.own e⟩
  have htl : t < J.length := (List.getElem?_eq_some_iff.1 ht).1
  refine ⟨h.bel.grown hg h.bel.size (fun g e => (hra.own.lt g e).1), h.gb, h.gi, hs.fb h.fb (by decide), hs.fb h.fi (by decide), h.bl, h.ml, by rw [List.length_set]; exact h.jl, fun z hz => (h.bt z hz).stp hs (by decide), fun y hy => ?_, fun j k x y g hj hk hx hy => ?_⟩
  · obtain ⟨j, hj⟩ := List.mem_iff_getElem?.1 hy
    by_cases e : j = t
    · subst e
      rw [List.getElem?_set_self htl] at hj
      obtain rfl := Option.some.inj hj
      exact hr
    · rw [List.getElem?_set_ne (fun e' => e e'.symm)] at hj
      have hy := h.rt y (List.mem_of_getElem? hj)
      refine ⟨hy.own.kept hg ?_, fun a ha => (hy.arcs a ha).stp hs (by decide) (by decide), hy.ris⟩
      cases hb : y.v.ownBlock with
      | none => exact .inl rfl
      | some g => exact .inr fun e2 => e (h.ap j t y r g hj ht hb e2.symm)
  · by_cases e : j = t <;> by_cases e2 : k = t
    · omega
    · subst e
      rw [List.getElem?_set_self htl] at hj
      obtain rfl := Option.some.inj hj
      rw [List.getElem?_set_ne (fun e' => e2 e'.symm)] at hk
      rcases hn g hx with h1 | h1
      · exact h.ap j k r y g ht hk h1 hy
      · have := ((h.rt y (List.mem_of_getElem? hk)).own.lt g hy).2; omega
    · subst e2
      rw [List.getElem?_set_self htl] at hk
      obtain rfl := Option.some.inj hk
      rw [List.getElem?_set_ne (fun e' => e e'.symm)] at hj
      rcases hn g hy with h1 | h1
      · exact h.ap j k x r g hj ht hx h1
      · have := ((h.rt x (List.mem_of_getElem? hj)).own.lt g hx).2; omega
    · rw [List.getElem?_set_ne (fun e' => e e'.symm)] at hj
      rw [List.getElem?_set_ne (fun e' => e2 e'.symm)] at hk
      exact h.ap j k x y g hj hk hx hy
end
def arcSet (a : AH) (f : FH) : AH := ⟨a.m, f⟩
theorem flat_putF {l : List AH} {i : Nat} {a : AH} {f : FH} (hi : l[i]? = some a) : (((((l.flatMap AH.cells).set (i * 6 + 1) (.int .i64 f.G.W)).set (i * 6 + 2) (.slice f.G.A f.G.n f.G.c)).set (i * 6 + 3) (.int .i64 f.K.W)).set (i * 6 + 4) (.slice f.K.A f.K.n f.K.c)).set (i * 6 + 5) (.slice f.C f.k f.q) = (l.set i (arcSet a f)).flatMap AH.cells := by
  have hil := (List.getElem?_eq_some_iff.1 hi).1
  apply List.ext_getElem?
  intro j
  have hl := flat_len AH.cells_len l
  have hl2 := flat_len AH.cells_len (l.set i (arcSet a f))
  rw [List.length_set] at hl2
  by_cases hj : j < l.length * 6
  · have hd : j / 6 < l.length := by omega
    obtain ⟨y, hB⟩ : ∃ y, l[j / 6]? = some y := ⟨_, List.getElem?_eq_getElem hd⟩
    have h4 : j % 6 < 6 := Nat.mod_lt _ (by decide)
    have e : j / 6 * 6 + j % 6 = j := by omega
    have hc := flat_cell AH.cells_len hB h4
    rw [e] at hc
    by_cases hji : j / 6 = i
    · have hB2 : (l.set i (arcSet a f))[j / 6]? = some (arcSet a f) := by rw [hji, List.getElem?_set_self hil]
      have hc2 := flat_cell AH.cells_len hB2 h4
      rw [e] at hc2
      rw [hc2]
      have hla : a = y := by
        rw [hji, hi] at hB; exact Option.some.inj hB
      subst hla
      generalize hm : j % 6 = m at *
      match m, h4 with
      | 0, _ => rw [List.getElem?_set_ne (by omega), List.getElem?_set_ne (by omega), List.getElem?_set_ne (by omega), List.getElem?_set_ne (by omega), List.getElem?_set_ne (by omega), hc]; rfl
      | 1, _ => rw [List.getElem?_set_ne (by omega), List.getElem?_set_ne (by omega), List.getElem?_set_ne (by omega), List.getElem?_set_ne (by omega), show j = i * 6 + 1 by omega, List.getElem?_set_self (by first | omega | (simp only [List.length_set]; omega))]; rfl
      | 2, _ => rw [List.getElem?_set_ne (by omega), List.getElem?_set_ne (by omega), List.getElem?_set_ne (by omega), show j = i * 6 + 2 by omega, List.getElem?_set_self (by first | omega | (simp only [List.length_set]; omega))]; rfl
      | 3, _ => rw [List.getElem?_set_ne (by omega), List.getElem?_set_ne (by omega), show j = i * 6 + 3 by omega, List.getElem?_set_self (by first | omega | (simp only [List.length_set]; omega))]; rfl
      | 4, _ => rw [List.getElem?_set_ne (by omega), show j = i * 6 + 4 by omega, List.getElem?_set_self (by first | omega | (simp only [List.length_set]; omega))]; rfl
      | 5, _ => rw [show j = i * 6 + 5 by omega, List.getElem?_set_self (by first | omega | (simp only [List.length_set]; omega))]; rfl
    · have hB2 : (l.set i (arcSet a f))[j / 6]? = some y := by rw [List.getElem?_set_ne (fun e => hji e.symm)]; exact hB
      have hc2 := flat_cell AH.cells_len hB2 h4
      rw [e] at hc2
      rw [hc2, List.getElem?_set_ne (by omega), List.getElem?_set_ne (by omega), List.getElem?_set_ne (by omega), List.getElem?_set_ne (by omega), List.getElem?_set_ne (by omega), hc]
  · rw [List.getElem?_eq_none (by simp only [List.length_set]; omega), List.getElem?_eq_none (by rw [hl2]; omega)]
def putF (u : World) (g o : Nat) (f : FH) : World := ((((u.setCell ⟨g, o, none⟩ (.int .i64 f.G.W)).setCell ⟨g, o + 1, none⟩ (.slice f.G.A f.G.n f.G.c)).setCell ⟨g, o + 2, none⟩ (.int .i64 f.K.W)).setCell ⟨g, o + 3, none⟩ (.slice f.K.A f.K.n f.K.c)).setCell ⟨g, o + 4, none⟩ (.slice f.C f.k f.q)
theorem putF_grown (u : World) (g o : Nat) (f : FH) : u.grownBy (putF u g o f) (some g) := by
  unfold putF
  exact grown_trans (grown_trans (grown_trans (grown_trans (grown_set u g rfl _) (grown_set _ g rfl _)) (grown_set _ g rfl _)) (grown_set _ g rfl _)) (grown_set _ g rfl _)
theorem take_sets {cur : List Value} {xs : List Value} {n k : Nat} (h : cur.take n = xs) (hk : k < n) (x : Value) : (cur.set k x).take n = xs.set k x := by
  rw [← h, List.take_set]
theorem RowA.putF {b v N : Nat} {u : World} {r : AL} (h : RowA b u v N r) {i : Nat} {a : AH} {f : FH} (hi : r.l[i]? = some a) (hf : FWt u v f) {g : Nat} (hg : r.A = some ⟨g, 0, none⟩) :
    RowA b (putF u g (i * 6 + 1) f) v N ⟨r.A, r.n, r.c, r.l.set i (arcSet a f)⟩ := by
  have hil := (List.getElem?_eq_some_iff.1 hi).1
  have hlen := h.len
  have hG := putF_grown u g (i * 6 + 1) f
  have hbk : r.v.ownBlock = some g := by unfold AL.v; rw [hg]; rfl
  have hs : Stp1 33 u (YtbjaebbmajhjjaaGreat.putF u g (i * 6 + 1) f) := ⟨_, hG, fun k e => by obtain rfl := Option.some.inj e; exact own_typ h.own hbk⟩
  refine ⟨?_, fun x hx => ?_, ?_⟩
  · rcases h.own.2 with ⟨e, e2⟩ | ⟨g', cap, cur, e, hge, hc, h1, h2, h3, h4⟩
    · omega
    · unfold AL.v at e
      injection e with e1 e2 e3
      rw [hg] at e1
      injection e1 with e1
      injection e1 with e1
      subst e1
      have f0 : Fb u g cur 33 := hc
      have f5 := ((((f0.set (i * 6 + 1) (.int .i64 f.G.W)).set (i * 6 + 1 + 1) (.slice f.G.A f.G.n f.G.c)).set (i * 6 + 1 + 2) (.int .i64 f.K.W)).set (i * 6 + 1 + 3) (.slice f.K.A f.K.n f.K.c)).set (i * 6 + 1 + 4) (.slice f.C f.k f.q)
      refine ⟨by rw [← flat_putF hi]; simp only [List.length_set]; exact h.own.1, .inr ⟨g, cap, _, by unfold AL.v; rw [hg, e3], hge, f5, h1, h2, by simp only [Array.size_setIfInBounds]; exact h3, ?_⟩⟩
      rw [← flat_putF hi]
      simp only [Array.toList_setIfInBounds]
      rw [take_sets (take_sets (take_sets (take_sets (take_sets h4 (by omega) _) (by omega) _) (by omega) _) (by omega) _) (by omega) _]
  · rcases List.mem_or_eq_of_mem_set hx with hx | rfl
    · exact (h.arcs x hx).stp hs (by decide) (by decide)
    · exact hf.stp hs (by decide) (by decide)
  · have : (r.l.set i (arcSet a f)).map AH.m = r.l.map AH.m := by
      rw [List.map_set]
      apply List.ext_getElem?
      intro j
      by_cases e : j = i
      · subst e
        rw [List.getElem?_set_self (by simpa using hil), List.getElem?_map, hi]; rfl
      · rw [List.getElem?_set_ne (fun e' => e e'.symm)]
    show RisP N ((r.l.set i (arcSet a f)).map AH.m)
    rw [this]; exact h.ris
theorem Ow.wb {w0 u : World} {v N gB gI : Nat} {B : List ZH} {J : List AL} (h : Ow w0 v N gB gI B (J.map AL.v) J u) (hN : N ≤ 256) : WBok u [] ⟨v, ⟨some ⟨gB, 0, none⟩, N, N, B⟩, ⟨some ⟨gI, 0, none⟩, N, N, J⟩⟩ := by
  have hz : ∀ {A : Option Addr} {n : Nat} {ws : List Nat}, Arg u A n ws → EAt u [] A (words ws) := fun ha => by
    rcases ha.lies with e | ⟨ad, e, hb, hc⟩
    · exact .inl e
    · exact .inr ⟨ad, e, ⟨hb, by simp⟩, hc⟩
  refine ⟨⟨EAt.fb h.fb (by simp) (fun j x hx => by simpa using hx), h.bl, by show N ≤ _; omega, fun y hy => ⟨hz (h.bt y hy).t.arg, (h.bt y hy).t.arg.len, (h.bt y hy).t.arg.ok⟩⟩,
    ⟨EAt.fb h.fi (by simp) (fun j x hx => by simpa using hx), h.jl, by show N ≤ _; omega, fun r hr => ⟨EAt.own (h.rt r hr).own (fun g hg => by simp), (h.rt r hr).len, by have := (h.rt r hr).few; omega, fun a ha => ?_⟩⟩⟩
  have hf := ((h.rt r hr).arcs a ha).t
  refine ⟨⟨hz hf.gen.arg, hf.gen.arg.len, hf.gen.arg.ok⟩, ⟨hz hf.kill.arg, hf.kill.arg.len, hf.kill.arg.ok⟩, ?_, hf.cops.arg.len⟩
  rcases hf.cops.arg.lies with e | ⟨ad, e, hb, hc⟩
  · exact .inl e
  · exact .inr ⟨ad, e, ⟨hb, by simp⟩, hc⟩
end Go.Proofs.YtbjaebbmajhjjaaGreat
namespace Go.Proofs.YtbjaebbmajhjjaaGreat
set_option maxRecDepth 20000
set_option linter.unusedVariables false
set_option linter.unusedSimpArgs false
open Go.ChangeShapes Go.WideShapes Go.ChangeAt Go.RowKit
def AH.a (a : AH) : Value := .agg #[.int .i64 a.m, .int .i64 a.f.G.W, .slice a.f.G.A a.f.G.n a.f.G.c, .int .i64 a.f.K.W, .slice a.f.K.A a.f.K.n a.f.K.c, .slice a.f.C a.f.k a.f.q]
structure Plc (l : List AH) (m : Int) (p : Nat) : Prop where
  le : p ≤ l.length
  lo : ∀ (i : Nat) (a : AH), i < p → l[i]? = some a → a.m < m
  hi : ∀ (i : Nat) (a : AH), p ≤ i → l[i]? = some a → m ≤ a.m
def fdA (l : List AH) (p : Nat) (m : Int) : Bool := match l[p]? with
  | some a => a.m == m
  | none => false
def RetPl (w : World) (r : AL) (m : Int) (e : Ending) (w' : World) : Prop :=
  ∃ p : Nat, Plc r.l m p ∧ e = .returned (.tuple #[.int .i64 p, .bool (fdA r.l p m)]) ∧ Below w.heap.size w w'
theorem plc1_any (a : AH) (m : Int) (w : World) : Calls Tryz.prog 112 #[a.a, .int .i64 m] w fun e w' => e = .returned (.int .i64 (cmpI a.m m)) ∧ Below w.heap.size w w' := by
  have HB := hid ((Below.refl w.heap.size w).alloc (Nat.le_refl _) (.cells #[.int .i64 a.m, .int .i64 a.f.G.W, .slice a.f.G.A a.f.G.n a.f.G.c, .int .i64 a.f.K.W, .slice a.f.K.A a.f.K.n a.f.K.c, .slice a.f.C a.f.k a.f.q] 33))
  unfold AH.a
  go_enter Tryz.func112, Tryz.ntmps112
  go_wp2_with (go_at_call 113; refine (cmpI_any _ _ _).mono ?_; rintro e w' ⟨rfl, rfl⟩)
  go_ret
  exact ⟨rfl, HB.out⟩
theorem cmpI_lt {a b : Int} (h : a < b) : cmpI a b = -1 := by unfold cmpI; rw [if_pos h]
theorem RowA.later {b v N : Nat} {u : World} {r : AL} (h : RowA b u v N r) {i : Nat} {a : AH} (hi : r.l[i]? = some a) : ∃ g, r.A = some ⟨g, 0, none⟩ ∧ g < u.heap.size ∧
    u.cell? ⟨g, i * 6, none⟩ = some (.int .i64 a.m) ∧ u.cell? ⟨g, i * 6 + 1, none⟩ = some (.int .i64 a.f.G.W) ∧ u.cell? ⟨g, i * 6 + 2, none⟩ = some (.slice a.f.G.A a.f.G.n a.f.G.c) ∧
    u.cell? ⟨g, i * 6 + 3, none⟩ = some (.int .i64 a.f.K.W) ∧ u.cell? ⟨g, i * 6 + 4, none⟩ = some (.slice a.f.K.A a.f.K.n a.f.K.c) ∧ u.cell? ⟨g, i * 6 + 5, none⟩ = some (.slice a.f.C a.f.k a.f.q) := by
  obtain ⟨g, e, -, hlt, -, hc, -⟩ := h.at hi
  exact ⟨g, e, hlt, hc 0 (by decide), hc 1 (by decide), hc 2 (by decide), hc 3 (by decide), hc 4 (by decide), hc 5 (by decide)⟩
theorem ris_lt {N : Nat} {l : List AH} (h : RisP N (l.map AH.m)) {i j : Nat} {a c : AH} (hij : i < j) (hi : l[i]? = some a) (hj : l[j]? = some c) : a.m < c.m := by
  have := List.pairwise_iff_getElem.1 h.1 i j (by simpa using (List.getElem?_eq_some_iff.1 hi).1) (by simpa using (List.getElem?_eq_some_iff.1 hj).1) hij
  simp only [List.getElem_map] at this
  obtain ⟨_, e1⟩ := List.getElem?_eq_some_iff.1 hi
  obtain ⟨_, e2⟩ := List.getElem?_eq_some_iff.1 hj
  rwa [e1, e2] at this
set_option maxHeartbeats 3200000 in
theorem bsearch_any (b v N : Nat) (r : AL) (m : Int) (w : World) (h : RowA b w v N r) (hN : N ≤ 256) :
    Calls Tryz.prog 111 #[r.v, .int .i64 m, .func (Fn.func 112) #[] #[]] w (RetPl w r m) := by
  have hlen := h.len
  have hfew := h.few
  have Hr := hid h
  have Hlen := hid hlen
  obtain ⟨A, n, c, l⟩ := r
  simp only at hfew
  clear h hlen
  unfold AL.v
  go_enter Tryz.func111, Tryz.ntmps111
  go_wp2_with fail
  go_loopw [9, 10] (fun iv jv wr => ∃ i j : Nat, i ≤ j ∧ j ≤ n ∧ iv = .int .i64 i ∧ jv = .int .i64 j ∧ Hid ((∀ (k : Nat) (a : AH), k < i → l[k]? = some a → a.m < m) ∧ (∀ (k : Nat) (a : AH), j ≤ k → l[k]? = some a → m ≤ a.m) ∧ Below w.heap.size w wr)) (fun iv jv _ => (intOf jv).toNat - (intOf iv).toNat)
  case atStart => exact ⟨0, n, by omega, by omega, rfl, rfl, hid ⟨fun k a hk => by omega, fun k a hk ha => by have := (List.getElem?_eq_some_iff.1 ha).1; have := Hlen.out; omega, Below.refl _ _⟩⟩
  case round =>
    obtain ⟨i, j, hij, hjn, rfl, rfl, HL⟩ := hrel
    by_cases hlt : i < j
    · obtain ⟨h, hh⟩ : ∃ h : Nat, (i + j) / 2 = h := ⟨_, rfl⟩
      have hm : ((i : Int) + (j : Int)) / 2 = (h : Int) := by omega
      have h1 : i ≤ h := by omega
      have h2 : h < j := by omega
      have n0 : (0 : Int) ≤ h := by omega
      have n1 : (h : Int) < n := by omega
      have n2 : (h : Int).toNat = h := by omega
      obtain ⟨a, ha, ham⟩ := get_at Hlen.out (show h < n by omega)
      obtain ⟨g, hA, hg, c0, c1, c2, c3, c4, c5⟩ := ((Hr.out.below HL.out.2.2)).later ha
      simp only at hA
      subst hA
      have HP := hid (plc1_any a m wr)
      have Ha := hid ha
      unfold AH.a at HP
      clear hh ha ham
      rcases Int.lt_or_le a.m m with hlm | hlm
      · rw [cmpI_lt hlm] at HP
        have HL2 := hid (show ∀ (k : Nat) (x : AH), k < h + 1 → l[k]? = some x → x.m < m from fun k x hk hx => by
          by_cases e : k = h
          · subst e
            rw [Ha.out] at hx
            obtain rfl := Option.some.inj hx
            exact hlm
          · have := ris_lt Hr.out.ris (show k < h by omega) hx Ha.out
            omega)
        clear hlm
        go_wp2_with fail
        refine HP.out.mono ?_
        rintro e w5 ⟨rfl, hb5⟩
        have HB5 := hid (below_step HL.out.2.2 hb5)
        clear hb5 c0 c1 c2 c3 c4 c5 HP hg
        go_wp2_with fail
        go_roundw
        case rel => exact ⟨h + 1, j, by omega, by omega, by go_num, rfl, hid ⟨HL2.out, HL.out.2.1, HB5.out⟩⟩
        case measure => simp [intOf]; omega
      · have hc : ¬ cmpI a.m m < 0 := by unfold cmpI; rw [if_neg (by omega)]; split <;> omega
        have HL2 := hid (show ∀ (k : Nat) (x : AH), h ≤ k → l[k]? = some x → m ≤ x.m from fun k x hk hx => by
          by_cases e : k = h
          · subst e
            rw [Ha.out] at hx
            obtain rfl := Option.some.inj hx
            exact hlm
          · have := ris_lt Hr.out.ris (show h < k by omega) Ha.out hx
            omega)
        have hc2 : decide (cmpI a.m m < 0) = false := decide_eq_false hc
        generalize cmpI a.m m = z at *
        clear hlm hc
        go_wp2_with fail
        refine HP.out.mono ?_
        rintro e w5 ⟨rfl, hb5⟩
        have HB5 := hid (below_step HL.out.2.2 hb5)
        clear hb5 c0 c1 c2 c3 c4 c5 HP hg
        go_wp2_with fail
        go_roundw
        case rel => exact ⟨i, h, by omega, by omega, rfl, rfl, hid ⟨HL.out.1, HL2.out, HB5.out⟩⟩
        case measure => simp [intOf]; omega
    · have e : i = j := by omega
      subst e
      have HPl := hid (show Plc l m i from ⟨by rw [Hlen.out]; exact hjn, HL.out.1, HL.out.2.1⟩)
      by_cases hlt2 : i < n
      · have n0 : (0 : Int) ≤ i := by omega
        have n1 : (i : Int) < n := by omega
        have n2 : (i : Int).toNat = i := by omega
        obtain ⟨a, ha, ham⟩ := get_at Hlen.out hlt2
        obtain ⟨g, hA, hg, c0, c1, c2, c3, c4, c5⟩ := ((Hr.out.below HL.out.2.2)).later ha
        simp only at hA
        subst hA
        have HP := hid (plc1_any a m wr)
        have hfd : (cmpI a.m m == 0) = fdA l i m := by
          unfold fdA
          rw [ha]
          show _ = (a.m == m)
          unfold cmpI
          by_cases e1 : a.m < m
          · rw [if_pos e1]; simp; omega
          · rw [if_neg e1]
            by_cases e2 : m < a.m
            · rw [if_pos e2]; simp; omega
            · rw [if_neg e2]; simp; omega
        generalize hz : cmpI a.m m = z at *
        generalize hf : fdA l i m = f at *
        have Hf := hid hf
        unfold AH.a at HP
        clear hz hf ha ham
        go_wp2_with fail
        refine HP.out.mono ?_
        rintro e w5 ⟨rfl, hb5⟩
        have HB5 := hid (below_step HL.out.2.2 hb5)
        clear hb5 c0 c1 c2 c3 c4 c5 HP hg
        go_wp2_with fail
        refine bodyPost_ret (v := .tuple #[.int .i64 i, .bool f]) (by simp [results, Tryz.results111, go_sem]) rfl ⟨i, HPl.out, ?_, HB5.out⟩
        rw [← Hf.out]
      · have e : i = n := by omega
        subst e
        have hfd : fdA l i m = false := by
          unfold fdA
          rw [List.getElem?_eq_none (by rw [Hlen.out]; omega)]
        have Hf := hid hfd
        clear hfd
        go_wp2_with fail
        refine bodyPost_ret (v := .tuple #[.int .i64 i, .bool false]) (by simp [results, Tryz.results111, go_sem]) rfl ⟨i, HPl.out, ?_, HL.out.2.2⟩
        rw [Hf.out]
theorem place_any (b v N : Nat) (r : AL) (m : Int) (w : World) (h : RowA b w v N r) (hN : N ≤ 256) :
    Calls Tryz.prog 90 #[r.v, .int .i64 m] w (RetPl w r m) := by
  have HC := hid (bsearch_any b v N r m w h hN)
  obtain ⟨A, n, c, l⟩ := r
  clear h
  unfold AL.v at *
  go_enter Tryz.func90, Tryz.ntmps90
  go_wp2_with fail
  refine HC.out.mono ?_
  rintro e w5 ⟨p, hp, rfl, hb⟩
  generalize hf : fdA (⟨A, n, c, l⟩ : AL).l p m = f at *
  have Hp := hid hp
  have Hb := hid hb
  have Hf := hid hf
  clear hp hb hf HC
  go_wp2_with fail
  refine bodyPost_ret (v := .tuple #[.int .i64 p, .bool f]) (by simp [results, Tryz.results90, go_sem]) rfl ⟨p, Hp.out, ?_, Hb.out⟩
  rw [Hf.out]
end Go.Proofs.YtbjaebbmajhjjaaGreat
namespace Go.Proofs.YtbjaebbmajhjjaaGreat
set_option maxRecDepth 20000
set_option linter.unusedVariables false
set_option linter.unusedSimpArgs false
open Go.ChangeShapes Go.WideShapes Go.ChangeAt Go.RowKit
def lay (cur : Array Value) (o : Nat) (vs : List Value) : Array Value := (cur.toList.take o ++ vs ++ cur.toList.drop (o + vs.length)).toArray
theorem lay_get {cur : Array Value} {o : Nat} {vs : List Value} (h : o + vs.length ≤ cur.size) (j : Nat) : (lay cur o vs)[j]? = if j < o then cur[j]? else if j < o + vs.length then vs[j - o]? else cur[j]? := by
  have hl : cur.toList.length = cur.size := by simp
  have ht : (cur.toList.take o).length = o := by rw [List.length_take]; omega
  unfold lay
  rw [List.getElem?_toArray]
  by_cases h1 : j < o
  · rw [if_pos h1, List.append_assoc, List.getElem?_append_left (by omega), List.getElem?_take_of_lt h1, Array.getElem?_toList]
  · rw [if_neg h1]
    by_cases h2 : j < o + vs.length
    · rw [if_pos h2, List.append_assoc, List.getElem?_append_right (by omega), ht, List.getElem?_append_left (by omega)]
    · rw [if_neg h2, List.getElem?_append_right (by rw [List.length_append, ht]; omega), List.length_append, ht, List.getElem?_drop, Array.getElem?_toList]
      congr 1; omega
theorem lay_size {cur : Array Value} {o : Nat} {vs : List Value} (h : o + vs.length ≤ cur.size) : (lay cur o vs).size = cur.size := by
  have hl : cur.toList.length = cur.size := by simp
  unfold lay
  rw [List.size_toArray, List.length_append, List.length_append, List.length_take, List.length_drop, hl]
  omega
theorem arr_ext {a b : Array Value} (h : a.size = b.size) (he : ∀ j, j < a.size → a[j]? = b[j]?) : a = b :=
  Array.ext h fun i h1 h2 => Option.some.inj (by rw [← Array.getElem?_eq_getElem h1, ← Array.getElem?_eq_getElem h2]; exact he i h1)
theorem lay_cons {cur : Array Value} {o : Nat} {v : Value} {vs : List Value} (h : o + (v :: vs).length ≤ cur.size) : lay (cur.setIfInBounds o v) (o + 1) vs = lay cur o (v :: vs) := by
  have h' := h
  simp only [List.length_cons] at h'
  have h2 : o + 1 + vs.length ≤ (cur.setIfInBounds o v).size := by rw [Array.size_setIfInBounds]; omega
  refine arr_ext (by rw [lay_size h2, lay_size h, Array.size_setIfInBounds]) fun j hj => ?_
  rw [lay_size h2, Array.size_setIfInBounds] at hj
  rw [lay_get h2, lay_get h, List.length_cons]
  by_cases h1 : j < o
  · rw [if_pos (by omega), if_pos h1, Array.getElem?_setIfInBounds_ne (by omega)]
  · rw [if_neg h1]
    by_cases e : j = o
    · subst e
      rw [if_pos (by omega), if_pos (by omega), Array.getElem?_setIfInBounds_self_of_lt (by omega), Nat.sub_self]; rfl
    · rw [if_neg (by omega)]
      by_cases h3 : j < o + 1 + vs.length
      · rw [if_pos h3, if_pos (by omega), show j - o = (j - (o + 1)) + 1 by omega, List.getElem?_cons_succ]
      · rw [if_neg h3, if_neg (by omega), Array.getElem?_setIfInBounds_ne (by omega)]
theorem fb_setCells {g t : Nat} : ∀ (vs : List Value) (o : Nat) (w : World) (cur : Array Value), Fb w g cur t → o + vs.length ≤ cur.size → Fb (w.setCells g o vs) g (lay cur o vs) t
  | [], o, w, cur, h, _ => by
    have : lay cur o [] = cur := by unfold lay; simp
    rw [this]; exact h
  | v :: vs, o, w, cur, h, hl => by
    rw [World.setCells, ← lay_cons hl]
    refine fb_setCells vs (o + 1) _ _ (h.set o v) ?_
    simp only [List.length_cons] at hl
    rw [Array.size_setIfInBounds]; omega
theorem grown_setCells (g : Nat) : ∀ (vs : List Value) (o : Nat) (w : World), w.grownBy (w.setCells g o vs) (some g)
  | [], o, w => grown_of_below (Below.refl _ _) _
  | v :: vs, o, w => grown_trans (grown_set w g rfl v) (grown_setCells g vs (o + 1) _)
theorem run_clear_wide {P : Program} (w : World) (t e ty : TypeId) (z : Value) (size : Nat) (ht : P.underlying t = some (.slice e)) (hv : ∀ w, (zeroValue e).run P w = .ok z w) (zs : List Value) (n : Nat) (hz : (Builtin.zeroCells z.cells n).toList = zs) (h1 : ∀ u ∈ zs, u.oneCell' = true) (b o c : Nat) (hn : 0 < n)
    (hc : ∀ j, j < zs.length → (w.cell? ⟨b, o + j, none⟩).isSome = true) (hf : ∀ j, j < zs.length → w.frozen? ⟨b, o + j, none⟩ = false) :
    (Builtin.clear_ #[t] ty #[.slice (some ⟨b, o, none⟩) n c]).run P w = .ok (.tuple #[]) (w.setCells b o zs) := by
  have hst := run_storeCells_cells (P := P) b o zs 0 w (by simpa using hc) (by simpa using hf) h1
  simp only [Nat.add_zero] at hst
  obtain ⟨m, rfl⟩ : ∃ m, n = m + 1 := ⟨n - 1, by omega⟩
  simp [Builtin.clear_, run_underlying ht, hv, hz, hst]
def zArc : List Value := [.int .i64 0, .int .i64 0, .slice none 0 0, .int .i64 0, .slice none 0 0, .slice none 0 0]
theorem one_arc (l : List AH) : ∀ u ∈ l.flatMap AH.cells, u.oneCell' = true := by
  intro u hu
  obtain ⟨a, -, ha⟩ := List.mem_flatMap.1 hu
  simp only [AH.cells, List.mem_cons, List.not_mem_nil, or_false] at ha
  rcases ha with rfl | rfl | rfl | rfl | rfl | rfl <;> rfl
theorem infoArc : (Tryz.prog.info? 33).map (fun i => (i.zero, i.size, i.bytes)) = some (some (.agg #[.int .i64 0, .int .i64 0, .slice none 0 0, .int .i64 0, .slice none 0 0, .slice none 0 0]), 6, 96) := by kernel_rfl
set_option maxHeartbeats 3200000 in
theorem delete_any (b v N : Nat) (r : AL) (i : Nat) (w : World) (h : RowA b w v N r) (hN : N ≤ 256) (hi : i < r.n) :
    Calls Tryz.prog 92 #[r.v, .int .i64 i, .int .i64 ((i : Int) + 1)] w fun e w' => e = .returned (.slice r.A (r.n - 1) r.c) ∧ RowA b w' v N ⟨r.A, r.n - 1, r.c, r.l.eraseIdx i⟩ ∧ w.grownBy w' r.v.ownBlock := by
  obtain ⟨i0, hi0, hz0, hz1, hz2⟩ := info_parts infoArc
  have HI := hid hi0; have HI1 := hid hz1
  clear hi0 hz0 hz1 hz2
  have hlen := h.len
  have hfew := h.few
  have Hr := hid h
  rcases h.own.2 with ⟨e, e2⟩ | ⟨g, cap, cur, e, hge, hc, h1, h2, h3, h4⟩
  · omega
  · unfold AL.v at e
    injection e with e1 e2 e3
    obtain ⟨A, n, c, l⟩ := r
    simp only at e1 e3 hi hlen hfew h4 h1
    subst e1
    subst e3
    have hf0 : Fb w g cur 33 := hc
    have hnews : ((l.drop (i + 1)).flatMap AH.cells).length = (n - (i + 1)) * 6 := by rw [flat_len AH.cells_len, List.length_drop, hlen]
    have hcn : ∀ (j : Nat) (x : Value), j < n * 6 → (l.flatMap AH.cells)[j]? = some x → cur[j]? = some x := fun j x hj hx => by
      rw [← h4, List.getElem?_take_of_lt hj, Array.getElem?_toList] at hx; exact hx
    have hdr : ∀ (t : Nat), ((l.drop (i + 1)).flatMap AH.cells)[t]? = (l.flatMap AH.cells)[(i + 1) * 6 + t]? := fun t => by
      have e : l.flatMap AH.cells = (l.take (i + 1)).flatMap AH.cells ++ (l.drop (i + 1)).flatMap AH.cells := by rw [← List.flatMap_append, List.take_append_drop]
      have hl : ((l.take (i + 1)).flatMap AH.cells).length = (i + 1) * 6 := by rw [flat_len AH.cells_len, List.length_take]; omega
      rw [e, List.getElem?_append_right (by omega), hl, Nat.add_sub_cancel_left]
    have Hone := hid (one_arc (l.drop (i + 1)))
    obtain ⟨news, hnw⟩ : ∃ news, news = (l.drop (i + 1)).flatMap AH.cells := ⟨_, rfl⟩
    rw [← hnw] at hnews hdr Hone
    have Hnw := hid hnw
    obtain ⟨Ad, hA, hsrc⟩ : ∃ Ad : Addr, (if c = i + 1 then (some ⟨g, 0, none⟩ : Option Addr) else some ⟨g, (i + 1) * 6, none⟩) = some Ad ∧ Hid (∀ t u, news[t]? = some u → w.drew.cell? (Ad.add t) = some u) := by
      by_cases h : c = i + 1
      · refine ⟨⟨g, 0, none⟩, by rw [if_pos h], fun t u hu => ?_⟩
        have := (List.getElem?_eq_some_iff.1 hu).1
        omega
      · refine ⟨⟨g, (i + 1) * 6, none⟩, by rw [if_neg h], fun t u hu => ?_⟩
        have ht := (List.getElem?_eq_some_iff.1 hu).1
        rw [Addr.add_lit]
        show w.cell? ⟨g, (i + 1) * 6 + t, none⟩ = some u
        rw [hf0.cell]
        rw [hdr t] at hu
        exact hcn _ _ (by omega) hu
    have hfit : i * 6 + news.length ≤ cur.size := by rw [hnews, h3]; omega
    have S1 := hid (show news.length = (n - (i + 1)) * 6 from hnews)
    have S3 := hid (show ∀ t, t < news.length → (w.drew.cell? ⟨g, 0 + i * 6 + t, none⟩).isSome = true ∧ w.drew.frozen? ⟨g, 0 + i * 6 + t, none⟩ = false from fun t ht => by
      rw [Nat.zero_add]
      refine ⟨?_, hf0.frozen _⟩
      show (w.cell? ⟨g, i * 6 + t, none⟩).isSome = true
      rw [hf0.cell, Array.getElem?_eq_getElem (by omega)]; rfl)
    obtain ⟨W1, hW1⟩ : ∃ W1, W1 = w.drew.setCells g (0 + i * 6) news := ⟨_, rfl⟩
    have F1 := hid (show Fb W1 g (lay cur (i * 6) news) 33 from by rw [hW1, Nat.zero_add]; exact fb_setCells news (i * 6) w.drew cur hf0 hfit)
    have G1 := hid (show w.grownBy W1 (some g) from by rw [hW1]; exact grown_trans (grown_of_below (Below.refl _ _).drew _) (grown_setCells g news _ _))
    have HW := hid hW1
    have hne : ((i : Int) == (i : Int) + 1) = false := by simp; omega
    have hcur : cur.size = c * 6 := h3
    have hl1 : (lay cur (i * 6) news).size = c * 6 := by rw [lay_size hfit, h3]
    have hm : i + (n - (i + 1)) = n - 1 := by omega
    obtain ⟨W2, hW2⟩ : ∃ W2, W2 = W1.setCells g ((i + (n - (i + 1))) * 6) zArc := ⟨_, rfl⟩
    have hfit2 : (n - 1) * 6 + zArc.length ≤ (lay cur (i * 6) news).size := by rw [hl1]; show (n - 1) * 6 + 6 ≤ c * 6; omega
    have F2 := hid (show Fb W2 g (lay (lay cur (i * 6) news) ((n - 1) * 6) zArc) 33 from by rw [hW2, hm]; exact fb_setCells zArc _ W1 _ F1.out hfit2)
    have G2 := hid (show w.grownBy W2 (some g) from by rw [hW2]; exact grown_trans G1.out (grown_setCells g zArc _ _))
    have hcl : (Builtin.clear_ #[34] 0 #[.slice (some ⟨g, (i + (n - (i + 1))) * 6, none⟩) (n - (i + (n - (i + 1)))) (c - (i + (n - (i + 1))))]).run Tryz.prog W1 = .ok (.tuple #[]) W2 := by
      rw [hW2]
      refine run_clear_wide W1 _ 33 0 _ 6 Tryz.underlying34 Tryz.zeroValue33 zArc _ (by rw [show n - (i + (n - (i + 1))) = 1 by omega]; kernel_rfl) (fun u hu => by
        simp only [zArc, List.mem_cons, List.not_mem_nil, or_false] at hu
        rcases hu with rfl | rfl | rfl | rfl | rfl | rfl <;> rfl) g _ _ (by omega) (fun j hj => ?_) (fun j hj => F1.out.frozen _)
      have hj6 : j < 6 := hj
      rw [F1.out.cell, Array.getElem?_eq_getElem (by rw [hl1]; omega)]; rfl
    have HE := hid (show (lay (lay cur (i * 6) news) ((n - 1) * 6) zArc).toList.take ((n - 1) * 6) = (l.eraseIdx i).flatMap AH.cells from by
      apply List.ext_getElem?
      intro j
      rw [List.eraseIdx_eq_take_drop_succ, List.flatMap_append, ← hnw]
      have ht : ((l.take i).flatMap AH.cells).length = i * 6 := by rw [flat_len AH.cells_len, List.length_take]; omega
      by_cases hj : j < (n - 1) * 6
      · rw [List.getElem?_take_of_lt hj, Array.getElem?_toList, lay_get hfit2, if_pos hj, lay_get hfit]
        by_cases h5 : j < i * 6
        · rw [if_pos h5, List.getElem?_append_left (by omega)]
          have e : l.flatMap AH.cells = (l.take i).flatMap AH.cells ++ (l.drop i).flatMap AH.cells := by rw [← List.flatMap_append, List.take_append_drop]
          have hx : ((l.take i).flatMap AH.cells)[j]? = some (((l.take i).flatMap AH.cells)[j]'(by omega)) := List.getElem?_eq_getElem _
          rw [hx]
          refine hcn j _ (by omega) ?_
          rw [e, List.getElem?_append_left (by omega), hx]
        · rw [if_neg h5, if_pos (by omega), List.getElem?_append_right (by omega), ht]
      · rw [List.getElem?_eq_none (by rw [List.length_take]; omega), List.getElem?_eq_none (by rw [List.length_append, ht]; omega)])
    have HS := hid (show (lay (lay cur (i * 6) news) ((n - 1) * 6) zArc).size = c * 6 from by rw [lay_size hfit2, hl1])
    have hic : i ≤ c := by omega
    have k0 : (0 : Int) ≤ (i : Int) + 1 := by omega
    have k1 : (i : Int) + 1 ≤ n := by omega
    have hjc : i + 1 ≤ c := by omega
    have hnc : i + (n - (i + 1)) ≤ c := by omega
    clear hcur hl1 hW2 hfit2 hm
    have H12 := hid (And.intro h1 h2)
    clear h hc hcn hdr hnw hnews hfit hW1 hf0 h4 h3 h2 
    unfold AL.v
    go_enter Tryz.func92, Tryz.ntmps92
    go_wp2_with fail
    have mixed : Tryz.prog.follows .mixedOrders = true := by kernel_rfl
    go_region_law_o (refine step_append_room rfl (.tmp 22) (.tmp 25) 34 rfl 33 i0 6 Tryz.underlying34 HI.out HI1.out g 0 i c (by simp [Act.eval, Act.put]) Ad (n - (i + 1)) (c - (i + 1)) news (by simp [Act.eval, Act.put]) S1.out hsrc.out Hone.out (by omega) S3.out ?_; rw [← HW.out])
    go_wp2_with fail
    refine bodyPost_ret (v := .slice (some ⟨g, 0, none⟩) (i + (n - (i + 1))) c) (by simp [results, Tryz.results92, go_sem]) rfl ⟨by rw [show i + (n - (i + 1)) = n - 1 by omega], ?_, G2.out⟩
    have hs2 : Stp1 33 w W2 := ⟨_, G2.out, fun k e => by obtain rfl := Option.some.inj e; exact own_typ Hr.out.own rfl⟩
    refine ⟨⟨by rw [flat_len AH.cells_len, List.length_eraseIdx_of_lt (by omega), hlen], .inr ⟨g, c, _, rfl, hge, F2.out, by show n - 1 ≤ c; omega, H12.out.2, HS.out, HE.out⟩⟩, fun a ha => ?_, ?_⟩
    · exact (Hr.out.arcs a (List.mem_of_mem_eraseIdx ha)).stp hs2 (by decide) (by decide)
    · have h5 : ((l.eraseIdx i).map AH.m).Sublist (l.map AH.m) := (List.eraseIdx_sublist l i).map _
      exact ⟨Hr.out.ris.1.sublist h5, fun x hx => Hr.out.ris.2 x (h5.subset hx)⟩
end Go.Proofs.YtbjaebbmajhjjaaGreat
namespace Go.Proofs.YtbjaebbmajhjjaaGreat
set_option maxRecDepth 20000
set_option linter.unusedVariables false
set_option linter.unusedSimpArgs false
open Go.ChangeShapes Go.WideShapes Go.ChangeAt Go.RowKit
theorem run_copy_wide {P : Program} (w : World) (dT sT ty elem : TypeId) (size b o dLen dCap : Nat) (ad : Addr) (sLen sCap : Nat) (cs : List Value) (hu : P.underlying dT = some (.slice elem)) (hs : (P.info? elem).map (·.size) = some size)
    (hn : cs.length = Nat.min sLen dLen * size) (hsrc : ∀ j v, cs[j]? = some v → w.cell? (ad.add j) = some v) (hc : ∀ j, j < cs.length → (w.cell? ⟨b, o + j, none⟩).isSome = true) (hf : ∀ j, j < cs.length → w.frozen? ⟨b, o + j, none⟩ = false) (h1 : ∀ v ∈ cs, v.oneCell' = true) :
    (Builtin.copy_ #[dT, sT] ty #[.slice (some ⟨b, o, none⟩) dLen dCap, .slice (some ad) sLen sCap]).run P w = .ok (goInt (Nat.min sLen dLen)) (w.setCells b o cs) := by
  have hst := run_storeCells_cells (P := P) b o cs 0 w (by simpa using hc) (by simpa using hf) h1
  simp only [Nat.add_zero] at hst
  obtain ⟨i, hi, hi2⟩ := Option.map_eq_some_iff.1 hs
  have hfc := run_firstCells_some (P := P) w size (Nat.min sLen dLen) ad sLen sCap cs hn hsrc
  have hl : (Builtin.lenOf (.slice (some ad) sLen sCap)).run P w = .ok sLen w := rfl
  simp [Builtin.copy_, run_underlying hu, hl, sizeOf, typeInfo, hi, hi2, hfc, hst]
theorem shape_fb {w : World} {g t : Nat} {cs : Array Value} (h : Fb w g cs t) : w.shape? g = some (t, cs.size) := by
  unfold Fb at h
  simp [World.shape?, h]
def RetIns (b v N : Nat) (r : AL) (i : Nat) (a : AH) (w : World) (e : Ending) (w' : World) : Prop :=
  ∃ (A : Option Addr) (c : Nat), e = .returned (.slice A (r.n + 1) c) ∧ RowA b w' v N ⟨A, r.n + 1, c, r.l.insertIdx i a⟩ ∧ w.grownBy w' r.v.ownBlock ∧ ∀ g, (Value.slice A (r.n + 1) c).ownBlock = some g → r.v.ownBlock = some g ∨ w.heap.size ≤ g
theorem ins_list {α : Type} (l : List α) {i : Nat} (hi : i ≤ l.length) (a : α) : l.insertIdx i a = l.take i ++ a :: l.drop i := by
  induction l generalizing i with
  | nil => obtain rfl : i = 0 := by simpa using hi
           rfl
  | cons x l ih =>
    cases i with
    | zero => rfl
    | succ i => rw [List.insertIdx_succ_cons, ih (by simpa using hi)]; rfl
theorem ins_ris {N : Nat} {l : List AH} {a : AH} {i : Nat} (h : RisP N (l.map AH.m)) (hp : Plc l a.m i) (hf : fdA l i a.m = false) (hm : 0 ≤ a.m ∧ a.m < N) : RisP N ((l.insertIdx i a).map AH.m) := by
  rw [ins_list l hp.le]
  have hs : ∀ x ∈ l.drop i, a.m < x.m := fun x hx => by
    obtain ⟨k, hk⟩ := List.mem_iff_getElem?.1 hx
    rw [List.getElem?_drop] at hk
    have h1 := hp.hi (i + k) x (by omega) hk
    rcases Int.lt_or_eq_of_le h1 with h2 | h2
    · exact h2
    · exfalso
      by_cases e : k = 0
      · subst e
        unfold fdA at hf
        rw [Nat.add_zero] at hk
        rw [hk] at hf
        simp [h2] at hf
      · obtain ⟨y, hy⟩ : ∃ y, l[i]? = some y := ⟨_, List.getElem?_eq_getElem (by have := (List.getElem?_eq_some_iff.1 hk).1; omega)⟩
        have h3 := hp.hi i y (Nat.le_refl _) hy
        have h4 := ris_lt h (show i < i + k by omega) hy hk
        omega
  have ht : ∀ x ∈ l.take i, x.m < a.m := fun x hx => by
    obtain ⟨k, hk⟩ := List.mem_iff_getElem?.1 hx
    rw [List.getElem?_take] at hk
    split at hk
    · next hki => exact hp.lo k x hki hk
    · cases hk
  have h1 := h.1
  rw [← List.take_append_drop i l, List.map_append, List.pairwise_append] at h1
  refine ⟨?_, fun x hx => ?_⟩
  · rw [List.map_append, List.map_cons, List.pairwise_append]
    refine ⟨h1.1, List.pairwise_cons.2 ⟨fun x hx => ?_, h1.2.1⟩, fun x hx y hy => ?_⟩
    · obtain ⟨z, hz, rfl⟩ := List.mem_map.1 hx; exact hs z hz
    · obtain ⟨z, hz, rfl⟩ := List.mem_map.1 hx
      rcases List.mem_cons.1 hy with rfl | hy
      · exact ht z hz
      · exact h1.2.2 _ (List.mem_map.2 ⟨z, hz, rfl⟩) y hy
  · obtain ⟨z, hz, rfl⟩ := List.mem_map.1 hx
    rcases List.mem_append.1 hz with hz | hz
    · exact h.2 _ (List.mem_map.2 ⟨z, List.mem_of_mem_take hz, rfl⟩)
    · rcases List.mem_cons.1 hz with rfl | hz
      · exact hm
      · exact h.2 _ (List.mem_map.2 ⟨z, List.mem_of_mem_drop hz, rfl⟩)
section
variable {b v N : Nat} {r : AL} {i : Nat} {a : AH} {g0 : Nat} {w : World}
theorem insert_end (h : RowA b w v N r) (hN : N ≤ 256) (hb : b ≤ w.heap.size) (hp : Plc r.l a.m r.n) (ha : FWt w v a.f) (hm : 0 ≤ a.m ∧ a.m < N) (hx : Fb w g0 a.cells.toArray 33) (hf : fdA r.l r.n a.m = false) :
    Calls Tryz.prog 124 #[r.v, .int .i64 r.n, .slice (some ⟨g0, 0, none⟩) 1 1] w (RetIns b v N r r.n a w) := by
  obtain ⟨iA, hi, hz0, hz1, hz2⟩ := info_parts infoArc
  have HA := hid hi; have HA0 := hid hz0; have HA1 := hid hz1; have HA2 := hid hz2
  clear hi hz0 hz1 hz2
  have hfew := h.few
  have Hr := hid h
  have Hx := hid hx
  have Hown := hid h.own
  have Hris := hid (ins_ris h.ris hp hf hm)
  have Ha := hid ha
  have Hnews := hid (World.news_of_block (w := w) hx)
  have Hone := hid (show ∀ u ∈ a.cells, u.oneCell' = true from fun u hu => one_arc [a] u (by simpa using hu))
  have hlen := h.len
  have Hlen := hid hlen
  have hnc : r.n ≤ r.c := by
    rcases h.own.2 with ⟨e, e2⟩ | ⟨g, cap, cur, e, _, _, h1, _⟩
    · unfold AL.v at e
      injection e with _ e1 e3; omega
    · unfold AL.v at e
      injection e with _ _ e3; omega
  obtain ⟨A, n, c, l⟩ := r
  simp only at hfew hlen hnc
  unfold AL.v at *
  clear h hx ha hp hf hlen
  simp only at *
  by_cases hcn : c = n
  · subst hcn
    go_enter Tryz.func124, Tryz.ntmps124
    go_wp2_with (first
      | (at_builtin
         refine wpList_append_lies _ rfl _ _ 34 rfl b 33 iA _ 6 96 Tryz.underlying34 HA.out HA0.out HA1.out HA2.out rfl (by decide) (.slice A c c) c (l.flatMap AH.cells) rfl Hown.out ⟨g0, 0, none⟩ 1 1 a.cells rfl rfl Hnews.out Hone.out (by omega) (by unfold maxLen; omega) (by omega) hb _ rfl ?_
         intro g9 q9 w9 hown hgr hat _
         have Hown9 := hid hown; have Hgr := hid hgr; have Hat := hid hat
         clear hown hgr hat))
    all_goals
      refine bodyPost_ret (v := .slice (some ⟨g9, 0, none⟩) (c + 1) q9) (by simp [results, Tryz.results124, go_sem]) rfl ⟨_, q9, rfl, ?_, Hgr.out, fun g e => ?_⟩
      · have hs : Stp1 33 w w9 := ⟨_, Hgr.out, fun k e => own_typ Hown.out e⟩
        refine ⟨?_, fun x hx => ?_, Hris.out⟩
        · have e : (l.insertIdx c a).flatMap AH.cells = l.flatMap AH.cells ++ a.cells := by
            rw [ins_list l (by rw [Hlen.out]; exact Nat.le_refl _), List.take_of_length_le (by rw [Hlen.out]; exact Nat.le_refl _), List.drop_of_length_le (by rw [Hlen.out]; exact Nat.le_refl _), List.flatMap_append]
            simp
          show w9.ownsRow b _ 6 _ (c + 1) ((l.insertIdx c a).flatMap AH.cells)
          rw [e]; exact Hown9.out
        · have hx2 : x ∈ l.insertIdx c a := hx
          rw [ins_list l (by rw [Hlen.out]; exact Nat.le_refl _)] at hx2
          rcases List.mem_append.1 hx2 with h1 | h1
          · exact (Hr.out.arcs x (List.mem_of_mem_take h1)).stp hs (by decide) (by decide)
          · rcases List.mem_cons.1 h1 with rfl | h1
            · exact Ha.out.stp hs (by decide) (by decide)
            · exact (Hr.out.arcs x (List.mem_of_mem_drop h1)).stp hs (by decide) (by decide)
      · obtain rfl := Option.some.inj e
        rcases Hat.out with h1 | h1
        · exact .inl h1
        · exact .inr (by show w.heap.size ≤ g9; omega)
  · have hcn2 := hcn
    go_enter Tryz.func124, Tryz.ntmps124
    go_wp2_with (first
      | (at_builtin
         refine wpList_append_lies _ rfl _ _ 34 rfl b 33 iA _ 6 96 Tryz.underlying34 HA.out HA0.out HA1.out HA2.out rfl (by decide) (.slice A n c) n (l.flatMap AH.cells) rfl Hown.out ⟨g0, 0, none⟩ 1 1 a.cells rfl rfl Hnews.out Hone.out (by omega) (by unfold maxLen; omega) (by omega) hb _ rfl ?_
         intro g9 q9 w9 hown hgr hat _
         have Hown9 := hid hown; have Hgr := hid hgr; have Hat := hid hat
         clear hown hgr hat))
    all_goals
      refine bodyPost_ret (v := .slice (some ⟨g9, 0, none⟩) (n + 1) q9) (by simp [results, Tryz.results124, go_sem]) rfl ⟨_, q9, rfl, ?_, Hgr.out, fun g e => ?_⟩
      · have hs : Stp1 33 w w9 := ⟨_, Hgr.out, fun k e => own_typ Hown.out e⟩
        refine ⟨?_, fun x hx => ?_, Hris.out⟩
        · have e : (l.insertIdx n a).flatMap AH.cells = l.flatMap AH.cells ++ a.cells := by
            rw [ins_list l (by rw [Hlen.out]; exact Nat.le_refl _), List.take_of_length_le (by rw [Hlen.out]; exact Nat.le_refl _), List.drop_of_length_le (by rw [Hlen.out]; exact Nat.le_refl _), List.flatMap_append]
            simp
          show w9.ownsRow b _ 6 _ (n + 1) ((l.insertIdx n a).flatMap AH.cells)
          rw [e]; exact Hown9.out
        · have hx2 : x ∈ l.insertIdx n a := hx
          rw [ins_list l (by rw [Hlen.out]; exact Nat.le_refl _)] at hx2
          rcases List.mem_append.1 hx2 with h1 | h1
          · exact (Hr.out.arcs x (List.mem_of_mem_take h1)).stp hs (by decide) (by decide)
          · rcases List.mem_cons.1 h1 with rfl | h1
            · exact Ha.out.stp hs (by decide) (by decide)
            · exact (Hr.out.arcs x (List.mem_of_mem_drop h1)).stp hs (by decide) (by decide)
      · obtain rfl := Option.some.inj e
        rcases Hat.out with h1 | h1
        · exact .inl h1
        · exact .inr (by show w.heap.size ≤ g9; omega)
theorem insert_shift (h : RowA b w v N r) (hN : N ≤ 256) (hi : i < r.n) (hroom : r.n + 1 ≤ r.c) (hp : Plc r.l a.m i) (hf : fdA r.l i a.m = false) (ha : FWt w v a.f) (hm : 0 ≤ a.m ∧ a.m < N) (hx : Fb w g0 a.cells.toArray 33) (hne : r.v.ownBlock ≠ some g0) :
    Calls Tryz.prog 124 #[r.v, .int .i64 i, .slice (some ⟨g0, 0, none⟩) 1 1] w (RetIns b v N r i a w) := by
  have hlen := h.len
  have hfew := h.few
  have Hr := hid h
  have Hris := hid (ins_ris h.ris hp hf hm)
  have Ha := hid ha
  have Hone := hid (show ∀ u ∈ a.cells, u.oneCell' = true from fun u hu => one_arc [a] u (by simpa using hu))
  rcases h.own.2 with ⟨e, e2⟩ | ⟨g, cap, cur, e, hge, hc, h1, h2, h3, h4⟩
  · omega
  · unfold AL.v at e
    injection e with e1 e2 e3
    obtain ⟨A, n, c, l⟩ := r
    simp only at e1 e3 hi hroom hlen hfew h4 h1 hp hf
    subst e1
    subst e3
    have hgg : g0 ≠ g := fun e => hne (by rw [e]; rfl)
    have hf0 : Fb w g cur 33 := hc
    clear h hc hne hp hf ha
    obtain ⟨cs1, hcs1⟩ : ∃ cs1, cs1 = (l.drop i).flatMap AH.cells := ⟨_, rfl⟩
    have hl1 : cs1.length = (n - i) * 6 := by rw [hcs1, flat_len AH.cells_len, List.length_drop, hlen]
    have hcn : ∀ (j : Nat) (x : Value), j < n * 6 → (l.flatMap AH.cells)[j]? = some x → cur[j]? = some x := fun j x hj hx => by
      rw [← h4, List.getElem?_take_of_lt hj, Array.getElem?_toList] at hx; exact hx
    have hsp : l.flatMap AH.cells = (l.take i).flatMap AH.cells ++ cs1 := by rw [hcs1, ← List.flatMap_append, List.take_append_drop]
    have htl : ((l.take i).flatMap AH.cells).length = i * 6 := by rw [flat_len AH.cells_len, List.length_take]; omega
    have hsrc : ∀ (j : Nat) (x : Value), cs1[j]? = some x → w.cell? ⟨g, i * 6 + j, none⟩ = some x := fun j x hx => by
      have hj := (List.getElem?_eq_some_iff.1 hx).1
      rw [hf0.cell]
      refine hcn _ _ (by omega) ?_
      rw [hsp, List.getElem?_append_right (by omega), htl, Nat.add_sub_cancel_left]; exact hx
    have hone1 : ∀ u ∈ cs1, u.oneCell' = true := by rw [hcs1]; exact one_arc _
    have hsz : (Tryz.prog.info? 33).map (·.size) = some 6 := by kernel_rfl
    have hfit1 : (i + 1) * 6 + cs1.length ≤ cur.size := by rw [hl1, h3]; omega
    obtain ⟨W1, hW1⟩ : ∃ W1, W1 = w.drew.setCells g ((i + 1) * 6) cs1 := ⟨_, rfl⟩
    have hcp1 : ∀ ty dc sc, (Builtin.copy_ #[34, 34] ty #[.slice (some ⟨g, (i + 1) * 6, none⟩) (n + 1 - (i + 1)) dc, .slice (some ⟨g, i * 6, none⟩) (n + 1 - i) sc]).run Tryz.prog w.drew = .ok (goInt ((n - i : Nat) : Int)) W1 := fun ty dc sc => by
      have hmn : Nat.min (n + 1 - i) (n + 1 - (i + 1)) = n - i := by simp only [Nat.min_def]; split <;> omega
      have := run_copy_wide (P := Tryz.prog) w.drew 34 34 ty 33 6 g ((i + 1) * 6) (n + 1 - (i + 1)) dc ⟨g, i * 6, none⟩ (n + 1 - i) sc cs1 Tryz.underlying34 hsz (by rw [hmn, hl1])
        (fun j x hx => by rw [Addr.add_lit]; exact hsrc j x hx)
        (fun j hj => by show (w.cell? ⟨g, (i + 1) * 6 + j, none⟩).isSome = true; rw [hf0.cell, Array.getElem?_eq_getElem (by omega)]; rfl) (fun j hj => hf0.frozen _) hone1
      rw [hmn] at this
      rw [this, hW1]
    have F1 : Fb W1 g (lay cur ((i + 1) * 6) cs1) 33 := by rw [hW1]; exact fb_setCells cs1 _ w.drew cur hf0 hfit1
    have G1 : w.grownBy W1 (some g) := by rw [hW1]; exact grown_trans (grown_of_below (Below.refl _ _).drew _) (grown_setCells g cs1 _ _)
    have X1 : Fb W1 g0 a.cells.toArray 33 := hx.grown G1 (by simpa using hgg)
    have hls1 : (lay cur ((i + 1) * 6) cs1).size = c * 6 := by rw [lay_size hfit1, h3]
    have hac : a.cells.length = 6 := rfl
    obtain ⟨W2, hW2⟩ : ∃ W2, W2 = W1.setCells g (i * 6) a.cells := ⟨_, rfl⟩
    have hcp2 : ∀ ty dc, (Builtin.copy_ #[34, 34] ty #[.slice (some ⟨g, i * 6, none⟩) (n + 1 - i) dc, .slice (some ⟨g0, 0, none⟩) 1 1]).run Tryz.prog W1 = .ok (goInt ((1 : Nat) : Int)) W2 := fun ty dc => by
      have hmn : Nat.min 1 (n + 1 - i) = 1 := by simp only [Nat.min_def]; split <;> omega
      have := run_copy_wide (P := Tryz.prog) W1 34 34 ty 33 6 g (i * 6) (n + 1 - i) dc ⟨g0, 0, none⟩ 1 1 a.cells Tryz.underlying34 hsz (by rw [hmn, hac])
        (fun j x hx => by rw [Addr.add_lit, Nat.zero_add, X1.cell]; simpa using hx)
        (fun j hj => by rw [F1.cell, Array.getElem?_eq_getElem (by rw [hls1]; omega)]; rfl) (fun j hj => F1.frozen _) Hone.out
      rw [hmn] at this
      rw [this, hW2]
    have hfit2 : i * 6 + a.cells.length ≤ (lay cur ((i + 1) * 6) cs1).size := by rw [hls1, hac]; omega
    have F2 := hid (show Fb W2 g (lay (lay cur ((i + 1) * 6) cs1) (i * 6) a.cells) 33 from by rw [hW2]; exact fb_setCells a.cells _ W1 _ F1 hfit2)
    have G2 := hid (show w.grownBy W2 (some g) from by rw [hW2]; exact grown_trans G1 (grown_setCells g a.cells _ _))
    have HS := hid (show (lay (lay cur ((i + 1) * 6) cs1) (i * 6) a.cells).size = c * 6 from by rw [lay_size hfit2, hls1])
    have HE := hid (show (lay (lay cur ((i + 1) * 6) cs1) (i * 6) a.cells).toList.take ((n + 1) * 6) = (l.insertIdx i a).flatMap AH.cells from by
      have e : (l.insertIdx i a).flatMap AH.cells = (l.take i).flatMap AH.cells ++ (a.cells ++ cs1) := by
        rw [ins_list l (by omega), List.flatMap_append, List.flatMap_cons, ← hcs1]
      rw [e]
      apply List.ext_getElem?
      intro j
      by_cases hj : j < (n + 1) * 6
      · rw [List.getElem?_take_of_lt hj, Array.getElem?_toList, lay_get hfit2]
        by_cases h5 : j < i * 6
        · rw [if_pos h5, lay_get hfit1, if_pos (by omega), List.getElem?_append_left (by omega)]
          have hx : ((l.take i).flatMap AH.cells)[j]? = some (((l.take i).flatMap AH.cells)[j]'(by omega)) := List.getElem?_eq_getElem _
          rw [hx]
          refine hcn j _ (by omega) ?_
          rw [hsp, List.getElem?_append_left (by omega), hx]
        · rw [if_neg h5, List.getElem?_append_right (by omega), htl]
          by_cases h6 : j < i * 6 + a.cells.length
          · rw [if_pos h6, List.getElem?_append_left (by omega)]
          · rw [if_neg h6, lay_get hfit1, if_neg (by omega), if_pos (by omega), List.getElem?_append_right (by omega)]
            congr 1; omega
      · rw [List.getElem?_eq_none (by rw [List.length_take]; omega), List.getElem?_eq_none (by simp only [List.length_append, htl, hac, hl1]; omega)])
    have hov : ∀ lb cb, (callFunc 137 #[.slice (some ⟨g0, 0, none⟩) 1 1, .slice (some ⟨g, (i + 1) * 6, none⟩) lb cb]).run Tryz.prog w = .ok (.value (.bool false)) w := fun lb cb => by
      rw [run_callFunc_extern Tryz.func137 (by kernel_rfl) (by kernel_rfl) (by kernel_rfl) (e := Extern.SlicesOverlaps.overlaps #[34, 34] #[4]) (by kernel_rfl),
        Lib.run_overlaps_apart w 34 4 33 Tryz.underlying34 6 Tryz.sizeOf33 ⟨g0, 0, none⟩ ⟨g, (i + 1) * 6, none⟩ 1 1 lb cb hgg 33 33 6 (c * 6) (shape_fb hx) (by rw [shape_fb hf0, h3]) (by omega) (hx.frozen _) (hx.frozen _)]
      rfl
    have mixed : Tryz.prog.follows .mixedOrders = true := by kernel_rfl
    have H12 := hid (And.intro h1 h2)
    have hz2 : ((i : Int) == (n : Int)) = false := by simp; omega
    have hb2 : ¬ (c = i + 1) := by omega
    have hb4 : ¬ (c = i) := by omega
    have hb5 : ¬ (c = n + 1 ∧ False) := by simp
    have k0 : (0 : Int) ≤ (i : Int) + 1 := by omega
    have k1 : (i : Int) + 1 ≤ (n : Int) + 1 := by omega
    have k2 : ((i : Int) + 1).toNat = i + 1 := by omega
    have k3 : i ≤ n := by omega
    have k4 : n + 1 ≤ c := hroom
    have k5 : n ≤ c := h1
    have k6 : (i : Int) ≤ (n : Int) + 1 := by omega
    have k7 : decide ((c : Int) < (n : Int) + 1) = false := by simp; omega
    clear hW1 hW2 F1 G1 X1 hls1 hfit1 hfit2 hsrc hcn hsp htl h4 h3 h2 hf0 hcs1 hl1 hone1 hsz hac hx hb5
    unfold AL.v
    go_enter Tryz.func124, Tryz.ntmps124
    go_wp2_with (simp only [hov])
    have hw1 : IntKind.i64.wrap ((i : Int) + 1) = (i : Int) + 1 := IntWalk.i64_in _ (by omega)
    go_region_law_o (refine step_copy_runI rfl (.tmp 73) (.tmp 76) 34 34 rfl (.slice (some ⟨g, (i + 1) * 6, none⟩) (n + 1 - (i + 1)) (c - (i + 1))) (.slice (some ⟨g, i * 6, none⟩) (n + 1 - i) (c - i)) (by simp [Act.eval, Act.put]) (by simp [Act.eval, Act.put]) (hcp1 3 (c - (i + 1)) (c - i)) ?_)
    go_wp2_with (at_builtin; refine wpList_copy_runI _ rfl _ _ 34 34 rfl _ _ rfl rfl (hcp2 _ _) ?_)
    refine bodyPost_ret (v := .slice (some ⟨g, 0, none⟩) (n + 1) c) (by simp [results, Tryz.results124, go_sem]) rfl ⟨some ⟨g, 0, none⟩, c, rfl, ?_, G2.out, fun g e => .inl e⟩
    have hs : Stp1 33 w W2 := ⟨_, G2.out, fun k e => by obtain rfl := Option.some.inj e; exact own_typ Hr.out.own rfl⟩
    refine ⟨⟨by rw [flat_len AH.cells_len]; show (l.insertIdx i a).length * 6 = (n + 1) * 6; rw [ins_list l (by omega), List.length_append, List.length_cons, List.length_take, List.length_drop]; omega, .inr ⟨g, c, _, rfl, hge, F2.out, hroom, H12.out.2, HS.out, HE.out⟩⟩, fun x hx => ?_, Hris.out⟩
    have hx2 : x ∈ l.insertIdx i a := hx
    rw [ins_list l (by omega)] at hx2
    rcases List.mem_append.1 hx2 with h1 | h1
    · exact (Hr.out.arcs x (List.mem_of_mem_take h1)).stp hs (by decide) (by decide)
    · rcases List.mem_cons.1 h1 with rfl | h1
      · exact Ha.out.stp hs (by decide) (by decide)
      · exact (Hr.out.arcs x (List.mem_of_mem_drop h1)).stp hs (by decide) (by decide)
theorem insert_grow (h : RowA b w v N r) (hN : N ≤ 256) (hb : b ≤ w.heap.size) (hi : i < r.n) (hroom : r.c < r.n + 1) (hp : Plc r.l a.m i) (hf : fdA r.l i a.m = false) (ha : FWt w v a.f) (hm : 0 ≤ a.m ∧ a.m < N) (hx : Fb w g0 a.cells.toArray 33) :
    Calls Tryz.prog 124 #[r.v, .int .i64 i, .slice (some ⟨g0, 0, none⟩) 1 1] w (RetIns b v N r i a w) := by
  obtain ⟨i0, hi0, hz0, hzs, hzb⟩ := info_parts infoArc
  have hlen := h.len
  have hfew := h.few
  have Hr := hid h
  have Hris := hid (ins_ris h.ris hp hf hm)
  have Ha := hid ha
  have Hone := hid (show ∀ u ∈ a.cells, u.oneCell' = true from fun u hu => one_arc [a] u (by simpa using hu))
  rcases h.own.2 with ⟨e, e2⟩ | ⟨g, cap, cur, e, hge, hc, h1, h2, h3, h4⟩
  · omega
  · unfold AL.v at e
    injection e with e1 e2 e3
    obtain ⟨A, n, c, l⟩ := r
    simp only at e1 e3 hi hroom hlen hfew h4 h1 hp hf
    subst e1
    subst e3
    have hf0 : Fb w g cur 33 := hc
    have hgl := hf0.lt
    have hxl := hx.lt
    clear h hc hp hf ha
    obtain ⟨cs1, hcs1⟩ : ∃ cs1, cs1 = (l.drop i).flatMap AH.cells := ⟨_, rfl⟩
    obtain ⟨cs0, hcs0⟩ : ∃ cs0, cs0 = (l.take i).flatMap AH.cells := ⟨_, rfl⟩
    have hl1 : cs1.length = (n - i) * 6 := by rw [hcs1, flat_len AH.cells_len, List.length_drop, hlen]
    have hl0 : cs0.length = i * 6 := by rw [hcs0, flat_len AH.cells_len, List.length_take]; omega
    have hcn : ∀ (j : Nat) (x : Value), j < n * 6 → (l.flatMap AH.cells)[j]? = some x → cur[j]? = some x := fun j x hj hx => by
      rw [← h4, List.getElem?_take_of_lt hj, Array.getElem?_toList] at hx; exact hx
    have hsp : l.flatMap AH.cells = cs0 ++ cs1 := by rw [hcs0, hcs1, ← List.flatMap_append, List.take_append_drop]
    have hsrc0 : ∀ (j : Nat) (x : Value), cs0[j]? = some x → w.cell? ⟨g, j, none⟩ = some x := fun j x hx => by
      have hj := (List.getElem?_eq_some_iff.1 hx).1
      rw [hf0.cell]
      refine hcn _ _ (by omega) ?_
      rw [hsp, List.getElem?_append_left (by omega)]; exact hx
    have hsrc : ∀ (j : Nat) (x : Value), cs1[j]? = some x → w.cell? ⟨g, i * 6 + j, none⟩ = some x := fun j x hx => by
      have hj := (List.getElem?_eq_some_iff.1 hx).1
      rw [hf0.cell]
      refine hcn _ _ (by omega) ?_
      rw [hsp, List.getElem?_append_right (by omega), hl0, Nat.add_sub_cancel_left]; exact hx
    have hone1 : ∀ u ∈ cs1, u.oneCell' = true := by rw [hcs1]; exact one_arc _
    have hsz : (Tryz.prog.info? 33).map (·.size) = some 6 := by kernel_rfl
    have hold : (Builtin.firstCells i0.size i (.slice (some ⟨g, 0, none⟩) i c)).run Tryz.prog w.drew = .ok cs0.toArray w.drew := by
      rw [hzs]
      exact run_firstCells_some w.drew 6 i ⟨g, 0, none⟩ i c cs0 (by rw [hl0]) (fun j x hj => by rw [Addr.add_lit, Nat.zero_add]; exact hsrc0 j x hj)
    have hkk : (n : Int) + 1 - (i : Int) = ((n + 1 - i : Nat) : Int) := by omega
    have hik : i + (n + 1 - i) = n + 1 := by omega
    obtain ⟨G, hG⟩ : ∃ G, G = grownCap w (n + 1) c 33 := ⟨_, rfl⟩
    obtain ⟨ROW, hROW⟩ : ∃ ROW : Array Value, ROW = cs0.toArray ++ Builtin.zeroCells (Value.agg #[.int .i64 0, .int .i64 0, .slice none 0 0, .int .i64 0, .slice none 0 0, .slice none 0 0]).cells (n + 1 - i) ++ Builtin.zeroCells (Value.agg #[.int .i64 0, .int .i64 0, .slice none 0 0, .int .i64 0, .slice none 0 0, .slice none 0 0]).cells (G - (n + 1)) := ⟨_, rfl⟩
    obtain ⟨W1, hW1⟩ : ∃ W1, W1 = w.drew.alloc (.cells ROW 33) := ⟨_, rfl⟩
    have hrz : ∀ ty, (Builtin.append_ #[34, 3] ty #[.slice (some ⟨g, 0, none⟩) i c, .int .i64 ((n : Int) + 1 - (i : Int))]).run Tryz.prog w = .ok (.slice (some ⟨w.heap.size, 0, none⟩) (n + 1) G) W1 := fun ty => by
      have h := Lib.run_append_grow_zeros w 34 3 ty 33 i0 _ .i64 .i64 Tryz.underlying34 Tryz.underlying3 hi0 hz0 (some ⟨g, 0, none⟩) i c cs0 hold (n + 1 - i) (by omega) (by omega) (by omega) (by omega) (by rw [hzb]; omega) (by rw [hzb, hik]; exact growslice_fits hroom (by omega))
      rw [hik] at h
      rw [hkk, hW1, hROW, hG]
      exact h
    have hGn : n + 1 ≤ G := by rw [hG]; exact grownCap_ge w _ _ _
    have hGm : G ≤ maxLen := by rw [hG]; exact grownCap_le_maxLen w (n + 1) c 33 (by unfold maxLen; omega)
    have hRl : ROW.size = G * 6 := by
      rw [hROW]
      simp only [Array.size_append, List.size_toArray, Builtin.zeroCells, Value.cells, Array.size_map, Array.size_range, hl0]
      show i * 6 + (n + 1 - i) * 6 + (G - (n + 1)) * 6 = G * 6
      omega
    have hR0 : ∀ j, j < i * 6 → ROW[j]? = cs0[j]? := fun j hj => by
      rw [hROW, Array.append_assoc, Array.getElem?_append_left (by simp; omega)]; simp
    have F1 : Fb W1 w.heap.size ROW 33 := by rw [hW1]; exact Fb.new w.drew ROW _
    have B1 : Below w.heap.size w W1 := by rw [hW1]; exact (Below.refl _ _).drew.alloc (Nat.le_refl _) _
    have hbN : g ≠ w.heap.size := by omega
    have X1 : Fb W1 g0 a.cells.toArray 33 := hx.below B1 hxl
    have Y1 : Fb W1 g cur 33 := hf0.below B1 hgl
    have hac : a.cells.length = 6 := rfl
    have hfit2 : i * 6 + a.cells.length ≤ ROW.size := by rw [hRl, hac]; omega
    obtain ⟨W2, hW2⟩ : ∃ W2, W2 = W1.setCells w.heap.size (i * 6) a.cells := ⟨_, rfl⟩
    have hcp2 : ∀ ty dc, (Builtin.copy_ #[34, 34] ty #[.slice (some ⟨w.heap.size, i * 6, none⟩) (n + 1 - i) dc, .slice (some ⟨g0, 0, none⟩) 1 1]).run Tryz.prog W1 = .ok (goInt ((1 : Nat) : Int)) W2 := fun ty dc => by
      have hmn : Nat.min 1 (n + 1 - i) = 1 := by simp only [Nat.min_def]; split <;> omega
      have := run_copy_wide (P := Tryz.prog) W1 34 34 ty 33 6 w.heap.size (i * 6) (n + 1 - i) dc ⟨g0, 0, none⟩ 1 1 a.cells Tryz.underlying34 hsz (by rw [hmn, hac])
        (fun j x hx => by rw [Addr.add_lit, Nat.zero_add, X1.cell]; simpa using hx)
        (fun j hj => by rw [F1.cell, Array.getElem?_eq_getElem (by omega)]; rfl) (fun j hj => F1.frozen _) Hone.out
      rw [hmn] at this
      rw [this, hW2]
    have F2 : Fb W2 w.heap.size (lay ROW (i * 6) a.cells) 33 := by rw [hW2]; exact fb_setCells a.cells _ W1 _ F1 hfit2
    have G2 : W1.grownBy W2 (some w.heap.size) := by rw [hW2]; exact grown_setCells _ a.cells _ _
    have Y2 : Fb W2 g cur 33 := Y1.grown G2 (by simpa using hbN)
    have hls2 : (lay ROW (i * 6) a.cells).size = G * 6 := by rw [lay_size hfit2, hRl]
    have hfit3 : (i + 1) * 6 + cs1.length ≤ (lay ROW (i * 6) a.cells).size := by rw [hls2, hl1]; omega
    obtain ⟨W3, hW3⟩ : ∃ W3, W3 = W2.drew.setCells w.heap.size ((i + 1) * 6) cs1 := ⟨_, rfl⟩
    have hcp3 : ∀ ty dc sc, (Builtin.copy_ #[34, 34] ty #[.slice (some ⟨w.heap.size, (i + 1) * 6, none⟩) (n + 1 - (i + 1)) dc, .slice (some ⟨g, i * 6, none⟩) (n - i) sc]).run Tryz.prog W2.drew = .ok (goInt ((n - i : Nat) : Int)) W3 := fun ty dc sc => by
      have hmn : Nat.min (n - i) (n + 1 - (i + 1)) = n - i := by simp only [Nat.min_def]; split <;> omega
      have := run_copy_wide (P := Tryz.prog) W2.drew 34 34 ty 33 6 w.heap.size ((i + 1) * 6) (n + 1 - (i + 1)) dc ⟨g, i * 6, none⟩ (n - i) sc cs1 Tryz.underlying34 hsz (by rw [hmn, hl1])
        (fun j x hx => by
          rw [Addr.add_lit]
          show W2.cell? ⟨g, i * 6 + j, none⟩ = some x
          rw [Y2.cell, ← hf0.cell]; exact hsrc j x hx)
        (fun j hj => by show (W2.cell? ⟨w.heap.size, (i + 1) * 6 + j, none⟩).isSome = true; rw [F2.cell, Array.getElem?_eq_getElem (by omega)]; rfl) (fun j hj => F2.frozen _) hone1
      rw [hmn] at this
      rw [this, hW3]
    have F3 := hid (show Fb W3 w.heap.size (lay (lay ROW (i * 6) a.cells) ((i + 1) * 6) cs1) 33 from by rw [hW3]; exact fb_setCells cs1 _ W2.drew _ F2 hfit3)
    have hB3 : Below w.heap.size w W3 := by
      rw [hW3]
      have h5 := B1.grown G2 B1.size (fun k e => by obtain rfl := Option.some.inj e; exact Nat.le_refl _)
      exact h5.drew.grown (grown_setCells w.heap.size cs1 _ _) h5.size (fun k e => by obtain rfl := Option.some.inj e; exact Nat.le_refl _)
    have G3 := hid (show w.grownBy W3 (some g) from grown_of_below hB3 _)
    have HS := hid (show (lay (lay ROW (i * 6) a.cells) ((i + 1) * 6) cs1).size = G * 6 from by rw [lay_size hfit3, hls2])
    have HE := hid (show (lay (lay ROW (i * 6) a.cells) ((i + 1) * 6) cs1).toList.take ((n + 1) * 6) = (l.insertIdx i a).flatMap AH.cells from by
      have e : (l.insertIdx i a).flatMap AH.cells = cs0 ++ (a.cells ++ cs1) := by
        rw [ins_list l (by omega), List.flatMap_append, List.flatMap_cons, ← hcs1, ← hcs0]
      rw [e]
      apply List.ext_getElem?
      intro j
      by_cases hj : j < (n + 1) * 6
      · rw [List.getElem?_take_of_lt hj, Array.getElem?_toList, lay_get hfit3]
        by_cases h5 : j < (i + 1) * 6
        · rw [if_pos h5, lay_get hfit2]
          by_cases h6 : j < i * 6
          · rw [if_pos h6, hR0 j h6, List.getElem?_append_left (by omega)]
          · rw [if_neg h6, if_pos (by omega), List.getElem?_append_right (by omega), hl0, List.getElem?_append_left (by omega)]
        · rw [if_neg h5, if_pos (by omega), List.getElem?_append_right (by omega), List.getElem?_append_right (by omega)]
          congr 1; omega
      · rw [List.getElem?_eq_none (by rw [List.length_take]; omega), List.getElem?_eq_none (by simp only [List.length_append, hac, hl1, hl0]; omega)])
    have mixed : Tryz.prog.follows .mixedOrders = true := by kernel_rfl
    have HGm := hid hGm
    have hz2 : ((i : Int) == (n : Int)) = false := by simp; omega
    have hci : ¬ (c = i) := by omega
    have hGi : ¬ (G = i) := by omega
    have hGim : ¬ (G = i + 1) := by omega
    have k0 : (0 : Int) ≤ (i : Int) + 1 := by omega
    have k1 : (i : Int) + 1 ≤ (n : Int) + 1 := by omega
    have k2 : ((i : Int) + 1).toNat = i + 1 := by omega
    have k3 : i ≤ n := by omega
    have k5 : n ≤ c := h1
    have k6 : (i : Int) ≤ (n : Int) + 1 := by omega
    have k7 : decide ((c : Int) < (n : Int) + 1) = true := by simp; omega
    have k8 : i ≤ c := by omega
    have hG63 : G ≤ 9223372036854775807 := by unfold maxLen at hGm; exact hGm
    clear hW1 hW2 hW3 F1 B1 X1 Y1 F2 G2 Y2 hls2 hfit2 hfit3 hsrc hsrc0 hcn hsp h4 h3 h2 hf0 hcs1 hcs0 hl1 hl0 hone1 hsz hac hx hold hkk hik hG hROW hRl hR0 hB3 hGm hi0 hz0 hzs hzb
    unfold AL.v
    go_enter Tryz.func124, Tryz.ntmps124
    go_wp2_with (first
      | (at_builtin; refine Lib.wpList_append_run _ rfl _ _ _ _ rfl _ _ rfl rfl _ _ (hrz _) ?_)
      | (at_builtin; refine wpList_copy_runI _ rfl _ _ 34 34 rfl _ _ rfl rfl (hcp2 _ _) ?_))
    have hw1 : IntKind.i64.wrap ((i : Int) + 1) = (i : Int) + 1 := IntWalk.i64_in _ (by omega)
    go_region_law_o (refine step_copy_runI rfl (.tmp 50) (.tmp 53) 34 34 rfl (.slice (some ⟨w.heap.size, (i + 1) * 6, none⟩) (n + 1 - (i + 1)) (G - (i + 1))) (.slice (some ⟨g, i * 6, none⟩) (n - i) (c - i)) (by simp [Act.eval, Act.put]) (by simp [Act.eval, Act.put]) (hcp3 3 (G - (i + 1)) (c - i)) ?_)
    go_wp2_with fail
    refine bodyPost_ret (v := .slice (some ⟨w.heap.size, 0, none⟩) (n + 1) G) (by simp [results, Tryz.results124, go_sem]) rfl ⟨some ⟨w.heap.size, 0, none⟩, G, rfl, ?_, G3.out, fun k e => by obtain rfl := Option.some.inj e; exact .inr (Nat.le_refl _)⟩
    have hs : Stp1 33 w W3 := ⟨_, G3.out, fun k e => by obtain rfl := Option.some.inj e; exact own_typ Hr.out.own rfl⟩
    refine ⟨⟨by rw [flat_len AH.cells_len]; show (l.insertIdx i a).length * 6 = (n + 1) * 6; rw [ins_list l (by omega), List.length_append, List.length_cons, List.length_take, List.length_drop]; omega, .inr ⟨w.heap.size, G, _, rfl, hb, F3.out, hGn, HGm.out, HS.out, HE.out⟩⟩, fun x hx => ?_, Hris.out⟩
    have hx2 : x ∈ l.insertIdx i a := hx
    rw [ins_list l (by omega)] at hx2
    rcases List.mem_append.1 hx2 with h1 | h1
    · exact (Hr.out.arcs x (List.mem_of_mem_take h1)).stp hs (by decide) (by decide)
    · rcases List.mem_cons.1 h1 with rfl | h1
      · exact Ha.out.stp hs (by decide) (by decide)
      · exact (Hr.out.arcs x (List.mem_of_mem_drop h1)).stp hs (by decide) (by decide)
theorem insertA_any (h : RowA b w v N r) (hN : N ≤ 256) (hb : b ≤ w.heap.size) (hp : Plc r.l a.m i) (hf : fdA r.l i a.m = false) (ha : FWt w v a.f) (hm : 0 ≤ a.m ∧ a.m < N) (hx : Fb w g0 a.cells.toArray 33) (hne : r.v.ownBlock ≠ some g0) :
    Calls Tryz.prog 124 #[r.v, .int .i64 i, .slice (some ⟨g0, 0, none⟩) 1 1] w (RetIns b v N r i a w) := by
  have hle := hp.le
  rw [h.len] at hle
  rcases Nat.lt_or_ge i r.n with hi | hi
  · rcases Nat.lt_or_ge r.c (r.n + 1) with hr | hr
    · exact insert_grow h hN hb hi hr hp hf ha hm hx
    · exact insert_shift h hN hi hr hp hf ha hm hx hne
  · obtain rfl : i = r.n := by omega
    exact insert_end h hN hb hp ha hm hx hf
end
end Go.Proofs.YtbjaebbmajhjjaaGreat
namespace Go.Proofs.YtbjaebbmajhjjaaGreat
set_option maxRecDepth 20000
set_option linter.unusedVariables false
set_option linter.unusedSimpArgs false
open Go.ChangeShapes Go.WideShapes Go.ChangeAt Go.RowKit
theorem run_copy_zero {P : Program} (w : World) (dT sT ty elem : TypeId) (d A : Option Addr) (dc sc : Nat) (hu : P.underlying dT = some (.slice elem)) (hs : ((P.info? elem).map (·.size)).isSome = true) :
    (Builtin.copy_ #[dT, sT] ty #[.slice d 0 dc, .slice A 0 sc]).run P w = .ok (goInt ((0 : Nat) : Int)) w := by
  cases hq : P.info? elem with
  | none => simp [hq] at hs
  | some i =>
    have hl : (Builtin.lenOf (.slice A 0 sc)).run P w = .ok 0 w := rfl
    cases A with
    | none =>
      have hf := run_firstCells_none (P := P) w i.size 0 0 sc
      cases d <;> simp [Builtin.copy_, run_underlying hu, hl, sizeOf, typeInfo, hq, hf, storeCells]
    | some ad =>
      have hf := run_firstCells_some (P := P) w i.size 0 ad 0 sc [] (by simp) (fun j u hj => by simp at hj)
      cases d <;> simp [Builtin.copy_, run_underlying hu, hl, sizeOf, typeInfo, hq, hf, storeCells]
def RetCpd (t n : Nat) (xs : List Value) (w : World) (e : Ending) (w' : World) : Prop :=
  e = .returned (.slice (some ⟨w.heap.size, 0, none⟩) n n) ∧ Fb w' w.heap.size xs.toArray t ∧ Below w.heap.size w w'
theorem lay_all {cur : Array Value} {xs : List Value} (h : cur.size = xs.length) : lay cur 0 xs = xs.toArray := by
  unfold lay
  rw [List.take_zero, List.nil_append, Nat.zero_add, List.drop_of_length_le (by simp; omega), List.append_nil]
set_option maxHeartbeats 1600000 in
theorem cpdSet_any (A : Option Addr) (n c : Nat) (xs : List Value) (w : World) (hl : xs.length = n * 2) (hn : n ≤ 100000) (hx : xs = [] ∨ ∃ ad : Addr, A = some ad ∧ ad.block < w.heap.size ∧ ∀ (j : Nat) (x : Value), xs[j]? = some x → w.cell? (ad.add j) = some x) (h1 : ∀ u ∈ xs, u.oneCell' = true) :
    Calls Tryz.prog 83 #[.slice A n c] w (RetCpd 24 n xs w) := by
  obtain ⟨i, hi, hz0, hz1, hz2⟩ := info_parts (show (Tryz.prog.info? 24).map (fun i => (i.zero, i.size, i.bytes)) = some (some (.agg #[.int .i64 0, .slice none 0 0]), 2, 32) from by kernel_rfl)
  obtain ⟨W1, hW1⟩ : ∃ W1, W1 = w.alloc (.cells (madeCells (.agg #[.int .i64 0, .slice none 0 0] : Value).cells (n * 2)) 24) := ⟨_, rfl⟩
  have hmk : (Instr.makeSlice 31 (.int .i64 (n : Int)) (.int .i64 (n : Int))).run Tryz.prog w = .ok (.slice (some ⟨w.heap.size, 0, none⟩) n n) W1 := by
    have h := run_make (P := Tryz.prog) w 31 24 i (.agg #[.int .i64 0, .slice none 0 0]) Tryz.underlying31 hi hz0 .i64 .i64 n n (by omega) (by omega) (by rw [hz2]; omega) (by omega)
    rw [h, hz1, hW1]
    simp only [Int.toNat_natCast]
  have F1 : Fb W1 w.heap.size (madeCells (.agg #[.int .i64 0, .slice none 0 0] : Value).cells (n * 2)) 24 := by rw [hW1]; exact Fb.new w _ _
  have B1 : Below w.heap.size w W1 := by rw [hW1]; exact (Below.refl _ _).alloc (Nat.le_refl _) _
  have hs1 : (madeCells (.agg #[.int .i64 0, .slice none 0 0] : Value).cells (n * 2)).size = n * 2 := size_madeCells _ _
  have hsz : (Tryz.prog.info? 24).map (·.size) = some 2 := by rw [hi]; simp [hz1]
  obtain ⟨W2, hW2⟩ : ∃ W2, W2 = W1.setCells w.heap.size 0 xs := ⟨_, rfl⟩
  have F2 := hid (show Fb W2 w.heap.size xs.toArray 24 from by
    rw [hW2, ← lay_all (cur := madeCells (.agg #[.int .i64 0, .slice none 0 0] : Value).cells (n * 2)) (by rw [hs1, hl])]
    exact fb_setCells xs 0 W1 _ F1 (by rw [hs1, hl]; omega))
  have B2 := hid (show Below w.heap.size w W2 from by rw [hW2]; exact B1.grown (grown_setCells w.heap.size xs _ _) B1.size (fun k e => by obtain rfl := Option.some.inj e; exact Nat.le_refl _))
  have hcp : ∀ ty, (Builtin.copy_ #[31, 31] ty #[.slice (some ⟨w.heap.size, 0, none⟩) n n, .slice A n c]).run Tryz.prog W1 = .ok (goInt ((n : Nat) : Int)) W2 := fun ty => by
    rcases hx with rfl | ⟨ad, rfl, hlt, hc⟩
    · have e0 : n = 0 := by simp only [List.length_nil] at hl; omega
      subst e0
      rw [hW2]
      exact run_copy_zero W1 31 31 ty 24 _ A _ _ Tryz.underlying31 (by rw [hsz]; rfl)
    · have hmn : Nat.min n n = n := Nat.min_self n
      have := run_copy_wide (P := Tryz.prog) W1 31 31 ty 24 2 w.heap.size 0 n n ad n c xs Tryz.underlying31 hsz (by rw [hmn, hl])
        (fun j x hx => (B1.cell (by rw [add_block]; exact hlt)).trans (hc j x hx))
        (fun j hj => by rw [F1.cell, Array.getElem?_eq_getElem (by rw [hs1]; omega)]; rfl) (fun j hj => F1.frozen _) h1
      rw [hmn] at this
      rw [this, hW2]
  have hmk' := hmk
  clear hW1 hW2 F1 B1 hs1 hsz hx h1 hl hi hz0 hz1 hz2 hmk
  go_enter Tryz.func83, Tryz.ntmps83
  go_wp2_with (at_builtin; refine wpList_copy_runI _ rfl _ _ 31 31 rfl _ _ rfl rfl (hcp _) ?_)
  exact bodyPost_ret (v := .slice (some ⟨w.heap.size, 0, none⟩) n n) (by simp [results, Tryz.results83, go_sem]) rfl ⟨rfl, F2.out, B2.out⟩
set_option maxHeartbeats 1600000 in
theorem cpdRow_any (A : Option Addr) (n c : Nat) (xs : List Value) (w : World) (hl : xs.length = n * 1) (hn : n ≤ 100000) (hx : xs = [] ∨ ∃ ad : Addr, A = some ad ∧ ad.block < w.heap.size ∧ ∀ (j : Nat) (x : Value), xs[j]? = some x → w.cell? (ad.add j) = some x) (h1 : ∀ u ∈ xs, u.oneCell' = true) :
    Calls Tryz.prog 84 #[.slice A n c] w (RetCpd 34 n xs w) := by
  obtain ⟨i, hi, hz0, hz1, hz2⟩ := info_parts (show (Tryz.prog.info? 34).map (fun i => (i.zero, i.size, i.bytes)) = some (some (.slice none 0 0), 1, 24) from by kernel_rfl)
  obtain ⟨W1, hW1⟩ : ∃ W1, W1 = w.alloc (.cells (madeCells (.slice none 0 0 : Value).cells (n * 1)) 34) := ⟨_, rfl⟩
  have hmk : (Instr.makeSlice 35 (.int .i64 (n : Int)) (.int .i64 (n : Int))).run Tryz.prog w = .ok (.slice (some ⟨w.heap.size, 0, none⟩) n n) W1 := by
    have h := run_make (P := Tryz.prog) w 35 34 i (.slice none 0 0) Tryz.underlying35 hi hz0 .i64 .i64 n n (by omega) (by omega) (by rw [hz2]; omega) (by omega)
    rw [h, hz1, hW1]
    simp only [Int.toNat_natCast]
  have F1 : Fb W1 w.heap.size (madeCells (.slice none 0 0 : Value).cells (n * 1)) 34 := by rw [hW1]; exact Fb.new w _ _
  have B1 : Below w.heap.size w W1 := by rw [hW1]; exact (Below.refl _ _).alloc (Nat.le_refl _) _
  have hs1 : (madeCells (.slice none 0 0 : Value).cells (n * 1)).size = n * 1 := size_madeCells _ _
  have hsz : (Tryz.prog.info? 34).map (·.size) = some 1 := by rw [hi]; simp [hz1]
  obtain ⟨W2, hW2⟩ : ∃ W2, W2 = W1.setCells w.heap.size 0 xs := ⟨_, rfl⟩
  have F2 := hid (show Fb W2 w.heap.size xs.toArray 34 from by
    rw [hW2, ← lay_all (cur := madeCells (.slice none 0 0 : Value).cells (n * 1)) (by rw [hs1, hl])]
    exact fb_setCells xs 0 W1 _ F1 (by rw [hs1, hl]; omega))
  have B2 := hid (show Below w.heap.size w W2 from by rw [hW2]; exact B1.grown (grown_setCells w.heap.size xs _ _) B1.size (fun k e => by obtain rfl := Option.some.inj e; exact Nat.le_refl _))
  have hcp : ∀ ty, (Builtin.copy_ #[35, 35] ty #[.slice (some ⟨w.heap.size, 0, none⟩) n n, .slice A n c]).run Tryz.prog W1 = .ok (goInt ((n : Nat) : Int)) W2 := fun ty => by
    rcases hx with rfl | ⟨ad, rfl, hlt, hc⟩
    · have e0 : n = 0 := by simp only [List.length_nil] at hl; omega
      subst e0
      rw [hW2]
      exact run_copy_zero W1 35 35 ty 34 _ A _ _ Tryz.underlying35 (by rw [hsz]; rfl)
    · have hmn : Nat.min n n = n := Nat.min_self n
      have := run_copy_wide (P := Tryz.prog) W1 35 35 ty 34 1 w.heap.size 0 n n ad n c xs Tryz.underlying35 hsz (by rw [hmn, hl])
        (fun j x hx => (B1.cell (by rw [add_block]; exact hlt)).trans (hc j x hx))
        (fun j hj => by rw [F1.cell, Array.getElem?_eq_getElem (by rw [hs1]; omega)]; rfl) (fun j hj => F1.frozen _) h1
      rw [hmn] at this
      rw [this, hW2]
  have hmk' := hmk
  clear hW1 hW2 F1 B1 hs1 hsz hx h1 hl hi hz0 hz1 hz2 hmk
  go_enter Tryz.func84, Tryz.ntmps84
  go_wp2_with (at_builtin; refine wpList_copy_runI _ rfl _ _ 35 35 rfl _ _ rfl rfl (hcp _) ?_)
  exact bodyPost_ret (v := .slice (some ⟨w.heap.size, 0, none⟩) n n) (by simp [results, Tryz.results84, go_sem]) rfl ⟨rfl, F2.out, B2.out⟩
set_option maxHeartbeats 1600000 in
theorem cpdArc_any (A : Option Addr) (n c : Nat) (xs : List Value) (w : World) (hl : xs.length = n * 6) (hn : n ≤ 100000) (hx : xs = [] ∨ ∃ ad : Addr, A = some ad ∧ ad.block < w.heap.size ∧ ∀ (j : Nat) (x : Value), xs[j]? = some x → w.cell? (ad.add j) = some x) (h1 : ∀ u ∈ xs, u.oneCell' = true) :
    Calls Tryz.prog 86 #[.slice A n c] w (RetCpd 33 n xs w) := by
  obtain ⟨i, hi, hz0, hz1, hz2⟩ := info_parts (show (Tryz.prog.info? 33).map (fun i => (i.zero, i.size, i.bytes)) = some (some (.agg #[.int .i64 0, .int .i64 0, .slice none 0 0, .int .i64 0, .slice none 0 0, .slice none 0 0]), 6, 96) from by kernel_rfl)
  obtain ⟨W1, hW1⟩ : ∃ W1, W1 = w.alloc (.cells (madeCells (.agg #[.int .i64 0, .int .i64 0, .slice none 0 0, .int .i64 0, .slice none 0 0, .slice none 0 0] : Value).cells (n * 6)) 33) := ⟨_, rfl⟩
  have hmk : (Instr.makeSlice 34 (.int .i64 (n : Int)) (.int .i64 (n : Int))).run Tryz.prog w = .ok (.slice (some ⟨w.heap.size, 0, none⟩) n n) W1 := by
    have h := run_make (P := Tryz.prog) w 34 33 i (.agg #[.int .i64 0, .int .i64 0, .slice none 0 0, .int .i64 0, .slice none 0 0, .slice none 0 0]) Tryz.underlying34 hi hz0 .i64 .i64 n n (by omega) (by omega) (by rw [hz2]; omega) (by omega)
    rw [h, hz1, hW1]
    simp only [Int.toNat_natCast]
  have F1 : Fb W1 w.heap.size (madeCells (.agg #[.int .i64 0, .int .i64 0, .slice none 0 0, .int .i64 0, .slice none 0 0, .slice none 0 0] : Value).cells (n * 6)) 33 := by rw [hW1]; exact Fb.new w _ _
  have B1 : Below w.heap.size w W1 := by rw [hW1]; exact (Below.refl _ _).alloc (Nat.le_refl _) _
  have hs1 : (madeCells (.agg #[.int .i64 0, .int .i64 0, .slice none 0 0, .int .i64 0, .slice none 0 0, .slice none 0 0] : Value).cells (n * 6)).size = n * 6 := size_madeCells _ _
  have hsz : (Tryz.prog.info? 33).map (·.size) = some 6 := by rw [hi]; simp [hz1]
  obtain ⟨W2, hW2⟩ : ∃ W2, W2 = W1.setCells w.heap.size 0 xs := ⟨_, rfl⟩
  have F2 := hid (show Fb W2 w.heap.size xs.toArray 33 from by
    rw [hW2, ← lay_all (cur := madeCells (.agg #[.int .i64 0, .int .i64 0, .slice none 0 0, .int .i64 0, .slice none 0 0, .slice none 0 0] : Value).cells (n * 6)) (by rw [hs1, hl])]
    exact fb_setCells xs 0 W1 _ F1 (by rw [hs1, hl]; omega))
  have B2 := hid (show Below w.heap.size w W2 from by rw [hW2]; exact B1.grown (grown_setCells w.heap.size xs _ _) B1.size (fun k e => by obtain rfl := Option.some.inj e; exact Nat.le_refl _))
  have hcp : ∀ ty, (Builtin.copy_ #[34, 34] ty #[.slice (some ⟨w.heap.size, 0, none⟩) n n, .slice A n c]).run Tryz.prog W1 = .ok (goInt ((n : Nat) : Int)) W2 := fun ty => by
    rcases hx with rfl | ⟨ad, rfl, hlt, hc⟩
    · have e0 : n = 0 := by simp only [List.length_nil] at hl; omega
      subst e0
      rw [hW2]
      exact run_copy_zero W1 34 34 ty 33 _ A _ _ Tryz.underlying34 (by rw [hsz]; rfl)
    · have hmn : Nat.min n n = n := Nat.min_self n
      have := run_copy_wide (P := Tryz.prog) W1 34 34 ty 33 6 w.heap.size 0 n n ad n c xs Tryz.underlying34 hsz (by rw [hmn, hl])
        (fun j x hx => (B1.cell (by rw [add_block]; exact hlt)).trans (hc j x hx))
        (fun j hj => by rw [F1.cell, Array.getElem?_eq_getElem (by rw [hs1]; omega)]; rfl) (fun j hj => F1.frozen _) h1
      rw [hmn] at this
      rw [this, hW2]
  have hmk' := hmk
  clear hW1 hW2 F1 B1 hs1 hsz hx h1 hl hi hz0 hz1 hz2 hmk
  go_enter Tryz.func86, Tryz.ntmps86
  go_wp2_with (at_builtin; refine wpList_copy_runI _ rfl _ _ 34 34 rfl _ _ rfl rfl (hcp _) ?_)
  exact bodyPost_ret (v := .slice (some ⟨w.heap.size, 0, none⟩) n n) (by simp [results, Tryz.results86, go_sem]) rfl ⟨rfl, F2.out, B2.out⟩
set_option maxHeartbeats 1600000 in
theorem cpdCopy_any (A : Option Addr) (n c : Nat) (xs : List Value) (w : World) (hl : xs.length = n * 2) (hn : n ≤ 100000) (hx : xs = [] ∨ ∃ ad : Addr, A = some ad ∧ ad.block < w.heap.size ∧ ∀ (j : Nat) (x : Value), xs[j]? = some x → w.cell? (ad.add j) = some x) (h1 : ∀ u ∈ xs, u.oneCell' = true) :
    Calls Tryz.prog 87 #[.slice A n c] w (RetCpd 27 n xs w) := by
  obtain ⟨i, hi, hz0, hz1, hz2⟩ := info_parts (show (Tryz.prog.info? 27).map (fun i => (i.zero, i.size, i.bytes)) = some (some (.agg #[.int .i64 0, .int .i64 0]), 2, 16) from by kernel_rfl)
  obtain ⟨W1, hW1⟩ : ∃ W1, W1 = w.alloc (.cells (madeCells (.agg #[.int .i64 0, .int .i64 0] : Value).cells (n * 2)) 27) := ⟨_, rfl⟩
  have hmk : (Instr.makeSlice 28 (.int .i64 (n : Int)) (.int .i64 (n : Int))).run Tryz.prog w = .ok (.slice (some ⟨w.heap.size, 0, none⟩) n n) W1 := by
    have h := run_make (P := Tryz.prog) w 28 27 i (.agg #[.int .i64 0, .int .i64 0]) Tryz.underlying28 hi hz0 .i64 .i64 n n (by omega) (by omega) (by rw [hz2]; omega) (by omega)
    rw [h, hz1, hW1]
    simp only [Int.toNat_natCast]
  have F1 : Fb W1 w.heap.size (madeCells (.agg #[.int .i64 0, .int .i64 0] : Value).cells (n * 2)) 27 := by rw [hW1]; exact Fb.new w _ _
  have B1 : Below w.heap.size w W1 := by rw [hW1]; exact (Below.refl _ _).alloc (Nat.le_refl _) _
  have hs1 : (madeCells (.agg #[.int .i64 0, .int .i64 0] : Value).cells (n * 2)).size = n * 2 := size_madeCells _ _
  have hsz : (Tryz.prog.info? 27).map (·.size) = some 2 := by rw [hi]; simp [hz1]
  obtain ⟨W2, hW2⟩ : ∃ W2, W2 = W1.setCells w.heap.size 0 xs := ⟨_, rfl⟩
  have F2 := hid (show Fb W2 w.heap.size xs.toArray 27 from by
    rw [hW2, ← lay_all (cur := madeCells (.agg #[.int .i64 0, .int .i64 0] : Value).cells (n * 2)) (by rw [hs1, hl])]
    exact fb_setCells xs 0 W1 _ F1 (by rw [hs1, hl]; omega))
  have B2 := hid (show Below w.heap.size w W2 from by rw [hW2]; exact B1.grown (grown_setCells w.heap.size xs _ _) B1.size (fun k e => by obtain rfl := Option.some.inj e; exact Nat.le_refl _))
  have hcp : ∀ ty, (Builtin.copy_ #[28, 28] ty #[.slice (some ⟨w.heap.size, 0, none⟩) n n, .slice A n c]).run Tryz.prog W1 = .ok (goInt ((n : Nat) : Int)) W2 := fun ty => by
    rcases hx with rfl | ⟨ad, rfl, hlt, hc⟩
    · have e0 : n = 0 := by simp only [List.length_nil] at hl; omega
      subst e0
      rw [hW2]
      exact run_copy_zero W1 28 28 ty 27 _ A _ _ Tryz.underlying28 (by rw [hsz]; rfl)
    · have hmn : Nat.min n n = n := Nat.min_self n
      have := run_copy_wide (P := Tryz.prog) W1 28 28 ty 27 2 w.heap.size 0 n n ad n c xs Tryz.underlying28 hsz (by rw [hmn, hl])
        (fun j x hx => (B1.cell (by rw [add_block]; exact hlt)).trans (hc j x hx))
        (fun j hj => by rw [F1.cell, Array.getElem?_eq_getElem (by rw [hs1]; omega)]; rfl) (fun j hj => F1.frozen _) h1
      rw [hmn] at this
      rw [this, hW2]
  have hmk' := hmk
  clear hW1 hW2 F1 B1 hs1 hsz hx h1 hl hi hz0 hz1 hz2 hmk
  go_enter Tryz.func87, Tryz.ntmps87
  go_wp2_with (at_builtin; refine wpList_copy_runI _ rfl _ _ 28 28 rfl _ _ rfl rfl (hcp _) ?_)
  exact bodyPost_ret (v := .slice (some ⟨w.heap.size, 0, none⟩) n n) (by simp [results, Tryz.results87, go_sem]) rfl ⟨rfl, F2.out, B2.out⟩
set_option maxHeartbeats 1600000 in
theorem cpdWord_any (A : Option Addr) (n c : Nat) (xs : List Value) (w : World) (hl : xs.length = n * 1) (hn : n ≤ 100000) (hx : xs = [] ∨ ∃ ad : Addr, A = some ad ∧ ad.block < w.heap.size ∧ ∀ (j : Nat) (x : Value), xs[j]? = some x → w.cell? (ad.add j) = some x) (h1 : ∀ u ∈ xs, u.oneCell' = true) :
    Calls Tryz.prog 110 #[.slice A n c] w (RetCpd 97 n xs w) := by
  obtain ⟨i, hi, hz0, hz1, hz2⟩ := info_parts (show (Tryz.prog.info? 97).map (fun i => (i.zero, i.size, i.bytes)) = some (some (.int .u64 0), 1, 8) from by kernel_rfl)
  obtain ⟨W1, hW1⟩ : ∃ W1, W1 = w.alloc (.cells (madeCells (.int .u64 0 : Value).cells (n * 1)) 97) := ⟨_, rfl⟩
  have hmk : (Instr.makeSlice 22 (.int .i64 (n : Int)) (.int .i64 (n : Int))).run Tryz.prog w = .ok (.slice (some ⟨w.heap.size, 0, none⟩) n n) W1 := by
    have h := run_make (P := Tryz.prog) w 22 97 i (.int .u64 0) Tryz.underlying22 hi hz0 .i64 .i64 n n (by omega) (by omega) (by rw [hz2]; omega) (by omega)
    rw [h, hz1, hW1]
    simp only [Int.toNat_natCast]
  have F1 : Fb W1 w.heap.size (madeCells (.int .u64 0 : Value).cells (n * 1)) 97 := by rw [hW1]; exact Fb.new w _ _
  have B1 : Below w.heap.size w W1 := by rw [hW1]; exact (Below.refl _ _).alloc (Nat.le_refl _) _
  have hs1 : (madeCells (.int .u64 0 : Value).cells (n * 1)).size = n * 1 := size_madeCells _ _
  have hsz : (Tryz.prog.info? 97).map (·.size) = some 1 := by rw [hi]; simp [hz1]
  obtain ⟨W2, hW2⟩ : ∃ W2, W2 = W1.setCells w.heap.size 0 xs := ⟨_, rfl⟩
  have F2 := hid (show Fb W2 w.heap.size xs.toArray 97 from by
    rw [hW2, ← lay_all (cur := madeCells (.int .u64 0 : Value).cells (n * 1)) (by rw [hs1, hl])]
    exact fb_setCells xs 0 W1 _ F1 (by rw [hs1, hl]; omega))
  have B2 := hid (show Below w.heap.size w W2 from by rw [hW2]; exact B1.grown (grown_setCells w.heap.size xs _ _) B1.size (fun k e => by obtain rfl := Option.some.inj e; exact Nat.le_refl _))
  have hcp : ∀ ty, (Builtin.copy_ #[22, 22] ty #[.slice (some ⟨w.heap.size, 0, none⟩) n n, .slice A n c]).run Tryz.prog W1 = .ok (goInt ((n : Nat) : Int)) W2 := fun ty => by
    rcases hx with rfl | ⟨ad, rfl, hlt, hc⟩
    · have e0 : n = 0 := by simp only [List.length_nil] at hl; omega
      subst e0
      rw [hW2]
      exact run_copy_zero W1 22 22 ty 97 _ A _ _ Tryz.underlying22 (by rw [hsz]; rfl)
    · have hmn : Nat.min n n = n := Nat.min_self n
      have := run_copy_wide (P := Tryz.prog) W1 22 22 ty 97 1 w.heap.size 0 n n ad n c xs Tryz.underlying22 hsz (by rw [hmn, hl])
        (fun j x hx => (B1.cell (by rw [add_block]; exact hlt)).trans (hc j x hx))
        (fun j hj => by rw [F1.cell, Array.getElem?_eq_getElem (by rw [hs1]; omega)]; rfl) (fun j hj => F1.frozen _) h1
      rw [hmn] at this
      rw [this, hW2]
  have hmk' := hmk
  clear hW1 hW2 F1 B1 hs1 hsz hx h1 hl hi hz0 hz1 hz2 hmk
  go_enter Tryz.func110, Tryz.ntmps110
  go_wp2_with (at_builtin; refine wpList_copy_runI _ rfl _ _ 22 22 rfl _ _ rfl rfl (hcp _) ?_)
  exact bodyPost_ret (v := .slice (some ⟨w.heap.size, 0, none⟩) n n) (by simp [results, Tryz.results110, go_sem]) rfl ⟨rfl, F2.out, B2.out⟩
end Go.Proofs.YtbjaebbmajhjjaaGreat
namespace Go.Proofs.YtbjaebbmajhjjaaGreat
set_option linter.unusedVariables false
set_option linter.unusedSimpArgs false
section
variable {P : Program} {ops : Array Oper} {Q : Exit → Act → World → Prop}
theorem wpAny_factsI (G : Nat → World → Prop) (F : Nat → (Nat → Value) → World → Prop) (B : World → Prop) (use : Nat → Option Nat) (R : Nat → World → World → Prop) (m : Nat) (ds : List (Option Tmp)) (a0 : Act) (hds : ops.toList.map (·.dst) = ds) (hd : distB ds = true) (hb : backB ops = true) (ht : tailB2 ops m = true) (hm : m ≤ ops.size)
    (hst : ∀ j v w w' i f, R j w w' → i ≠ j → use i ≠ some j → (reachL ops 5 i).contains j = false → F i f w → F i (updV f j v) w')
    (hstG : ∀ j w w' c, R j w w' → c ≠ j → (reachL ops 5 j).contains c = false → G c w → G c w')
    (hstep : ∀ (i : Nat) (o : Oper) (f : Nat → Value) (w : World), ops[i]? = some o → i < m → B w → G i w → (∀ e ∈ o.after, Region.binds .any e = true → use e.on = none ∨ use e.on = some i → F e.on f w) → ∀ K : Act → World → Prop, (∀ v w', B w' → R i w w' → F i (updV f i v) w' → K ((putL ds f 0 a0).put o.dst v) w') → wpOp P ops Q i K (putL ds f 0 a0) w)
    (hend : ∀ (f : Nat → Value) (w : World), B w → (∀ i, i < m → use i = none → F i f w) → wpAny P .any ops Q (ops.size - m) (tailArr ops.size m) (putL ds f 0 a0) w) :
    ∀ (fuel : Nat) (listed : Array Bool) (f : Nat → Value) (w : World), listed.size = ops.size → (∀ i, m ≤ i → i < ops.size → listed.getD i true = false) → ClosedL ops listed → B w → (∀ c, listed.getD c false = false → G c w) → (∀ i, listed.getD i false = true → (∀ c, use i = some c → listed.getD c false = false) → F i f w) → listed.toList.count false = fuel →
      wpAny P .any ops Q fuel listed (putL ds f 0 a0) w := by
  intro fuel
  induction fuel with
  | zero =>
    intro listed f w hs htl hcl hB hGc hF hc
    have hall : ∀ i, i < m → listed.getD i false = true := by
      intro i hi
      have h1 : i < listed.size := by omega
      rw [getD_lt _ h1]
      cases hv : listed[i] with
      | true => rfl
      | false => exact absurd (List.count_pos_iff.2 (Array.mem_toList_iff.2 (hv ▸ Array.getElem_mem h1))) (by omega)
    have e : listed = tailArr ops.size m := by
      apply Array.ext
      · simp [tailArr]; omega
      · intro i h1 h2
        by_cases him : i < m
        · have := hall i him
          rw [getD_lt _ h1] at this
          rw [this]
          simp [tailArr, List.getElem_append, him]
        · have := htl i (by omega) (by omega)
          rw [getD_lt _ h1] at this
          rw [this]
          simp [tailArr, List.getElem_append, him]
    have hn : ops.size - m = 0 := by
      rw [e, tail_count] at hc
      exact hc
    have := hend f w hB fun i hi hu => hF i (hall i hi) (fun c hc => by rw [hu] at hc; cases hc)
    rw [hn] at this
    rw [e]; exact this
  | succ fuel ih =>
    intro listed f w hs htl hcl hB hGc hF hc
    by_cases hall : ∀ i, i < m → listed.getD i false = true
    · have e : listed = tailArr ops.size m := by
        apply Array.ext
        · simp [tailArr]; omega
        · intro i h1 h2
          by_cases him : i < m
          · have := hall i him
            rw [getD_lt _ h1] at this
            rw [this]
            simp [tailArr, List.getElem_append, him]
          · have := htl i (by omega) (by omega)
            rw [getD_lt _ h1] at this
            rw [this]
            simp [tailArr, List.getElem_append, him]
      have hn : ops.size - m = fuel + 1 := by
        rw [e, tail_count] at hc
        exact hc
      have := hend f w hB fun i hi hu => hF i (hall i hi) (fun c hc => by rw [hu] at hc; cases hc)
      rw [hn] at this
      rw [e]; exact this
    · have hun : ∃ i, i < m ∧ listed.getD i false = false := by
        refine Classical.byContradiction fun hno => hall fun i hi => ?_
        cases hv : listed.getD i false with
        | true => rfl
        | false => exact absurd ⟨i, hi, hv⟩ hno
      -- the first that has not come up may come up
      have hmin : ∀ n i, i ≤ n → i < m → listed.getD i false = false → ∃ j, j < m ∧ listed.getD j false = false ∧ ∀ k, k < j → listed.getD k false = true := by
        intro n
        induction n with
        | zero => intro i hi him hv; exact ⟨i, him, hv, fun k hk => by omega⟩
        | succ n ihn =>
          intro i hi him hv
          by_cases hex : ∃ k, k < i ∧ listed.getD k false = false
          · obtain ⟨k, hk, hkv⟩ := hex
            exact ihn k (by omega) (by omega) hkv
          · refine ⟨i, him, hv, fun k hk => ?_⟩
            cases hkv : listed.getD k false with
            | true => rfl
            | false => exact absurd ⟨k, hk, hkv⟩ hex
      obtain ⟨i0, hi0, hv0⟩ := hun
      obtain ⟨j0, hj0, hj1, hj2⟩ := hmin i0 i0 (Nat.le_refl _) hi0 hv0
      have hgd : ∀ i, i < ops.size → listed.getD i true = listed.getD i false := by
        intro i hi
        rw [getD_lt true (show i < listed.size by omega), getD_lt false (show i < listed.size by omega)]
      obtain ⟨oj, hoj⟩ : ∃ o, ops[j0]? = some o := ⟨_, Array.getElem?_eq_getElem (by omega)⟩
      have hrj : j0 ∈ Region.ready .any ops listed := mem_ready.2 ⟨by rw [hgd j0 (by omega)]; exact hj1, oj, hoj, fun e he hbe => hj2 _ (backB_spec hb hoj e he hbe)⟩
      refine ⟨fun h => (by rw [h] at hrj; cases hrj), fun i hi => ?_⟩
      obtain ⟨hiu, o, ho, hafter⟩ := mem_ready.1 hi
      have hin : i < ops.size := (Array.getElem?_eq_some_iff.1 ho).1
      have him : i < m := by
        rcases Nat.lt_or_ge i m with h | h
        · exact h
        · exfalso
          have := tailB2_spec ht ho h hcl hafter j0 hj0
          rw [hj1] at this
          cases this
      have hil : listed.getD i false = false := by rw [← hgd i hin]; exact hiu
      refine hstep i o f w ho him hB (hGc i hil) (fun e he hbe hu => hF e.on (hafter e he hbe) (fun c hc => by
        rcases hu with hu | hu
        · rw [hu] at hc; cases hc
        · rw [hu] at hc; obtain rfl := Option.some.inj hc; rw [← hgd i hin]; exact hiu)) _ fun v w' hB' hR hFi => ?_
      have hdi : ds[i]? = some o.dst := by
        rw [← hds, List.getElem?_map, Array.getElem?_toList, ho]; rfl
      rw [putL_at hd hdi]
      have hlf : listed.toList[i]? = some false := by
        rw [Array.getElem?_toList, Array.getElem?_eq_getElem (by omega)]
        rw [getD_lt _ (by omega)] at hiu
        exact congrArg some hiu
      refine ih _ _ _ (by simp [hs]) (fun k hk hk2 => ?_) (fun k ok hok hk e he hbe => ?_) hB' (fun k hk => ?_) (fun k hk hku => ?_) ?_
      · have hk3 : k < (listed.setIfInBounds i true).size := by rw [Array.size_setIfInBounds]; omega
        rw [getD_lt _ hk3, Array.getElem_setIfInBounds, if_neg (by omega)]
        have := htl k hk hk2
        rw [getD_lt _ (by omega)] at this
        exact this
      · have hdep : listed.getD e.on false = true := by
          by_cases hki : k = i
          · subst hki
            rw [ho] at hok
            obtain rfl := Option.some.inj hok
            exact hafter e he hbe
          · rw [getD_set_ne false (fun h => hki h.symm)] at hk
            exact hcl k ok hok hk e he hbe
        by_cases hei : e.on = i
        · rw [hei, getD_lt _ (by rw [Array.size_setIfInBounds]; omega), Array.getElem_setIfInBounds_self]
        · rw [getD_set_ne false (fun h => hei h.symm)]; exact hdep
      · by_cases e : k = i
        · subst e
          rw [getD_lt _ (by rw [Array.size_setIfInBounds]; omega), Array.getElem_setIfInBounds_self] at hk
          cases hk
        · rw [getD_set_ne false (by omega)] at hk
          refine hstG i w w' k hR e ?_ (hGc k hk)
          cases hc : (reachL ops 5 i).contains k with
          | false => rfl
          | true =>
            have h1 := reach_listed hcl 5 i (fun x hx => by
              unfold depsOf at hx
              rw [ho] at hx
              obtain ⟨e, he, rfl⟩ := List.mem_map.1 hx
              obtain ⟨he1, he2⟩ := List.mem_filter.1 he
              exact hafter e (Array.mem_toList_iff.1 he1) he2) k (List.contains_iff_mem.1 hc)
            rw [hk] at h1
            cases h1
      · by_cases e : k = i
        · subst e; exact hFi
        · have hki : use k ≠ some i := fun h => by
            have := hku i h
            rw [getD_lt _ (by rw [Array.size_setIfInBounds]; omega), Array.getElem_setIfInBounds_self] at this
            cases this
          rw [getD_set_ne false (by omega)] at hk
          refine hst i v w w' k f hR e hki ?_ (hF k hk fun c hc => ?_)
          · cases hc : (reachL ops 5 k).contains i with
            | false => rfl
            | true =>
              have h1 := reach_listed hcl 5 k (fun x hx => by
                unfold depsOf at hx
                split at hx
                · next ok hok =>
                  obtain ⟨e, he, rfl⟩ := List.mem_map.1 hx
                  obtain ⟨he1, he2⟩ := List.mem_filter.1 he
                  exact hcl k ok hok hk e (Array.mem_toList_iff.1 he1) he2
                · cases hx) i (List.contains_iff_mem.1 hc)
              rw [hil] at h1
              cases h1
          · have := hku c hc
            rw [getD_set_ne false (by intro h; exact hki (h ▸ hc))] at this
            exact this
      · have := count_set listed.toList i hlf
        rw [Array.toList_setIfInBounds]
        omega
theorem wp_region_factsI {id : Nat} {a0 : Act} {w : World} (G : Nat → World → Prop) (F : Nat → (Nat → Value) → World → Prop) (B : World → Prop) (use : Nat → Option Nat) (R : Nat → World → World → Prop) (K0 : Act → World → Prop) (hK0 : ∀ a w, K0 a w → Q .normal a w) (n m : Nat) (ds : List (Option Tmp)) (hn : ops.size = n) (hmix : P.follows .mixedOrders = true) (hds : ops.toList.map (·.dst) = ds) (hd : distB ds = true) (hb : backB ops = true) (ht : tailB2 ops m = true) (hm : m ≤ n)
    (hst : ∀ j v w w' i f, R j w w' → i ≠ j → use i ≠ some j → (reachL ops 5 i).contains j = false → F i f w → F i (updV f j v) w') (hB : B w.drew) (hG : ∀ c, G c w.drew) (hstG : ∀ j w w' c, R j w w' → c ≠ j → (reachL ops 5 j).contains c = false → G c w → G c w')
    (hstep : ∀ (i : Nat) (o : Oper) (f : Nat → Value) (w : World), ops[i]? = some o → i < m → B w → G i w → (∀ e ∈ o.after, Region.binds .any e = true → use e.on = none ∨ use e.on = some i → F e.on f w) → ∀ K : Act → World → Prop, (∀ v w', B w' → R i w w' → F i (updV f i v) w' → K ((putL ds f 0 a0).put o.dst v) w') → wpOp P ops Q i K (putL ds f 0 a0) w)
    (hend : ∀ (Q2 : Exit → Act → World → Prop), (∀ a w, K0 a w → Q2 .normal a w) → ∀ (f : Nat → Value) (w : World), B w → (∀ i, i < m → use i = none → F i f w) → wpAny P .any ops Q2 (n - m) (tailArr n m) (putL ds f 0 a0) w) :
    (Code.region id ops true).wp P Q a0 w := by
  subst hn
  refine wp_region_any hmix ?_
  have := wpAny_factsI G F B use R m ds a0 hds hd hb ht hm hst hstG hstep (hend Q hK0) ops.size (Array.replicate ops.size false) (fun j => slotV a0 ((ds[j - 0]?).getD none)) w.drew (by simp)
    (fun i _ hi => by simp [Array.getD, hi]) (fun k _ _ hk => by simp [Array.getD] at hk) hB (fun c _ => hG c) (fun i hi _ => by simp [Array.getD] at hi) (by simp)
  rw [putL_self] at this
  exact this
end
end Go.Proofs.YtbjaebbmajhjjaaGreat
namespace Go.Proofs.YtbjaebbmajhjjaaGreat
set_option maxRecDepth 20000
set_option linter.unusedVariables false
set_option linter.unusedSimpArgs false
open Go.ChangeShapes Go.WideShapes Go.ChangeAt Go.RowKit
theorem one_words (ws : List Nat) : ∀ u ∈ words ws, u.oneCell' = true := by
  intro u hu
  unfold words at hu
  obtain ⟨x, -, rfl⟩ := List.mem_map.1 hu
  rfl
theorem two_set {u : World} {b t : Nat} {x y : Value} (h : Fb u b #[x, y] t) (p q : Value) : Fb ((u.setCell ⟨b, 0, none⟩ p).setCell ⟨b, 1, none⟩ q) b #[p, q] t := (h.set 0 p).set 1 q
def csR (j : Nat) (u u' : World) : Prop := if j = 6 then Stp1 24 u u' else Below u.heap.size u u'
theorem csR_stp {j : Nat} {u u' : World} (h : csR j u u') : Stp1 24 u u' := by
  unfold csR at h
  split at h
  · exact h
  · exact Stp1.below h
theorem csR_bel {j : Nat} {u u' : World} (h : csR j u u') (hj : j ≠ 6) : Below u.heap.size u u' := by
  unfold csR at h
  rwa [if_neg hj] at h
theorem csR_of {j : Nat} {u u' : World} (h : Below u.heap.size u u') (hj : j ≠ 6) : csR j u u' := by
  unfold csR; rwa [if_neg hj]
theorem csR_refl (j : Nat) (u : World) (hj : j ≠ 6) : csR j u u := csR_of (Below.refl _ _) hj
theorem two_R {u : World} {b : Nat} {x y : Value} (h : Fb u b #[x, y] 24) (p q : Value) : csR 6 u ((u.setCell ⟨b, 0, none⟩ p).setCell ⟨b, 1, none⟩ q) := by
  unfold csR
  rw [if_pos rfl]
  exact ⟨some b, grown_trans (grown_set u b rfl p) (grown_set _ b rfl q), fun g e => by obtain rfl := Option.some.inj e; exact h.typ⟩
def csF (b : Nat) (W : Int) (A : Option Addr) (n c : Nat) (ws : List Nat) : Nat → (Nat → Value) → World → Prop
  | 0, f, u => f 0 = .pointer (some ⟨b, 0, none⟩)
  | 1, f, u => f 1 = .int .i64 W
  | 2, f, u => f 2 = .pointer (some ⟨b, 1, none⟩)
  | 3, f, u => f 3 = .slice A n c
  | 4, f, u => ∃ g, f 4 = .slice (some ⟨g, 0, none⟩) n n ∧ Row u g ws ∧ b ≤ g
  | 5, f, u => ∃ g, f 5 = .agg #[.int .i64 W, .slice (some ⟨g, 0, none⟩) n n] ∧ Row u g ws ∧ b ≤ g
  | 6, f, u => ∃ g, Fb u (b + 1) #[.int .i64 W, .slice (some ⟨g, 0, none⟩) n n] 24 ∧ Row u g ws ∧ b ≤ g
  | _, _, _ => True
def csU : Nat → Option Nat
  | _ => none
theorem csF_st {b : Nat} {W : Int} {A : Option Addr} {n c : Nat} {ws : List Nat} {ops : Array Oper}  (jx : Nat) (vx : Value) (u u' : World) (ix : Nat) (f : Nat → Value) (hR : csR  jx u u') (hne : ix ≠ jx) (hu : csU ix ≠ some jx) (hc : (reachL ops 5 ix).contains jx = false) (h : csF b W A n c ws ix f u) : csF b W A n c ws ix (updV f jx vx) u' := by
  match ix, hne, hu, hc, h with
  | 0, hne, hu, hc, h => exact (updV_ne f vx hne).trans h
  | 1, hne, hu, hc, h => exact (updV_ne f vx hne).trans h
  | 2, hne, hu, hc, h => exact (updV_ne f vx hne).trans h
  | 3, hne, hu, hc, h => exact (updV_ne f vx hne).trans h
  | 4, hne, hu, hc, h => obtain ⟨g, h1, h2, h3⟩ := h; exact ⟨g, (updV_ne f vx hne).trans h1, (csR_stp hR).row h2 (by decide), h3⟩
  | 5, hne, hu, hc, h => obtain ⟨g, h1, h2, h3⟩ := h; exact ⟨g, (updV_ne f vx hne).trans h1, (csR_stp hR).row h2 (by decide), h3⟩
  | 6, hne, hu, hc, h => obtain ⟨g, h1, h2, h3⟩ := h; have hb := csR_bel hR (fun e => hne e.symm); exact ⟨g, h1.below hb h1.lt, h2.below hb h2.lt, h3⟩
  | ix + 7, _, _, _, _ => trivial
def RetCst (w : World) (W : Int) (n : Nat) (ws : List Nat) (e : Ending) (w' : World) : Prop :=
  ∃ g, e = .returned (.agg #[.int .i64 W, .slice (some ⟨g, 0, none⟩) n n]) ∧ Row w' g ws ∧ w.heap.size ≤ g ∧ Below w.heap.size w w'
set_option maxHeartbeats 1600000 in
theorem copiedSetE_any (W : Int) (A : Option Addr) (n c : Nat) (ws : List Nat) (w : World) (hA : Arg w A n ws) (hn : n ≤ 100000) :
    Calls Tryz.prog 85 #[.agg #[.int .i64 W, .slice A n c]] w (RetCst w W n ws) := by
  have H1 := (Below.refl w.heap.size w).alloc (Nat.le_refl _) (.cells #[.int .i64 W, .slice A n c] 24)
  have HBel := hid (H1.alloc H1.size (.cells #[.int .i64 0, .slice none 0 0] 24))
  have hbx := Fb.new w #[.int .i64 W, .slice A n c] 24
  have HBx := hid (show Fb ((w.alloc (.cells #[.int .i64 W, .slice A n c] 24)).alloc (.cells #[.int .i64 0, .slice none 0 0] 24)) w.heap.size #[.int .i64 W, .slice A n c] 24 from hbx.below ((Below.refl _ _).alloc (Nat.le_refl _) _) hbx.lt)
  have HZ := hid (show Fb ((w.alloc (.cells #[.int .i64 W, .slice A n c] 24)).alloc (.cells #[.int .i64 0, .slice none 0 0] 24)) (w.heap.size + 1) #[.int .i64 0, .slice none 0 0] 24 from by
    have := Fb.new (w.alloc (.cells #[.int .i64 W, .slice A n c] 24)) #[.int .i64 0, .slice none 0 0] 24
    simpa using this)
  have HA := hid (hA.below HBel.out)
  clear H1 hbx hA
  go_enter Tryz.func85, Tryz.ntmps85
  go_upto_region 1 with fail
  rename_i Kx hKx
  generalize (w.alloc (.cells #[.int .i64 W, .slice A n c] 24)).alloc (.cells #[.int .i64 0, .slice none 0 0] 24) = w2 at *
  refine wp_region_factsI (fun j u => (j = 4 ∨ j = 6) → Arg u A n ws ∧ Fb u (w.heap.size + 1) #[.int .i64 0, .slice none 0 0] 24) (csF w.heap.size W A n c ws) (fun u => Fb u w.heap.size #[.int .i64 W, .slice A n c] 24 ∧ Below w.heap.size w u) csU (csR ) Kx (fun _ _ h => h) 7 7 (some 3 :: some 4 :: some 5 :: some 6 :: some 7 :: some 8 :: none :: []) (by kernel_rfl) (by kernel_rfl) (by kernel_rfl) (by kernel_rfl) (by kernel_rfl) (by kernel_rfl) (by decide)
    (csF_st) ?bs ?gb ?gs ?ar ?en
  case bs => exact ⟨(HBx.out.below (Below.refl _ _).drew HBx.out.lt), HBel.out.drew⟩
  case gb =>
    exact fun c _ => ⟨HA.out.below (Below.refl _ _).drew, HZ.out.below (Below.refl _ _).drew HZ.out.lt⟩
  case gs =>
    intro j u u' c hR hne hnr hG hc
    have hj : j ≠ 6 := by
      rintro rfl
      rcases hc with rfl | rfl
      · exact Bool.false_ne_true (hnr.symm.trans (by kernel_rfl))
      · exact hne rfl
    have hb := csR_bel hR hj
    obtain ⟨h1, h2⟩ := hG hc
    exact ⟨h1.below hb, h2.below hb h2.lt⟩
  case ar =>
    intro j o f u ho hi hB hG hpre K hK
    match j, ho, hG, hpre, hK with
    | 0, ho, hG, hpre, hK =>
      obtain rfl := Option.some.inj ho
      refine wpOp_step rfl fun K' hK' => ?_
      simp only [putL, updV]
      go_simp
      have hz := hK' _ _ (hK (.pointer (some ⟨w.heap.size, 0, none⟩)) (u) (hB) (csR_refl _ _ (by decide)) (rfl))
      refine Eq.mp (congrArg (fun act => K' act (u)) ?_) hz
      kernel_rfl
    | 1, ho, hG, hpre, hK =>
      obtain rfl := Option.some.inj ho
      obtain ⟨x0, x1⟩ := hB.1.two
      have hl := hB.1.lt
      have e0 : f 0 = .pointer (some ⟨w.heap.size, 0, none⟩) := hpre ⟨0, .data⟩ (by simp) rfl (.inl rfl)
      obtain ⟨f, rfl⟩ := fixG f 0 _ e0
      clear e0
      refine wpOp_step rfl fun K' hK' => ?_
      simp only [putL, updV]
      go_simp
      have hz := hK' _ _ (hK (.int .i64 W) (u) (hB) (csR_refl _ _ (by decide)) (rfl))
      refine Eq.mp (congrArg (fun act => K' act (u)) ?_) hz
      kernel_rfl
    | 2, ho, hG, hpre, hK =>
      obtain rfl := Option.some.inj ho
      refine wpOp_step rfl fun K' hK' => ?_
      simp only [putL, updV]
      go_simp
      have hz := hK' _ _ (hK (.pointer (some ⟨w.heap.size, 1, none⟩)) (u) (hB) (csR_refl _ _ (by decide)) (rfl))
      refine Eq.mp (congrArg (fun act => K' act (u)) ?_) hz
      kernel_rfl
    | 3, ho, hG, hpre, hK =>
      obtain rfl := Option.some.inj ho
      obtain ⟨x0, x1⟩ := hB.1.two
      have hl := hB.1.lt
      have e2 : f 2 = .pointer (some ⟨w.heap.size, 1, none⟩) := hpre ⟨2, .data⟩ (by simp) rfl (.inl rfl)
      obtain ⟨f, rfl⟩ := fixG f 2 _ e2
      clear e2
      refine wpOp_step rfl fun K' hK' => ?_
      simp only [putL, updV]
      go_simp
      have hz := hK' _ _ (hK (.slice A n c) (u) (hB) (csR_refl _ _ (by decide)) (rfl))
      refine Eq.mp (congrArg (fun act => K' act (u)) ?_) hz
      kernel_rfl
    | 4, ho, hG, hpre, hK =>
      obtain rfl := Option.some.inj ho
      have e3 : f 3 = .slice A n c := hpre ⟨3, .data⟩ (by simp) rfl (.inl rfl)
      obtain ⟨f, rfl⟩ := fixG f 3 _ e3
      clear e3
      refine wpOp_step rfl fun K' hK' => ?_
      simp only [putL, updV]
      go_simp
      go_at_call 110
      refine (cpdWord_any A n c (words ws) u (by rw [Nat.mul_one]; exact (words_len ws).trans (hG (.inl rfl)).1.len) hn (hG (.inl rfl)).1.lies (one_words ws)).mono ?_
      rintro e u5 ⟨rfl, hr, hb⟩
      have hz := hK' _ _ (hK (.slice (some ⟨u.heap.size, 0, none⟩) n n) (u5) (⟨hB.1.below hb hB.1.lt, below_step hB.2 hb⟩) (csR_of hb (by decide)) (⟨_, rfl, hr, hB.2.size⟩))
      refine Eq.mp (congrArg (fun act => K' act (u5)) ?_) hz
      kernel_rfl
    | 5, ho, hG, hpre, hK =>
      obtain rfl := Option.some.inj ho
      have e1 : f 1 = .int .i64 W := hpre ⟨1, .data⟩ (by simp) rfl (.inl rfl)
      obtain ⟨g, e4, hr, hgb⟩ : ∃ g : Nat, f 4 = .slice (some ⟨g, 0, none⟩) n n ∧ Row u g ws ∧ w.heap.size ≤ g := hpre ⟨4, .data⟩ (by simp) rfl (.inl rfl)
      obtain ⟨f, rfl⟩ := fixG f 1 _ e1
      rw [updV_ne _ _ (by decide)] at e4
      obtain ⟨f, rfl⟩ := fixG f 4 _ e4
      clear e1 e4
      refine wpOp_step rfl fun K' hK' => ?_
      simp only [putL, updV]
      go_simp
      have hz := hK' _ _ (hK (.agg #[.int .i64 W, .slice (some ⟨g, 0, none⟩) n n]) (u) (hB) (csR_refl _ _ (by decide)) (⟨g, rfl, hr, hgb⟩))
      refine Eq.mp (congrArg (fun act => K' act (u)) ?_) hz
      kernel_rfl
    | 6, ho, hG, hpre, hK =>
      obtain rfl := Option.some.inj ho
      have hz := (hG (.inr rfl)).2
      obtain ⟨z0, z1⟩ := hz.two
      have f0 := hz.frozen 0
      have f1 := hz.frozen 1
      have hl := hz.lt
      obtain ⟨g, e5, hr, hgb⟩ : ∃ g : Nat, f 5 = .agg #[.int .i64 W, .slice (some ⟨g, 0, none⟩) n n] ∧ Row u g ws ∧ w.heap.size ≤ g := hpre ⟨5, .data⟩ (by simp) rfl (.inl rfl)
      obtain ⟨f, rfl⟩ := fixG f 5 _ e5
      clear e5
      refine wpOp_step rfl fun K' hK' => ?_
      simp only [putL, updV]
      go_simp
      have hz := hK' _ _ (hK (undef) ((u.setCell ⟨w.heap.size + 1, 0, none⟩ (.int .i64 W)).setCell ⟨w.heap.size + 1, 1, none⟩ (.slice (some ⟨g, 0, none⟩) n n)) (⟨(hB.1.far (by show w.heap.size ≠ w.heap.size + 1; omega) _).far (by show w.heap.size ≠ w.heap.size + 1; omega) _, (hB.2.setCell (by show w.heap.size ≤ w.heap.size + 1; omega) _).setCell (by show w.heap.size ≤ w.heap.size + 1; omega) _⟩) (two_R hz _ _) (⟨g, two_set hz _ _, ((stp_cell hz 0 _).row hr (by decide)).far (by exact (hr.typ.ne hz.typ (by decide))) _, hgb⟩))
      refine Eq.mp (congrArg (fun act => K' act ((u.setCell ⟨w.heap.size + 1, 0, none⟩ (.int .i64 W)).setCell ⟨w.heap.size + 1, 1, none⟩ (.slice (some ⟨g, 0, none⟩) n n))) ?_) hz
      kernel_rfl
    | j + 7, ho, hG, hpre, hK => exact absurd hi (by omega)
  case en =>
    intro Q2 hQ2 f u hB hF
    obtain ⟨g, hfb, hr, hgb⟩ : ∃ g : Nat, Fb u (w.heap.size + 1) #[.int .i64 W, .slice (some ⟨g, 0, none⟩) n n] 24 ∧ Row u g ws ∧ w.heap.size ≤ g := hF 6 (by decide) rfl
    have Hfb := hid hfb
    have Hr := hid hr
    have HB := hid hB
    obtain ⟨c0, c1⟩ := hfb.two
    clear hF
    show wpAny _ _ _ _ 0 (tailArr 7 7) _ _
    refine ⟨by kernel_rfl, hQ2 _ _ (hKx _ _ ?_)⟩
    simp only [putL, updV]
    clear hfb hr hB HA HZ HBx HBel
    go_wp2_with fail
    exact bodyPost_ret (v := .agg #[.int .i64 W, .slice (some ⟨g, 0, none⟩) n n]) (by simp [results, Tryz.results85, go_sem, c0, c1]) rfl ⟨g, rfl, Hr.out, hgb, HB.out.2⟩
end Go.Proofs.YtbjaebbmajhjjaaGreat
namespace Go.Proofs.YtbjaebbmajhjjaaGreat
set_option maxRecDepth 20000
set_option linter.unusedVariables false
set_option linter.unusedSimpArgs false
open Go.ChangeShapes Go.WideShapes Go.ChangeAt Go.RowKit
structure Cw (w0 : World) (v N gB gI K : Nat) (B : List ZH) (M : List Value) (J : List AL) (u : World) : Prop where
  bel : Below w0.heap.size w0 u
  gb : w0.heap.size ≤ gB
  gi : w0.heap.size ≤ gI
  fb : Fb u gB (B.flatMap ZH.cs).toArray 24
  fi : Fb u gI M.toArray 34
  bl : B.length = N
  ml : M.length = N
  bt : ∀ (j : Nat) (z : ZH), j < K → B[j]? = some z → ZWt u v z
  rt : ∀ r ∈ J, RowA w0.heap.size u v N r
  ap : ∀ (j k : Nat) (x y : AL) (g : Nat), J[j]? = some x → J[k]? = some y → x.v.ownBlock = some g → y.v.ownBlock = some g → j = k
section
variable {w0 u u' : World} {v N gB gI K : Nat} {B : List ZH} {M : List Value} {J : List AL}
theorem Cw.ow (h : Cw w0 v N gB gI N B M J u) (hj : J.length = N) : Ow w0 v N gB gI B M J u :=
  ⟨h.bel, h.gb, h.gi, h.fb, h.fi, h.bl, h.ml, hj, fun z hz => by
    obtain ⟨j, hj⟩ := List.mem_iff_getElem?.1 hz
    exact h.bt j z (by rw [← h.bl]; exact (List.getElem?_eq_some_iff.1 hj).1) hj, h.rt, h.ap⟩
theorem Cw.below (h : Cw w0 v N gB gI K B M J u) (hb : Below u.heap.size u u') : Cw w0 v N gB gI K B M J u' :=
  ⟨below_step h.bel hb, h.gb, h.gi, h.fb.below hb h.fb.lt, h.fi.below hb h.fi.lt, h.bl, h.ml, fun j z hj hz => (h.bt j z hj hz).below hb, fun r hr => (h.rt r hr).below hb, h.ap⟩
theorem Cw.cellM (h : Cw w0 v N gB gI K B M J u) {k : Nat} {x : Value} (hk : M[k]? = some x) : u.cell? ⟨gI, k, none⟩ = some x := by rw [h.fi.cell]; simpa using hk
theorem Cw.cellB (h : Cw w0 v N gB gI K B M J u) {k : Nat} {z : ZH} (hk : B[k]? = some z) : u.cell? ⟨gB, k * 2, none⟩ = some (.int .i64 z.W) ∧ u.cell? ⟨gB, k * 2 + 1, none⟩ = some (.slice z.A z.n z.c) := by
  have h0 := flat_cell ZH.cs_len hk (j := 0) (by decide)
  have h1 := flat_cell ZH.cs_len hk (j := 1) (by decide)
  rw [Nat.add_zero] at h0
  constructor
  · rw [h.fb.cell]; simpa [ZH.cs] using h0
  · rw [h.fb.cell]; simpa [ZH.cs] using h1
theorem Cw.setM (h : Cw w0 v N gB gI K B M J u) {k : Nat} (x : Value) : Cw w0 v N gB gI K B (M.set k x) J (u.setCell ⟨gI, k, none⟩ x) := by
  have hs := stp_cell h.fi k x
  have hfi := h.fi.set k x
  rw [List.setIfInBounds_toArray] at hfi
  exact ⟨below_set h.bel h.gi x, h.gb, h.gi, hs.fb h.fb (by decide), hfi, h.bl, by rw [List.length_set]; exact h.ml, fun j z hj hz => (h.bt j z hj hz).stp hs (by decide), fun r hr => (h.rt r hr).stp hs (by decide) (by decide) (by decide), h.ap⟩
theorem Cw.setB (h : Cw w0 v N gB gI K B M J u) (hk : K < N) {z : ZH} (hz : ZWt u v z) : Cw w0 v N gB gI (K + 1) (B.set K z) M J ((u.setCell ⟨gB, K * 2, none⟩ (.int .i64 z.W)).setCell ⟨gB, K * 2 + 1, none⟩ (.slice z.A z.n z.c)) := by
  have s1 := stp_cell h.fb (K * 2) (.int .i64 z.W)
  have f1 := h.fb.set (K * 2) (.int .i64 z.W)
  have s2 := stp_cell f1 (K * 2 + 1) (.slice z.A z.n z.c)
  have f2 := f1.set (K * 2 + 1) (.slice z.A z.n z.c)
  rw [List.setIfInBounds_toArray, List.setIfInBounds_toArray, flat_put (by rw [h.bl]; exact hk)] at f2
  refine ⟨below_set (below_set h.bel h.gb _) h.gb _, h.gb, h.gi, f2, s2.fb (s1.fb h.fi (by decide)) (by decide), by rw [List.length_set]; exact h.bl, h.ml, fun j y hj hy => ?_, fun r hr => ((h.rt r hr).stp s1 (by decide) (by decide) (by decide)).stp s2 (by decide) (by decide) (by decide), h.ap⟩
  by_cases e : j = K
  · subst e
    rw [List.getElem?_set_self (by rw [h.bl]; exact hk)] at hy
    obtain rfl := Option.some.inj hy
    exact (hz.stp s1 (by decide)).stp s2 (by decide)
  · rw [List.getElem?_set_ne (fun e' => e e'.symm)] at hy
    exact ((h.bt j y (by omega) hy).stp s1 (by decide)).stp s2 (by decide)
theorem Cw.push (h : Cw w0 v N gB gI K B M J u) {r : AL} (hr : RowA w0.heap.size u v N r) (hne : ∀ y ∈ J, ∀ g, y.v.ownBlock = some g → r.v.ownBlock ≠ some g) : Cw w0 v N gB gI K B M (J ++ [r]) u := by
  refine ⟨h.bel, h.gb, h.gi, h.fb, h.fi, h.bl, h.ml, h.bt, fun y hy => ?_, fun j k x y g hj hk hx hy => ?_⟩
  · rcases List.mem_append.1 hy with hy | hy
    · exact h.rt y hy
    · rw [List.mem_singleton.1 hy]; exact hr
  · have key : ∀ {j : Nat} {x : AL}, (J ++ [r])[j]? = some x → (j < J.length ∧ J[j]? = some x) ∨ (j = J.length ∧ x = r) := fun {j x} hj => by
      rcases Nat.lt_or_ge j J.length with h1 | h1
      · rw [List.getElem?_append_left h1] at hj; exact .inl ⟨h1, hj⟩
      · rw [List.getElem?_append_right h1] at hj
        obtain ⟨h2, -⟩ := List.getElem?_eq_some_iff.1 hj
        simp only [List.length_singleton] at h2
        rw [show j - J.length = 0 by omega] at hj
        exact .inr ⟨by omega, by simpa using hj.symm⟩
    rcases key hj with ⟨_, h1⟩ | ⟨e1, rfl⟩ <;> rcases key hk with ⟨_, h2⟩ | ⟨e2, e3⟩
    · exact h.ap j k x y g h1 h2 hx hy
    · subst e3; exact absurd hy (hne x (List.mem_of_getElem? h1) g hx)
    · exact absurd hx (hne y (List.mem_of_getElem? h2) g hy)
    · omega
end
structure Cp (w0 : World) (v N gB gI K gr i : Nat) (B : List ZH) (M : List Value) (J : List AL) (src l : List AH) (u : World) : Prop where
  cw : Cw w0 v N gB gI K B M J u
  fr : Fb u gr (l.flatMap AH.cells).toArray 33
  ge : w0.heap.size ≤ gr
  ne : ∀ y ∈ J, y.v.ownBlock ≠ some gr
  len : l.length = src.length
  lo : ∀ (j : Nat) (a s : AH), j < i → l[j]? = some a → src[j]? = some s → a.m = s.m ∧ a.f.pf = s.f.pf ∧ FWt u v a.f
  hi : ∀ j : Nat, i ≤ j → l[j]? = src[j]?
section
variable {w0 u u' : World} {v N gB gI K gr i : Nat} {B : List ZH} {M : List Value} {J : List AL} {src l : List AH}
theorem Cp.below (h : Cp w0 v N gB gI K gr i B M J src l u) (hb : Below u.heap.size u u') : Cp w0 v N gB gI K gr i B M J src l u' :=
  ⟨h.cw.below hb, h.fr.below hb h.fr.lt, h.ge, h.ne, h.len, fun j a s hj ha hs => by obtain ⟨h1, h2, h3⟩ := h.lo j a s hj ha hs; exact ⟨h1, h2, h3.below hb⟩, h.hi⟩
theorem Cp.put (h : Cp w0 v N gB gI K gr i B M J src l u) {a : AH} {f : FH} (hi : src[i]? = some a) (hf : FWt u v f) (he : f.pf = a.f.pf) : Cp w0 v N gB gI K gr (i + 1) B M J src (l.set i (arcSet a f)) (putF u gr (i * 6 + 1) f) := by
  have hG := putF_grown u gr (i * 6 + 1) f
  have hs : Stp1 33 u (putF u gr (i * 6 + 1) f) := ⟨_, hG, fun k e => by obtain rfl := Option.some.inj e; exact h.fr.typ⟩
  have hil := (List.getElem?_eq_some_iff.1 hi).1
  have hli : l[i]? = some a := by rw [h.hi i (Nat.le_refl _)]; exact hi
  refine ⟨⟨h.cw.bel.grown hG h.cw.bel.size (fun k e => by obtain rfl := Option.some.inj e; exact h.ge), h.cw.gb, h.cw.gi, hs.fb h.cw.fb (by decide), hs.fb h.cw.fi (by decide), h.cw.bl, h.cw.ml, fun j z hj hz => (h.cw.bt j z hj hz).stp hs (by decide), fun y hy => ?_, h.cw.ap⟩, ?_, h.ge, h.ne, by rw [List.length_set]; exact h.len, fun j x s hj hx hsr => ?_, fun j hj => by rw [List.getElem?_set_ne (by omega)]; exact h.hi j (by omega)⟩
  · have hy2 := h.cw.rt y hy
    refine ⟨hy2.own.kept hG ?_, fun a ha => (hy2.arcs a ha).stp hs (by decide) (by decide), hy2.ris⟩
    exact .inr (h.ne y hy)
  · have f5 := ((((h.fr.set (i * 6 + 1) (.int .i64 f.G.W)).set (i * 6 + 1 + 1) (.slice f.G.A f.G.n f.G.c)).set (i * 6 + 1 + 2) (.int .i64 f.K.W)).set (i * 6 + 1 + 3) (.slice f.K.A f.K.n f.K.c)).set (i * 6 + 1 + 4) (.slice f.C f.k f.q)
    rw [List.setIfInBounds_toArray, List.setIfInBounds_toArray, List.setIfInBounds_toArray, List.setIfInBounds_toArray, List.setIfInBounds_toArray] at f5
    rw [← flat_putF hli]
    exact f5
  · by_cases e : j = i
    · subst e
      rw [hi] at hsr
      obtain rfl := Option.some.inj hsr
      rw [List.getElem?_set_self (by rw [h.len]; exact hil)] at hx
      obtain rfl := Option.some.inj hx
      exact ⟨rfl, he, hf.stp hs (by decide) (by decide)⟩
    · rw [List.getElem?_set_ne (fun e' => e e'.symm)] at hx
      obtain ⟨h1, h2, h3⟩ := h.lo j x s (by omega) hx hsr
      exact ⟨h1, h2, h3.stp hs (by decide) (by decide)⟩
theorem Cp.ms (h : Cp w0 v N gB gI K gr i B M J src l u) (hi : src.length ≤ i) : l.map AH.pa = src.map AH.pa ∧ l.map AH.m = src.map AH.m := by
  have key : ∀ j : Nat, (l.map fun a => (a.m, a.f.pf))[j]? = (src.map fun a => (a.m, a.f.pf))[j]? := fun j => by
    rw [List.getElem?_map, List.getElem?_map]
    rcases Nat.lt_or_ge j src.length with h1 | h1
    · obtain ⟨a, ha⟩ : ∃ a, l[j]? = some a := ⟨_, List.getElem?_eq_getElem (by rw [h.len]; exact h1)⟩
      obtain ⟨s, hs⟩ : ∃ s, src[j]? = some s := ⟨_, List.getElem?_eq_getElem h1⟩
      obtain ⟨e1, e2, -⟩ := h.lo j a s (by omega) ha hs
      rw [ha, hs]
      simp [e1, e2]
    · rw [List.getElem?_eq_none (by rw [h.len]; omega), List.getElem?_eq_none h1]
  have e := List.ext_getElem? key
  constructor
  · have := congrArg (List.map fun p : Int × Pf => (p.1.toNat, p.2)) e
    rw [List.map_map, List.map_map] at this
    exact this
  · have := congrArg (List.map fun p : Int × Pf => p.1) e
    simpa [List.map_map, Function.comp_def] using this
theorem Cp.row (h : Cp w0 v N gB gI K gr i B M J src l u) (hi : src.length ≤ i) (hr : RisP N (src.map AH.m)) (hN : N ≤ 256) : RowA w0.heap.size u v N ⟨some ⟨gr, 0, none⟩, src.length, src.length, l⟩ := by
  have hlf : (l.flatMap AH.cells).length = src.length * 6 := by rw [flat_len AH.cells_len, h.len]
  have hsl : src.length ≤ N := by have := ris_len hr; rwa [List.length_map] at this
  refine ⟨⟨hlf, .inr ⟨gr, src.length, _, rfl, h.ge, h.fr, Nat.le_refl _, by unfold maxLen; omega, by rw [List.size_toArray]; exact hlf, List.take_of_length_le (Nat.le_of_eq hlf)⟩⟩, fun a ha => ?_, by show RisP N (l.map AH.m); rw [(h.ms hi).2]; exact hr⟩
  obtain ⟨j, hj⟩ := List.mem_iff_getElem?.1 ha
  have hjl : j < l.length := (List.getElem?_eq_some_iff.1 hj).1
  obtain ⟨s, hs⟩ : ∃ s, src[j]? = some s := ⟨_, List.getElem?_eq_getElem (by rw [← h.len]; exact hjl)⟩
  exact (h.lo j a s (by have := h.len; omega) hj hs).2.2
end
theorem Ow.stp {w0 u u' : World} {v N gB gI t : Nat} {B : List ZH} {M : List Value} {J : List AL} (h : Ow w0 v N gB gI B M J u) (hs : Stp1 t u u') (hb : Below w0.heap.size w0 u') (h1 : 24 ≠ t) (h2 : 34 ≠ t) (h3 : 97 ≠ t) (h4 : 27 ≠ t) (h5 : 33 ≠ t) : Ow w0 v N gB gI B M J u' :=
  ⟨hb, h.gb, h.gi, hs.fb h.fb h1, hs.fb h.fi h2, h.bl, h.ml, h.jl, fun z hz => (h.bt z hz).stp hs h3, fun r hr => (h.rt r hr).stp hs h3 h4 h5, h.ap⟩
structure CsV (Bl : List ZH) (Il : List AL) (k : Nat) (B : List ZH) (M : List Value) (J : List AL) : Prop where
  jl : J.length = k
  ml : ∀ j : Nat, j < k → M[j]? = (J[j]?).map AL.v
  mh : ∀ j : Nat, k ≤ j → M[j]? = (Il[j]?).map AL.v
  bl : ∀ (j : Nat) (z y : ZH), j < k → B[j]? = some z → Bl[j]? = some y → z.ws = y.ws
  bh : ∀ j : Nat, k ≤ j → B[j]? = Bl[j]?
  jv : J.map AL.pa = (Il.take k).map AL.pa
theorem CsV.start (Bl : List ZH) (Il : List AL) : CsV Bl Il 0 Bl (Il.map AL.v) [] :=
  ⟨rfl, fun j h => by omega, fun j _ => by rw [List.getElem?_map], fun j z y h => by omega, fun j _ => rfl, rfl⟩
theorem CsV.next {Bl : List ZH} {Il : List AL} {k : Nat} {B : List ZH} {M : List Value} {J : List AL} (h : CsV Bl Il k B M J) {z y : ZH} {s r : AL} (hk : k < B.length) (hm : k < M.length) (hy : Bl[k]? = some y) (hz : z.ws = y.ws) (hs : Il[k]? = some s) (hr : r.pa = s.pa) : CsV Bl Il (k + 1) (B.set k z) (M.set k r.v) (J ++ [r]) := by
  refine ⟨by rw [List.length_append, h.jl]; rfl, fun j hj => ?_, fun j hj => by rw [List.getElem?_set_ne (by omega)]; exact h.mh j (by omega), fun j a b hj ha hb => ?_, fun j hj => by rw [List.getElem?_set_ne (by omega)]; exact h.bh j (by omega), ?_⟩
  · by_cases e : j = k
    · subst e
      rw [List.getElem?_set_self hm, List.getElem?_append_right (by rw [h.jl]; exact Nat.le_refl _), h.jl, Nat.sub_self]; rfl
    · rw [List.getElem?_set_ne (fun e' => e e'.symm), List.getElem?_append_left (by rw [h.jl]; omega)]
      exact h.ml j (by omega)
  · by_cases e : j = k
    · subst e
      rw [List.getElem?_set_self hk] at ha
      obtain rfl := Option.some.inj ha
      rw [hy] at hb
      obtain rfl := Option.some.inj hb
      exact hz
    · rw [List.getElem?_set_ne (fun e' => e e'.symm)] at ha
      exact h.bl j a b (by omega) ha hb
  · rw [List.map_append, h.jv, List.take_add_one, hs, List.map_append]
    simp [hr]
theorem CsV.done {Bl : List ZH} {Il : List AL} {N : Nat} {B : List ZH} {M : List Value} {J : List AL} (h : CsV Bl Il N B M J) (hm : M.length = N) (hB : B.length = N) (hl : Bl.length = N) (hi : Il.length = N) : M = J.map AL.v ∧ B.map ZH.ws = Bl.map ZH.ws ∧ J.map AL.pa = Il.map AL.pa := by
  refine ⟨List.ext_getElem? fun j => ?_, List.ext_getElem? fun j => ?_, by rw [h.jv, List.take_of_length_le (by omega)]⟩
  · rw [List.getElem?_map]
    rcases Nat.lt_or_ge j N with h1 | h1
    · exact h.ml j h1
    · rw [List.getElem?_eq_none (by omega), List.getElem?_eq_none (by rw [h.jl]; exact h1)]; rfl
  · rw [List.getElem?_map, List.getElem?_map]
    rcases Nat.lt_or_ge j N with h1 | h1
    · obtain ⟨z, hz⟩ : ∃ z, B[j]? = some z := ⟨_, List.getElem?_eq_getElem (by omega)⟩
      obtain ⟨y, hy⟩ : ∃ y, Bl[j]? = some y := ⟨_, List.getElem?_eq_getElem (by omega)⟩
      rw [hz, hy, Option.map_some, Option.map_some, h.bl j z y h1 hz hy]
    · rw [List.getElem?_eq_none (by omega), List.getElem?_eq_none (by omega)]
end Go.Proofs.YtbjaebbmajhjjaaGreat
namespace Go.Proofs.YtbjaebbmajhjjaaGreat
set_option maxRecDepth 20000
set_option linter.unusedVariables false
set_option linter.unusedSimpArgs false
open Go.ChangeShapes Go.WideShapes Go.ChangeAt Go.RowKit
def zWeb : Array Value := #[.int .i64 0, .slice none 0 0, .slice none 0 0]
theorem three_set {u : World} {b t : Nat} {x y z : Value} (h : Fb u b #[x, y, z] t) (p q r : Value) : Fb (((u.setCell ⟨b, 0, none⟩ p).setCell ⟨b, 1, none⟩ q).setCell ⟨b, 2, none⟩ r) b #[p, q, r] t := ((h.set 0 p).set 1 q).set 2 r
theorem three_stp {u : World} {b t : Nat} {cs : Array Value} (h : Fb u b cs t) (p q r : Value) : Stp1 t u (((u.setCell ⟨b, 0, none⟩ p).setCell ⟨b, 1, none⟩ q).setCell ⟨b, 2, none⟩ r) :=
  ⟨some b, grown_trans (grown_trans (grown_set u b rfl p) (grown_set _ b rfl q)) (grown_set _ b rfl r), fun g e => by obtain rfl := Option.some.inj e; exact h.typ⟩
theorem Stp1.fb3 {t t' : Nat} {w w' : World} (h : Stp1 t w w') {g : Nat} {cs : Array Value} (hf : Fb w g cs t') (ht : t' ≠ t) : Fb w' g cs t' := h.fb hf ht
theorem two_cells {u : World} {b t : Nat} {cs : Array Value} (h : Fb u b cs t) (i j : Nat) (p q : Value) : Stp1 t u ((u.setCell ⟨b, i, none⟩ p).setCell ⟨b, j, none⟩ q) :=
  ⟨some b, grown_trans (grown_set u b rfl p) (grown_set _ b rfl q), fun g e => by obtain rfl := Option.some.inj e; exact h.typ⟩
theorem putF_stp {u : World} {g t : Nat} {cs : Array Value} (h : Fb u g cs t) (o : Nat) (f : FH) : Stp1 t u (putF u g o f) := ⟨some g, putF_grown u g o f, fun k e => by obtain rfl := Option.some.inj e; exact h.typ⟩
theorem one_sets (l : List ZH) : ∀ u ∈ l.flatMap ZH.cs, u.oneCell' = true := by
  intro u hu
  obtain ⟨a, -, ha⟩ := List.mem_flatMap.1 hu
  simp only [ZH.cs, List.mem_cons, List.not_mem_nil, or_false] at ha
  rcases ha with rfl | rfl <;> rfl
theorem one_rows (l : List AL) : ∀ u ∈ l.map AL.v, u.oneCell' = true := by
  intro u hu
  obtain ⟨a, -, rfl⟩ := List.mem_map.1 hu
  rfl
theorem one_pairs (cs : List (Int × Int)) : ∀ u ∈ pairs cs, u.oneCell' = true := by
  intro u hu
  unfold pairs at hu
  obtain ⟨p, -, hp⟩ := List.mem_flatMap.1 hu
  simp only [List.mem_cons, List.not_mem_nil, or_false] at hp
  rcases hp with rfl | rfl <;> rfl
theorem pairs_len2 (cs : List (Int × Int)) : (pairs cs).length = cs.length * 2 := by
  unfold pairs
  induction cs with
  | nil => rfl
  | cons p cs ih => rw [List.flatMap_cons, List.length_append, ih, List.length_cons]; simp; omega
theorem CopT.fb {u : World} {g : Nat} {cs : List (Int × Int)} (h : Fb u g (pairs cs).toArray 27) : CopT u (some ⟨g, 0, none⟩) cs.length cs :=
  ⟨⟨.inr ⟨_, rfl, h.lt, fun j x hx => by rw [add_of, h.cell]; simpa using hx⟩, rfl⟩, .inr ⟨_, rfl, h.typ⟩⟩
theorem new_f {u : World} {v gG gK gC : Nat} {f : FH} (ha : FArg u f.G.A f.G.n f.K.A f.K.n f.C f.k f.G.ws f.K.ws f.cs) (ho : FOk v f) (h1 : Row u gG f.G.ws) (h2 : Row u gK f.K.ws) (h3 : Fb u gC (pairs f.cs).toArray 27) :
    FWt u v ⟨⟨f.G.W, some ⟨gG, 0, none⟩, f.G.n, f.G.n, f.G.ws⟩, ⟨f.K.W, some ⟨gK, 0, none⟩, f.K.n, f.K.n, f.K.ws⟩, some ⟨gC, 0, none⟩, f.k, f.k, f.cs⟩ := by
  have a1 := ArgT.row h1 ha.gen.ok
  have a2 := ArgT.row h2 ha.kill.ok
  have a3 := CopT.fb h3
  rw [ha.gen.len] at a1
  rw [ha.kill.len] at a2
  rw [ha.cops.len] at a3
  exact ⟨⟨ho.w1, ho.w2, ho.ok⟩, a1, a2, a3⟩
theorem fr_cells {u : World} {g t : Nat} {l : List AH} (h : Fb u g (l.flatMap AH.cells).toArray t) {i : Nat} {a : AH} (hi : l[i]? = some a) :
    u.cell? ⟨g, i * 6, none⟩ = some (.int .i64 a.m) ∧ u.cell? ⟨g, i * 6 + 1, none⟩ = some (.int .i64 a.f.G.W) ∧ u.cell? ⟨g, i * 6 + 1 + 1, none⟩ = some (.slice a.f.G.A a.f.G.n a.f.G.c) ∧
    u.cell? ⟨g, i * 6 + 1 + 2, none⟩ = some (.int .i64 a.f.K.W) ∧ u.cell? ⟨g, i * 6 + 1 + 3, none⟩ = some (.slice a.f.K.A a.f.K.n a.f.K.c) ∧ u.cell? ⟨g, i * 6 + 1 + 4, none⟩ = some (.slice a.f.C a.f.k a.f.q) := by
  have key : ∀ j, j < 6 → u.cell? ⟨g, i * 6 + j, none⟩ = (a.cells)[j]? := fun j hj => by
    rw [h.cell]
    have := flat_cell AH.cells_len hi hj
    simpa using this
  exact ⟨key 0 (by decide), key 1 (by decide), key 2 (by decide), key 3 (by decide), key 4 (by decide), key 5 (by decide)⟩
structure Bx (w0 : World) (WO WS : Array Value) (bO : Nat) (u : World) : Prop where
  oo : Fb u bO WO 37
  ss : Fb u w0.heap.size WS 37
  zz : Fb u (w0.heap.size + 1) zWeb 37
  bel : Below w0.heap.size w0 u
theorem Bx.below {w0 u u' : World} {WO WS : Array Value} {bO : Nat} (h : Bx w0 WO WS bO u) (hb : Below u.heap.size u u') : Bx w0 WO WS bO u' := ⟨h.oo.below hb h.oo.lt, h.ss.below hb h.ss.lt, h.zz.below hb h.zz.lt, below_step h.bel hb⟩
theorem Bx.put {w0 u u' : World} {WO WS : Array Value} {bO t : Nat} (h : Bx w0 WO WS bO u) (hs : Stp1 t u u') (ht : 37 ≠ t) (hb : Below w0.heap.size w0 u') : Bx w0 WO WS bO u' := ⟨hs.fb h.oo ht, hs.fb h.ss ht, hs.fb h.zz ht, hb⟩
def c1R (j : Nat) (u u' : World) : Prop := if j = 10 then Stp1 37 u u' else Below u.heap.size u u'
theorem c1R_stp {j : Nat} {u u' : World} (h : c1R j u u') : Stp1 37 u u' := by
  unfold c1R at h
  split at h
  · exact h
  · exact Stp1.below h
theorem c1R_bel {j : Nat} {u u' : World} (h : c1R j u u') (hj : j ≠ 10) : Below u.heap.size u u' := by
  unfold c1R at h
  rwa [if_neg hj] at h
theorem c1R_of {j : Nat} {u u' : World} (h : Below u.heap.size u u') (hj : j ≠ 10) : c1R j u u' := by
  unfold c1R; rwa [if_neg hj]
theorem c1R_refl (j : Nat) (u : World) (hj : j ≠ 10) : c1R j u u := c1R_of (Below.refl _ _) hj
theorem c1R_w {u u' : World} (h : Stp1 37 u u') : c1R 10 u u' := by unfold c1R; rw [if_pos rfl]; exact h
def c1F (b : Nat) (v N : Nat) (adB adI : Addr) (bc ic : Nat) (Bl : List ZH) (Il : List AL) : Nat → (Nat → Value) → World → Prop
  | 0, f, u => f 0 = .pointer (some ⟨b, 0, none⟩)
  | 1, f, u => f 1 = .int .i64 v
  | 2, f, u => f 2 = .pointer (some ⟨b, 1, none⟩)
  | 3, f, u => f 3 = .slice (some adB) N bc
  | 4, f, u => ∃ gB, f 4 = .slice (some ⟨gB, 0, none⟩) N N ∧ Fb u gB (Bl.flatMap ZH.cs).toArray 24 ∧ b ≤ gB
  | 5, f, u => f 5 = .pointer (some ⟨b, 2, none⟩)
  | 6, f, u => f 6 = .slice (some adI) N ic
  | 7, f, u => ∃ gI, f 7 = .slice (some ⟨gI, 0, none⟩) N N ∧ Fb u gI (Il.map AL.v).toArray 34 ∧ b ≤ gI
  | 8, f, u => ∃ gB gI, f 8 = .agg #[.int .i64 v, .slice (some ⟨gB, 0, none⟩) N N, .slice (some ⟨gI, 0, none⟩) N N] ∧ Fb u gB (Bl.flatMap ZH.cs).toArray 24 ∧ Fb u gI (Il.map AL.v).toArray 34 ∧ b ≤ gB ∧ b ≤ gI
  | 9, f, u => ∃ bO, f 9 = .pointer (some ⟨bO, 0, none⟩) ∧ Fb u bO zWeb 37 ∧ b + 1 < bO
  | 10, f, u => ∃ bO gB gI, f 9 = .pointer (some ⟨bO, 0, none⟩) ∧ Fb u bO #[.int .i64 v, .slice (some ⟨gB, 0, none⟩) N N, .slice (some ⟨gI, 0, none⟩) N N] 37 ∧ b + 1 < bO ∧ Fb u gB (Bl.flatMap ZH.cs).toArray 24 ∧ Fb u gI (Il.map AL.v).toArray 34 ∧ b ≤ gB ∧ b ≤ gI
  | _, _, _ => True
def c1U : Nat → Option Nat
  | 9 => some 10
  | _ => none
theorem c1F_st {b : Nat} {v N : Nat} {adB adI : Addr} {bc ic : Nat} {Bl : List ZH} {Il : List AL} {ops : Array Oper} (hq10 : ∀ j, (reachL ops 5 10).contains j = false → j ≠ 9)  (jx : Nat) (vx : Value) (u u' : World) (ix : Nat) (f : Nat → Value) (hR : c1R  jx u u') (hne : ix ≠ jx) (hu : c1U ix ≠ some jx) (hc : (reachL ops 5 ix).contains jx = false) (h : c1F b v N adB adI bc ic Bl Il ix f u) : c1F b v N adB adI bc ic Bl Il ix (updV f jx vx) u' := by
  match ix, hne, hu, hc, h with
  | 0, hne, hu, hc, h => exact (updV_ne f vx hne).trans h
  | 1, hne, hu, hc, h => exact (updV_ne f vx hne).trans h
  | 2, hne, hu, hc, h => exact (updV_ne f vx hne).trans h
  | 3, hne, hu, hc, h => exact (updV_ne f vx hne).trans h
  | 4, hne, hu, hc, h => obtain ⟨g, h1, h2, h3⟩ := h; exact ⟨g, (updV_ne f vx hne).trans h1, (c1R_stp hR).fb h2 (by decide), h3⟩
  | 5, hne, hu, hc, h => exact (updV_ne f vx hne).trans h
  | 6, hne, hu, hc, h => exact (updV_ne f vx hne).trans h
  | 7, hne, hu, hc, h => obtain ⟨g, h1, h2, h3⟩ := h; exact ⟨g, (updV_ne f vx hne).trans h1, (c1R_stp hR).fb h2 (by decide), h3⟩
  | 8, hne, hu, hc, h => obtain ⟨g, g', h1, h2, h3, h4⟩ := h; exact ⟨g, g', (updV_ne f vx hne).trans h1, (c1R_stp hR).fb h2 (by decide), (c1R_stp hR).fb h3 (by decide), h4⟩
  | 9, hne, hu, hc, h => obtain ⟨g, h1, h2, h3⟩ := h; have hb := c1R_bel hR (fun e => hu (by rw [e]; rfl)); exact ⟨g, (updV_ne f vx hne).trans h1, h2.below hb h2.lt, h3⟩
  | 10, hne, hu, hc, h => obtain ⟨bO, g, g', h1, h2, h3, h4, h5, h6⟩ := h; have hb := c1R_bel hR (fun e => hne e.symm); exact ⟨bO, g, g', (updV_ne f vx (fun e => hq10 jx hc e.symm)).trans h1, h2.below hb h2.lt, h3, h4.below hb h4.lt, h5.below hb h5.lt, h6⟩
  | ix + 11, _, _, _, _ => trivial
def c5R (j : Nat) (u u' : World) : Prop := if j = 10 then Stp1 24 u u' else Below u.heap.size u u'
theorem c5R_stp {j : Nat} {u u' : World} (h : c5R j u u') : Stp1 24 u u' := by
  unfold c5R at h
  split at h
  · exact h
  · exact Stp1.below h
theorem c5R_bel {j : Nat} {u u' : World} (h : c5R j u u') (hj : j ≠ 10) : Below u.heap.size u u' := by
  unfold c5R at h
  rwa [if_neg hj] at h
theorem c5R_of {j : Nat} {u u' : World} (h : Below u.heap.size u u') (hj : j ≠ 10) : c5R j u u' := by
  unfold c5R; rwa [if_neg hj]
theorem c5R_refl (j : Nat) (u : World) (hj : j ≠ 10) : c5R j u u := c5R_of (Below.refl _ _) hj
theorem c5R_w {u u' : World} (h : Stp1 24 u u') : c5R 10 u u' := by unfold c5R; rw [if_pos rfl]; exact h
def c5F (w : World) (v N gB gI bO k : Nat) (adB : Addr) (bc : Nat) (W : Int) (A : Option Addr) (n c : Nat) (ws : List Nat) (B : List ZH) (M : List Value) (J : List AL) : Nat → (Nat → Value) → World → Prop
  | 0, f, u => f 0 = .pointer (some ⟨bO, 1, none⟩)
  | 1, f, u => f 1 = .slice (some ⟨gB, 0, none⟩) N N
  | 2, f, u => f 2 = .int .i64 (k : Int)
  | 3, f, u => f 3 = .pointer (some ⟨w.heap.size, 1, none⟩)
  | 4, f, u => f 4 = .slice (some adB) N bc
  | 5, f, u => f 5 = .int .i64 (k : Int)
  | 6, f, u => f 6 = .pointer (some (adB.add (k * 2)))
  | 7, f, u => f 7 = .agg #[.int .i64 W, .slice A n c]
  | 8, f, u => ∃ g, f 8 = .agg #[.int .i64 W, .slice (some ⟨g, 0, none⟩) n n] ∧ Row u g ws
  | 9, f, u => f 9 = .pointer (some ⟨gB, k * 2, none⟩)
  | 10, f, u => ∃ g, Cw w v N gB gI (k + 1) (B.set k ⟨W, some ⟨g, 0, none⟩, n, n, ws⟩) M J u
  | _, _, _ => True
def c5U : Nat → Option Nat
  | _ => none
theorem c5F_st {w : World} {v N gB gI bO k : Nat} {adB : Addr} {bc : Nat} {W : Int} {A : Option Addr} {n c : Nat} {ws : List Nat} {B : List ZH} {M : List Value} {J : List AL} {ops : Array Oper}  (jx : Nat) (vx : Value) (u u' : World) (ix : Nat) (f : Nat → Value) (hR : c5R  jx u u') (hne : ix ≠ jx) (hu : c5U ix ≠ some jx) (hc : (reachL ops 5 ix).contains jx = false) (h : c5F w v N gB gI bO k adB bc W A n c ws B M J ix f u) : c5F w v N gB gI bO k adB bc W A n c ws B M J ix (updV f jx vx) u' := by
  match ix, hne, hu, hc, h with
  | 0, hne, hu, hc, h => exact (updV_ne f vx hne).trans h
  | 1, hne, hu, hc, h => exact (updV_ne f vx hne).trans h
  | 2, hne, hu, hc, h => exact (updV_ne f vx hne).trans h
  | 3, hne, hu, hc, h => exact (updV_ne f vx hne).trans h
  | 4, hne, hu, hc, h => exact (updV_ne f vx hne).trans h
  | 5, hne, hu, hc, h => exact (updV_ne f vx hne).trans h
  | 6, hne, hu, hc, h => exact (updV_ne f vx hne).trans h
  | 7, hne, hu, hc, h => exact (updV_ne f vx hne).trans h
  | 8, hne, hu, hc, h => obtain ⟨g, h1, h2⟩ := h; exact ⟨g, (updV_ne f vx hne).trans h1, (c5R_stp hR).row h2 (by decide)⟩
  | 9, hne, hu, hc, h => exact (updV_ne f vx hne).trans h
  | 10, hne, hu, hc, h => obtain ⟨g, h1⟩ := h; exact ⟨g, h1.below (c5R_bel hR (fun e => hne e.symm))⟩
  | ix + 11, _, _, _, _ => trivial
def c6R (j : Nat) (u u' : World) : Prop := if j = 6 then Stp1 34 u u' else Below u.heap.size u u'
theorem c6R_stp {j : Nat} {u u' : World} (h : c6R j u u') : Stp1 34 u u' := by
  unfold c6R at h
  split at h
  · exact h
  · exact Stp1.below h
theorem c6R_bel {j : Nat} {u u' : World} (h : c6R j u u') (hj : j ≠ 6) : Below u.heap.size u u' := by
  unfold c6R at h
  rwa [if_neg hj] at h
theorem c6R_of {j : Nat} {u u' : World} (h : Below u.heap.size u u') (hj : j ≠ 6) : c6R j u u' := by
  unfold c6R; rwa [if_neg hj]
theorem c6R_refl (j : Nat) (u : World) (hj : j ≠ 6) : c6R j u u := c6R_of (Below.refl _ _) hj
theorem c6R_w {u u' : World} (h : Stp1 34 u u') : c6R 6 u u' := by unfold c6R; rw [if_pos rfl]; exact h
def c6F (w : World) (v N gB gI bO k : Nat) (rA : Option Addr) (rn rc : Nat) (src : List AH) (B5 : List ZH) (M : List Value) (J : List AL) : Nat → (Nat → Value) → World → Prop
  | 0, f, u => f 0 = .pointer (some ⟨bO, 2, none⟩)
  | 1, f, u => f 1 = .slice (some ⟨gI, 0, none⟩) N N
  | 2, f, u => f 2 = .int .i64 (k : Int)
  | 3, f, u => f 3 = .slice rA rn rc
  | 4, f, u => ∃ g, f 4 = .slice (some ⟨g, 0, none⟩) rn rn ∧ Fb u g (src.flatMap AH.cells).toArray 33 ∧ w.heap.size ≤ g ∧ ∀ y ∈ J, y.v.ownBlock ≠ some g
  | 5, f, u => f 5 = .pointer (some ⟨gI, k, none⟩)
  | 6, f, u => ∃ g, Cp w v N gB gI (k + 1) g 0 B5 (M.set k (.slice (some ⟨g, 0, none⟩) rn rn)) J src src u
  | _, _, _ => True
def c6U : Nat → Option Nat
  | _ => none
theorem c6F_st {w : World} {v N gB gI bO k : Nat} {rA : Option Addr} {rn rc : Nat} {src : List AH} {B5 : List ZH} {M : List Value} {J : List AL} {ops : Array Oper}  (jx : Nat) (vx : Value) (u u' : World) (ix : Nat) (f : Nat → Value) (hR : c6R  jx u u') (hne : ix ≠ jx) (hu : c6U ix ≠ some jx) (hc : (reachL ops 5 ix).contains jx = false) (h : c6F w v N gB gI bO k rA rn rc src B5 M J ix f u) : c6F w v N gB gI bO k rA rn rc src B5 M J ix (updV f jx vx) u' := by
  match ix, hne, hu, hc, h with
  | 0, hne, hu, hc, h => exact (updV_ne f vx hne).trans h
  | 1, hne, hu, hc, h => exact (updV_ne f vx hne).trans h
  | 2, hne, hu, hc, h => exact (updV_ne f vx hne).trans h
  | 3, hne, hu, hc, h => exact (updV_ne f vx hne).trans h
  | 4, hne, hu, hc, h => obtain ⟨g, h1, h2, h3⟩ := h; exact ⟨g, (updV_ne f vx hne).trans h1, (c6R_stp hR).fb h2 (by decide), h3⟩
  | 5, hne, hu, hc, h => exact (updV_ne f vx hne).trans h
  | 6, hne, hu, hc, h => obtain ⟨g, h1⟩ := h; exact ⟨g, h1.below (c6R_bel hR (fun e => hne e.symm))⟩
  | ix + 7, _, _, _, _ => trivial
def c0R (j : Nat) (u u' : World) : Prop := if j = 21 then Stp1 33 u u' else Below u.heap.size u u'
theorem c0R_stp {j : Nat} {u u' : World} (h : c0R j u u') : Stp1 33 u u' := by
  unfold c0R at h
  split at h
  · exact h
  · exact Stp1.below h
theorem c0R_bel {j : Nat} {u u' : World} (h : c0R j u u') (hj : j ≠ 21) : Below u.heap.size u u' := by
  unfold c0R at h
  rwa [if_neg hj] at h
theorem c0R_of {j : Nat} {u u' : World} (h : Below u.heap.size u u') (hj : j ≠ 21) : c0R j u u' := by
  unfold c0R; rwa [if_neg hj]
theorem c0R_refl (j : Nat) (u : World) (hj : j ≠ 21) : c0R j u u := c0R_of (Below.refl _ _) hj
theorem c0R_w {u u' : World} (h : Stp1 33 u u') : c0R 21 u u' := by unfold c0R; rw [if_pos rfl]; exact h
def c0F (w : World) (v N gB gI bO k gr i bA rn : Nat) (a : AH) (B5 : List ZH) (M6 : List Value) (J : List AL) (src l : List AH) : Nat → (Nat → Value) → World → Prop
  | 0, f, u => f 0 = .pointer (some ⟨bO, 2, none⟩)
  | 1, f, u => f 1 = .slice (some ⟨gI, 0, none⟩) N N
  | 2, f, u => f 2 = .int .i64 (k : Int)
  | 3, f, u => f 3 = .pointer (some ⟨gI, k, none⟩)
  | 4, f, u => f 4 = .slice (some ⟨gr, 0, none⟩) rn rn
  | 5, f, u => f 5 = .int .i64 (i : Int)
  | 6, f, u => f 6 = .pointer (some ⟨bA, 1, none⟩)
  | 7, f, u => f 7 = .pointer (some ⟨bA, 1, none⟩)
  | 8, f, u => f 8 = .agg #[.int .i64 a.f.G.W, .slice a.f.G.A a.f.G.n a.f.G.c]
  | 9, f, u => ∃ g, f 9 = .agg #[.int .i64 a.f.G.W, .slice (some ⟨g, 0, none⟩) a.f.G.n a.f.G.n] ∧ Row u g a.f.G.ws
  | 10, f, u => f 10 = .pointer (some ⟨bA, 1, none⟩)
  | 11, f, u => f 11 = .pointer (some ⟨bA, 3, none⟩)
  | 12, f, u => f 12 = .agg #[.int .i64 a.f.K.W, .slice a.f.K.A a.f.K.n a.f.K.c]
  | 13, f, u => ∃ g, f 13 = .agg #[.int .i64 a.f.K.W, .slice (some ⟨g, 0, none⟩) a.f.K.n a.f.K.n] ∧ Row u g a.f.K.ws
  | 14, f, u => f 14 = .pointer (some ⟨bA, 1, none⟩)
  | 15, f, u => f 15 = .pointer (some ⟨bA, 5, none⟩)
  | 16, f, u => f 16 = .slice a.f.C a.f.k a.f.q
  | 17, f, u => ∃ g, f 17 = .slice (some ⟨g, 0, none⟩) a.f.k a.f.k ∧ Fb u g (pairs a.f.cs).toArray 27
  | 18, f, u => ∃ gG gK gC, f 18 = .agg #[.int .i64 a.f.G.W, .slice (some ⟨gG, 0, none⟩) a.f.G.n a.f.G.n, .int .i64 a.f.K.W, .slice (some ⟨gK, 0, none⟩) a.f.K.n a.f.K.n, .slice (some ⟨gC, 0, none⟩) a.f.k a.f.k] ∧ Row u gG a.f.G.ws ∧ Row u gK a.f.K.ws ∧ Fb u gC (pairs a.f.cs).toArray 27
  | 19, f, u => f 19 = .pointer (some ⟨gr, i * 6, none⟩)
  | 20, f, u => f 20 = .pointer (some ⟨gr, i * 6 + 1, none⟩)
  | 21, f, u => ∃ l2, Cp w v N gB gI (k + 1) gr (i + 1) B5 M6 J src l2 u
  | _, _, _ => True
def c0U : Nat → Option Nat
  | _ => none
theorem c0F_st {w : World} {v N gB gI bO k gr i bA rn : Nat} {a : AH} {B5 : List ZH} {M6 : List Value} {J : List AL} {src l : List AH} {ops : Array Oper}  (jx : Nat) (vx : Value) (u u' : World) (ix : Nat) (f : Nat → Value) (hR : c0R  jx u u') (hne : ix ≠ jx) (hu : c0U ix ≠ some jx) (hc : (reachL ops 5 ix).contains jx = false) (h : c0F w v N gB gI bO k gr i bA rn a B5 M6 J src l ix f u) : c0F w v N gB gI bO k gr i bA rn a B5 M6 J src l ix (updV f jx vx) u' := by
  match ix, hne, hu, hc, h with
  | 0, hne, hu, hc, h => exact (updV_ne f vx hne).trans h
  | 1, hne, hu, hc, h => exact (updV_ne f vx hne).trans h
  | 2, hne, hu, hc, h => exact (updV_ne f vx hne).trans h
  | 3, hne, hu, hc, h => exact (updV_ne f vx hne).trans h
  | 4, hne, hu, hc, h => exact (updV_ne f vx hne).trans h
  | 5, hne, hu, hc, h => exact (updV_ne f vx hne).trans h
  | 6, hne, hu, hc, h => exact (updV_ne f vx hne).trans h
  | 7, hne, hu, hc, h => exact (updV_ne f vx hne).trans h
  | 8, hne, hu, hc, h => exact (updV_ne f vx hne).trans h
  | 9, hne, hu, hc, h => obtain ⟨g, h1, h2⟩ := h; exact ⟨g, (updV_ne f vx hne).trans h1, (c0R_stp hR).row h2 (by decide)⟩
  | 10, hne, hu, hc, h => exact (updV_ne f vx hne).trans h
  | 11, hne, hu, hc, h => exact (updV_ne f vx hne).trans h
  | 12, hne, hu, hc, h => exact (updV_ne f vx hne).trans h
  | 13, hne, hu, hc, h => obtain ⟨g, h1, h2⟩ := h; exact ⟨g, (updV_ne f vx hne).trans h1, (c0R_stp hR).row h2 (by decide)⟩
  | 14, hne, hu, hc, h => exact (updV_ne f vx hne).trans h
  | 15, hne, hu, hc, h => exact (updV_ne f vx hne).trans h
  | 16, hne, hu, hc, h => exact (updV_ne f vx hne).trans h
  | 17, hne, hu, hc, h => obtain ⟨g, h1, h2⟩ := h; exact ⟨g, (updV_ne f vx hne).trans h1, (c0R_stp hR).fb h2 (by decide)⟩
  | 18, hne, hu, hc, h => obtain ⟨g1, g2, g3, h1, h2, h3, h4⟩ := h; exact ⟨g1, g2, g3, (updV_ne f vx hne).trans h1, (c0R_stp hR).row h2 (by decide), (c0R_stp hR).row h3 (by decide), (c0R_stp hR).fb h4 (by decide)⟩
  | 19, hne, hu, hc, h => exact (updV_ne f vx hne).trans h
  | 20, hne, hu, hc, h => exact (updV_ne f vx hne).trans h
  | 21, hne, hu, hc, h => obtain ⟨l2, h1⟩ := h; exact ⟨l2, h1.below (c0R_bel hR (fun e => hne e.symm))⟩
  | ix + 22, _, _, _, _ => trivial
def RetCwb (w : World) (v N : Nat) (x : WB) (e : Ending) (w' : World) : Prop :=
  ∃ (gB gI : Nat) (B : List ZH) (J : List AL), e = .returned (.agg #[.int .i64 v, .slice (some ⟨gB, 0, none⟩) N N, .slice (some ⟨gI, 0, none⟩) N N]) ∧ Ow w v N gB gI B (J.map AL.v) J w' ∧ B.map ZH.ws = x.B.l.map ZH.ws ∧ J.map AL.pa = x.I.l.map AL.pa
theorem EAt.at3 {w : World} {ex : List (Option Nat)} {A : Option Addr} {xs : List Value} (h : EAt w ex A xs) : xs = [] ∨ ∃ ad : Addr, A = some ad ∧ ad.block < w.heap.size ∧ ∀ (j : Nat) (x : Value), xs[j]? = some x → w.cell? (ad.add j) = some x := by
  rcases h with e | ⟨ad, e, hs, hc⟩
  · exact .inl e
  · exact .inr ⟨ad, e, hs.1, hc⟩
set_option maxHeartbeats 12800000 in
theorem copiedWeb_any (x : WB) (v N : Nat) (ex : List (Option Nat)) (w : World) (h : WBok w ex x) (ho : WOk x v N) (hk : WLk x N) :
    Calls Tryz.prog 52 #[x.a] w (RetCwb w v N x) := by
  have hN := ho.n256
  have hN1 := hk.n1
  have hv := ho.v256
  have h1 := ho.w
  have h2 := ho.bn.symm
  have h3 := ho.inn.symm
  have hbd := ho.bd
  have harc := ho.arcs
  have hris := hk.ris
  obtain ⟨XW, ⟨BA, bn, bc, Bl⟩, ⟨IA, inn, ic, Il⟩⟩ := x
  simp only at h1 h2 h3 hbd harc hris
  subst h1
  subst h2
  subst h3
  obtain ⟨z0, hz0, -⟩ := get_at h.b.len (show 0 < N by omega)
  obtain ⟨adB, hA, -⟩ := h.b.cell hz0
  simp only at hA
  subst hA
  obtain ⟨r0, hr0, -⟩ := get_at h.i.len (show 0 < N by omega)
  obtain ⟨adI, hA, -⟩ := h.i.cell hr0
  simp only at hA
  subst hA
  clear hz0 hr0 ho hk
  have hbl : Bl.length = N := h.b.len
  have hil : Il.length = N := h.i.len
  have HX := hid (show (∀ u, Below w.heap.size w u → (Bl.flatMap ZH.cs).length = N * 2 ∧ ((Bl.flatMap ZH.cs) = [] ∨ ∃ ad : Addr, some adB = some ad ∧ ad.block < u.heap.size ∧ ∀ (j : Nat) (x : Value), (Bl.flatMap ZH.cs)[j]? = some x → u.cell? (ad.add j) = some x)) ∧ (∀ u, Below w.heap.size w u → (Il.map AL.v).length = N * 1 ∧ ((Il.map AL.v) = [] ∨ ∃ ad : Addr, some adI = some ad ∧ ad.block < u.heap.size ∧ ∀ (j : Nat) (x : Value), (Il.map AL.v)[j]? = some x → u.cell? (ad.add j) = some x)) from
    ⟨fun u hu => ⟨by rw [flat_len ZH.cs_len, hbl], (h.below hu).b.lies.at3⟩, fun u hu => ⟨by rw [List.length_map, hil, Nat.mul_one], (h.below hu).i.lies.at3⟩⟩)
  have HW := hid h
  have Hbd := hid hbd
  have Harc := hid harc
  have Hris := hid hris
  have Hbl := hid hbl
  have Hil := hid hil
  have hN2 : N ≤ 100000 := by omega
  clear h hbd harc hris hbl hil
  unfold WB.a
  simp only
  have H1 := (Below.refl w.heap.size w).alloc (Nat.le_refl _) (.cells #[.int .i64 v, .slice (some adB) N bc, .slice (some adI) N ic] 37)
  have hbx := Fb.new w #[.int .i64 v, .slice (some adB) N bc, .slice (some adI) N ic] 37
  have HS1 := hid (show Fb ((w.alloc (.cells #[.int .i64 v, .slice (some adB) N bc, .slice (some adI) N ic] 37)).alloc (.cells #[.int .i64 0, .slice none 0 0, .slice none 0 0] 37)) w.heap.size #[.int .i64 v, .slice (some adB) N bc, .slice (some adI) N ic] 37 ∧ Fb ((w.alloc (.cells #[.int .i64 v, .slice (some adB) N bc, .slice (some adI) N ic] 37)).alloc (.cells #[.int .i64 0, .slice none 0 0, .slice none 0 0] 37)) (w.heap.size + 1) zWeb 37 ∧ Below w.heap.size w ((w.alloc (.cells #[.int .i64 v, .slice (some adB) N bc, .slice (some adI) N ic] 37)).alloc (.cells #[.int .i64 0, .slice none 0 0, .slice none 0 0] 37)) from
    ⟨hbx.below ((Below.refl _ _).alloc (Nat.le_refl _) _) hbx.lt, by
      have := Fb.new (w.alloc (.cells #[.int .i64 v, .slice (some adB) N bc, .slice (some adI) N ic] 37)) #[.int .i64 0, .slice none 0 0, .slice none 0 0] 37
      unfold zWeb
      simpa using this, H1.alloc H1.size _⟩)
  clear H1 hbx
  go_enter Tryz.func52, Tryz.ntmps52
  go_upto_region 1 with fail
  rename_i Kx hKx
  generalize (w.alloc (.cells #[.int .i64 v, .slice (some adB) N bc, .slice (some adI) N ic] 37)).alloc (.cells #[.int .i64 0, .slice none 0 0, .slice none 0 0] 37) = w2 at *
  refine wp_region_factsI (fun _ _ => True) (c1F w.heap.size v N adB adI bc ic Bl Il) (fun u => Fb u w.heap.size #[.int .i64 v, .slice (some adB) N bc, .slice (some adI) N ic] 37 ∧ Fb u (w.heap.size + 1) zWeb 37 ∧ Below w.heap.size w u) c1U (c1R ) Kx (fun _ _ h => h) 11 11 (some 8 :: some 9 :: some 10 :: some 11 :: some 12 :: some 13 :: some 14 :: some 15 :: some 16 :: some 3 :: none :: []) (by kernel_rfl) (by kernel_rfl) (by kernel_rfl) (by kernel_rfl) (by kernel_rfl) (by kernel_rfl) (by decide)
    (c1F_st (fun j h e => by subst e; exact Bool.false_ne_true (h.symm.trans (by kernel_rfl)))) ?bs ?gb ?gs ?ar ?en
  case bs => exact ⟨HS1.out.1.below (Below.refl _ _).drew HS1.out.1.lt, HS1.out.2.1.below (Below.refl _ _).drew HS1.out.2.1.lt, HS1.out.2.2.drew⟩
  case gb =>
    exact fun c => trivial
  case gs =>
    exact fun _ _ _ _ _ _ _ _ => trivial
  case ar =>
    intro j o f u ho hi hB hG hpre K hK
    match j, ho, hG, hpre, hK with
    | 0, ho, hG, hpre, hK =>
      obtain rfl := Option.some.inj ho
      refine wpOp_step rfl fun K' hK' => ?_
      simp only [putL, updV]
      go_simp
      have hz := hK' _ _ (hK (.pointer (some ⟨w.heap.size, 0, none⟩)) (u) (hB) (c1R_refl _ _ (by decide)) (rfl))
      refine Eq.mp (congrArg (fun act => K' act (u)) ?_) hz
      kernel_rfl
    | 1, ho, hG, hpre, hK =>
      obtain rfl := Option.some.inj ho
      obtain ⟨x0, x1, x2⟩ := hB.1.three
      have hl := hB.1.lt
      have e0 : f 0 = .pointer (some ⟨w.heap.size, 0, none⟩) := hpre ⟨0, .data⟩ (by simp) rfl (.inl rfl)
      obtain ⟨f, rfl⟩ := fixG f 0 _ e0
      clear e0
      refine wpOp_step rfl fun K' hK' => ?_
      simp only [putL, updV]
      go_simp
      have hz := hK' _ _ (hK (.int .i64 v) (u) (hB) (c1R_refl _ _ (by decide)) (rfl))
      refine Eq.mp (congrArg (fun act => K' act (u)) ?_) hz
      kernel_rfl
    | 2, ho, hG, hpre, hK =>
      obtain rfl := Option.some.inj ho
      refine wpOp_step rfl fun K' hK' => ?_
      simp only [putL, updV]
      go_simp
      have hz := hK' _ _ (hK (.pointer (some ⟨w.heap.size, 1, none⟩)) (u) (hB) (c1R_refl _ _ (by decide)) (rfl))
      refine Eq.mp (congrArg (fun act => K' act (u)) ?_) hz
      kernel_rfl
    | 3, ho, hG, hpre, hK =>
      obtain rfl := Option.some.inj ho
      obtain ⟨x0, x1, x2⟩ := hB.1.three
      have hl := hB.1.lt
      have e2 : f 2 = .pointer (some ⟨w.heap.size, 1, none⟩) := hpre ⟨2, .data⟩ (by simp) rfl (.inl rfl)
      obtain ⟨f, rfl⟩ := fixG f 2 _ e2
      clear e2
      refine wpOp_step rfl fun K' hK' => ?_
      simp only [putL, updV]
      go_simp
      have hz := hK' _ _ (hK (.slice (some adB) N bc) (u) (hB) (c1R_refl _ _ (by decide)) (rfl))
      refine Eq.mp (congrArg (fun act => K' act (u)) ?_) hz
      kernel_rfl
    | 4, ho, hG, hpre, hK =>
      obtain rfl := Option.some.inj ho
      have e3 : f 3 = .slice (some adB) N bc := hpre ⟨3, .data⟩ (by simp) rfl (.inl rfl)
      obtain ⟨f, rfl⟩ := fixG f 3 _ e3
      clear e3
      refine wpOp_step rfl fun K' hK' => ?_
      simp only [putL, updV]
      go_simp
      go_at_call 83
      refine (cpdSet_any (some adB) N bc (Bl.flatMap ZH.cs) u (HX.out.1 u hB.2.2).1 hN2 (HX.out.1 u hB.2.2).2 (one_sets Bl)).mono ?_
      rintro e u5 ⟨rfl, hfb, hb⟩
      have hz := hK' _ _ (hK (.slice (some ⟨u.heap.size, 0, none⟩) N N) (u5) (⟨hB.1.below hb hB.1.lt, hB.2.1.below hb hB.2.1.lt, below_step hB.2.2 hb⟩) (c1R_of hb (by decide)) (⟨_, rfl, hfb, hB.2.2.size⟩))
      refine Eq.mp (congrArg (fun act => K' act (u5)) ?_) hz
      kernel_rfl
    | 5, ho, hG, hpre, hK =>
      obtain rfl := Option.some.inj ho
      refine wpOp_step rfl fun K' hK' => ?_
      simp only [putL, updV]
      go_simp
      have hz := hK' _ _ (hK (.pointer (some ⟨w.heap.size, 2, none⟩)) (u) (hB) (c1R_refl _ _ (by decide)) (rfl))
      refine Eq.mp (congrArg (fun act => K' act (u)) ?_) hz
      kernel_rfl
    | 6, ho, hG, hpre, hK =>
      obtain rfl := Option.some.inj ho
      obtain ⟨x0, x1, x2⟩ := hB.1.three
      have hl := hB.1.lt
      have e5 : f 5 = .pointer (some ⟨w.heap.size, 2, none⟩) := hpre ⟨5, .data⟩ (by simp) rfl (.inl rfl)
      obtain ⟨f, rfl⟩ := fixG f 5 _ e5
      clear e5
      refine wpOp_step rfl fun K' hK' => ?_
      simp only [putL, updV]
      go_simp
      have hz := hK' _ _ (hK (.slice (some adI) N ic) (u) (hB) (c1R_refl _ _ (by decide)) (rfl))
      refine Eq.mp (congrArg (fun act => K' act (u)) ?_) hz
      kernel_rfl
    | 7, ho, hG, hpre, hK =>
      obtain rfl := Option.some.inj ho
      have e6 : f 6 = .slice (some adI) N ic := hpre ⟨6, .data⟩ (by simp) rfl (.inl rfl)
      obtain ⟨f, rfl⟩ := fixG f 6 _ e6
      clear e6
      refine wpOp_step rfl fun K' hK' => ?_
      simp only [putL, updV]
      go_simp
      go_at_call 84
      refine (cpdRow_any (some adI) N ic (Il.map AL.v) u (HX.out.2 u hB.2.2).1 hN2 (HX.out.2 u hB.2.2).2 (one_rows Il)).mono ?_
      rintro e u5 ⟨rfl, hfi, hb⟩
      have hz := hK' _ _ (hK (.slice (some ⟨u.heap.size, 0, none⟩) N N) (u5) (⟨hB.1.below hb hB.1.lt, hB.2.1.below hb hB.2.1.lt, below_step hB.2.2 hb⟩) (c1R_of hb (by decide)) (⟨_, rfl, hfi, hB.2.2.size⟩))
      refine Eq.mp (congrArg (fun act => K' act (u5)) ?_) hz
      kernel_rfl
    | 8, ho, hG, hpre, hK =>
      obtain rfl := Option.some.inj ho
      have e1 : f 1 = .int .i64 v := hpre ⟨1, .data⟩ (by simp) rfl (.inl rfl)
      obtain ⟨gB, e4, hfb, hgb⟩ : ∃ gB : Nat, f 4 = .slice (some ⟨gB, 0, none⟩) N N ∧ Fb u gB (Bl.flatMap ZH.cs).toArray 24 ∧ w.heap.size ≤ gB := hpre ⟨4, .data⟩ (by simp) rfl (.inl rfl)
      obtain ⟨gI, e7, hfi, hgi⟩ : ∃ gI : Nat, f 7 = .slice (some ⟨gI, 0, none⟩) N N ∧ Fb u gI (Il.map AL.v).toArray 34 ∧ w.heap.size ≤ gI := hpre ⟨7, .data⟩ (by simp) rfl (.inl rfl)
      obtain ⟨f, rfl⟩ := fixG f 1 _ e1
      rw [updV_ne _ _ (by decide)] at e4
      rw [updV_ne _ _ (by decide)] at e7
      obtain ⟨f, rfl⟩ := fixG f 4 _ e4
      rw [updV_ne _ _ (by decide)] at e7
      obtain ⟨f, rfl⟩ := fixG f 7 _ e7
      clear e1 e4 e7
      refine wpOp_step rfl fun K' hK' => ?_
      simp only [putL, updV]
      go_simp
      have hz := hK' _ _ (hK (.agg #[.int .i64 v, .slice (some ⟨gB, 0, none⟩) N N, .slice (some ⟨gI, 0, none⟩) N N]) (u) (hB) (c1R_refl _ _ (by decide)) (⟨gB, gI, rfl, hfb, hfi, hgb, hgi⟩))
      refine Eq.mp (congrArg (fun act => K' act (u)) ?_) hz
      kernel_rfl
    | 9, ho, hG, hpre, hK =>
      obtain rfl := Option.some.inj ho
      have hb := (Below.refl u.heap.size u).alloc (Nat.le_refl _) (.cells zWeb 37)
      have hl := hB.2.1.lt
      refine wpOp_step rfl fun K' hK' => ?_
      simp only [putL, updV]
      go_simp
      have hz := hK' _ _ (hK (.pointer (some ⟨u.heap.size, 0, none⟩)) (u.alloc (.cells zWeb 37)) (⟨hB.1.below hb hB.1.lt, hB.2.1.below hb hB.2.1.lt, below_step hB.2.2 hb⟩) (c1R_of hb (by decide)) (⟨_, rfl, Fb.new u _ _, hl⟩))
      refine Eq.mp (congrArg (fun act => K' act (u.alloc (.cells zWeb 37))) ?_) hz
      kernel_rfl
    | 10, ho, hG, hpre, hK =>
      obtain rfl := Option.some.inj ho
      have hl := hB.2.1.lt
      obtain ⟨bO, e9, hz, hbo⟩ : ∃ bO : Nat, f 9 = .pointer (some ⟨bO, 0, none⟩) ∧ Fb u bO zWeb 37 ∧ w.heap.size + 1 < bO := hpre ⟨9, .data⟩ (by simp) rfl (.inr rfl)
      obtain ⟨gB, gI, e8, hfb, hfi, hgb, hgi⟩ : ∃ gB gI : Nat, f 8 = .agg #[.int .i64 v, .slice (some ⟨gB, 0, none⟩) N N, .slice (some ⟨gI, 0, none⟩) N N] ∧ Fb u gB (Bl.flatMap ZH.cs).toArray 24 ∧ Fb u gI (Il.map AL.v).toArray 34 ∧ w.heap.size ≤ gB ∧ w.heap.size ≤ gI := hpre ⟨8, .data⟩ (by simp) rfl (.inl rfl)
      obtain ⟨z0, z1, z2⟩ := hz.three
      have f0 := hz.frozen 0
      have f1 := hz.frozen 1
      have f2 := hz.frozen 2
      have hlz := hz.lt
      have hs3 := three_stp hz (.int .i64 v) (.slice (some ⟨gB, 0, none⟩) N N) (.slice (some ⟨gI, 0, none⟩) N N)
      have hR3 := c1R_w hs3
      obtain ⟨f, rfl⟩ := fixG f 9 _ e9
      rw [updV_ne _ _ (by decide)] at e8
      obtain ⟨f, rfl⟩ := fixG f 8 _ e8
      clear e9 e8
      refine wpOp_step rfl fun K' hK' => ?_
      simp only [putL, updV]
      go_simp
      have hz := hK' _ _ (hK (undef) (((u.setCell ⟨bO, 0, none⟩ (.int .i64 v)).setCell ⟨bO, 1, none⟩ (.slice (some ⟨gB, 0, none⟩) N N)).setCell ⟨bO, 2, none⟩ (.slice (some ⟨gI, 0, none⟩) N N)) (⟨((hB.1.far (by show w.heap.size ≠ bO; omega) _).far (by show w.heap.size ≠ bO; omega) _).far (by show w.heap.size ≠ bO; omega) _, ((hB.2.1.far (by show w.heap.size + 1 ≠ bO; omega) _).far (by show w.heap.size + 1 ≠ bO; omega) _).far (by show w.heap.size + 1 ≠ bO; omega) _, ((hB.2.2.setCell (by show w.heap.size ≤ bO; omega) _).setCell (by show w.heap.size ≤ bO; omega) _).setCell (by show w.heap.size ≤ bO; omega) _⟩) (hR3) (⟨bO, gB, gI, rfl, three_set hz _ _ _, hbo, hs3.fb3 hfb (by decide), hs3.fb3 hfi (by decide), hgb, hgi⟩))
      refine Eq.mp (congrArg (fun act => K' act (((u.setCell ⟨bO, 0, none⟩ (.int .i64 v)).setCell ⟨bO, 1, none⟩ (.slice (some ⟨gB, 0, none⟩) N N)).setCell ⟨bO, 2, none⟩ (.slice (some ⟨gI, 0, none⟩) N N))) ?_) hz
      kernel_rfl
    | j + 11, ho, hG, hpre, hK => exact absurd hi (by omega)
  case en =>
    intro Q2 hQ2 f u hB hF
    obtain ⟨bO, gB, gI, e9, hfo, hbo, hfb, hfi, hgb, hgi⟩ : ∃ bO gB gI : Nat, f 9 = .pointer (some ⟨bO, 0, none⟩) ∧ Fb u bO #[.int .i64 v, .slice (some ⟨gB, 0, none⟩) N N, .slice (some ⟨gI, 0, none⟩) N N] 37 ∧ w.heap.size + 1 < bO ∧ Fb u gB (Bl.flatMap ZH.cs).toArray 24 ∧ Fb u gI (Il.map AL.v).toArray 34 ∧ w.heap.size ≤ gB ∧ w.heap.size ≤ gI := hF 10 (by decide) rfl
    have Hfo := hid hfo
    have Hfb := hid hfb
    have Hfi := hid hfi
    have HS2 := hid hB
    obtain ⟨f, rfl⟩ := fixG f 9 _ e9
    clear e9
    clear hF
    show wpAny _ _ _ _ 0 (tailArr 11 11) _ _
    refine ⟨by kernel_rfl, hQ2 _ _ (hKx _ _ ?_)⟩
    simp only [putL, updV]
    clear hfo hfb hfi hB HS1
    have HBx0 := hid (show Bx w #[.int .i64 v, .slice (some ⟨gB, 0, none⟩) N N, .slice (some ⟨gI, 0, none⟩) N N] #[.int .i64 v, .slice (some adB) N bc, .slice (some adI) N ic] bO u from ⟨Hfo.out, HS2.out.1, HS2.out.2.1, HS2.out.2.2⟩)
    have HCw0 := hid (show Cw w v N gB gI 0 Bl (Il.map AL.v) [] u from ⟨HS2.out.2.2, hgb, hgi, Hfb.out, Hfi.out, Hbl.out, by rw [List.length_map, Hil.out], (fun j z hj => by omega), (fun r hr => by cases hr), (fun j k x y g hj => by simp at hj)⟩)
    have HI0 := hid (show ∃ (B : List ZH) (M : List Value) (J : List AL), Cw w v N gB gI 0 B M J u ∧ Bx w #[.int .i64 v, .slice (some ⟨gB, 0, none⟩) N N, .slice (some ⟨gI, 0, none⟩) N N] #[.int .i64 v, .slice (some adB) N bc, .slice (some adI) N ic] bO u ∧ CsV Bl Il 0 B M J from ⟨_, _, _, HCw0.out, HBx0.out, CsV.start Bl Il⟩)
    obtain ⟨c0, c1, c2⟩ := HBx0.out.oo.three
    clear Hfo Hfb Hfi HS2 HCw0 HBx0 HX
    go_wp2_with fail
    clear c0 c1 c2
    go_loopw [20] (fun kv wr => ∃ k : Nat, k ≤ N ∧ kv = .int .i64 k ∧ Hid (∃ (B : List ZH) (M : List Value) (J : List AL), Cw w v N gB gI k B M J wr ∧ Bx w #[.int .i64 v, .slice (some ⟨gB, 0, none⟩) N N, .slice (some ⟨gI, 0, none⟩) N N] #[.int .i64 v, .slice (some adB) N bc, .slice (some adI) N ic] bO wr ∧ CsV Bl Il k B M J)) (fun kv _ => N - (intOf kv).toNat)
    case atStart => exact ⟨0, by omega, rfl, HI0⟩
    case round =>
      clear HI0
      obtain ⟨k, hk, rfl, HI⟩ := hrel
      obtain ⟨B, M, J, hcw, hbx, hcs⟩ := HI.out
      have HCw := hid hcw
      have HBx := hid hbx
      have HCs := hid hcs
      clear HI hcw hbx hcs
      by_cases hlt : k < N
      · have n0 : (0 : Int) ≤ k := by omega
        have n1 : (k : Int) < N := by omega
        have n2 : (k : Int).toNat = k := by omega
        obtain ⟨z, hz, hzm⟩ := get_at Hbl.out hlt
        obtain ⟨r, hr, hrm⟩ := get_at Hil.out hlt
        have hM : M[k]? = some r.v := by rw [HCs.out.mh k (Nat.le_refl _), hr]; rfl
        have y0 := HCw.out.cellM hM
        have HZ := hid (fun (u : World) (hu : Below w.heap.size w u) => by
          obtain ⟨ad, e, a1, a2, a3⟩ := (HW.out.below hu).b.cell (i := k) (y := z) hz
          obtain rfl := Option.some.inj e
          exact (show adB.block < u.heap.size ∧ u.cell? (adB.add (k * 2)) = some (.int .i64 z.W) ∧ u.cell? ⟨(adB.add (k * 2)).block, (adB.add (k * 2)).off + 1, none⟩ = some (.slice z.A z.n z.c) from ⟨a1, a2, a3⟩))
        have HZA := hid (fun (u : World) (hu : Below w.heap.size w u) => ((HW.out.below hu).b.all z hzm).arg)
        have hzw := (Hbd.out z hzm).1
        have hzf := (Hbd.out z hzm).2
        have hzl := (HW.out.b.all z hzm).len
        have HZW := hid (fun (u : World) (g : Nat) (hr : Row u g z.ws) => (show ZWt u v ⟨z.W, some ⟨g, 0, none⟩, z.n, z.n, z.ws⟩ from ⟨hzw, hzf, by have := ArgT.row hr hzf.ok; rwa [hzl] at this⟩))
        have hn5 : z.n ≤ 100000 := by rw [← hzl, hzf.len]; unfold Bs.nw; omega
        have Hz := hid (show B[k]? = some z from by rw [HCs.out.bh k (Nat.le_refl _)]; exact hz)
        have Hy := hid hz
        have HR := hid (fun (u : World) (hu : Below w.heap.size w u) => And.intro (show (r.l.flatMap AH.cells).length = r.n * 6 from by rw [flat_len AH.cells_len, (HW.out.i.all r hrm).len]) ((HW.out.below hu).i.all r hrm).lies.at3)
        have hn6 : r.n ≤ 100000 := by have := (Harc.out r hrm).1; omega
        have HAr := hid (fun (a : AH) (ha : a ∈ r.l) => And.intro ((Harc.out r hrm).2 a ha).2 (fun (u : World) (hu : Below w.heap.size w u) => (((HW.out.below hu).i.all r hrm).all a ha).arg))
        have HAc := hid (fun (i : Nat) (a : AH) (ha : r.l[i]? = some a) (u : World) (hu : Below w.heap.size w u) => ((HW.out.below hu).i.all r hrm).cell ha)
        have Hrr := hid (Hris.out r hrm)
        have Hrl := hid ((HW.out.i.all r hrm).len)
        have Hm := hid hM
        have Hr := hid hr
        have HMl := hid (And.intro HCw.out.ml HCw.out.bl)
        clear hz hzm hr hrm hM hzw hzf hzl
        unfold AL.v at y0 Hm
        obtain ⟨W, A, n, c, ws⟩ := z
        obtain ⟨rA, rn, rc, src⟩ := r
        simp only at *
        go_upto_region 5 with fail
        rename_i Kx hKx
        clear y0
        refine wp_region_factsI (fun j u => j = 10 → Cw w v N gB gI k B M J u) (c5F w v N gB gI bO k adB bc W A n c ws B M J) (fun u => Bx w #[.int .i64 v, .slice (some ⟨gB, 0, none⟩) N N, .slice (some ⟨gI, 0, none⟩) N N] (#[.int .i64 v, .slice (some adB) N bc, .slice (some adI) N ic]) bO u) c5U (c5R ) Kx (fun _ _ h => h) 11 11 (some 25 :: some 26 :: some 27 :: some 28 :: some 29 :: some 30 :: some 31 :: some 32 :: some 33 :: some 34 :: none :: []) (by kernel_rfl) (by kernel_rfl) (by kernel_rfl) (by kernel_rfl) (by kernel_rfl) (by kernel_rfl) (by decide)
          (c5F_st) ?bs ?gb ?gs ?ar ?en
        case bs => exact HBx.out.below (Below.refl _ _).drew
        case gb =>
          exact fun c _ => HCw.out.below (Below.refl _ _).drew
        case gs =>
          intro j u u' c hR hne hnr hG hc
          subst hc
          exact (hG rfl).below (c5R_bel hR (fun e => hne e.symm))
        case ar =>
          intro j o f u ho hi hB hG hpre K hK
          match j, ho, hG, hpre, hK with
          | 0, ho, hG, hpre, hK =>
            obtain rfl := Option.some.inj ho
            refine wpOp_step rfl fun K' hK' => ?_
            simp only [putL, updV]
            go_simp
            have hz := hK' _ _ (hK (.pointer (some ⟨bO, 1, none⟩)) (u) (hB) (c5R_refl _ _ (by decide)) (rfl))
            refine Eq.mp (congrArg (fun act => K' act (u)) ?_) hz
            kernel_rfl
          | 1, ho, hG, hpre, hK =>
            obtain rfl := Option.some.inj ho
            obtain ⟨x0, x1, x2⟩ := hB.oo.three
            have hl := hB.oo.lt
            have e0 : f 0 = .pointer (some ⟨bO, 1, none⟩) := hpre ⟨0, .data⟩ (by simp) rfl (.inl rfl)
            obtain ⟨f, rfl⟩ := fixG f 0 _ e0
            clear e0
            refine wpOp_step rfl fun K' hK' => ?_
            simp only [putL, updV]
            go_simp
            have hz := hK' _ _ (hK (.slice (some ⟨gB, 0, none⟩) N N) (u) (hB) (c5R_refl _ _ (by decide)) (rfl))
            refine Eq.mp (congrArg (fun act => K' act (u)) ?_) hz
            kernel_rfl
          | 2, ho, hG, hpre, hK =>
            obtain rfl := Option.some.inj ho
            refine wpOp_step rfl fun K' hK' => ?_
            simp only [putL, updV]
            go_simp
            have hz := hK' _ _ (hK (.int .i64 (k : Int)) (u) (hB) (c5R_refl _ _ (by decide)) (rfl))
            refine Eq.mp (congrArg (fun act => K' act (u)) ?_) hz
            kernel_rfl
          | 3, ho, hG, hpre, hK =>
            obtain rfl := Option.some.inj ho
            refine wpOp_step rfl fun K' hK' => ?_
            simp only [putL, updV]
            go_simp
            have hz := hK' _ _ (hK (.pointer (some ⟨w.heap.size, 1, none⟩)) (u) (hB) (c5R_refl _ _ (by decide)) (rfl))
            refine Eq.mp (congrArg (fun act => K' act (u)) ?_) hz
            kernel_rfl
          | 4, ho, hG, hpre, hK =>
            obtain rfl := Option.some.inj ho
            obtain ⟨x0, x1, x2⟩ := hB.ss.three
            have hl := hB.ss.lt
            have e3 : f 3 = .pointer (some ⟨w.heap.size, 1, none⟩) := hpre ⟨3, .data⟩ (by simp) rfl (.inl rfl)
            obtain ⟨f, rfl⟩ := fixG f 3 _ e3
            clear e3
            refine wpOp_step rfl fun K' hK' => ?_
            simp only [putL, updV]
            go_simp
            have hz := hK' _ _ (hK (.slice (some adB) N bc) (u) (hB) (c5R_refl _ _ (by decide)) (rfl))
            refine Eq.mp (congrArg (fun act => K' act (u)) ?_) hz
            kernel_rfl
          | 5, ho, hG, hpre, hK =>
            obtain rfl := Option.some.inj ho
            refine wpOp_step rfl fun K' hK' => ?_
            simp only [putL, updV]
            go_simp
            have hz := hK' _ _ (hK (.int .i64 (k : Int)) (u) (hB) (c5R_refl _ _ (by decide)) (rfl))
            refine Eq.mp (congrArg (fun act => K' act (u)) ?_) hz
            kernel_rfl
          | 6, ho, hG, hpre, hK =>
            obtain rfl := Option.some.inj ho
            have k0 : (0 : Int) ≤ k := by omega
            have k1 : (k : Int) < N := by omega
            have k2 : (k : Int).toNat = k := by omega
            have e4 : f 4 = .slice (some adB) N bc := hpre ⟨4, .data⟩ (by simp) rfl (.inl rfl)
            have e5 : f 5 = .int .i64 (k : Int) := hpre ⟨5, .data⟩ (by simp) rfl (.inl rfl)
            obtain ⟨f, rfl⟩ := fixG f 4 _ e4
            rw [updV_ne _ _ (by decide)] at e5
            obtain ⟨f, rfl⟩ := fixG f 5 _ e5
            clear e4 e5
            refine wpOp_step rfl fun K' hK' => ?_
            simp only [putL, updV]
            go_simp
            have hz := hK' _ _ (hK (.pointer (some (adB.add (k * 2)))) (u) (hB) (c5R_refl _ _ (by decide)) (rfl))
            refine Eq.mp (congrArg (fun act => K' act (u)) ?_) hz
            kernel_rfl
          | 7, ho, hG, hpre, hK =>
            obtain rfl := Option.some.inj ho
            obtain ⟨y0, y1, y2⟩ := HZ.out u hB.bel
            have hl : adB.block < u.heap.size := y0
            have e6 : f 6 = .pointer (some (adB.add (k * 2))) := hpre ⟨6, .data⟩ (by simp) rfl (.inl rfl)
            obtain ⟨f, rfl⟩ := fixG f 6 _ e6
            clear e6
            refine wpOp_step rfl fun K' hK' => ?_
            simp only [putL, updV]
            go_simp
            have hz := hK' _ _ (hK (.agg #[.int .i64 W, .slice A n c]) (u) (hB) (c5R_refl _ _ (by decide)) (rfl))
            refine Eq.mp (congrArg (fun act => K' act (u)) ?_) hz
            kernel_rfl
          | 8, ho, hG, hpre, hK =>
            obtain rfl := Option.some.inj ho
            have e7 : f 7 = .agg #[.int .i64 W, .slice A n c] := hpre ⟨7, .data⟩ (by simp) rfl (.inl rfl)
            obtain ⟨f, rfl⟩ := fixG f 7 _ e7
            clear e7
            refine wpOp_step rfl fun K' hK' => ?_
            simp only [putL, updV]
            go_simp
            go_at_call 85
            refine (copiedSetE_any W A n c ws u (HZA.out u hB.bel) hn5).mono ?_
            rintro e u5 ⟨g, rfl, hr, -, hb⟩
            have hz := hK' _ _ (hK (.agg #[.int .i64 W, .slice (some ⟨g, 0, none⟩) n n]) (u5) (hB.below hb) (c5R_of hb (by decide)) (⟨g, rfl, hr⟩))
            refine Eq.mp (congrArg (fun act => K' act (u5)) ?_) hz
            kernel_rfl
          | 9, ho, hG, hpre, hK =>
            obtain rfl := Option.some.inj ho
            have k0 : (0 : Int) ≤ k := by omega
            have k1 : (k : Int) < N := by omega
            have k2 : (k : Int).toNat = k := by omega
            have e1 : f 1 = .slice (some ⟨gB, 0, none⟩) N N := hpre ⟨1, .data⟩ (by simp) rfl (.inl rfl)
            have e2 : f 2 = .int .i64 (k : Int) := hpre ⟨2, .data⟩ (by simp) rfl (.inl rfl)
            obtain ⟨f, rfl⟩ := fixG f 1 _ e1
            rw [updV_ne _ _ (by decide)] at e2
            obtain ⟨f, rfl⟩ := fixG f 2 _ e2
            clear e1 e2
            refine wpOp_step rfl fun K' hK' => ?_
            simp only [putL, updV]
            go_simp
            have hz := hK' _ _ (hK (.pointer (some ⟨gB, k * 2, none⟩)) (u) (hB) (c5R_refl _ _ (by decide)) (rfl))
            refine Eq.mp (congrArg (fun act => K' act (u)) ?_) hz
            kernel_rfl
          | 10, ho, hG, hpre, hK =>
            obtain rfl := Option.some.inj ho
            have hcw := hG rfl
            obtain ⟨y0, y1⟩ := hcw.cellB Hz.out
            have f0 := hcw.fb.frozen (k * 2)
            have f1 := hcw.fb.frozen (k * 2 + 1)
            have hl := hcw.fb.lt
            have e9 : f 9 = .pointer (some ⟨gB, k * 2, none⟩) := hpre ⟨9, .data⟩ (by simp) rfl (.inl rfl)
            obtain ⟨g, e8, hr⟩ : ∃ g : Nat, f 8 = .agg #[.int .i64 W, .slice (some ⟨g, 0, none⟩) n n] ∧ Row u g ws := hpre ⟨8, .data⟩ (by simp) rfl (.inl rfl)
            obtain ⟨f, rfl⟩ := fixG f 9 _ e9
            rw [updV_ne _ _ (by decide)] at e8
            obtain ⟨f, rfl⟩ := fixG f 8 _ e8
            clear e9 e8
            have hcw2 := hcw.setB hlt (z := ⟨W, some ⟨g, 0, none⟩, n, n, ws⟩) (HZW.out u g hr)
            refine wpOp_step rfl fun K' hK' => ?_
            simp only [putL, updV]
            go_simp
            have hz := hK' _ _ (hK (undef) ((u.setCell ⟨gB, k * 2, none⟩ (.int .i64 W)).setCell ⟨gB, k * 2 + 1, none⟩ (.slice (some ⟨g, 0, none⟩) n n)) (hB.put (two_cells hcw.fb _ _ _ _) (by decide) hcw2.bel) (c5R_w (two_cells hcw.fb _ _ _ _)) (⟨g, hcw2⟩))
            refine Eq.mp (congrArg (fun act => K' act ((u.setCell ⟨gB, k * 2, none⟩ (.int .i64 W)).setCell ⟨gB, k * 2 + 1, none⟩ (.slice (some ⟨g, 0, none⟩) n n))) ?_) hz
            kernel_rfl
          | j + 11, ho, hG, hpre, hK => exact absurd hi (by omega)
        case en =>
          intro Q2 hQ2 f u hB hF
          obtain ⟨g, hcw⟩ : ∃ g : Nat, Cw w v N gB gI (k + 1) (B.set k ⟨W, some ⟨g, 0, none⟩, n, n, ws⟩) M J u := hF 10 (by decide) rfl
          have HCw5 := hid hcw
          have HBx5 := hid hB
          clear hF
          show wpAny _ _ _ _ 0 (tailArr 11 11) _ _
          refine ⟨by kernel_rfl, hQ2 _ _ (hKx _ _ ?_)⟩
          simp only [putL, updV]
          clear hcw hB HCw HBx
          obtain ⟨B5, hB5⟩ : ∃ B5, B.set k ⟨W, some ⟨g, 0, none⟩, n, n, ws⟩ = B5 := ⟨_, rfl⟩
          have HB5 := hid hB5
          rw [hB5] at HCw5
          clear hB5 HZ HZA HZW Hz
          go_upto_region 6 with fail
          rename_i Kx hKx
          refine wp_region_factsI (fun j u => (j = 4 ∨ j = 6) → Cw w v N gB gI (k + 1) B5 M J u) (c6F w v N gB gI bO k rA rn rc src B5 M J) (fun u => Bx w #[.int .i64 v, .slice (some ⟨gB, 0, none⟩) N N, .slice (some ⟨gI, 0, none⟩) N N] (#[.int .i64 v, .slice (some adB) N bc, .slice (some adI) N ic]) bO u) c6U (c6R ) Kx (fun _ _ h => h) 7 7 (some 35 :: some 36 :: some 37 :: some 38 :: some 39 :: some 40 :: none :: []) (by kernel_rfl) (by kernel_rfl) (by kernel_rfl) (by kernel_rfl) (by kernel_rfl) (by kernel_rfl) (by decide)
            (c6F_st) ?bs ?gb ?gs ?ar ?en
          case bs => exact HBx5.out.below (Below.refl _ _).drew
          case gb =>
            exact fun c _ => HCw5.out.below (Below.refl _ _).drew
          case gs =>
            intro j u u' c hR hne hnr hG hc
            have hj : j ≠ 6 := by
              rintro rfl
              rcases hc with rfl | rfl
              · exact Bool.false_ne_true (hnr.symm.trans (by kernel_rfl))
              · exact hne rfl
            exact (hG hc).below (c6R_bel hR hj)
          case ar =>
            intro j o f u ho hi hB hG hpre K hK
            match j, ho, hG, hpre, hK with
            | 0, ho, hG, hpre, hK =>
              obtain rfl := Option.some.inj ho
              refine wpOp_step rfl fun K' hK' => ?_
              simp only [putL, updV]
              go_simp
              have hz := hK' _ _ (hK (.pointer (some ⟨bO, 2, none⟩)) (u) (hB) (c6R_refl _ _ (by decide)) (rfl))
              refine Eq.mp (congrArg (fun act => K' act (u)) ?_) hz
              kernel_rfl
            | 1, ho, hG, hpre, hK =>
              obtain rfl := Option.some.inj ho
              obtain ⟨x0, x1, x2⟩ := hB.oo.three
              have hl := hB.oo.lt
              have e0 : f 0 = .pointer (some ⟨bO, 2, none⟩) := hpre ⟨0, .data⟩ (by simp) rfl (.inl rfl)
              obtain ⟨f, rfl⟩ := fixG f 0 _ e0
              clear e0
              refine wpOp_step rfl fun K' hK' => ?_
              simp only [putL, updV]
              go_simp
              have hz := hK' _ _ (hK (.slice (some ⟨gI, 0, none⟩) N N) (u) (hB) (c6R_refl _ _ (by decide)) (rfl))
              refine Eq.mp (congrArg (fun act => K' act (u)) ?_) hz
              kernel_rfl
            | 2, ho, hG, hpre, hK =>
              obtain rfl := Option.some.inj ho
              refine wpOp_step rfl fun K' hK' => ?_
              simp only [putL, updV]
              go_simp
              have hz := hK' _ _ (hK (.int .i64 (k : Int)) (u) (hB) (c6R_refl _ _ (by decide)) (rfl))
              refine Eq.mp (congrArg (fun act => K' act (u)) ?_) hz
              kernel_rfl
            | 3, ho, hG, hpre, hK =>
              obtain rfl := Option.some.inj ho
              refine wpOp_step rfl fun K' hK' => ?_
              simp only [putL, updV]
              go_simp
              have hz := hK' _ _ (hK (.slice rA rn rc) (u) (hB) (c6R_refl _ _ (by decide)) (rfl))
              refine Eq.mp (congrArg (fun act => K' act (u)) ?_) hz
              kernel_rfl
            | 4, ho, hG, hpre, hK =>
              obtain rfl := Option.some.inj ho
              have e3 : f 3 = .slice rA rn rc := hpre ⟨3, .data⟩ (by simp) rfl (.inl rfl)
              obtain ⟨f, rfl⟩ := fixG f 3 _ e3
              clear e3
              refine wpOp_step rfl fun K' hK' => ?_
              simp only [putL, updV]
              go_simp
              go_at_call 86
              refine (cpdArc_any rA rn rc (src.flatMap AH.cells) u (HR.out u hB.bel).1 hn6 (HR.out u hB.bel).2 (one_arc src)).mono ?_
              rintro e u5 ⟨rfl, hfr, hb⟩
              have hcw := hG (.inl rfl)
              have hz := hK' _ _ (hK (.slice (some ⟨u.heap.size, 0, none⟩) rn rn) (u5) (hB.below hb) (c6R_of hb (by decide)) (⟨_, rfl, hfr, hB.bel.size, fun y hy e => Nat.lt_irrefl _ ((hcw.rt y hy).own.lt _ e).2⟩))
              refine Eq.mp (congrArg (fun act => K' act (u5)) ?_) hz
              kernel_rfl
            | 5, ho, hG, hpre, hK =>
              obtain rfl := Option.some.inj ho
              have k0 : (0 : Int) ≤ k := by omega
              have k1 : (k : Int) < N := by omega
              have k2 : (k : Int).toNat = k := by omega
              have e1 : f 1 = .slice (some ⟨gI, 0, none⟩) N N := hpre ⟨1, .data⟩ (by simp) rfl (.inl rfl)
              have e2 : f 2 = .int .i64 (k : Int) := hpre ⟨2, .data⟩ (by simp) rfl (.inl rfl)
              obtain ⟨f, rfl⟩ := fixG f 1 _ e1
              rw [updV_ne _ _ (by decide)] at e2
              obtain ⟨f, rfl⟩ := fixG f 2 _ e2
              clear e1 e2
              refine wpOp_step rfl fun K' hK' => ?_
              simp only [putL, updV]
              go_simp
              have hz := hK' _ _ (hK (.pointer (some ⟨gI, k, none⟩)) (u) (hB) (c6R_refl _ _ (by decide)) (rfl))
              refine Eq.mp (congrArg (fun act => K' act (u)) ?_) hz
              kernel_rfl
            | 6, ho, hG, hpre, hK =>
              obtain rfl := Option.some.inj ho
              have hcw := hG (.inr rfl)
              have y0 := hcw.cellM Hm.out
              have f0 := hcw.fi.frozen k
              have hl := hcw.fi.lt
              have e5 : f 5 = .pointer (some ⟨gI, k, none⟩) := hpre ⟨5, .data⟩ (by simp) rfl (.inl rfl)
              obtain ⟨g, e4, hfr, hge, hnj⟩ : ∃ g : Nat, f 4 = .slice (some ⟨g, 0, none⟩) rn rn ∧ Fb u g (src.flatMap AH.cells).toArray 33 ∧ w.heap.size ≤ g ∧ ∀ y ∈ J, y.v.ownBlock ≠ some g := hpre ⟨4, .data⟩ (by simp) rfl (.inl rfl)
              obtain ⟨f, rfl⟩ := fixG f 5 _ e5
              rw [updV_ne _ _ (by decide)] at e4
              obtain ⟨f, rfl⟩ := fixG f 4 _ e4
              clear e5 e4
              refine wpOp_step rfl fun K' hK' => ?_
              simp only [putL, updV]
              go_simp
              have hz := hK' _ _ (hK (undef) (u.setCell ⟨gI, k, none⟩ (.slice (some ⟨g, 0, none⟩) rn rn)) (hB.put (stp_cell hcw.fi k _) (by decide) (hcw.setM _).bel) (c6R_w (stp_cell hcw.fi k _)) (⟨g, hcw.setM _, (stp_cell hcw.fi k _).fb hfr (by decide), hge, hnj, rfl, fun j a s hj => absurd hj (by omega), fun j _ => rfl⟩))
              refine Eq.mp (congrArg (fun act => K' act (u.setCell ⟨gI, k, none⟩ (.slice (some ⟨g, 0, none⟩) rn rn))) ?_) hz
              kernel_rfl
            | j + 7, ho, hG, hpre, hK => exact absurd hi (by omega)
          case en =>
            intro Q2 hQ2 f u hB hF
            obtain ⟨gr, hcp⟩ : ∃ g : Nat, Cp w v N gB gI (k + 1) g 0 B5 (M.set k (.slice (some ⟨g, 0, none⟩) rn rn)) J src src u := hF 6 (by decide) rfl
            have HCp := hid hcp
            have HBx6 := hid hB
            clear hF
            show wpAny _ _ _ _ 0 (tailArr 7 7) _ _
            refine ⟨by kernel_rfl, hQ2 _ _ (hKx _ _ ?_)⟩
            simp only [putL, updV]
            clear hcp hB HCw5 HBx5
            obtain ⟨M6, hM6⟩ : ∃ M6, M.set k (.slice (some ⟨gr, 0, none⟩) rn rn) = M6 := ⟨_, rfl⟩
            have HM6 := hid hM6
            have Hm6 := hid (show M6[k]? = some (.slice (some ⟨gr, 0, none⟩) rn rn) from by rw [← hM6, List.getElem?_set_self (by rw [HMl.out.1]; exact hlt)])
            rw [hM6] at HCp
            clear hM6 HR
            have HI6 := hid (show ∃ l : List AH, Cp w v N gB gI (k + 1) gr 0 B5 M6 J src l u ∧ Bx w #[.int .i64 v, .slice (some ⟨gB, 0, none⟩) N N, .slice (some ⟨gI, 0, none⟩) N N] #[.int .i64 v, .slice (some adB) N bc, .slice (some adI) N ic] bO u from ⟨src, HCp.out, HBx6.out⟩)
            clear HCp HBx6
            go_wp2_with fail
            go_loopw [43] (fun iv wr => ∃ i : Nat, i ≤ rn ∧ iv = .int .i64 i ∧ Hid (∃ l : List AH, Cp w v N gB gI (k + 1) gr i B5 M6 J src l wr ∧ Bx w #[.int .i64 v, .slice (some ⟨gB, 0, none⟩) N N, .slice (some ⟨gI, 0, none⟩) N N] #[.int .i64 v, .slice (some adB) N bc, .slice (some adI) N ic] bO wr)) (fun iv _ => rn - (intOf iv).toNat)
            case atStart => exact ⟨0, by omega, rfl, HI6⟩
            case round =>
              clear HI6
              obtain ⟨i, hi, rfl, HI⟩ := hrel
              obtain ⟨l, hcp, hbx⟩ := HI.out
              have HCp := hid hcp
              have HBx := hid hbx
              clear HI hcp hbx
              by_cases hil : i < rn
              · have n0 : (0 : Int) ≤ i := by omega
                have n1 : (i : Int) < rn := by omega
                have n2 : (i : Int).toNat = i := by omega
                obtain ⟨a, ha, ham⟩ := get_at Hrl.out hil
                obtain ⟨adr, hA, hlt3, y0, y1, y2, y3, y4, y5⟩ := HAc.out i a ha _ HBx.out.bel
                subst hA
                have Ha := hid ha
                have Hl := hid (show l[i]? = some a from by rw [HCp.out.hi i (Nat.le_refl _)]; exact ha)
                have HF := hid (fun (u : World) (hu : Below w.heap.size w u) => And.intro ((HAr.out a ham).2 u hu) (HAr.out a ham).1)
                have Hn0 := hid (show a.f.G.n ≤ 100000 ∧ a.f.K.n ≤ 100000 ∧ a.f.k ≤ 100000 from by
                  have hf := (HAr.out a ham).2 w (Below.refl _ _)
                  obtain ⟨q1, q2, q3⟩ := (HAr.out a ham).1
                  obtain ⟨p1, p2, p3, p4, p5⟩ := validT_iff q3
                  have e1 := (Bs.fit_of_valid p1 hf.gen.ok).len
                  have e2 := (Bs.fit_of_valid p2 hf.kill.ok).len
                  rw [Int.toNat_natCast] at e1 e2
                  have e3 := hf.gen.len
                  have e4 := hf.kill.len
                  have e5 := hf.cops.len
                  unfold Bs.nw at e1 e2
                  exact ⟨by omega, by omega, by omega⟩)
                have hba := (Below.refl wr.heap.size wr).alloc (Nat.le_refl _) (.cells #[.int .i64 a.m, .int .i64 a.f.G.W, .slice a.f.G.A a.f.G.n a.f.G.c, .int .i64 a.f.K.W, .slice a.f.K.A a.f.K.n a.f.K.c, .slice a.f.C a.f.k a.f.q] 33)
                have HCp9 := hid (HCp.out.below hba)
                have HBx9 := hid (HBx.out.below hba)
                have HAb := hid (Fb.new wr #[.int .i64 a.m, .int .i64 a.f.G.W, .slice a.f.G.A a.f.G.n a.f.G.c, .int .i64 a.f.K.W, .slice a.f.K.A a.f.K.n a.f.K.c, .slice a.f.C a.f.k a.f.q] 33)
                have hbg : wr.heap.size ≠ gr := by have := HCp.out.fr.lt; omega
                clear HCp HBx ha ham hba
                go_upto_region 10 with fail
                rename_i Kx hKx
                clear y0 y1 y2 y3 y4 y5
                generalize wr.alloc (.cells #[.int .i64 a.m, .int .i64 a.f.G.W, .slice a.f.G.A a.f.G.n a.f.G.c, .int .i64 a.f.K.W, .slice a.f.K.A a.f.K.n a.f.K.c, .slice a.f.C a.f.k a.f.q] 33) = w9 at *
                generalize wr.heap.size = bA at *
                refine wp_region_factsI (fun j u => (j = 4 ∨ j = 8 ∨ j = 12 ∨ j = 16 ∨ j = 21) → Cp w v N gB gI (k + 1) gr i B5 M6 J src l u ∧ Fb u bA #[.int .i64 a.m, .int .i64 a.f.G.W, .slice a.f.G.A a.f.G.n a.f.G.c, .int .i64 a.f.K.W, .slice a.f.K.A a.f.K.n a.f.K.c, .slice a.f.C a.f.k a.f.q] 33 ∧ bA ≠ gr) (c0F w v N gB gI bO k gr i bA rn a B5 M6 J src l) (fun u => Bx w #[.int .i64 v, .slice (some ⟨gB, 0, none⟩) N N, .slice (some ⟨gI, 0, none⟩) N N] (#[.int .i64 v, .slice (some adB) N bc, .slice (some adI) N ic]) bO u) c0U (c0R ) Kx (fun _ _ h => h) 22 22 (some 48 :: some 49 :: some 50 :: some 51 :: some 52 :: some 53 :: some 54 :: some 55 :: some 56 :: some 57 :: some 58 :: some 59 :: some 60 :: some 61 :: some 62 :: some 63 :: some 64 :: some 65 :: some 66 :: some 67 :: some 68 :: none :: []) (by kernel_rfl) (by kernel_rfl) (by kernel_rfl) (by kernel_rfl) (by kernel_rfl) (by kernel_rfl) (by decide)
                  (c0F_st) ?bs ?gb ?gs ?ar ?en
                case bs => exact HBx9.out.below (Below.refl _ _).drew
                case gb =>
                  exact fun c _ => ⟨HCp9.out.below (Below.refl _ _).drew, HAb.out.below (Below.refl _ _).drew HAb.out.lt, hbg⟩
                case gs =>
                  intro j u u' c hR hne hnr hG hc
                  have hj : j ≠ 21 := by
                    rintro rfl
                    rcases hc with rfl | rfl | rfl | rfl | rfl
                    · exact Bool.false_ne_true (hnr.symm.trans (by kernel_rfl))
                    · exact Bool.false_ne_true (hnr.symm.trans (by kernel_rfl))
                    · exact Bool.false_ne_true (hnr.symm.trans (by kernel_rfl))
                    · exact Bool.false_ne_true (hnr.symm.trans (by kernel_rfl))
                    · exact hne rfl
                  have hb := c0R_bel hR hj
                  obtain ⟨h1, h2, h3⟩ := hG hc
                  exact ⟨h1.below hb, h2.below hb h2.lt, h3⟩
                case ar =>
                  intro j o f u ho hi hB hG hpre K hK
                  match j, ho, hG, hpre, hK with
                  | 0, ho, hG, hpre, hK =>
                    obtain rfl := Option.some.inj ho
                    refine wpOp_step rfl fun K' hK' => ?_
                    simp only [putL, updV]
                    go_simp
                    have hz := hK' _ _ (hK (.pointer (some ⟨bO, 2, none⟩)) (u) (hB) (c0R_refl _ _ (by decide)) (rfl))
                    refine Eq.mp (congrArg (fun act => K' act (u)) ?_) hz
                    kernel_rfl
                  | 1, ho, hG, hpre, hK =>
                    obtain rfl := Option.some.inj ho
                    obtain ⟨x0, x1, x2⟩ := hB.oo.three
                    have hl := hB.oo.lt
                    have e0 : f 0 = .pointer (some ⟨bO, 2, none⟩) := hpre ⟨0, .data⟩ (by simp) rfl (.inl rfl)
                    obtain ⟨f, rfl⟩ := fixG f 0 _ e0
                    clear e0
                    refine wpOp_step rfl fun K' hK' => ?_
                    simp only [putL, updV]
                    go_simp
                    have hz := hK' _ _ (hK (.slice (some ⟨gI, 0, none⟩) N N) (u) (hB) (c0R_refl _ _ (by decide)) (rfl))
                    refine Eq.mp (congrArg (fun act => K' act (u)) ?_) hz
                    kernel_rfl
                  | 2, ho, hG, hpre, hK =>
                    obtain rfl := Option.some.inj ho
                    refine wpOp_step rfl fun K' hK' => ?_
                    simp only [putL, updV]
                    go_simp
                    have hz := hK' _ _ (hK (.int .i64 (k : Int)) (u) (hB) (c0R_refl _ _ (by decide)) (rfl))
                    refine Eq.mp (congrArg (fun act => K' act (u)) ?_) hz
                    kernel_rfl
                  | 3, ho, hG, hpre, hK =>
                    obtain rfl := Option.some.inj ho
                    have k0 : (0 : Int) ≤ k := by omega
                    have k1 : (k : Int) < N := by omega
                    have k2 : (k : Int).toNat = k := by omega
                    have e1 : f 1 = .slice (some ⟨gI, 0, none⟩) N N := hpre ⟨1, .data⟩ (by simp) rfl (.inl rfl)
                    have e2 : f 2 = .int .i64 (k : Int) := hpre ⟨2, .data⟩ (by simp) rfl (.inl rfl)
                    obtain ⟨f, rfl⟩ := fixG f 1 _ e1
                    rw [updV_ne _ _ (by decide)] at e2
                    obtain ⟨f, rfl⟩ := fixG f 2 _ e2
                    clear e1 e2
                    refine wpOp_step rfl fun K' hK' => ?_
                    simp only [putL, updV]
                    go_simp
                    have hz := hK' _ _ (hK (.pointer (some ⟨gI, k, none⟩)) (u) (hB) (c0R_refl _ _ (by decide)) (rfl))
                    refine Eq.mp (congrArg (fun act => K' act (u)) ?_) hz
                    kernel_rfl
                  | 4, ho, hG, hpre, hK =>
                    obtain rfl := Option.some.inj ho
                    have y0 := (hG (.inl rfl)).1.cw.cellM Hm6.out
                    have hl := (hG (.inl rfl)).1.cw.fi.lt
                    have e3 : f 3 = .pointer (some ⟨gI, k, none⟩) := hpre ⟨3, .data⟩ (by simp) rfl (.inl rfl)
                    obtain ⟨f, rfl⟩ := fixG f 3 _ e3
                    clear e3
                    refine wpOp_step rfl fun K' hK' => ?_
                    simp only [putL, updV]
                    go_simp
                    have hz := hK' _ _ (hK (.slice (some ⟨gr, 0, none⟩) rn rn) (u) (hB) (c0R_refl _ _ (by decide)) (rfl))
                    refine Eq.mp (congrArg (fun act => K' act (u)) ?_) hz
                    kernel_rfl
                  | 5, ho, hG, hpre, hK =>
                    obtain rfl := Option.some.inj ho
                    refine wpOp_step rfl fun K' hK' => ?_
                    simp only [putL, updV]
                    go_simp
                    have hz := hK' _ _ (hK (.int .i64 (i : Int)) (u) (hB) (c0R_refl _ _ (by decide)) (rfl))
                    refine Eq.mp (congrArg (fun act => K' act (u)) ?_) hz
                    kernel_rfl
                  | 6, ho, hG, hpre, hK =>
                    obtain rfl := Option.some.inj ho
                    refine wpOp_step rfl fun K' hK' => ?_
                    simp only [putL, updV]
                    go_simp
                    have hz := hK' _ _ (hK (.pointer (some ⟨bA, 1, none⟩)) (u) (hB) (c0R_refl _ _ (by decide)) (rfl))
                    refine Eq.mp (congrArg (fun act => K' act (u)) ?_) hz
                    kernel_rfl
                  | 7, ho, hG, hpre, hK =>
                    obtain rfl := Option.some.inj ho
                    have e6 : f 6 = .pointer (some ⟨bA, 1, none⟩) := hpre ⟨6, .data⟩ (by simp) rfl (.inl rfl)
                    obtain ⟨f, rfl⟩ := fixG f 6 _ e6
                    clear e6
                    refine wpOp_step rfl fun K' hK' => ?_
                    simp only [putL, updV]
                    go_simp
                    have hz := hK' _ _ (hK (.pointer (some ⟨bA, 1, none⟩)) (u) (hB) (c0R_refl _ _ (by decide)) (rfl))
                    refine Eq.mp (congrArg (fun act => K' act (u)) ?_) hz
                    kernel_rfl
                  | 8, ho, hG, hpre, hK =>
                    obtain rfl := Option.some.inj ho
                    obtain ⟨x0, x1, x2, x3, x4, x5⟩ := (hG (.inr (.inl rfl))).2.1.six
                    have hl := (hG (.inr (.inl rfl))).2.1.lt
                    have e7 : f 7 = .pointer (some ⟨bA, 1, none⟩) := hpre ⟨7, .data⟩ (by simp) rfl (.inl rfl)
                    obtain ⟨f, rfl⟩ := fixG f 7 _ e7
                    clear e7
                    refine wpOp_step rfl fun K' hK' => ?_
                    simp only [putL, updV]
                    go_simp
                    have hz := hK' _ _ (hK (.agg #[.int .i64 a.f.G.W, .slice a.f.G.A a.f.G.n a.f.G.c]) (u) (hB) (c0R_refl _ _ (by decide)) (rfl))
                    refine Eq.mp (congrArg (fun act => K' act (u)) ?_) hz
                    kernel_rfl
                  | 9, ho, hG, hpre, hK =>
                    obtain rfl := Option.some.inj ho
                    have e8 : f 8 = .agg #[.int .i64 a.f.G.W, .slice a.f.G.A a.f.G.n a.f.G.c] := hpre ⟨8, .data⟩ (by simp) rfl (.inl rfl)
                    obtain ⟨f, rfl⟩ := fixG f 8 _ e8
                    clear e8
                    refine wpOp_step rfl fun K' hK' => ?_
                    simp only [putL, updV]
                    go_simp
                    go_at_call 85
                    refine (copiedSetE_any a.f.G.W a.f.G.A a.f.G.n a.f.G.c a.f.G.ws u (HF.out u hB.bel).1.gen Hn0.out.1).mono ?_
                    rintro e u5 ⟨g, rfl, hr, -, hb⟩
                    have hz := hK' _ _ (hK (.agg #[.int .i64 a.f.G.W, .slice (some ⟨g, 0, none⟩) a.f.G.n a.f.G.n]) (u5) (hB.below hb) (c0R_of hb (by decide)) (⟨g, rfl, hr⟩))
                    refine Eq.mp (congrArg (fun act => K' act (u5)) ?_) hz
                    kernel_rfl
                  | 10, ho, hG, hpre, hK =>
                    obtain rfl := Option.some.inj ho
                    refine wpOp_step rfl fun K' hK' => ?_
                    simp only [putL, updV]
                    go_simp
                    have hz := hK' _ _ (hK (.pointer (some ⟨bA, 1, none⟩)) (u) (hB) (c0R_refl _ _ (by decide)) (rfl))
                    refine Eq.mp (congrArg (fun act => K' act (u)) ?_) hz
                    kernel_rfl
                  | 11, ho, hG, hpre, hK =>
                    obtain rfl := Option.some.inj ho
                    have e10 : f 10 = .pointer (some ⟨bA, 1, none⟩) := hpre ⟨10, .data⟩ (by simp) rfl (.inl rfl)
                    obtain ⟨f, rfl⟩ := fixG f 10 _ e10
                    clear e10
                    refine wpOp_step rfl fun K' hK' => ?_
                    simp only [putL, updV]
                    go_simp
                    have hz := hK' _ _ (hK (.pointer (some ⟨bA, 3, none⟩)) (u) (hB) (c0R_refl _ _ (by decide)) (rfl))
                    refine Eq.mp (congrArg (fun act => K' act (u)) ?_) hz
                    kernel_rfl
                  | 12, ho, hG, hpre, hK =>
                    obtain rfl := Option.some.inj ho
                    obtain ⟨x0, x1, x2, x3, x4, x5⟩ := (hG (.inr (.inr (.inl rfl)))).2.1.six
                    have hl := (hG (.inr (.inr (.inl rfl)))).2.1.lt
                    have e11 : f 11 = .pointer (some ⟨bA, 3, none⟩) := hpre ⟨11, .data⟩ (by simp) rfl (.inl rfl)
                    obtain ⟨f, rfl⟩ := fixG f 11 _ e11
                    clear e11
                    refine wpOp_step rfl fun K' hK' => ?_
                    simp only [putL, updV]
                    go_simp
                    have hz := hK' _ _ (hK (.agg #[.int .i64 a.f.K.W, .slice a.f.K.A a.f.K.n a.f.K.c]) (u) (hB) (c0R_refl _ _ (by decide)) (rfl))
                    refine Eq.mp (congrArg (fun act => K' act (u)) ?_) hz
                    kernel_rfl
                  | 13, ho, hG, hpre, hK =>
                    obtain rfl := Option.some.inj ho
                    have e12 : f 12 = .agg #[.int .i64 a.f.K.W, .slice a.f.K.A a.f.K.n a.f.K.c] := hpre ⟨12, .data⟩ (by simp) rfl (.inl rfl)
                    obtain ⟨f, rfl⟩ := fixG f 12 _ e12
                    clear e12
                    refine wpOp_step rfl fun K' hK' => ?_
                    simp only [putL, updV]
                    go_simp
                    go_at_call 85
                    refine (copiedSetE_any a.f.K.W a.f.K.A a.f.K.n a.f.K.c a.f.K.ws u (HF.out u hB.bel).1.kill Hn0.out.2.1).mono ?_
                    rintro e u5 ⟨g, rfl, hr, -, hb⟩
                    have hz := hK' _ _ (hK (.agg #[.int .i64 a.f.K.W, .slice (some ⟨g, 0, none⟩) a.f.K.n a.f.K.n]) (u5) (hB.below hb) (c0R_of hb (by decide)) (⟨g, rfl, hr⟩))
                    refine Eq.mp (congrArg (fun act => K' act (u5)) ?_) hz
                    kernel_rfl
                  | 14, ho, hG, hpre, hK =>
                    obtain rfl := Option.some.inj ho
                    refine wpOp_step rfl fun K' hK' => ?_
                    simp only [putL, updV]
                    go_simp
                    have hz := hK' _ _ (hK (.pointer (some ⟨bA, 1, none⟩)) (u) (hB) (c0R_refl _ _ (by decide)) (rfl))
                    refine Eq.mp (congrArg (fun act => K' act (u)) ?_) hz
                    kernel_rfl
                  | 15, ho, hG, hpre, hK =>
                    obtain rfl := Option.some.inj ho
                    have e14 : f 14 = .pointer (some ⟨bA, 1, none⟩) := hpre ⟨14, .data⟩ (by simp) rfl (.inl rfl)
                    obtain ⟨f, rfl⟩ := fixG f 14 _ e14
                    clear e14
                    refine wpOp_step rfl fun K' hK' => ?_
                    simp only [putL, updV]
                    go_simp
                    have hz := hK' _ _ (hK (.pointer (some ⟨bA, 5, none⟩)) (u) (hB) (c0R_refl _ _ (by decide)) (rfl))
                    refine Eq.mp (congrArg (fun act => K' act (u)) ?_) hz
                    kernel_rfl
                  | 16, ho, hG, hpre, hK =>
                    obtain rfl := Option.some.inj ho
                    obtain ⟨x0, x1, x2, x3, x4, x5⟩ := (hG (.inr (.inr (.inr (.inl rfl))))).2.1.six
                    have hl := (hG (.inr (.inr (.inr (.inl rfl))))).2.1.lt
                    have e15 : f 15 = .pointer (some ⟨bA, 5, none⟩) := hpre ⟨15, .data⟩ (by simp) rfl (.inl rfl)
                    obtain ⟨f, rfl⟩ := fixG f 15 _ e15
                    clear e15
                    refine wpOp_step rfl fun K' hK' => ?_
                    simp only [putL, updV]
                    go_simp
                    have hz := hK' _ _ (hK (.slice a.f.C a.f.k a.f.q) (u) (hB) (c0R_refl _ _ (by decide)) (rfl))
                    refine Eq.mp (congrArg (fun act => K' act (u)) ?_) hz
                    kernel_rfl
                  | 17, ho, hG, hpre, hK =>
                    obtain rfl := Option.some.inj ho
                    have e16 : f 16 = .slice a.f.C a.f.k a.f.q := hpre ⟨16, .data⟩ (by simp) rfl (.inl rfl)
                    obtain ⟨f, rfl⟩ := fixG f 16 _ e16
                    clear e16
                    refine wpOp_step rfl fun K' hK' => ?_
                    simp only [putL, updV]
                    go_simp
                    go_at_call 87
                    refine (cpdCopy_any a.f.C a.f.k a.f.q (pairs a.f.cs) u (by rw [pairs_len2, (HF.out u hB.bel).1.cops.len]) Hn0.out.2.2 (HF.out u hB.bel).1.cops.lies (one_pairs _)).mono ?_
                    rintro e u5 ⟨rfl, hC, hb⟩
                    have hz := hK' _ _ (hK (.slice (some ⟨u.heap.size, 0, none⟩) a.f.k a.f.k) (u5) (hB.below hb) (c0R_of hb (by decide)) (⟨_, rfl, hC⟩))
                    refine Eq.mp (congrArg (fun act => K' act (u5)) ?_) hz
                    kernel_rfl
                  | 18, ho, hG, hpre, hK =>
                    obtain rfl := Option.some.inj ho
                    obtain ⟨gG, e9, hG9⟩ : ∃ g : Nat, f 9 = .agg #[.int .i64 a.f.G.W, .slice (some ⟨g, 0, none⟩) a.f.G.n a.f.G.n] ∧ Row u g a.f.G.ws := hpre ⟨9, .data⟩ (by simp) rfl (.inl rfl)
                    obtain ⟨gK, e13, hK9⟩ : ∃ g : Nat, f 13 = .agg #[.int .i64 a.f.K.W, .slice (some ⟨g, 0, none⟩) a.f.K.n a.f.K.n] ∧ Row u g a.f.K.ws := hpre ⟨13, .data⟩ (by simp) rfl (.inl rfl)
                    obtain ⟨gC, e17, hC⟩ : ∃ g : Nat, f 17 = .slice (some ⟨g, 0, none⟩) a.f.k a.f.k ∧ Fb u g (pairs a.f.cs).toArray 27 := hpre ⟨17, .data⟩ (by simp) rfl (.inl rfl)
                    obtain ⟨f, rfl⟩ := fixG f 9 _ e9
                    rw [updV_ne _ _ (by decide)] at e13
                    rw [updV_ne _ _ (by decide)] at e17
                    obtain ⟨f, rfl⟩ := fixG f 13 _ e13
                    rw [updV_ne _ _ (by decide)] at e17
                    obtain ⟨f, rfl⟩ := fixG f 17 _ e17
                    clear e9 e13 e17
                    refine wpOp_step rfl fun K' hK' => ?_
                    simp only [putL, updV]
                    go_simp
                    have hz := hK' _ _ (hK (.agg #[.int .i64 a.f.G.W, .slice (some ⟨gG, 0, none⟩) a.f.G.n a.f.G.n, .int .i64 a.f.K.W, .slice (some ⟨gK, 0, none⟩) a.f.K.n a.f.K.n, .slice (some ⟨gC, 0, none⟩) a.f.k a.f.k]) (u) (hB) (c0R_refl _ _ (by decide)) (⟨gG, gK, gC, rfl, hG9, hK9, hC⟩))
                    refine Eq.mp (congrArg (fun act => K' act (u)) ?_) hz
                    kernel_rfl
                  | 19, ho, hG, hpre, hK =>
                    obtain rfl := Option.some.inj ho
                    have k0 : (0 : Int) ≤ i := by omega
                    have k1 : (i : Int) < rn := by omega
                    have k2 : (i : Int).toNat = i := by omega
                    have e4 : f 4 = .slice (some ⟨gr, 0, none⟩) rn rn := hpre ⟨4, .data⟩ (by simp) rfl (.inl rfl)
                    have e5 : f 5 = .int .i64 (i : Int) := hpre ⟨5, .data⟩ (by simp) rfl (.inl rfl)
                    obtain ⟨f, rfl⟩ := fixG f 4 _ e4
                    rw [updV_ne _ _ (by decide)] at e5
                    obtain ⟨f, rfl⟩ := fixG f 5 _ e5
                    clear e4 e5
                    refine wpOp_step rfl fun K' hK' => ?_
                    simp only [putL, updV]
                    go_simp
                    have hz := hK' _ _ (hK (.pointer (some ⟨gr, i * 6, none⟩)) (u) (hB) (c0R_refl _ _ (by decide)) (rfl))
                    refine Eq.mp (congrArg (fun act => K' act (u)) ?_) hz
                    kernel_rfl
                  | 20, ho, hG, hpre, hK =>
                    obtain rfl := Option.some.inj ho
                    have e19 : f 19 = .pointer (some ⟨gr, i * 6, none⟩) := hpre ⟨19, .data⟩ (by simp) rfl (.inl rfl)
                    obtain ⟨f, rfl⟩ := fixG f 19 _ e19
                    clear e19
                    refine wpOp_step rfl fun K' hK' => ?_
                    simp only [putL, updV]
                    go_simp
                    have hz := hK' _ _ (hK (.pointer (some ⟨gr, i * 6 + 1, none⟩)) (u) (hB) (c0R_refl _ _ (by decide)) (rfl))
                    refine Eq.mp (congrArg (fun act => K' act (u)) ?_) hz
                    kernel_rfl
                  | 21, ho, hG, hpre, hK =>
                    obtain rfl := Option.some.inj ho
                    have hcp := (hG (.inr (.inr (.inr (.inr rfl))))).1
                    obtain ⟨x0, x1, x2, x3, x4, x5⟩ := fr_cells hcp.fr Hl.out
                    have f1 := hcp.fr.frozen (i * 6 + 1)
                    have f2 := hcp.fr.frozen (i * 6 + 1 + 1)
                    have f3 := hcp.fr.frozen (i * 6 + 1 + 2)
                    have f4 := hcp.fr.frozen (i * 6 + 1 + 3)
                    have f5 := hcp.fr.frozen (i * 6 + 1 + 4)
                    have hl := hcp.fr.lt
                    have e20 : f 20 = .pointer (some ⟨gr, i * 6 + 1, none⟩) := hpre ⟨20, .data⟩ (by simp) rfl (.inl rfl)
                    obtain ⟨gG, gK, gC, e18, hG', hK2, hC⟩ : ∃ gG gK gC : Nat, f 18 = .agg #[.int .i64 a.f.G.W, .slice (some ⟨gG, 0, none⟩) a.f.G.n a.f.G.n, .int .i64 a.f.K.W, .slice (some ⟨gK, 0, none⟩) a.f.K.n a.f.K.n, .slice (some ⟨gC, 0, none⟩) a.f.k a.f.k] ∧ Row u gG a.f.G.ws ∧ Row u gK a.f.K.ws ∧ Fb u gC (pairs a.f.cs).toArray 27 := hpre ⟨18, .data⟩ (by simp) rfl (.inl rfl)
                    obtain ⟨f, rfl⟩ := fixG f 20 _ e20
                    rw [updV_ne _ _ (by decide)] at e18
                    obtain ⟨f, rfl⟩ := fixG f 18 _ e18
                    clear e20 e18
                    have hcp2 := hcp.put Ha.out (f := ⟨⟨a.f.G.W, some ⟨gG, 0, none⟩, a.f.G.n, a.f.G.n, a.f.G.ws⟩, ⟨a.f.K.W, some ⟨gK, 0, none⟩, a.f.K.n, a.f.K.n, a.f.K.ws⟩, some ⟨gC, 0, none⟩, a.f.k, a.f.k, a.f.cs⟩) (new_f (HF.out u hB.bel).1 (HF.out u hB.bel).2 hG' hK2 hC) rfl
                    refine wpOp_step rfl fun K' hK' => ?_
                    simp only [putL, updV]
                    go_simp
                    have hz := hK' _ _ (hK (undef) (putF u gr (i * 6 + 1) ⟨⟨a.f.G.W, some ⟨gG, 0, none⟩, a.f.G.n, a.f.G.n, a.f.G.ws⟩, ⟨a.f.K.W, some ⟨gK, 0, none⟩, a.f.K.n, a.f.K.n, a.f.K.ws⟩, some ⟨gC, 0, none⟩, a.f.k, a.f.k, a.f.cs⟩) (hB.put (putF_stp hcp.fr _ _) (by decide) hcp2.cw.bel) (c0R_w (putF_stp hcp.fr _ _)) (⟨_, hcp2⟩))
                    refine Eq.mp (congrArg (fun act => K' act (putF u gr (i * 6 + 1) ⟨⟨a.f.G.W, some ⟨gG, 0, none⟩, a.f.G.n, a.f.G.n, a.f.G.ws⟩, ⟨a.f.K.W, some ⟨gK, 0, none⟩, a.f.K.n, a.f.K.n, a.f.K.ws⟩, some ⟨gC, 0, none⟩, a.f.k, a.f.k, a.f.cs⟩)) ?_) hz
                    kernel_rfl
                  | j + 22, ho, hG, hpre, hK => exact absurd hi (by omega)
                case en =>
                  intro Q2 hQ2 f u hB hF
                  obtain ⟨l2, hcp⟩ : ∃ l2, Cp w v N gB gI (k + 1) gr (i + 1) B5 M6 J src l2 u := hF 21 (by decide) rfl
                  have HCp1 := hid hcp
                  have HBx1 := hid hB
                  clear hF
                  show wpAny _ _ _ _ 0 (tailArr 22 22) _ _
                  refine ⟨by kernel_rfl, hQ2 _ _ (hKx _ _ ?_)⟩
                  simp only [putL, updV]
                  clear hcp hB HCp9 HBx9
                  have HI1 := hid (show ∃ l : List AH, Cp w v N gB gI (k + 1) gr (i + 1) B5 M6 J src l u ∧ Bx w #[.int .i64 v, .slice (some ⟨gB, 0, none⟩) N N, .slice (some ⟨gI, 0, none⟩) N N] #[.int .i64 v, .slice (some adB) N bc, .slice (some adI) N ic] bO u from ⟨_, HCp1.out, HBx1.out⟩)
                  go_wp2_with fail
                  go_roundw
                  case rel => exact ⟨i + 1, by omega, by go_num, HI1⟩
                  case measure => simp [intOf]; omega
              · have e : i = rn := by omega
                subst e
                have hrow := HCp.out.row (by rw [Hrl.out]; exact Nat.le_refl _) Hrr.out hN
                have hcw := HCp.out.cw.push hrow (fun y hy g hg e => HCp.out.ne y hy (hg.trans e.symm))
                have hcs := HCs.out.next (z := ⟨W, some ⟨g, 0, none⟩, n, n, ws⟩) (r := ⟨some ⟨gr, 0, none⟩, src.length, src.length, l⟩) (by rw [HMl.out.2]; exact hlt) (by rw [HMl.out.1]; exact hlt) Hy.out rfl Hr.out (HCp.out.ms (by rw [Hrl.out]; exact Nat.le_refl _)).1
                rw [HB5.out, show AL.v ⟨some ⟨gr, 0, none⟩, src.length, src.length, l⟩ = .slice (some ⟨gr, 0, none⟩) i i from by unfold AL.v; rw [Hrl.out], HM6.out] at hcs
                have HI2 := hid (show ∃ (B : List ZH) (M : List Value) (J : List AL), Cw w v N gB gI (k + 1) B M J wr ∧ Bx w #[.int .i64 v, .slice (some ⟨gB, 0, none⟩) N N, .slice (some ⟨gI, 0, none⟩) N N] #[.int .i64 v, .slice (some adB) N bc, .slice (some adI) N ic] bO wr ∧ CsV Bl Il (k + 1) B M J from ⟨_, _, _, hcw, HBx.out, hcs⟩)
                clear hrow hcw hcs
                go_wp2_with fail
                go_roundw
                case rel => exact ⟨k + 1, by omega, by go_num, HI2⟩
                case measure => simp [intOf]; omega
      · have e : k = N := by omega
        subst e
        obtain ⟨c0, c1, c2⟩ := HBx.out.oo.three
        obtain ⟨z0, z1, z2⟩ := HBx.out.zz.three
        have f0 := HBx.out.zz.frozen 0
        have f1 := HBx.out.zz.frozen 1
        have f2 := HBx.out.zz.frozen 2
        have hl := HBx.out.zz.lt
        obtain ⟨d1, d2, d3⟩ := HCs.out.done HCw.out.ml HCw.out.bl Hbl.out Hil.out
        have how := HCw.out.ow HCs.out.jl
        rw [d1] at how
        have hb3 : Below w.heap.size w (((wr.setCell ⟨w.heap.size + 1, 0, none⟩ (.int .i64 v)).setCell ⟨w.heap.size + 1, 1, none⟩ (.slice (some ⟨gB, 0, none⟩) k k)).setCell ⟨w.heap.size + 1, 2, none⟩ (.slice (some ⟨gI, 0, none⟩) k k)) :=
          ((HBx.out.bel.setCell (by show _ ≤ w.heap.size + 1; omega) _).setCell (by show _ ≤ w.heap.size + 1; omega) _).setCell (by show _ ≤ w.heap.size + 1; omega) _
        have HFin := hid (how.stp (three_stp HBx.out.zz (.int .i64 v) (.slice (some ⟨gB, 0, none⟩) k k) (.slice (some ⟨gI, 0, none⟩) k k)) hb3 (by decide) (by decide) (by decide) (by decide) (by decide))
        have Hd := hid (And.intro d2 d3)
        clear how hb3 d1 d2 d3
        go_wp2_with fail
        refine bodyPost_ret (v := .agg #[.int .i64 v, .slice (some ⟨gB, 0, none⟩) k k, .slice (some ⟨gI, 0, none⟩) k k]) (by simp [results, Tryz.results52, go_sem, z0, z1, z2]) rfl ⟨gB, gI, B, J, rfl, HFin.out, Hd.out⟩
end Go.Proofs.YtbjaebbmajhjjaaGreat
