/- For every list of choices: of the graph made of them, the reversal and the reversal of the reversal are made without an error, the latter is the graph itself, the former is valid and has as many edges, and the sanity check holds: GraphReverse returns true and leaves its argument as it was. The rows' list ties the table of shapes of the program's syntax. -/
import Derived.Test.YtfapgnbnfhpicaaGreatDoorGrrAlla
import Derived.Test.YtfapgnbnfhpicaaGreatDoorRp3
import Derived.Laws.OwnMore
import Derived.Deep.RegionLaw
import Derived.Deep.DrawnRows
import Derived.Test.YtfapgnbnfhpicaaGreatDoorPg2
import Derived.Test.YtfapgnbnfhpicaaGreatDoorPmd
import Derived.Test.YtfapgnbnfhpicaaGreatDoorRsc
import Derived.Test.YtfapgnbnfhpicaaGreatDoorSnl
import Derived.StillTailTactics
import Derived.Deep.RegionHeld3
import Derived.Deep.DeepCutAuto
import Derived.Test.YtfapgnbnfhpicaaGreatDoorPms
import Derived.Test.YtfapgnbnfhpicaaGreatDoorVdv
import Derived.Test.YtfapgnbnfhpicaaGreatDoorSup
import Derived.Lib.SmallJoins
import Derived.ShutString
import Derived.ChangeOld
import Derived.Test.YtfapgnbnfhpicaaGreatDoorTie
import Derived.Test.YtfapgnbnfhpicaaGreatDoorCards
import Derived.Test.YtfapgnbnfhpicaaGreatDoorDp1
import Derived.Deep.DeepHandedRow
import Derived.Deep.DeepWitnessRowRef
import Derived.LaidMore
import Derived.Lib.LaidTab
namespace Go.Proofs.YtfapgnbnfhpicaaGreatDoor
set_option maxRecDepth 20000
set_option linter.unusedVariables false
set_option linter.unusedSimpArgs false
open Go.ChangeShapes Go.WideShapes Go.ChangeAt Go.RowKit

/-- The edges as pairs of numbers. -/
def numsE (p : List Fnc) : List (Nat × Nat) := (edgesN p).map (numE (listN p))
def sucF (p : List Fnc) (a : Nat) : List Int := rowP (listN p).length fun b => decide ((b : Int) ∈ outF (numsE p) a)
def sucL (p : List Fnc) : List (List Int) := rowsF (listN p).length (sucF p)
/-- What the sorted part of the lists holds. -/
def srF (N : Nat) (E : List (Nat × Nat)) (k : Nat) (a : Nat) : List Int := if a < k then rowP N (fun b => decide ((b : Int) ∈ outF E a)) else outF E a
theorem nodes_ok {p : List Fnc} (h : (checkP p).2 = 0) : ∀ n ∈ listN p, NdOk p n ∧ wfN n := by
  obtain ⟨hp, hf, hL⟩ := check_parts h
  obtain ⟨q1, q2, q3⟩ := prg_parts hp
  intro n hn
  rw [hL] at hn
  unfold pre1 at hn
  obtain ⟨f, hf1, hn⟩ := List.mem_flatMap.1 hn
  have hf1 := List.mem_range.1 hf1
  have hF : p[f]? = some p[f] := List.getElem?_eq_getElem hf1
  rw [ndFs_at hF] at hn
  have hfl : f ≤ 1000 := by omega
  obtain ⟨a1, a2, a3⟩ := fnc_parts (q3 _ (List.getElem_mem hf1))
  unfold ndF at hn
  simp only [List.mem_append, List.mem_cons, List.mem_singleton, List.not_mem_nil, or_false] at hn
  rcases hn with (rfl | hn) | rfl
  · exact ⟨.entry f hfl, wf_small (by omega) (by omega) (by omega) (by omega)⟩
  · obtain ⟨b, hb1, hn⟩ := List.mem_flatMap.1 hn
    have hb1 := List.mem_range.1 hb1
    have hB : p[f].bs[b]? = some p[f].bs[b] := List.getElem?_eq_getElem hb1
    rw [ndBs_at hB] at hn
    obtain ⟨c1, c2, c3⟩ := blk_parts (a3 _ (List.getElem_mem hb1))
    unfold ndB at hn
    obtain ⟨j, hj1, hn⟩ := List.mem_flatMap.1 hn
    have hj1 := List.mem_range.1 hj1
    have hS : p[f].bs[b].ss[j]? = some p[f].bs[b].ss[j] := List.getElem?_eq_getElem hj1
    rw [ndSs_at hS] at hn
    have hst := stm_ts (c3 _ (List.getElem_mem hj1))
    have hts : (p[f].bs[b].ss[j].op == 3) = true → p[f].bs[b].ss[j].ts ≠ [] := fun e h0 => by
      have := hst.1 (.inl (by simpa using e))
      rw [h0] at this
      simp at this
    have h3 : NdOk p ⟨3, f, b, j⟩ ∧ wfN ⟨3, f, b, j⟩ := ⟨.stmt f b j _ _ _ hF hB hS hts, wf_small (by omega) (by omega) (by omega) (by omega)⟩
    have h4 : NdOk p ⟨4, f, b, j⟩ ∧ wfN ⟨4, f, b, j⟩ := ⟨.retn f b j hfl (by omega) (by omega), wf_small (by omega) (by omega) (by omega) (by omega)⟩
    unfold ndS at hn
    split at hn
    · simp only [List.mem_cons, List.not_mem_nil, or_false] at hn
      rcases hn with rfl | rfl
      · exact h3
      · exact h4
    · simp only [List.mem_cons, List.not_mem_nil, or_false] at hn
      subst hn
      exact h3
  · exact ⟨.exit f hfl, wf_small (by omega) (by omega) (by omega) (by omega)⟩
theorem drew_size (w : World) : w.drew.heap.size = w.heap.size := rfl
/-- What stands in Build before the builder is made. -/
structure Bw (w : World) (P0 : Nat) (x : PH) (A : Option Addr) (L : List Nd) (v : World) : Prop where
  bel : Below w.heap.size w v
  par : Fb v P0 #[.slice x.A x.n x.c] 44
  res : Fb v (P0 + 1) #[.slice none 0 0, .slice none 0 0, .slice none 0 0] 28
  nds : ∀ ex : List (Option Nat), (∀ k, some k ∈ ex → k < w.heap.size + 2) → EAt v ex A (L.flatMap ndc)
  peq : P0 = w.heap.size
theorem Bw.below {w v v' : World} {P0 : Nat} {x : PH} {A : Option Addr} {L : List Nd} (h : Bw w P0 x A L v) (hb : Below v.heap.size v v') : Bw w P0 x A L v' :=
  ⟨below_step h.bel hb, h.par.below hb h.par.lt, h.res.below hb h.res.lt, fun ex hex => (h.nds ex hex).go (Go2.below hb), h.peq⟩
/-- The builder while its lists are sorted. -/
structure Bms (w0 : World) (x : PH) (B MB M N : Nat) (f : Nat → List Int) (w : World) : Prop where
  box : Fb w B #[.slice x.A x.n x.c, .map (some MB), .slice (some ⟨M, 0, none⟩) N N] 124
  mx : Mx w M N f
  bel : Below w0.heap.size w0 w
  mle : w0.heap.size ≤ M
theorem Bms.below {w0 w w' : World} {x : PH} {B MB M N : Nat} {f : Nat → List Int} (h : Bms w0 x B MB M N f w) (hb : Below w.heap.size w w') : Bms w0 x B MB M N f w' :=
  ⟨h.box.below hb h.box.lt, h.mx.below hb, below_step h.bel hb, h.mle⟩
theorem ints_mem {E : List (Nat × Nat)} {N : Nat} (hE : ∀ e ∈ E, e.2 < N) (a : Nat) : ∀ x ∈ outF E a, 0 ≤ x ∧ x < (N : Int) := by
  intro x hx
  obtain ⟨c, hc, rfl⟩ := outF_mem.1 hx
  have := hE _ hc
  simp only at this
  omega
theorem srF_step {N : Nat} {E : List (Nat × Nat)} {k : Nat} (hE : ∀ e ∈ E, e.2 < N) (a : Nat) : upd (srF N E k) k (Lib.compact (srtI (outF E k))) a = srF N E (k + 1) a := by
  by_cases e : a = k
  · subst e
    rw [upd_at, compact_row (ints_mem hE a)]
    unfold srF
    rw [if_pos (by omega)]
  · rw [upd_ne _ _ e]
    unfold srF
    by_cases e2 : a < k
    · rw [if_pos e2, if_pos (by omega)]
    · rw [if_neg e2, if_neg (by omega)]
theorem srF_at {N : Nat} {E : List (Nat × Nat)} {k : Nat} : srF N E k k = outF E k := by unfold srF; rw [if_neg (by omega)]
theorem srF_zero (N : Nat) (E : List (Nat × Nat)) (a : Nat) : srF N E 0 a = outF E a := by unfold srF; rw [if_neg (by omega)]
theorem slice_own {A : Option Addr} {n c m d : Nat} : (Value.slice A n c).ownBlock = (Value.slice A m d).ownBlock := by cases A <;> rfl
theorem Bms.turn {w0 w w2 : World} {x : PH} {B MB M N : Nat} {E : List (Nat × Nat)} {k n c n2 c2 : Nat} {A : Option Addr} (h : Bms w0 x B MB M N (srF N E k) w) (hE : ∀ e ∈ E, e.2 < N) (hk : k < N) (hc : w.cell? ⟨M, k, none⟩ = some (.slice A n c))
    (hg : w.grownBy w2 (Value.slice A n c).ownBlock) (ho : w2.ownsRow (M + 1) 3 1 (.slice A n2 c2) n2 (ints (Lib.compact (srtI (outF E k))))) (hn2 : (Lib.compact (srtI (outF E k))).length = n2) :
    (w2.cell? ⟨M, k, none⟩ = some (.slice A n c) ∧ w2.frozen? ⟨M, k, none⟩ = false) ∧ Bms w0 x B MB M N (srF N E (k + 1)) (w2.setCell ⟨M, k, none⟩ (.slice A n2 c2)) := by
  obtain ⟨h1, h2, h3⟩ := h.mx.of hk hc
  subst hn2
  have hbM := h.mx.fb h.box (by decide)
  refine ⟨h2 _ hg, ⟨(h.box.grown hg (fb_ne_own h.box h1 (by decide))).far (by simpa using hbM) _, ?_, ?_, h.mle⟩⟩
  · exact (h3 w2 (.slice A (Lib.compact (srtI (outF E k))).length c2) _ hg ho (fun g hg2 => .inl (by rw [← hg2]; exact slice_own))).congr fun a _ => srF_step hE a
  · exact (h.bel.grown hg h.bel.size (fun j hj => by have := (h1.lt j hj).1; have := h.mle; omega)).setCell (by simpa using h.mle) _
theorem numsE_lt {p : List Fnc} {N : Nat} (h : (listN p).length = N) (hN : 1 ≤ N) : ∀ e ∈ numsE p, e.2 < N := by
  intro e he
  obtain ⟨e2, _, rfl⟩ := List.mem_map.1 he
  show numN (listN p) e2.2 < N
  rw [← h]; exact numN_lt (by omega) _
theorem flat_take {p : List Fnc} {L : List Nd} {k : Nat} {y : Nd} (h : L[k]? = some y) : ((L.take k).flatMap (lvE p)).map (numE L) ++ (lvE p y).map (numE L) = ((L.take (k + 1)).flatMap (lvE p)).map (numE L) := by
  rw [List.take_add_one, h]; simp
theorem flat_take_len {p : List Fnc} {L : List Nd} {k m : Nat} (h : (L.flatMap (lvE p)).length ≤ m) : (((L.take k).flatMap (lvE p)).map (numE L)).length ≤ m := by
  rw [List.length_map]
  refine Nat.le_trans ?_ h
  conv => rhs; rw [← List.take_append_drop k L]
  rw [List.flatMap_append, List.length_append]
  omega
theorem mx_nil {w : World} {M N : Nat} (h : Fb w M (Array.replicate N (Value.slice none 0 0)) 22) : Mx w M N (outF []) := by
  refine ⟨List.replicate N (.slice none 0 0), by simp, by rw [List.toArray_replicate]; exact h, fun i v hv => ?_, fun i j u v g _ hu hv hg => ?_⟩
  · obtain rfl := List.eq_of_mem_replicate (List.mem_of_getElem? hv)
    exact World.ownsRow_nil _ _ _ _
  · obtain rfl := List.eq_of_mem_replicate (List.mem_of_getElem? hu)
    simp [Value.ownBlock] at hg
theorem NMp.far {w : World} {MB B t : Nat} {cs : Array Value} {L : List Nd} (h : NMp w MB L) (hf : Fb w B cs t) (o : Nat) (u : Value) : NMp (w.setCell ⟨B, o, none⟩ u) MB L := by
  refine h.kept (setCell_grown w ⟨B, o, none⟩ u) (fun e => ?_)
  injection e with e
  simp only at e
  obtain ⟨es, clock, hm⟩ := h.isMap
  unfold Fb at hf
  rw [← e, hm] at hf
  cases hf
section
variable {w5 wn : World} {x : PH} {MB N : Nat} {L : List Nd}
theorem bl1 (hm : NMp wn MB L) (hb : Below w5.heap.size w5 wn) :
    Bls w5 x (wn.heap.size + 1) MB wn.heap.size N L [] ((wn.alloc (.cells (Array.replicate N (Value.slice none 0 0)) 22)).alloc (.cells #[.slice x.A x.n x.c, .map (some MB), .slice (some ⟨wn.heap.size, 0, none⟩) N N] 124)) :=
  ⟨by have := Fb.new (wn.alloc (.cells (Array.replicate N (Value.slice none 0 0)) 22)) #[.slice x.A x.n x.c, .map (some MB), .slice (some ⟨wn.heap.size, 0, none⟩) N N] 124; rwa [World.size_alloc] at this,
    hm.below (((Below.refl _ _).alloc (Nat.le_refl _) _).alloc (by simp) _), mx_nil ((Fb.new _ _ _).alloc _), (hb.alloc hb.size _).alloc (by simp; have := hb.size; omega) _, hb.size⟩
theorem bl2 (hm : NMp wn MB L) (hb : Below w5.heap.size w5 wn) :
    Bls w5 x wn.heap.size MB (wn.heap.size + 1) N L [] ((wn.alloc (.cells #[.slice x.A x.n x.c, .map (some MB), .slice (some ⟨wn.heap.size + 1, 0, none⟩) N N] 124)).alloc (.cells (Array.replicate N (Value.slice none 0 0)) 22)) :=
  ⟨(Fb.new _ _ _).alloc _, hm.below (((Below.refl _ _).alloc (Nat.le_refl _) _).alloc (by simp) _),
    mx_nil (by have := Fb.new (wn.alloc (.cells #[.slice x.A x.n x.c, .map (some MB), .slice (some ⟨wn.heap.size + 1, 0, none⟩) N N] 124)) (Array.replicate N (Value.slice none 0 0)) 22; rwa [World.size_alloc] at this),
    (hb.alloc hb.size _).alloc (by simp; have := hb.size; omega) _, by have := hb.size; omega⟩
theorem bl3 (hm : NMp wn MB L) (hb : Below w5.heap.size w5 wn) (hk : Below (w5.alloc (.cells (Array.replicate N (Value.slice none 0 0)) 22)).drew.heap.size (w5.alloc (.cells (Array.replicate N (Value.slice none 0 0)) 22)).drew wn) :
    Bls w5 x wn.heap.size MB w5.heap.size N L [] (wn.alloc (.cells #[.slice x.A x.n x.c, .map (some MB), .slice (some ⟨w5.heap.size, 0, none⟩) N N] 124)) :=
  have h1 : Fb (w5.alloc (.cells (Array.replicate N (Value.slice none 0 0)) 22)).drew w5.heap.size (Array.replicate N (Value.slice none 0 0)) 22 := Fb.new w5 _ _
  ⟨Fb.new _ _ _, hm.below ((Below.refl _ _).alloc (Nat.le_refl _) _), mx_nil ((h1.below hk h1.lt).alloc _), hb.alloc hb.size _, Nat.le_refl _⟩
theorem set3 {w : World} {B : Nat} {a b c a' b' c' : Value} {t : Nat} (h : Fb w B #[a, b, c] t) : Fb (((w.setCell ⟨B, 0, none⟩ a').setCell ⟨B, 1, none⟩ b').setCell ⟨B, 2, none⟩ c') B #[a', b', c'] t := by
  have := ((h.set 0 a').set 1 b').set 2 c'
  simpa using this
theorem far3 {w : World} {B g t : Nat} {a' b' c' : Value} {cs : Array Value} (h : Fb w g cs t) (hne : g ≠ B) : Fb (((w.setCell ⟨B, 0, none⟩ a').setCell ⟨B, 1, none⟩ b').setCell ⟨B, 2, none⟩ c') g cs t :=
  ((h.far (p := ⟨B, 0, none⟩) hne _).far (p := ⟨B, 1, none⟩) hne _).far (p := ⟨B, 2, none⟩) hne _
theorem map3 {w : World} {B t : Nat} {a b c a' b' c' : Value} (hm : NMp w MB L) (h : Fb w B #[a, b, c] t) : NMp (((w.setCell ⟨B, 0, none⟩ a').setCell ⟨B, 1, none⟩ b').setCell ⟨B, 2, none⟩ c') MB L :=
  ((hm.far h 0 a').far (h.set 0 a') 1 b').far ((h.set 0 a').set 1 b') 2 c'
theorem bel3 {w : World} {B : Nat} {a' b' c' : Value} (hb : Below w5.heap.size w5 w) (hB : w5.heap.size ≤ B) : Below w5.heap.size w5 (((w.setCell ⟨B, 0, none⟩ a').setCell ⟨B, 1, none⟩ b').setCell ⟨B, 2, none⟩ c') :=
  ((hb.setCell (by simpa using hB) _).setCell (by simpa using hB) _).setCell (by simpa using hB) _
theorem bl4 (hm : NMp wn MB L) (hb : Below w5.heap.size w5 wn)
    (hk : Below ((w5.alloc (.cells (Array.replicate N (Value.slice none 0 0)) 22)).alloc (.cells #[.slice none 0 0, .map none, .slice none 0 0] 124)).drew.heap.size ((w5.alloc (.cells (Array.replicate N (Value.slice none 0 0)) 22)).alloc (.cells #[.slice none 0 0, .map none, .slice none 0 0] 124)).drew wn) :
    Bls w5 x (w5.heap.size + 1) MB w5.heap.size N L [] (((wn.setCell ⟨w5.heap.size + 1, 0, none⟩ (.slice x.A x.n x.c)).setCell ⟨w5.heap.size + 1, 1, none⟩ (.map (some MB))).setCell ⟨w5.heap.size + 1, 2, none⟩ (.slice (some ⟨w5.heap.size, 0, none⟩) N N)) :=
  have h1 : Fb ((w5.alloc (.cells (Array.replicate N (Value.slice none 0 0)) 22)).alloc (.cells #[.slice none 0 0, .map none, .slice none 0 0] 124)).drew w5.heap.size (Array.replicate N (Value.slice none 0 0)) 22 := (Fb.new w5 _ _).alloc _
  have h2 : Fb ((w5.alloc (.cells (Array.replicate N (Value.slice none 0 0)) 22)).alloc (.cells #[.slice none 0 0, .map none, .slice none 0 0] 124)).drew (w5.heap.size + 1) #[.slice none 0 0, .map none, .slice none 0 0] 124 := by
    have := Fb.new (w5.alloc (.cells (Array.replicate N (Value.slice none 0 0)) 22)) #[.slice none 0 0, .map none, .slice none 0 0] 124
    rw [World.size_alloc] at this
    exact this
  ⟨set3 (h2.below hk h2.lt), map3 hm (h2.below hk h2.lt), mx_nil (far3 (h1.below hk h1.lt) (by omega)), bel3 hb (by omega), Nat.le_refl _⟩
theorem bl5 (hm : NMp wn MB L) (hb : Below w5.heap.size w5 wn)
    (hk : Below (w5.alloc (.cells #[.slice none 0 0, .map none, .slice none 0 0] 124)).drew.heap.size (w5.alloc (.cells #[.slice none 0 0, .map none, .slice none 0 0] 124)).drew wn) :
    Bls w5 x w5.heap.size MB wn.heap.size N L [] ((((wn.setCell ⟨w5.heap.size, 0, none⟩ (.slice x.A x.n x.c)).setCell ⟨w5.heap.size, 1, none⟩ (.map (some MB))).setCell ⟨w5.heap.size, 2, none⟩ (.slice (some ⟨wn.heap.size, 0, none⟩) N N)).alloc (.cells (Array.replicate N (Value.slice none 0 0)) 22)) :=
  have h2 : Fb (w5.alloc (.cells #[.slice none 0 0, .map none, .slice none 0 0] 124)).drew w5.heap.size #[.slice none 0 0, .map none, .slice none 0 0] 124 := Fb.new w5 _ _
  have h3 := h2.below hk h2.lt
  have hb3 := bel3 (a' := .slice x.A x.n x.c) (b' := .map (some MB)) (c' := .slice (some ⟨wn.heap.size, 0, none⟩) N N) hb (Nat.le_refl w5.heap.size)
  ⟨(set3 h3).alloc _, (map3 hm h3).below ((Below.refl _ _).alloc (Nat.le_refl _) _),
    mx_nil (by have := Fb.new (((wn.setCell ⟨w5.heap.size, 0, none⟩ (.slice x.A x.n x.c)).setCell ⟨w5.heap.size, 1, none⟩ (.map (some MB))).setCell ⟨w5.heap.size, 2, none⟩ (.slice (some ⟨wn.heap.size, 0, none⟩) N N)) (Array.replicate N (Value.slice none 0 0)) 22; simpa using this),
    hb3.alloc hb3.size _, hb.size⟩
theorem bl6 (hm : NMp wn MB L) (hb : Below w5.heap.size w5 wn)
    (hk : Below ((w5.alloc (.cells #[.slice none 0 0, .map none, .slice none 0 0] 124)).alloc (.cells (Array.replicate N (Value.slice none 0 0)) 22)).drew.heap.size ((w5.alloc (.cells #[.slice none 0 0, .map none, .slice none 0 0] 124)).alloc (.cells (Array.replicate N (Value.slice none 0 0)) 22)).drew wn) :
    Bls w5 x w5.heap.size MB (w5.heap.size + 1) N L [] (((wn.setCell ⟨w5.heap.size, 0, none⟩ (.slice x.A x.n x.c)).setCell ⟨w5.heap.size, 1, none⟩ (.map (some MB))).setCell ⟨w5.heap.size, 2, none⟩ (.slice (some ⟨w5.heap.size + 1, 0, none⟩) N N)) :=
  have h2 : Fb ((w5.alloc (.cells #[.slice none 0 0, .map none, .slice none 0 0] 124)).alloc (.cells (Array.replicate N (Value.slice none 0 0)) 22)).drew w5.heap.size #[.slice none 0 0, .map none, .slice none 0 0] 124 := (Fb.new w5 _ _).alloc _
  have h1 : Fb ((w5.alloc (.cells #[.slice none 0 0, .map none, .slice none 0 0] 124)).alloc (.cells (Array.replicate N (Value.slice none 0 0)) 22)).drew (w5.heap.size + 1) (Array.replicate N (Value.slice none 0 0)) 22 := by
    have := Fb.new (w5.alloc (.cells #[.slice none 0 0, .map none, .slice none 0 0] 124)) (Array.replicate N (Value.slice none 0 0)) 22
    rw [World.size_alloc] at this
    exact this
  ⟨set3 (h2.below hk h2.lt), map3 hm (h2.below hk h2.lt), mx_nil (far3 (h1.below hk h1.lt) (by omega)), bel3 hb (Nat.le_refl _), by omega⟩
end
theorem bld_done {w wr w8 : World} {P0 M N c : Nat} {x : PH} {A : Option Addr} {L : List Nd} {yl : List RH} {y2 : LH} {S P : List (List Int)} {a b d : Value} (hW : Bw w P0 x A L wr) (hb : Below wr.heap.size wr w8) (hM : P0 + 2 ≤ M) (hl : L.length = N) (hN : N ≤ 100000)
    (hS : (⟨some ⟨M, 0, none⟩, N, N, yl⟩ : LH).v = S) (hS2 : ∀ ex : List (Option Nat), (∀ k, some k ∈ ex → k < M) → LHok wr ex ⟨some ⟨M, 0, none⟩, N, N, yl⟩) (hP : y2.v = P) (hP2 : ∀ ex : List (Option Nat), (∀ k, some k ∈ ex → k < wr.drew.heap.size) → LHok w8 ex y2) (hsz : w.heap.size + 2 ≤ wr.heap.size) :
    RetGr w L S P 0 (.returned (.tuple #[.agg #[.slice A N c, .slice (some ⟨M, 0, none⟩) N N, .slice y2.A y2.n y2.c], .int .i64 0])) (((w8.setCell ⟨P0 + 1, 0, none⟩ a).setCell ⟨P0 + 1, 1, none⟩ b).setCell ⟨P0 + 1, 2, none⟩ d) := by
  have hp := hW.peq
  refine ⟨⟨A, N, c, L, ⟨some ⟨M, 0, none⟩, N, N, yl⟩, y2⟩, rfl, rfl, hS, hP, fun ex hex => ?_, ?_⟩
  · have hx : ∀ k, some k ∈ some (P0 + 1) :: ex → k < w.heap.size + 2 := fun k hk => by
      rcases List.mem_cons.1 hk with e | e
      · injection e with e; omega
      · have := hex k e; omega
    have h1 : GHok w8 (some (P0 + 1) :: ex) ⟨A, N, c, L, ⟨some ⟨M, 0, none⟩, N, N, yl⟩, y2⟩ :=
      ⟨(hW.below hb).nds _ hx, hl, by show N ≤ _; omega, (hS2 _ (fun k hk => by have := hx k hk; omega)).below hb, hP2 _ (fun k hk => by have := hx k hk; show k < wr.heap.size; omega)⟩
    have hs : ∀ (u : World) (o : Nat) (z : Value), Go2 u (some (P0 + 1) :: ex) (u.setCell ⟨P0 + 1, o, none⟩ z) (some (P0 + 1) :: ex) := fun u o z => Go2.same (row := some (P0 + 1)) (setCell_grown u ⟨P0 + 1, o, none⟩ z) (.inr (by simp))
    exact (((h1.go (hs _ 0 a)).go (hs _ 1 b)).go (hs _ 2 d)).go (Go2.less _ (fun k hk => by simp [hk]))
  · have hbw := (hW.below hb).bel
    exact ((hbw.setCell (by simp; omega) _).setCell (by simp; omega) _).setCell (by simp; omega) _
set_option maxHeartbeats 16000000 in
theorem build_yes (x : PH) (ex : List (Option Nat)) (w : World) (h : PHok w ex x) (hs : Shp w) (hc : (checkP x.p).2 = 0) :
    Calls Tryz.prog 35 #[.agg #[.slice x.A x.n x.c]] w (RetGr w (listN x.p) (sucL x.p) (revL (listN x.p).length (sucL x.p)) 0) := by
  obtain ⟨z1, z2, z3, z4⟩ := sizes_ok hc
  have Hno := hid (nodes_ok hc)
  have Hnd := hid (list_nodup x.p)
  have HEl := hid z4
  have Hnl := hid (numsE_lt (p := x.p) rfl (list_pos hc))
  have hN1 := list_pos hc
  have hb0 : Below w.heap.size w ((w.alloc (.cells #[.slice x.A x.n x.c] 44)).alloc (.cells #[.slice none 0 0, .slice none 0 0, .slice none 0 0] 28)) := ((Below.refl _ _).alloc (Nat.le_refl _) _).alloc (by simp) _
  have HB0 := hid hb0
  have HP0 := hid ((Fb.new w #[.slice x.A x.n x.c] 44).alloc (.cells #[.slice none 0 0, .slice none 0 0, .slice none 0 0] 28))
  have HR0 := hid (show Fb ((w.alloc (.cells #[.slice x.A x.n x.c] 44)).alloc (.cells #[.slice none 0 0, .slice none 0 0, .slice none 0 0] 28)) (w.heap.size + 1) #[.slice none 0 0, .slice none 0 0, .slice none 0 0] 28 by
    have := Fb.new (w.alloc (.cells #[.slice x.A x.n x.c] 44)) #[.slice none 0 0, .slice none 0 0, .slice none 0 0] 28; rwa [World.size_alloc] at this)
  have HX := hid (fun (v : World) (hb : Below w.heap.size w v) => h.go (Go2.below hb))
  have HS := hid (fun (v : World) (hb : Below w.heap.size w v) => hs.keep (hb.block 1 hs.pos0))
  have HCk := hid (fun (v : World) (hb : Below w.heap.size w v) => check_any x ex v (HX.out v hb) (HS.out v hb))
  have HLs := hid (fun (v : World) (hb : Below w.heap.size w v) => list_any x ex v (HX.out v hb) (HS.out v hb))
  have hq : ∃ q, checkP x.p = q := ⟨_, rfl⟩
  obtain ⟨⟨⟨qa, qb, qc, qd⟩, qe⟩, hq⟩ := hq
  rw [hq] at hc HCk
  simp only at hc
  subst hc
  have Hsl := hid (show sucL x.p = rowsF (listN x.p).length (srF (listN x.p).length (numsE x.p) (listN x.p).length) by
    unfold sucL rowsF
    refine List.map_congr_left fun a ha => ?_
    unfold sucF srF
    rw [if_pos (List.mem_range.1 ha)])
  have HNe := hid (show (edgesN x.p).map (numE (listN x.p)) = numsE x.p from rfl)
  have HLe := hid (show (listN x.p).flatMap (lvE x.p) = edgesN x.p from rfl)
  clear h hs hb0 z1 z2 z4 hq
  generalize listN x.p = L at *
  generalize hln : L.length = N at *
  have Hln := hid hln
  clear hln
  go_enter Tryz.func35, Tryz.ntmps35
  go_wp2_with fail
  have hG : ∃ G, w.heap.size = G := ⟨_, rfl⟩
  obtain ⟨G, hG⟩ := hG
  have HGe := hid hG
  rw [hG] at HP0 HR0 ⊢
  clear hG
  generalize (w.alloc (.cells #[.slice x.A x.n x.c] 44)).alloc (.cells #[.slice none 0 0, .slice none 0 0, .slice none 0 0] 28) = w1 at *
  refine (HCk.out _ HB0.out).mono ?_
  rintro e w2 ⟨rfl, hb2⟩
  have ha := (Below.refl w2.heap.size w2).alloc (Nat.le_refl _) (.cells #[.int .i64 qa, .int .i64 qb, .int .i64 qc, .int .i64 qd] 75)
  have hb3 := below_step hb2 ha
  have HB3 := hid (below_step HB0.out hb3)
  have HP3 := hid (HP0.out.below hb3 HP0.out.lt)
  have HR3 := hid (HR0.out.below hb3 HR0.out.lt)
  have p0 := HP3.out.onec
  have hpl := HP3.out.lt
  have hG1 : w2.heap.size ≠ G := by have := HP0.out.lt; have := hb2.size; omega
  clear ha hb2 hb3 HB0 HP0 HR0 HCk
  simp only
  go_wp2_with fail
  clear p0 hpl hG1
  generalize w2.alloc (.cells #[.int .i64 qa, .int .i64 qb, .int .i64 qc, .int .i64 qd] 75) = w3 at *
  have hsz3 : G + 2 ≤ w3.heap.size := HR3.out.lt
  refine (HLs.out _ HB3.out).mono ?_
  rintro e w5 ⟨A, c, rfl, hE, hLl, hb5⟩
  have HW5 := hid (show Bw w G x A L w5 from ⟨below_step HB3.out hb5, HP3.out.below hb5 HP3.out.lt, HR3.out.below hb5 HR3.out.lt, fun ex hex => hE ex (fun k hk => by have := hex k hk; have := HGe.out; omega), HGe.out.symm⟩)
  clear hE hLl hb5 hsz3 HB3 HP3 HR3
  rw [Hln.out]
  have p0 := HW5.out.par.onec
  have hpl := HW5.out.par.lt
  go_wp2_with fail
  have hrow := run_mkrows N (by omega)
  go_cut [7] (fun a wd => ∃ (B MB M : Nat), a = .pointer (some ⟨B, 0, none⟩) ∧ Hid (Bls w5 x B MB M N L [] wd))
  case first =>
    have HN44 := hid (fun (v : World) (hb : Below w5.heap.size w5 v) => numbers_any A N c L v ((HW5.out.below hb).nds [] (by simp)) Hln.out (by omega) Hnd.out (fun y hy => (Hno.out y hy).2))
    have HPb := hid (fun (v : World) (hb : Below w5.heap.size w5 v) => And.intro (HW5.out.below hb).par.onec (HW5.out.below hb).par.lt)
    have hcur : Below w5.heap.size w5 w5.drew := (Below.refl _ _).drew
    go_region_law (
      (go_simp
       go_at_call 71
       refine (HN44.out _ (by first | exact hcur | exact hcur.alloc (by simp) _ | exact (hcur.alloc (by simp) _).alloc (by simp) _)).mono ?_
       rintro e wn ⟨MB, rfl, hm, hmb, hbk⟩
       have HM := hid hm
       have HBk := hid hbk
       have hcw : Below w5.heap.size w5 wn := by first | exact below_step hcur hbk | exact below_step (hcur.alloc (by simp) _) hbk | exact below_step ((hcur.alloc (by simp) _).alloc (by simp) _) hbk
       obtain ⟨p0, hpl⟩ := HPb.out wn hcw
       have HCw := hid hcw
       clear hcw
       obtain ⟨hcc, hff⟩ := bcell hbk
       have hzz := hbk.size
       try simp only [drew_size, World.size_alloc] at hzz hcc hff
       try (have hl5 : w5.heap.size < wn.heap.size := by omega)
       try (have hl6 : w5.heap.size + 1 < wn.heap.size := by omega)
       clear hm hbk hmb))
    all_goals
      clear hcc hff hzz p0 hpl hcur hrow
      go_wp2_with fail
      go_meet
      first
      | exact ⟨_, MB, _, rfl, hid (bl1 HM.out HCw.out)⟩
      | exact ⟨_, MB, _, rfl, hid (bl2 HM.out HCw.out)⟩
      | exact ⟨_, MB, _, rfl, hid (bl3 HM.out HCw.out HBk.out)⟩
      | exact ⟨_, MB, _, rfl, hid (bl4 HM.out HCw.out HBk.out)⟩
      | exact ⟨_, MB, _, rfl, hid (bl5 HM.out HCw.out HBk.out)⟩
      | exact ⟨_, MB, _, rfl, hid (bl6 HM.out HCw.out HBk.out)⟩
  case rest =>
    obtain ⟨B, MB, M, rfl, HL⟩ := hcut
    have HX5 := hid (HX.out w5 HW5.out.bel)
    clear p0 hpl hrow HX HS HLs
    go_wp2_with fail
    go_loopw [9, 32] (fun _ iv wr => ∃ k : Nat, k ≤ N ∧ iv = .int .i64 k ∧ Hid (Bls w5 x B MB M N L (((L.take k).flatMap (lvE x.p)).map (numE L)) wr)) (fun _ iv _ => N - (intOf iv).toNat)
    case atStart => exact ⟨0, by omega, rfl, hid (by simpa using HL.out)⟩
    case round =>
      clear HL
      obtain ⟨k, hk, rfl, hL⟩ := hrel
      by_cases hlt : k < N
      · obtain ⟨y, hy, hym⟩ := get_at Hln.out hlt
        obtain ⟨ad, hA, had, hc1, hc2, hc3, hc4⟩ := Nd.cells ((HW5.out.below hL.out.bel).nds [] (by simp)) hy
        subst hA
        have Hst := hid (flat_take (p := x.p) hy)
        have Hel := hid (flat_take_len (p := x.p) (L := L) (k := k) (m := 900000) (by rw [HLe.out]; have := HEl.out; omega))
        have Hok := hid ((Hno.out y hym).1)
        have ha := (Below.refl wr.heap.size wr).alloc (Nat.le_refl _) (.cells #[.int .i64 y.kd, .int .i64 y.fn, .int .i64 y.bk, .int .i64 y.st] 75)
        have HLa := hid (hL.out.below ha)
        have HF := hid (Fb.new wr #[.int .i64 y.kd, .int .i64 y.fn, .int .i64 y.bk, .int .i64 y.st] 75)
        have HC := hid (leave_any w5 x ex B MB M N L _ _ HLa.out HX5.out hN1 Hln.out Hel.out y Hok.out)
        clear hy hym ha HLa hL
        generalize hEk : ((L.take k).flatMap (lvE x.p)).map (numE L) = Ek at *
        clear hEk
        obtain ⟨yk, yf, yb, ys⟩ := y
        simp only at *
        obtain ⟨g0, g1, g2, g3⟩ := Fb.four HF.out
        as_aux_lemma =>
          go_wp2_with fail
          refine HC.out.mono ?_
          rintro e w6 ⟨rfl, h6, -⟩
          have H6 := hid (Hst.out ▸ h6)
          clear h6 HC g0 g1 g2 g3 hc1 hc2 hc3 hc4 had
          go_wp2_with fail
          go_roundw
          case rel => exact ⟨k + 1, by omega, by go_num, H6⟩
          case measure => simp [intOf]; omega
      · obtain rfl : k = N := by omega
        have HL2 := hid (show Bls w5 x B MB M k L (numsE x.p) wr from by
          have := hL.out
          rw [List.take_of_length_le (by rw [Hln.out]; omega), HLe.out, HNe.out] at this
          exact this)
        have HEl2 := hid (show (numsE x.p).length ≤ 1024 by rw [← HNe.out, List.length_map]; exact HEl.out)
        have HB2 := hid (show Bms w5 x B MB M k (srF k (numsE x.p) 0) wr from ⟨HL2.out.box, HL2.out.mx.congr (fun a _ => (srF_zero k (numsE x.p) a).symm), HL2.out.bel, HL2.out.mle⟩)
        clear hL HL2 HNe HLe HEl
        generalize numsE x.p = E at *
        obtain ⟨b0, b1, b2⟩ := HB2.out.box.thr
        have hbl := HB2.out.box.lt
        go_wp2_with fail
        clear b0 b1 b2 hbl
        go_loopw [10, 11, 42] (fun _ _ iv wr => ∃ j : Nat, j ≤ k ∧ iv = .int .i64 j ∧ Hid (Bms w5 x B MB M k (srF k E j) wr)) (fun _ _ iv _ => k - (intOf iv).toNat)
        case atStart => exact ⟨0, by omega, rfl, HB2⟩
        case round =>
          clear HB2
          obtain ⟨j, hj, rfl, hM⟩ := hrel
          by_cases hlt2 : j < k
          · obtain ⟨rv, hown, hcell, hfr, ⟨rA, rc, hrv⟩, -, -⟩ := hM.out.mx.at hlt2
            have hlen := outF_len E j
            have hE2 := HEl2.out
            rw [srF_at] at hown hrv
            subst hrv
            have HO := hid hown
            have Hcell := hid hcell
            have HSo := hid (sort_own hown rfl (by omega))
            have hMl := hM.out.mx.lt
            clear hown hfr
            as_aux_lemma =>
              go_wp2_with fail
              refine HSo.out.mono ?_
              rintro e w7 ⟨rfl, ho7, hg7⟩
              have HBx7 := hid (hM.out.box.grown hg7 (fb_ne_own hM.out.box HO.out (by decide)))
              have HG7 := hid hg7
              have ho7d := own_below ho7 (Below.refl w7.heap.size w7).drew
              have HCo := hid (compact_own ho7d (by rw [srtI_len]) (by omega))
              have hMl7 : M < w7.heap.size := Nat.lt_of_lt_of_le hMl hg7.size
              obtain ⟨b0, b1, b2⟩ := HBx7.out.thr
              have hbl := HBx7.out.lt
              clear ho7 hg7 ho7d HSo hcell
              go_wp2_with fail
              go_region_law (
                (go_simp
                 go_at_call 73
                 refine HCo.out.mono ?_
                 rintro e w8 ⟨rfl, ho8, hg8⟩
                 have hgt : wr.grownBy w8 (Value.slice rA (outF E j).length rc).ownBlock := (HG7.out.trans (grown_drewN w7 1 _)).trans hg8
                 obtain ⟨⟨y0, y1⟩, h8⟩ := Bms.turn hM.out Hnl.out hlt2 Hcell.out hgt ho8 rfl
                 have H8 := hid h8
                 have hbx8 := hM.out.box.grown hgt (fb_ne_own hM.out.box HO.out (by decide))
                 obtain ⟨b0, b1, b2⟩ := hbx8.thr
                 have hbl8 := hbx8.lt
                 clear ho8 hg8 hgt h8 hbx8))
              all_goals
                go_wp2_with fail
                go_roundw
                case rel => exact ⟨j + 1, by omega, by go_num, H8⟩
                case measure => simp [intOf]; omega
          · obtain rfl : j = k := by omega
            obtain ⟨yL, hy1, hy2, hy3, hy4, hy5⟩ := hM.out.mx.lists (by omega)
            obtain ⟨yA, yn, yc, yl⟩ := yL
            simp only at hy1 hy2 hy3
            subst hy1
            subst hy2
            subst hy3
            have HWr := hid (HW5.out.below hM.out.bel)
            have HMle := hid (show G + 2 ≤ M by have := hM.out.mle; have h2 : G + 1 < w5.heap.size := HW5.out.res.lt; omega)
            have Hy4 := hid (show (⟨some ⟨M, 0, none⟩, yc, yc, yl⟩ : LH).v = sucL x.p by rw [hy4, Hsl.out])
            have Hy5 := hid hy5
            have HRv := hid (fun (v : World) (hb : Below wr.heap.size wr v) => reversed_any ⟨some ⟨M, 0, none⟩, yc, yc, yl⟩ [] v ((hy5 [] (by simp)).below hb) (by show yc ≤ _; omega) (by
              rw [hy4]
              intro l hl
              unfold rowsF at hl
              obtain ⟨a, ha, rfl⟩ := List.mem_map.1 hl
              unfold srF
              rw [if_pos (List.mem_range.1 ha)]
              exact rowP_ris _ _))
            rw [Hy4.out] at HRv
            simp only at HRv
            have HBx := hid (fun (v : World) (hb : Below wr.heap.size wr v) => And.intro (hM.out.below hb).box.thr (hM.out.below hb).box.lt)
            have HRs := hid (fun (v : World) (hb : Below wr.heap.size wr v) => And.intro (And.intro (HWr.out.below hb).res.thr (HWr.out.below hb).res.thrz) (HWr.out.below hb).res.lt)
            have Hszw := hid (show w.heap.size + 2 ≤ wr.heap.size by have := HWr.out.res.lt; have := HGe.out; omega)
            clear hy4 hy5 hM HW5 Hsl HX5 Hnd Hno Hnl HEl2
            have hcur : Below wr.heap.size wr wr.drew := (Below.refl _ _).drew
            obtain ⟨⟨b0, b1, b2⟩, hbl⟩ := HBx.out _ hcur
            obtain ⟨⟨⟨r0, r1, r2⟩, z0, z1, z2⟩, hrl⟩ := HRs.out _ hcur
            as_aux_lemma =>
              go_wp2_with fail
              go_region_law (
                (go_simp
                 go_at_call 40
                 refine (HRv.out _ hcur).mono ?_
                 rintro e w8 ⟨y2, rfl, hv2, hok2, hbk⟩
                 have hcur := below_step hcur hbk
                 have Hv2 := hid hv2
                 have Hok2 := hid hok2
                 have Hcur := hid hcur
                 obtain ⟨⟨b0, b1, b2⟩, hbl⟩ := HBx.out _ hcur
                 obtain ⟨⟨⟨r0, r1, r2⟩, z0, z1, z2⟩, hrl⟩ := HRs.out _ hcur
                 clear hv2 hok2 hbk))
              all_goals
                clear hcur
                go_wp2_with fail
                refine bodyPost_ret (v := .tuple #[.agg #[.slice A yc c, .slice (some ⟨M, 0, none⟩) yc yc, .slice y2.A y2.n y2.c], .int .i64 0]) (by simp [results, Tryz.results35, go_sem, r0, r1, r2, z0, z1, z2, hrl]) rfl ?_
                exact bld_done HWr.out Hcur.out HMle.out Hln.out (by omega) Hy4.out Hy5.out Hv2.out Hok2.out Hszw.out
end Go.Proofs.YtfapgnbnfhpicaaGreatDoor

namespace Go.Proofs.YtfapgnbnfhpicaaGreatDoor
set_option maxRecDepth 20000
set_option linter.unusedVariables false
set_option linter.unusedSimpArgs false
open Go.ChangeShapes Go.WideShapes Go.ChangeAt Go.RowKit

theorem isK_text {σ : Rs} {k : ByteArray} (h : isK k σ = true) : (nxt σ.l).text = k := by
  unfold isK at h
  simp only [Bool.and_eq_true] at h
  exact eqB_iff.1 h.2
theorem stmtR_kw {l : List Tok} {er : Int} {k : ByteArray} (hn : isN ⟨l, er⟩ = false) (hk : isK k ⟨l, er⟩ = true) : stmtR ⟨l, er⟩ = opR k ⟨l.tail, er⟩ := by
  unfold stmtR
  rw [hn]
  show opR (nxt l).text _ = _
  rw [show (nxt l).text = k from isK_text hk]
  rfl
theorem opR_call (r : Rs) : opR kwCall r = (⟨3, ⟨#[]⟩, [], [(nameR r).1]⟩, endR (nameR r).2) := by unfold opR eqB; simp only [toList_data]; rfl
theorem opR_source (r : Rs) : opR kwSource r = (⟨4, (nameR r).1, [], []⟩, endR (nameR r).2) := by unfold opR eqB; simp only [toList_data]; rfl
theorem opR_sink (r : Rs) : opR kwSink r = (⟨5, ⟨#[]⟩, [(nameR r).1], []⟩, endR (nameR r).2) := by unfold opR eqB; simp only [toList_data]; rfl
theorem opR_sanitize (r : Rs) : opR kwSanitize r = (⟨6, (nameR r).1, [], []⟩, endR (nameR r).2) := by unfold opR eqB; simp only [toList_data]; rfl
theorem opR_goto (r : Rs) : opR kwGoto r = (⟨7, ⟨#[]⟩, [], [(nameR r).1]⟩, endR (nameR r).2) := by unfold opR eqB; simp only [toList_data]; rfl
theorem opR_return (r : Rs) : opR kwReturn r = (⟨9, ⟨#[]⟩, [], []⟩, endR r) := by unfold opR eqB; simp only [toList_data]; rfl
theorem opR_use (r : Rs) : opR kwUse r = (⟨2, ⟨#[]⟩, (nameR r).1 :: (namesR 3 (nameR r).2).1, []⟩, endR (namesR 3 (nameR r).2).2) := by unfold opR eqB; simp only [toList_data]; rfl
theorem opR_branch (r : Rs) : opR kwBranch r = (⟨8, ⟨#[]⟩, [(nameR r).1], [(nameR (nameR r).2).1, (nameR (nameR (nameR r).2).2).1]⟩, endR (nameR (nameR (nameR r).2).2).2) := by unfold opR eqB; simp only [toList_data]; rfl
/-- The texts as the walk compares them. -/
def kwTests (x : ByteArray) : List Bool := k8.map fun k => x.toList == k.data.toList
set_option maxHeartbeats 3200000 in
theorem refStmt_call (b : Nat) (A : Option Addr) (c : Nat) (L : List Tok) (σ : Rs) (w : World) (h : Rst w b A c L σ) (hs : Short L) (hn : isN σ = false) (hk : isK kwCall σ = true) :
    Calls Tryz.prog 147 #[.pointer (some ⟨b, 0, none⟩)] w (RetT w b A c L (stmtR σ)) := by
  have Hne := hid (isK_l hk)
  obtain ⟨l, er⟩ := σ
  have hR := (stmtR_kw hn hk).trans (opR_call _)
  have ht : (nxt l).text = kwCall := isK_text hk
  have t0 : ((nxt l).text.toList == [117, 115, 101]) = false := by rw [ht, toList_data]; decide
  have t1 : ((nxt l).text.toList == [99, 97, 108, 108]) = true := by rw [ht, toList_data]; decide
  have HN := hid hn; have HS := hid hs
  have h0 : Hid (Sg w b A c L ⟨l, er⟩ zSH ((w.alloc (.cells #[.int .i64 0, .string ⟨#[]⟩, .slice none 0 0, .slice none 0 0] 68)).alloc (.cells #[.int .i64 0, .string ⟨#[]⟩, .slice none 0 0, .slice none 0 0] 68))) := hid (Sg.start h)
  have HR := hid hR
  clear h hs hn hk ht hR
  go_enter Tryz.func147, Tryz.ntmps147
  go_wp2_with fail
  refine (refIsName2_any b A c L ⟨l, er⟩ _ h0.out.st HS.out).mono ?_
  rw [HN.out]
  rintro e w1 ⟨rfl, hb1⟩
  have h1 := hid (h0.out.below hb1)
  clear hb1 h0
  obtain ⟨k, a, hkl, hl, hf, rfl, ha, a0, a1⟩ := h1.out.st.next Hne.out
  have hlt := h1.out.st.lt
  have hfew := h1.out.st.few
  obtain ⟨⟨c0, c1, c2⟩, ⟨f0, f1, f2⟩⟩ := hf.three
  have Hst := hid (fun q => (h1.out.drewN q).call ((h1.out.st.drewN q).step hkl hl (hf.drewN q)))
  have hab : (a.add (k * 4)).block < w1.heap.size := by rw [add_block]; omega
  generalize (nxt l).text = tx at *
  clear hf hl a0
  go_wp2_with fail
  go_quiet (fail)
  clear h1 a1 hab
  go_wp2_with fail
  refine (refName_any b (some a) c L ⟨l.tail, er⟩ _ (Hst.out nq).st HS.out).mono ?_
  rintro e w3 ⟨rfl, h3⟩
  have H3 := hid ((Hst.out nq).call h3)
  have H16y := hid ((Hst.out nq).st.name16 HS.out)
  clear h3
  generalize (nameR ⟨l.tail, er⟩).1 = y at *
  generalize (nameR ⟨l.tail, er⟩).2 = σ2 at *
  obtain ⟨⟨q0, q1, q2, q3⟩, ⟨r0, r1, r2, r3⟩, -, -, hz⟩ := H3.out.cells
  clear Hst c0 c1 c2 f0 f1 f2
  go_wp2_with fail
  have H4 := hid (H3.out.putOT 3 y H16y.out)
  clear q0 q1 q2 q3 r0 r1 r2 r3 hz
  refine (refEnd_any b (some a) c L σ2 _ H4.out.st).mono ?_
  rintro e wz ⟨rfl, hz0⟩
  have HZ := hid (H4.out.call hz0)
  clear hz0
  obtain ⟨⟨p0, p1, p2, p3⟩, ⟨-, -, -, -⟩, ⟨v0, v1, v2, v3⟩, ⟨s0, s1, s2, s3⟩, hsz⟩ := HZ.out.cells
  have hsz2 : w.heap.size < wz.heap.size := by omega
  go_wp2_with fail
  refine bodyPost_ret (v := agS ⟨none, 0, 0, some ⟨w3.heap.size, 0, none⟩, 1, 1, ⟨3, ⟨#[]⟩, [], [y]⟩⟩) (by simp [results, Tryz.results147, go_sem, p0, p1, p2, p3, s0, s1, s2, s3, v0, v1, v2, v3, hsz, hsz2, agS]) rfl ?_
  exact HZ.out.done _ _ _ _ HR.out
set_option maxHeartbeats 3200000 in
theorem refStmt_source (b : Nat) (A : Option Addr) (c : Nat) (L : List Tok) (σ : Rs) (w : World) (h : Rst w b A c L σ) (hs : Short L) (hn : isN σ = false) (hk : isK kwSource σ = true) :
    Calls Tryz.prog 147 #[.pointer (some ⟨b, 0, none⟩)] w (RetT w b A c L (stmtR σ)) := by
  have Hne := hid (isK_l hk)
  obtain ⟨l, er⟩ := σ
  have hR := (stmtR_kw hn hk).trans (opR_source _)
  have ht : (nxt l).text = kwSource := isK_text hk
  have t0 : ((nxt l).text.toList == [117, 115, 101]) = false := by rw [ht, toList_data]; decide
  have t1 : ((nxt l).text.toList == [99, 97, 108, 108]) = false := by rw [ht, toList_data]; decide
  have t2 : ((nxt l).text.toList == [115, 111, 117, 114, 99, 101]) = true := by rw [ht, toList_data]; decide
  have HN := hid hn; have HS := hid hs
  have h0 : Hid (Sg w b A c L ⟨l, er⟩ zSH ((w.alloc (.cells #[.int .i64 0, .string ⟨#[]⟩, .slice none 0 0, .slice none 0 0] 68)).alloc (.cells #[.int .i64 0, .string ⟨#[]⟩, .slice none 0 0, .slice none 0 0] 68))) := hid (Sg.start h)
  have HR := hid hR
  clear h hs hn hk ht hR
  go_enter Tryz.func147, Tryz.ntmps147
  go_wp2_with fail
  refine (refIsName2_any b A c L ⟨l, er⟩ _ h0.out.st HS.out).mono ?_
  rw [HN.out]
  rintro e w1 ⟨rfl, hb1⟩
  have h1 := hid (h0.out.below hb1)
  clear hb1 h0
  obtain ⟨k, a, hkl, hl, hf, rfl, ha, a0, a1⟩ := h1.out.st.next Hne.out
  have hlt := h1.out.st.lt
  have hfew := h1.out.st.few
  obtain ⟨⟨c0, c1, c2⟩, ⟨f0, f1, f2⟩⟩ := hf.three
  have Hst := hid (fun q => (h1.out.drewN q).call ((h1.out.st.drewN q).step hkl hl (hf.drewN q)))
  have hab : (a.add (k * 4)).block < w1.heap.size := by rw [add_block]; omega
  generalize (nxt l).text = tx at *
  clear hf hl a0
  go_wp2_with fail
  go_quiet (fail)
  clear h1 a1 hab
  go_wp2_with fail
  refine (refName_any b (some a) c L ⟨l.tail, er⟩ _ (Hst.out nq).st HS.out).mono ?_
  rintro e w3 ⟨rfl, h3⟩
  have H3 := hid ((Hst.out nq).call h3)
  have H16y := hid ((Hst.out nq).st.name16 HS.out)
  clear h3
  generalize (nameR ⟨l.tail, er⟩).1 = y at *
  generalize (nameR ⟨l.tail, er⟩).2 = σ2 at *
  obtain ⟨⟨q0, q1, q2, q3⟩, ⟨r0, r1, r2, r3⟩, -, -, hz⟩ := H3.out.cells
  clear Hst c0 c1 c2 f0 f1 f2
  go_wp2_with fail
  have H4 := hid ((H3.out.putO 4).putD y H16y.out)
  clear q0 q1 q2 q3 r0 r1 r2 r3 hz
  refine (refEnd_any b (some a) c L σ2 _ H4.out.st).mono ?_
  rintro e wz ⟨rfl, hz0⟩
  have HZ := hid (H4.out.call hz0)
  clear hz0
  obtain ⟨⟨p0, p1, p2, p3⟩, ⟨-, -, -, -⟩, ⟨v0, v1, v2, v3⟩, ⟨s0, s1, s2, s3⟩, hsz⟩ := HZ.out.cells
  have hsz2 : w.heap.size < wz.heap.size := by omega
  go_wp2_with fail
  refine bodyPost_ret (v := agS ⟨none, 0, 0, none, 0, 0, ⟨4, y, [], []⟩⟩) (by simp [results, Tryz.results147, go_sem, p0, p1, p2, p3, s0, s1, s2, s3, v0, v1, v2, v3, hsz, hsz2, agS]) rfl ?_
  exact HZ.out.done _ _ _ _ HR.out
set_option maxHeartbeats 3200000 in
theorem refStmt_sink (b : Nat) (A : Option Addr) (c : Nat) (L : List Tok) (σ : Rs) (w : World) (h : Rst w b A c L σ) (hs : Short L) (hn : isN σ = false) (hk : isK kwSink σ = true) :
    Calls Tryz.prog 147 #[.pointer (some ⟨b, 0, none⟩)] w (RetT w b A c L (stmtR σ)) := by
  have Hne := hid (isK_l hk)
  obtain ⟨l, er⟩ := σ
  have hR := (stmtR_kw hn hk).trans (opR_sink _)
  have ht : (nxt l).text = kwSink := isK_text hk
  have t0 : ((nxt l).text.toList == [117, 115, 101]) = false := by rw [ht, toList_data]; decide
  have t1 : ((nxt l).text.toList == [99, 97, 108, 108]) = false := by rw [ht, toList_data]; decide
  have t2 : ((nxt l).text.toList == [115, 111, 117, 114, 99, 101]) = false := by rw [ht, toList_data]; decide
  have t3 : ((nxt l).text.toList == [115, 105, 110, 107]) = true := by rw [ht, toList_data]; decide
  have HN := hid hn; have HS := hid hs
  have h0 : Hid (Sg w b A c L ⟨l, er⟩ zSH ((w.alloc (.cells #[.int .i64 0, .string ⟨#[]⟩, .slice none 0 0, .slice none 0 0] 68)).alloc (.cells #[.int .i64 0, .string ⟨#[]⟩, .slice none 0 0, .slice none 0 0] 68))) := hid (Sg.start h)
  have HR := hid hR
  clear h hs hn hk ht hR
  go_enter Tryz.func147, Tryz.ntmps147
  go_wp2_with fail
  refine (refIsName2_any b A c L ⟨l, er⟩ _ h0.out.st HS.out).mono ?_
  rw [HN.out]
  rintro e w1 ⟨rfl, hb1⟩
  have h1 := hid (h0.out.below hb1)
  clear hb1 h0
  obtain ⟨k, a, hkl, hl, hf, rfl, ha, a0, a1⟩ := h1.out.st.next Hne.out
  have hlt := h1.out.st.lt
  have hfew := h1.out.st.few
  obtain ⟨⟨c0, c1, c2⟩, ⟨f0, f1, f2⟩⟩ := hf.three
  have Hst := hid (fun q => (h1.out.drewN q).call ((h1.out.st.drewN q).step hkl hl (hf.drewN q)))
  have hab : (a.add (k * 4)).block < w1.heap.size := by rw [add_block]; omega
  generalize (nxt l).text = tx at *
  clear hf hl a0
  go_wp2_with fail
  go_quiet (fail)
  clear h1 a1 hab
  go_wp2_with fail
  refine (refName_any b (some a) c L ⟨l.tail, er⟩ _ (Hst.out nq).st HS.out).mono ?_
  rintro e w3 ⟨rfl, h3⟩
  have H3 := hid ((Hst.out nq).call h3)
  have H16y := hid ((Hst.out nq).st.name16 HS.out)
  clear h3
  generalize (nameR ⟨l.tail, er⟩).1 = y at *
  generalize (nameR ⟨l.tail, er⟩).2 = σ2 at *
  obtain ⟨⟨q0, q1, q2, q3⟩, ⟨r0, r1, r2, r3⟩, -, -, hz⟩ := H3.out.cells
  clear Hst c0 c1 c2 f0 f1 f2
  go_wp2_with fail
  have H4 := hid (H3.out.putOU 5 y H16y.out)
  clear q0 q1 q2 q3 r0 r1 r2 r3 hz
  refine (refEnd_any b (some a) c L σ2 _ H4.out.st).mono ?_
  rintro e wz ⟨rfl, hz0⟩
  have HZ := hid (H4.out.call hz0)
  clear hz0
  obtain ⟨⟨p0, p1, p2, p3⟩, ⟨-, -, -, -⟩, ⟨v0, v1, v2, v3⟩, ⟨s0, s1, s2, s3⟩, hsz⟩ := HZ.out.cells
  have hsz2 : w.heap.size < wz.heap.size := by omega
  go_wp2_with fail
  refine bodyPost_ret (v := agS ⟨some ⟨w3.heap.size, 0, none⟩, 1, 1, none, 0, 0, ⟨5, ⟨#[]⟩, [y], []⟩⟩) (by simp [results, Tryz.results147, go_sem, p0, p1, p2, p3, s0, s1, s2, s3, v0, v1, v2, v3, hsz, hsz2, agS]) rfl ?_
  exact HZ.out.done _ _ _ _ HR.out
set_option maxHeartbeats 3200000 in
theorem refStmt_sanitize (b : Nat) (A : Option Addr) (c : Nat) (L : List Tok) (σ : Rs) (w : World) (h : Rst w b A c L σ) (hs : Short L) (hn : isN σ = false) (hk : isK kwSanitize σ = true) :
    Calls Tryz.prog 147 #[.pointer (some ⟨b, 0, none⟩)] w (RetT w b A c L (stmtR σ)) := by
  have Hne := hid (isK_l hk)
  obtain ⟨l, er⟩ := σ
  have hR := (stmtR_kw hn hk).trans (opR_sanitize _)
  have ht : (nxt l).text = kwSanitize := isK_text hk
  have t0 : ((nxt l).text.toList == [117, 115, 101]) = false := by rw [ht, toList_data]; decide
  have t1 : ((nxt l).text.toList == [99, 97, 108, 108]) = false := by rw [ht, toList_data]; decide
  have t2 : ((nxt l).text.toList == [115, 111, 117, 114, 99, 101]) = false := by rw [ht, toList_data]; decide
  have t3 : ((nxt l).text.toList == [115, 105, 110, 107]) = false := by rw [ht, toList_data]; decide
  have t4 : ((nxt l).text.toList == [115, 97, 110, 105, 116, 105, 122, 101]) = true := by rw [ht, toList_data]; decide
  have HN := hid hn; have HS := hid hs
  have h0 : Hid (Sg w b A c L ⟨l, er⟩ zSH ((w.alloc (.cells #[.int .i64 0, .string ⟨#[]⟩, .slice none 0 0, .slice none 0 0] 68)).alloc (.cells #[.int .i64 0, .string ⟨#[]⟩, .slice none 0 0, .slice none 0 0] 68))) := hid (Sg.start h)
  have HR := hid hR
  clear h hs hn hk ht hR
  go_enter Tryz.func147, Tryz.ntmps147
  go_wp2_with fail
  refine (refIsName2_any b A c L ⟨l, er⟩ _ h0.out.st HS.out).mono ?_
  rw [HN.out]
  rintro e w1 ⟨rfl, hb1⟩
  have h1 := hid (h0.out.below hb1)
  clear hb1 h0
  obtain ⟨k, a, hkl, hl, hf, rfl, ha, a0, a1⟩ := h1.out.st.next Hne.out
  have hlt := h1.out.st.lt
  have hfew := h1.out.st.few
  obtain ⟨⟨c0, c1, c2⟩, ⟨f0, f1, f2⟩⟩ := hf.three
  have Hst := hid (fun q => (h1.out.drewN q).call ((h1.out.st.drewN q).step hkl hl (hf.drewN q)))
  have hab : (a.add (k * 4)).block < w1.heap.size := by rw [add_block]; omega
  generalize (nxt l).text = tx at *
  clear hf hl a0
  go_wp2_with fail
  go_quiet (fail)
  clear h1 a1 hab
  go_wp2_with fail
  refine (refName_any b (some a) c L ⟨l.tail, er⟩ _ (Hst.out nq).st HS.out).mono ?_
  rintro e w3 ⟨rfl, h3⟩
  have H3 := hid ((Hst.out nq).call h3)
  have H16y := hid ((Hst.out nq).st.name16 HS.out)
  clear h3
  generalize (nameR ⟨l.tail, er⟩).1 = y at *
  generalize (nameR ⟨l.tail, er⟩).2 = σ2 at *
  obtain ⟨⟨q0, q1, q2, q3⟩, ⟨r0, r1, r2, r3⟩, -, -, hz⟩ := H3.out.cells
  clear Hst c0 c1 c2 f0 f1 f2
  go_wp2_with fail
  have H4 := hid ((H3.out.putO 6).putD y H16y.out)
  clear q0 q1 q2 q3 r0 r1 r2 r3 hz
  refine (refEnd_any b (some a) c L σ2 _ H4.out.st).mono ?_
  rintro e wz ⟨rfl, hz0⟩
  have HZ := hid (H4.out.call hz0)
  clear hz0
  obtain ⟨⟨p0, p1, p2, p3⟩, ⟨-, -, -, -⟩, ⟨v0, v1, v2, v3⟩, ⟨s0, s1, s2, s3⟩, hsz⟩ := HZ.out.cells
  have hsz2 : w.heap.size < wz.heap.size := by omega
  go_wp2_with fail
  refine bodyPost_ret (v := agS ⟨none, 0, 0, none, 0, 0, ⟨6, y, [], []⟩⟩) (by simp [results, Tryz.results147, go_sem, p0, p1, p2, p3, s0, s1, s2, s3, v0, v1, v2, v3, hsz, hsz2, agS]) rfl ?_
  exact HZ.out.done _ _ _ _ HR.out
set_option maxHeartbeats 3200000 in
theorem refStmt_goto (b : Nat) (A : Option Addr) (c : Nat) (L : List Tok) (σ : Rs) (w : World) (h : Rst w b A c L σ) (hs : Short L) (hn : isN σ = false) (hk : isK kwGoto σ = true) :
    Calls Tryz.prog 147 #[.pointer (some ⟨b, 0, none⟩)] w (RetT w b A c L (stmtR σ)) := by
  have Hne := hid (isK_l hk)
  obtain ⟨l, er⟩ := σ
  have hR := (stmtR_kw hn hk).trans (opR_goto _)
  have ht : (nxt l).text = kwGoto := isK_text hk
  have t0 : ((nxt l).text.toList == [117, 115, 101]) = false := by rw [ht, toList_data]; decide
  have t1 : ((nxt l).text.toList == [99, 97, 108, 108]) = false := by rw [ht, toList_data]; decide
  have t2 : ((nxt l).text.toList == [115, 111, 117, 114, 99, 101]) = false := by rw [ht, toList_data]; decide
  have t3 : ((nxt l).text.toList == [115, 105, 110, 107]) = false := by rw [ht, toList_data]; decide
  have t4 : ((nxt l).text.toList == [115, 97, 110, 105, 116, 105, 122, 101]) = false := by rw [ht, toList_data]; decide
  have t5 : ((nxt l).text.toList == [103, 111, 116, 111]) = true := by rw [ht, toList_data]; decide
  have HN := hid hn; have HS := hid hs
  have h0 : Hid (Sg w b A c L ⟨l, er⟩ zSH ((w.alloc (.cells #[.int .i64 0, .string ⟨#[]⟩, .slice none 0 0, .slice none 0 0] 68)).alloc (.cells #[.int .i64 0, .string ⟨#[]⟩, .slice none 0 0, .slice none 0 0] 68))) := hid (Sg.start h)
  have HR := hid hR
  clear h hs hn hk ht hR
  go_enter Tryz.func147, Tryz.ntmps147
  go_wp2_with fail
  refine (refIsName2_any b A c L ⟨l, er⟩ _ h0.out.st HS.out).mono ?_
  rw [HN.out]
  rintro e w1 ⟨rfl, hb1⟩
  have h1 := hid (h0.out.below hb1)
  clear hb1 h0
  obtain ⟨k, a, hkl, hl, hf, rfl, ha, a0, a1⟩ := h1.out.st.next Hne.out
  have hlt := h1.out.st.lt
  have hfew := h1.out.st.few
  obtain ⟨⟨c0, c1, c2⟩, ⟨f0, f1, f2⟩⟩ := hf.three
  have Hst := hid (fun q => (h1.out.drewN q).call ((h1.out.st.drewN q).step hkl hl (hf.drewN q)))
  have hab : (a.add (k * 4)).block < w1.heap.size := by rw [add_block]; omega
  generalize (nxt l).text = tx at *
  clear hf hl a0
  go_wp2_with fail
  go_quiet (fail)
  clear h1 a1 hab
  go_wp2_with fail
  refine (refName_any b (some a) c L ⟨l.tail, er⟩ _ (Hst.out nq).st HS.out).mono ?_
  rintro e w3 ⟨rfl, h3⟩
  have H3 := hid ((Hst.out nq).call h3)
  have H16y := hid ((Hst.out nq).st.name16 HS.out)
  clear h3
  generalize (nameR ⟨l.tail, er⟩).1 = y at *
  generalize (nameR ⟨l.tail, er⟩).2 = σ2 at *
  obtain ⟨⟨q0, q1, q2, q3⟩, ⟨r0, r1, r2, r3⟩, -, -, hz⟩ := H3.out.cells
  clear Hst c0 c1 c2 f0 f1 f2
  go_wp2_with fail
  have H4 := hid (H3.out.putOT 7 y H16y.out)
  clear q0 q1 q2 q3 r0 r1 r2 r3 hz
  refine (refEnd_any b (some a) c L σ2 _ H4.out.st).mono ?_
  rintro e wz ⟨rfl, hz0⟩
  have HZ := hid (H4.out.call hz0)
  clear hz0
  obtain ⟨⟨p0, p1, p2, p3⟩, ⟨-, -, -, -⟩, ⟨v0, v1, v2, v3⟩, ⟨s0, s1, s2, s3⟩, hsz⟩ := HZ.out.cells
  have hsz2 : w.heap.size < wz.heap.size := by omega
  go_wp2_with fail
  refine bodyPost_ret (v := agS ⟨none, 0, 0, some ⟨w3.heap.size, 0, none⟩, 1, 1, ⟨7, ⟨#[]⟩, [], [y]⟩⟩) (by simp [results, Tryz.results147, go_sem, p0, p1, p2, p3, s0, s1, s2, s3, v0, v1, v2, v3, hsz, hsz2, agS]) rfl ?_
  exact HZ.out.done _ _ _ _ HR.out
set_option maxHeartbeats 3200000 in
theorem refStmt_return (b : Nat) (A : Option Addr) (c : Nat) (L : List Tok) (σ : Rs) (w : World) (h : Rst w b A c L σ) (hs : Short L) (hn : isN σ = false) (hk : isK kwReturn σ = true) :
    Calls Tryz.prog 147 #[.pointer (some ⟨b, 0, none⟩)] w (RetT w b A c L (stmtR σ)) := by
  have Hne := hid (isK_l hk)
  obtain ⟨l, er⟩ := σ
  have hR := (stmtR_kw hn hk).trans (opR_return _)
  have ht : (nxt l).text = kwReturn := isK_text hk
  have t0 : ((nxt l).text.toList == [117, 115, 101]) = false := by rw [ht, toList_data]; decide
  have t1 : ((nxt l).text.toList == [99, 97, 108, 108]) = false := by rw [ht, toList_data]; decide
  have t2 : ((nxt l).text.toList == [115, 111, 117, 114, 99, 101]) = false := by rw [ht, toList_data]; decide
  have t3 : ((nxt l).text.toList == [115, 105, 110, 107]) = false := by rw [ht, toList_data]; decide
  have t4 : ((nxt l).text.toList == [115, 97, 110, 105, 116, 105, 122, 101]) = false := by rw [ht, toList_data]; decide
  have t5 : ((nxt l).text.toList == [103, 111, 116, 111]) = false := by rw [ht, toList_data]; decide
  have t6 : ((nxt l).text.toList == [98, 114, 97, 110, 99, 104]) = false := by rw [ht, toList_data]; decide
  have t7 : ((nxt l).text.toList == [114, 101, 116, 117, 114, 110]) = true := by rw [ht, toList_data]; decide
  have HN := hid hn; have HS := hid hs
  have h0 : Hid (Sg w b A c L ⟨l, er⟩ zSH ((w.alloc (.cells #[.int .i64 0, .string ⟨#[]⟩, .slice none 0 0, .slice none 0 0] 68)).alloc (.cells #[.int .i64 0, .string ⟨#[]⟩, .slice none 0 0, .slice none 0 0] 68))) := hid (Sg.start h)
  have HR := hid hR
  clear h hs hn hk ht hR
  go_enter Tryz.func147, Tryz.ntmps147
  go_wp2_with fail
  refine (refIsName2_any b A c L ⟨l, er⟩ _ h0.out.st HS.out).mono ?_
  rw [HN.out]
  rintro e w1 ⟨rfl, hb1⟩
  have h1 := hid (h0.out.below hb1)
  clear hb1 h0
  obtain ⟨k, a, hkl, hl, hf, rfl, ha, a0, a1⟩ := h1.out.st.next Hne.out
  have hlt := h1.out.st.lt
  have hfew := h1.out.st.few
  obtain ⟨⟨c0, c1, c2⟩, ⟨f0, f1, f2⟩⟩ := hf.three
  have Hst := hid (fun q => (h1.out.drewN q).call ((h1.out.st.drewN q).step hkl hl (hf.drewN q)))
  have hab : (a.add (k * 4)).block < w1.heap.size := by rw [add_block]; omega
  generalize (nxt l).text = tx at *
  clear hf hl a0
  go_wp2_with fail
  go_quiet (fail)
  clear h1 a1 hab
  obtain ⟨⟨q0, q1, q2, q3⟩, ⟨r0, r1, r2, r3⟩, -, -, hz⟩ := (Hst.out nq).cells
  have H4 := hid ((Hst.out nq).putO 9)
  go_wp2_with fail
  clear q0 q1 q2 q3 r0 r1 r2 r3 hz Hst
  refine (refEnd_any b (some a) c L ⟨l.tail, er⟩ _ H4.out.st).mono ?_
  rintro e wz ⟨rfl, hz0⟩
  have HZ := hid (H4.out.call hz0)
  clear hz0
  obtain ⟨⟨p0, p1, p2, p3⟩, ⟨-, -, -, -⟩, ⟨v0, v1, v2, v3⟩, ⟨s0, s1, s2, s3⟩, hsz⟩ := HZ.out.cells
  have hsz2 : w.heap.size < wz.heap.size := by omega
  go_wp2_with fail
  refine bodyPost_ret (v := agS ⟨none, 0, 0, none, 0, 0, ⟨9, ⟨#[]⟩, [], []⟩⟩) (by simp [results, Tryz.results147, go_sem, p0, p1, p2, p3, s0, s1, s2, s3, v0, v1, v2, v3, hsz, hsz2, agS]) rfl ?_
  exact HZ.out.done _ _ _ _ HR.out
end Go.Proofs.YtfapgnbnfhpicaaGreatDoor

namespace Go.Proofs.YtfapgnbnfhpicaaGreatDoor
set_option maxRecDepth 20000
set_option linter.unusedVariables false
set_option linter.unusedSimpArgs false
open Go.ChangeShapes Go.WideShapes Go.ChangeAt Go.RowKit
attribute [local go_sem ↓] Go.wp_at_zero Go.wp_at_succ

/-- A row beside the statement has grown, and a field is written. -/
theorem Sg.row {w0 w wa w9 : World} {b g c : Nat} {A : Option Addr} {L : List Tok} {σ : Rs} {x : SH} (h : Sg w0 b A c L σ x w) (ha : Below w.heap.size w wa) (hg : wa.grownBy w9 (some g)) (hge : w0.heap.size + 2 ≤ g) (j : Nat) (u : Value) (x' : SH)
    (hc : (#[.int .i64 x.t.op, .string x.t.d, .slice x.A x.n x.c, .slice x.B x.m x.c2] : Array Value).setIfInBounds j u = #[.int .i64 x'.t.op, .string x'.t.d, .slice x'.A x'.n x'.c, .slice x'.B x'.m x'.c2])
    (hf : Fr (w0.heap.size + 2) (TP x') w9) : Sg w0 b A c L σ x' (w9.setCell ⟨w0.heap.size + 1, j, none⟩ u) := by
  have h1 := h.below ha
  have ho := h.old
  have hz := h1.size
  refine ⟨(h1.st.grown hg (fun k hk => by injection hk with hk; omega)).far (by show b < w0.heap.size + 1; omega) u, ho, grown_set_new ?_ (by show w0.heap.size ≤ w0.heap.size + 1; omega) u, (h1.f2.grown hg (by simp; omega)).far (by show w0.heap.size ≠ w0.heap.size + 1; omega) u, ?_, hf.grown TP.go (setCell_grown _ _ _) (fun k hk => by injection hk with hk; have : w0.heap.size + 1 = k := hk; omega)⟩
  · have h2 := h1.gr
    exact ⟨hg.os.trans h2.os, hg.tape.trans h2.tape, hg.output.trans h2.output, Nat.le_trans h2.size hg.size, fun i hi hne => (hg.block i (Nat.lt_of_lt_of_le hi h2.size) (by simp; omega)).trans (h2.block i hi hne)⟩
  · have := (h1.f3.grown hg (by simp; omega)).set j u
    rw [hc] at this
    exact this
theorem own_lit1 {w : World} {base g : Nat} {y : ByteArray} (hb : base ≤ w.heap.size) (hg : w.heap.size = g) : (w.alloc (.cells #[.string y] 9)).ownsRow base 9 1 (.slice (some ⟨g, 0, none⟩) 1 1) 1 [.string y] := by
  subst hg
  exact World.ownsRow_lit w #[.string y] 1 hb (by unfold maxLen; omega) rfl
theorem size_set2 (w : World) (p q : Addr) (u v : Value) : ((w.setCell p u).setCell q v).heap.size = w.heap.size := by simp [World.setCell]
theorem size_set1 (w : World) (p : Addr) (u : Value) : (w.setCell p u).heap.size = w.heap.size := by simp [World.setCell]
theorem frs_own2 {w : World} {base N n : Nat} {A : Option Addr} {c : Nat} {l : List ByteArray} {xs : List Value} (h : w.ownsRow base 9 1 (.slice A n c) n xs) (hx : xs = l.map Value.string) (hn : n = l.length) (hN : N ≤ base) (hl : l.length ≤ 40) (hs : ∀ x ∈ l, x.size ≤ 1000) : Fr N (SP A n l) w := by
  subst hn
  subst hx
  exact frs_own h hN hl hs
theorem strs_one {l : List ByteArray} : ∀ u ∈ l.map Value.string, u.oneCell' = true := by
  intro u hu
  obtain ⟨x, _, rfl⟩ := List.mem_map.1 hu
  rfl
theorem namesR_len (n : Nat) (σ : Rs) : (namesR n σ).1.length ≤ n := by
  have key : ∀ (n : Nat) (σ : Rs) (l : List ByteArray), (namesL n σ).1 = some l → l.length ≤ n := by
    intro n
    induction n with
    | zero => intro σ l h; unfold namesL at h; split at h <;> simp at h; subst h; simp
    | succ n ih =>
      intro σ l h
      unfold namesL at h
      split at h
      · simp only [Option.map_eq_some_iff] at h
        obtain ⟨l', h1, rfl⟩ := h
        have := ih _ _ h1
        simp; omega
      · simp at h; subst h; simp
  unfold namesR
  cases h : (namesL n σ).1 with
  | none => simp
  | some l => exact key n σ l h
set_option maxHeartbeats 3200000 in
theorem refStmt_use (b : Nat) (A : Option Addr) (c : Nat) (L : List Tok) (σ : Rs) (w : World) (h : Rst w b A c L σ) (hs : Short L) (hn : isN σ = false) (hk : isK kwUse σ = true) :
    Calls Tryz.prog 147 #[.pointer (some ⟨b, 0, none⟩)] w (RetT w b A c L (stmtR σ)) := by
  have Hne := hid (isK_l hk)
  obtain ⟨l, er⟩ := σ
  have hR := (stmtR_kw hn hk).trans (opR_use _)
  have ht : (nxt l).text = kwUse := isK_text hk
  have t0 : ((nxt l).text.toList == [117, 115, 101]) = true := by rw [ht, toList_data]; decide
  have HN := hid hn; have HS := hid hs
  have h0 : Hid (Sg w b A c L ⟨l, er⟩ zSH ((w.alloc (.cells #[.int .i64 0, .string ⟨#[]⟩, .slice none 0 0, .slice none 0 0] 68)).alloc (.cells #[.int .i64 0, .string ⟨#[]⟩, .slice none 0 0, .slice none 0 0] 68))) := hid (Sg.start h)
  have HR := hid hR
  clear h hs hn hk ht hR
  go_enter Tryz.func147, Tryz.ntmps147
  go_wp2_with fail
  refine (refIsName2_any b A c L ⟨l, er⟩ _ h0.out.st HS.out).mono ?_
  rw [HN.out]
  rintro e w1 ⟨rfl, hb1⟩
  have h1 := hid (h0.out.below hb1)
  clear hb1 h0
  obtain ⟨k, a, hkl, hl, hf, rfl, ha, a0, a1⟩ := h1.out.st.next Hne.out
  have hlt := h1.out.st.lt
  have hfew := h1.out.st.few
  obtain ⟨⟨c0, c1, c2⟩, ⟨f0, f1, f2⟩⟩ := hf.three
  have Hst := hid (fun q => (h1.out.drewN q).call ((h1.out.st.drewN q).step hkl hl (hf.drewN q)))
  have hab : (a.add (k * 4)).block < w1.heap.size := by rw [add_block]; omega
  generalize (nxt l).text = tx at *
  clear hf hl a0
  go_wp2_with fail
  go_quiet (fail)
  clear h1 a1 hab
  go_wp2_with fail
  refine (refName_any b (some a) c L ⟨l.tail, er⟩ _ (Hst.out nq).st HS.out).mono ?_
  rintro e w3 ⟨rfl, h3⟩
  have H3 := hid ((Hst.out nq).call h3)
  have H16y := hid ((Hst.out nq).st.name16 HS.out)
  clear h3
  generalize (nameR ⟨l.tail, er⟩).1 = y at *
  generalize (nameR ⟨l.tail, er⟩).2 = σ2 at *
  obtain ⟨⟨q0, q1, q2, q3⟩, ⟨r0, r1, r2, r3⟩, -, -, hz⟩ := H3.out.cells
  have H4 := hid (H3.out.putOU 2 y H16y.out)
  have Hown := hid (own_lit1 (w := (w3.setCell ⟨w.heap.size + 1, 0, none⟩ (.int .i64 2)).setCell ⟨w.heap.size + 1, 2, none⟩ (.slice (some ⟨w3.heap.size, 0, none⟩) 1 1)) (base := w.heap.size + 2) (g := w3.heap.size) (y := y) (by rw [size_set2]; exact H3.out.size) (size_set2 ..))
  have hgu := H3.out.size
  clear Hst c0 c1 c2 f0 f1 f2
  go_wp2_with fail
  generalize (((w3.setCell ⟨w.heap.size + 1, 0, none⟩ (.int .i64 2)).setCell ⟨w.heap.size + 1, 2, none⟩ (.slice (some ⟨w3.heap.size, 0, none⟩) 1 1)).alloc (.cells #[.string y] 9)) = w4 at *
  generalize w3.heap.size = gu at *
  clear q0 q1 q2 q3 r0 r1 r2 r3 hz H3
  have H4d : Hid (Sg w b (some a) c L σ2 ⟨some ⟨gu, 0, none⟩, 1, 1, none, 0, 0, ⟨2, ⟨#[]⟩, [y], []⟩⟩ w4.drew) := hid (H4.out.drewN 1)
  have HM := hid (fun w' h' => refMore_any b (some a) c L σ2 w' h' HS.out)
  obtain ⟨⟨q0, q1, q2, q3⟩, ⟨r0, r1, r2, r3⟩, -, -, hz⟩ := H4.out.cells
  obtain ⟨i0, hi, hz0, hz1, hz2⟩ := info_parts info9
  have Hi := hid hi; have Hz0 := hid hz0; have Hz1 := hid hz1; have Hz2 := hid hz2
  clear hi hz0 hz1 hz2
  have hr3 := namesR_len 3 σ2
  generalize hrr : (namesR 3 σ2).1 = r at *
  have Hrr := hid hrr
  clear hrr
  have Hol := H4.out.old
  cases r with
  | nil =>
    go_region_law ((
       go_simp
       go_at_call 165
       go_must (
       refine (HM.out _ H4d.out.st).mono ?_
       rintro e w5 ⟨B, d, he, hown5, hsm5, hni5, h5⟩
       obtain ⟨e1, e2⟩ := hni5 Hrr.out
       rw [Hrr.out] at he hown5
       subst e1
       subst e2
       subst he
       clear hni5
       have H5 := hid (H4d.out.call h5)
       obtain ⟨⟨q0, q1, q2, q3⟩, ⟨r0, r1, r2, r3⟩, -, -, hz⟩ := H5.out.cells
       clear hown5 hsm5 h5)))
    all_goals
      have H6 := hid (H5.out.putU (A2 := some ⟨gu, 0, none⟩) (n2 := 1) (c2 := 1) (us2 := [y]) (fun ex he => (H5.out.fr ex he).uses))
      clear q0 q1 q2 q3 r0 r1 r2 r3 hz
      go_wp2_with fail
      refine (refEnd_any b (some a) c L (namesR 3 σ2).2 _ H6.out.st).mono ?_
      rintro e wz ⟨rfl, hz0⟩
      have HZ := hid (H6.out.call hz0)
      clear hz0
      obtain ⟨⟨p0, p1, p2, p3⟩, ⟨-, -, -, -⟩, ⟨v0, v1, v2, v3⟩, ⟨s0, s1, s2, s3⟩, hsz⟩ := HZ.out.cells
      have hsz2 : w.heap.size < wz.heap.size := by omega
      go_wp2_with fail
      refine bodyPost_ret (v := agS ⟨some ⟨gu, 0, none⟩, 1, 1, none, 0, 0, ⟨2, ⟨#[]⟩, [y], []⟩⟩) (by simp [results, Tryz.results147, go_sem, p0, p1, p2, p3, s0, s1, s2, s3, v0, v1, v2, v3, hsz, hsz2, agS]) rfl ?_
      exact HZ.out.done _ _ _ _ HR.out
  | cons z zs =>
    go_region_law (first
      | ((refine step_append_lies _ (by rfl) _ _ 66 (by rfl) (w.heap.size + 2) 9 i0 _ 1 16 Tryz.underlying66 Hi.out Hz0.out Hz1.out Hz2.out (by rfl) (by decide) (.slice (some ⟨gu, 0, none⟩) 1 1) 1 [.string y] (by rfl) (by exact Hown5.out)
            ⟨g5, 0, none⟩ (z :: zs).length _ ((z :: zs).map Value.string) (by rfl) (by simp) (by exact Hc5.out) strs_one (by simp) (by unfold maxLen; omega) (by omega) (by have := H5.out.size; omega) _ rfl ?_)
         intro g9 cap9 w9 hown9 hgr9 hat9 hlt9
         have Hown9 := hid hown9
         have Hgr9 := hid hgr9
         have k0 := hgr9.cell q0 (by show some _ ≠ some gu; simp; omega)
         have k1 := hgr9.cell q1 (by show some _ ≠ some gu; simp; omega)
         have k2 := hgr9.cell q2 (by show some _ ≠ some gu; simp; omega)
         have k3 := hgr9.cell q3 (by show some _ ≠ some gu; simp; omega)
         have j2 := (hgr9.frozen_far ⟨w.heap.size + 1, 2, none⟩ (by exact hz) (by show some _ ≠ some gu; simp; omega)).trans r2
         have hz9 : w.heap.size + 1 < w9.heap.size := Nat.lt_of_lt_of_le hz hgr9.size
         clear hown9 hgr9 hat9 hlt9)
      | (go_simp
         go_at_call 165
         go_must (
         refine (HM.out _ H4d.out.st).mono ?_
         rintro e w5 ⟨B, d, he, hown5, hsm5, -, h5⟩
         rw [Hrr.out] at he hown5 hsm5
         obtain ⟨g5, cap5, he5, hb5, hl5⟩ := hown5.form (by simp)
         injection he5 with e1 e2 e3
         subst e1
         subst e3
         subst he
         have Hc5 := hid (hown5.cells (g := g5) rfl)
         have Hsm5 := hid hsm5
         have H5 := hid (H4d.out.call h5)
         have Hown5 := hid (RTo.own (w := w4.drew) Hown.out.drew h5 (by omega))
         obtain ⟨⟨q0, q1, q2, q3⟩, ⟨r0, r1, r2, r3⟩, -, -, hz⟩ := H5.out.cells
         clear hown5 hsm5 h5 hl5)))
    all_goals
      have H6 := hid (Sg.row H5.out (Below.refl _ _) Hgr9.out hgu 2 (.slice (some ⟨g9, 0, none⟩) (1 + (z :: zs).length) cap9) ⟨some ⟨g9, 0, none⟩, 1 + (z :: zs).length, cap9, none, 0, 0, ⟨2, ⟨#[]⟩, y :: z :: zs, []⟩⟩ rfl
        (fun ex he => ⟨frs_own2 Hown9.out rfl (by simp; omega) (Nat.le_refl _) (by simp at hr3 ⊢; omega) (fun x hx => by
          rcases List.mem_cons.1 hx with hx | hx
          · subst hx; have := H16y.out; omega
          · have := Hsm5.out x hx; omega) ex he, SSafe.nil _ _ _, by show (0 : Nat) ≤ 1000; omega⟩))
      clear q0 q1 q2 q3 r0 r1 r2 r3 hz
      go_wp2_with fail
      clear k0 k1 k2 k3 j2 hz9
      refine (refEnd_any b (some a) c L (namesR 3 σ2).2 _ H6.out.st).mono ?_
      rintro e wz ⟨rfl, hz0⟩
      have HZ := hid (H6.out.call hz0)
      clear hz0
      obtain ⟨⟨p0, p1, p2, p3⟩, ⟨-, -, -, -⟩, ⟨v0, v1, v2, v3⟩, ⟨s0, s1, s2, s3⟩, hsz⟩ := HZ.out.cells
      have hsz2 : w.heap.size < wz.heap.size := by omega
      go_wp2_with fail
      refine bodyPost_ret (v := agS ⟨some ⟨g9, 0, none⟩, 1 + (z :: zs).length, cap9, none, 0, 0, ⟨2, ⟨#[]⟩, y :: z :: zs, []⟩⟩) (by simp [results, Tryz.results147, go_sem, p0, p1, p2, p3, s0, s1, s2, s3, v0, v1, v2, v3, hsz, hsz2, agS]) rfl ?_
      exact HZ.out.done _ _ _ _ HR.out
end Go.Proofs.YtfapgnbnfhpicaaGreatDoor

namespace Go.Proofs.YtfapgnbnfhpicaaGreatDoor
set_option maxRecDepth 20000
set_option linter.unusedVariables false
set_option linter.unusedSimpArgs false
open Go.ChangeShapes Go.WideShapes Go.ChangeAt Go.RowKit
attribute [local go_sem ↓] Go.wp_at_zero Go.wp_at_succ

set_option maxHeartbeats 3200000 in
theorem refStmt_branch (b : Nat) (A : Option Addr) (c : Nat) (L : List Tok) (σ : Rs) (w : World) (h : Rst w b A c L σ) (hs : Short L) (hn : isN σ = false) (hk : isK kwBranch σ = true) :
    Calls Tryz.prog 147 #[.pointer (some ⟨b, 0, none⟩)] w (RetT w b A c L (stmtR σ)) := by
  have Hne := hid (isK_l hk)
  obtain ⟨l, er⟩ := σ
  have hR := (stmtR_kw hn hk).trans (opR_branch _)
  have ht : (nxt l).text = kwBranch := isK_text hk
  have t0 : ((nxt l).text.toList == [117, 115, 101]) = false := by rw [ht, toList_data]; decide
  have t1 : ((nxt l).text.toList == [99, 97, 108, 108]) = false := by rw [ht, toList_data]; decide
  have t2 : ((nxt l).text.toList == [115, 111, 117, 114, 99, 101]) = false := by rw [ht, toList_data]; decide
  have t3 : ((nxt l).text.toList == [115, 105, 110, 107]) = false := by rw [ht, toList_data]; decide
  have t4 : ((nxt l).text.toList == [115, 97, 110, 105, 116, 105, 122, 101]) = false := by rw [ht, toList_data]; decide
  have t5 : ((nxt l).text.toList == [103, 111, 116, 111]) = false := by rw [ht, toList_data]; decide
  have t6 : ((nxt l).text.toList == [98, 114, 97, 110, 99, 104]) = true := by rw [ht, toList_data]; decide
  have HN := hid hn; have HS := hid hs
  have h0 : Hid (Sg w b A c L ⟨l, er⟩ zSH ((w.alloc (.cells #[.int .i64 0, .string ⟨#[]⟩, .slice none 0 0, .slice none 0 0] 68)).alloc (.cells #[.int .i64 0, .string ⟨#[]⟩, .slice none 0 0, .slice none 0 0] 68))) := hid (Sg.start h)
  have HR := hid hR
  clear h hs hn hk ht hR
  go_enter Tryz.func147, Tryz.ntmps147
  go_wp2_with fail
  refine (refIsName2_any b A c L ⟨l, er⟩ _ h0.out.st HS.out).mono ?_
  rw [HN.out]
  rintro e w1 ⟨rfl, hb1⟩
  have h1 := hid (h0.out.below hb1)
  clear hb1 h0
  obtain ⟨k, a, hkl, hl, hf, rfl, ha, a0, a1⟩ := h1.out.st.next Hne.out
  have hlt := h1.out.st.lt
  have hfew := h1.out.st.few
  obtain ⟨⟨c0, c1, c2⟩, ⟨f0, f1, f2⟩⟩ := hf.three
  have Hst := hid (fun q => (h1.out.drewN q).call ((h1.out.st.drewN q).step hkl hl (hf.drewN q)))
  have hab : (a.add (k * 4)).block < w1.heap.size := by rw [add_block]; omega
  generalize (nxt l).text = tx at *
  clear hf hl a0
  go_wp2_with fail
  go_quiet (fail)
  clear h1 a1 hab
  go_wp2_with fail
  refine (refName_any b (some a) c L ⟨l.tail, er⟩ _ (Hst.out nq).st HS.out).mono ?_
  rintro e w3 ⟨rfl, h3⟩
  have H3 := hid ((Hst.out nq).call h3)
  have H16y := hid ((Hst.out nq).st.name16 HS.out)
  clear h3
  generalize (nameR ⟨l.tail, er⟩).1 = y at *
  generalize (nameR ⟨l.tail, er⟩).2 = σ2 at *
  obtain ⟨⟨q0, q1, q2, q3⟩, ⟨r0, r1, r2, r3⟩, -, -, hz⟩ := H3.out.cells
  have H4 := hid (H3.out.putOU 8 y H16y.out)
  have HFu := hid (show Fb _ _ (strC [y]) 9 from Fb.new ((w3.setCell ⟨w.heap.size + 1, 0, none⟩ (.int .i64 8)).setCell ⟨w.heap.size + 1, 2, none⟩ (.slice (some ⟨w3.heap.size, 0, none⟩) 1 1)) #[.string y] 9)
  rw [size_set2] at HFu
  have hgu := H3.out.size
  have Hol := H3.out.old
  clear Hst c0 c1 c2 f0 f1 f2
  go_wp2_with fail
  generalize (((w3.setCell ⟨w.heap.size + 1, 0, none⟩ (.int .i64 8)).setCell ⟨w.heap.size + 1, 2, none⟩ (.slice (some ⟨w3.heap.size, 0, none⟩) 1 1)).alloc (.cells #[.string y] 9)) = w4 at *
  generalize w3.heap.size = gu at *
  clear q0 q1 q2 q3 r0 r1 r2 r3 hz H3
  refine (refName_any b (some a) c L σ2 _ H4.out.st HS.out).mono ?_
  rintro e w5 ⟨rfl, h5⟩
  have H5 := hid (H4.out.call h5)
  have H16y2 := hid (H4.out.st.name16 HS.out)
  have HFu5 := hid (HFu.out.grown h5.2 (by simp; omega))
  have hgt := HFu5.out.lt
  clear h5
  generalize (nameR σ2).1 = y2 at *
  generalize (nameR σ2).2 = σ3 at *
  obtain ⟨⟨q0, q1, q2, q3⟩, ⟨r0, r1, r2, r3⟩, -, -, hz⟩ := H5.out.cells
  have H6 := hid (H5.out.putT1 y2 H16y2.out)
  have Hown := hid (own_lit1 (w := w5.setCell ⟨w.heap.size + 1, 3, none⟩ (.slice (some ⟨w5.heap.size, 0, none⟩) 1 1)) (base := w.heap.size + 2) (g := w5.heap.size) (y := y2) (by rw [size_set1]; exact H5.out.size) (size_set1 ..))
  have HFu6 := hid ((HFu5.out.far (p := ⟨w.heap.size + 1, 3, none⟩) (by show gu ≠ w.heap.size + 1; omega) (.slice (some ⟨w5.heap.size, 0, none⟩) 1 1)).alloc (.cells #[.string y2] 9))
  have hsz5 := H5.out.size
  go_wp2_with fail
  generalize (w5.setCell ⟨w.heap.size + 1, 3, none⟩ (.slice (some ⟨w5.heap.size, 0, none⟩) 1 1)).alloc (.cells #[.string y2] 9) = w6 at *
  generalize w5.heap.size = gt at *
  clear q0 q1 q2 q3 r0 r1 r2 r3 hz H5 HFu5 HFu
  have H6d : Hid (Sg w b (some a) c L σ3 ⟨some ⟨gu, 0, none⟩, 1, 1, some ⟨gt, 0, none⟩, 1, 1, ⟨8, ⟨#[]⟩, [y], [y2]⟩⟩ w6.drew) := hid (H6.out.drewN 1)
  have HM := hid (fun w' h' => refName_any b (some a) c L σ3 w' h' HS.out)
  have H16y3 := hid (H6.out.st.name16 HS.out)
  generalize (nameR σ3).1 = y3 at *
  generalize (nameR σ3).2 = σ4 at *
  obtain ⟨⟨q0, q1, q2, q3⟩, ⟨r0, r1, r2, r3⟩, -, -, hz⟩ := H6.out.cells
  obtain ⟨vt, hvt⟩ : ∃ v, v = Value.slice (some ⟨gt, 0, none⟩) 1 1 := ⟨_, rfl⟩
  have Hvt := hid hvt
  clear hvt
  rw [← Hvt.out] at q3
  obtain ⟨i0, hi, hz0, hz1, hz2⟩ := info_parts info9
  have Hi := hid hi; have Hz0 := hid hz0; have Hz1 := hid hz1; have Hz2 := hid hz2
  clear hi hz0 hz1 hz2
  go_region_law (first
    | (go_simp
       go_at_call 109
       go_must (
       refine (HM.out _ H6d.out.st).mono ?_
       rintro e w7 ⟨rfl, h7⟩
       have H7 := hid (H6d.out.call h7)
       have Hown7 := hid (RTo.own (w := w6.drew) Hown.out.drew h7 (by omega))
       have HFu7 := hid ((HFu6.out.drewN 1).grown h7.2 (by simp; omega))
       obtain ⟨⟨q0, q1, q2, q3⟩, ⟨r0, r1, r2, r3⟩, -, -, hz⟩ := H7.out.cells
       rw [← Hvt.out] at q3
       clear h7))
    | ((refine step_append_lies _ (by rfl) _ _ 66 (by rfl) (w.heap.size + 2) 9 i0 _ 1 16 Tryz.underlying66 Hi.out Hz0.out Hz1.out Hz2.out (by rfl) (by decide) vt 1 [.string y2] (by rfl) (by rw [Hvt.out]; exact Hown7.out.alloc _)
          ⟨_, 0, none⟩ 1 1 [.string y3] (by rfl) rfl (by exact one_str _ _ _) (one_strc _) (by decide) (by unfold maxLen; omega) (by omega) (by have := H7.out.size; rw [World.size_alloc]; omega) _ rfl ?_)
       intro g9 cap9 w9 hown9 hgr9 hat9 hlt9
       rw [Hvt.out] at hgr9
       have Hown9 := hid hown9
       have Hgr9 := hid hgr9
       have k3 := hgr9.cell ((World.cell?_alloc_lt _ _ ⟨w.heap.size + 1, 3, none⟩ hz).trans (q3.trans (by rw [Hvt.out]))) (by show some _ ≠ some gt; simp; omega)
       have j3 := (hgr9.frozen_far ⟨w.heap.size + 1, 3, none⟩ (by rw [World.size_alloc]; show w.heap.size + 1 < _; omega) (by show some _ ≠ some gt; simp; omega)).trans ((World.frozen?_alloc_old _ _ ⟨w.heap.size + 1, 3, none⟩ (Nat.ne_of_lt hz)).trans r3)
       have hz9 : w.heap.size + 1 < w9.heap.size := Nat.lt_of_lt_of_le hz (Nat.le_trans (by rw [World.size_alloc]; omega) hgr9.size)
       clear hown9 hgr9 hat9 hlt9))
  all_goals
    have HFu9 := hid ((HFu7.out.alloc (.cells #[.string y3] 9)).grown Hgr9.out (by show some gu ≠ some gt; simp; omega))
    have H8 := hid (Sg.row H7.out ((Below.refl _ _).alloc (Nat.le_refl _) (.cells #[.string y3] 9)) Hgr9.out (by omega) 3 (.slice (some ⟨g9, 0, none⟩) (1 + 1) cap9) ⟨some ⟨gu, 0, none⟩, 1, 1, some ⟨g9, 0, none⟩, 1 + 1, cap9, ⟨8, ⟨#[]⟩, [y], [y2, y3]⟩⟩ rfl
      (fun ex he => ⟨SSafe.new (l := [y]) (m := 1) HFu9.out (fun hin => by have := he _ hin; omega) (by simp) (by simp) (by have := H16y.out; simp; omega), frs_own2 Hown9.out rfl rfl (Nat.le_refl _) (by simp) (fun x hx => by
        have h1 := H16y2.out; have h2 := H16y3.out
        simp at hx; rcases hx with rfl | rfl <;> omega) ex he, by show (0 : Nat) ≤ 1000; omega⟩))
    clear q0 q1 q2 q3 r0 r1 r2 r3 hz
    go_wp2_with fail
    clear k3 j3 hz9
    refine (refEnd_any b (some a) c L σ4 _ H8.out.st).mono ?_
    rintro e wz ⟨rfl, hz0⟩
    have HZ := hid (H8.out.call hz0)
    clear hz0
    obtain ⟨⟨p0, p1, p2, p3⟩, ⟨-, -, -, -⟩, ⟨v0, v1, v2, v3⟩, ⟨s0, s1, s2, s3⟩, hsz⟩ := HZ.out.cells
    have hsz2 : w.heap.size < wz.heap.size := by omega
    go_wp2_with fail
    refine bodyPost_ret (v := agS ⟨some ⟨gu, 0, none⟩, 1, 1, some ⟨g9, 0, none⟩, 1 + 1, cap9, ⟨8, ⟨#[]⟩, [y], [y2, y3]⟩⟩) (by simp [results, Tryz.results147, go_sem, p0, p1, p2, p3, s0, s1, s2, s3, v0, v1, v2, v3, hsz, hsz2, agS]) rfl ?_
    exact HZ.out.done _ _ _ _ HR.out
set_option maxHeartbeats 3200000 in
theorem refStmt_name (b : Nat) (A : Option Addr) (c : Nat) (L : List Tok) (σ : Rs) (w : World) (h : Rst w b A c L σ) (hs : Short L) (hn : isN σ = true) :
    Calls Tryz.prog 147 #[.pointer (some ⟨b, 0, none⟩)] w (RetT w b A c L (stmtR σ)) := by
  have hR : stmtR σ = opR noB σ := by unfold stmtR; rw [hn]; rfl
  rw [opR_no] at hR
  have HN := hid hn; have HS := hid hs
  have h0 : Hid (Sg w b A c L σ zSH ((w.alloc (.cells #[.int .i64 0, .string ⟨#[]⟩, .slice none 0 0, .slice none 0 0] 68)).alloc (.cells #[.int .i64 0, .string ⟨#[]⟩, .slice none 0 0, .slice none 0 0] 68))) := hid (Sg.start h)
  have HR := hid hR
  clear h hs hn hR
  go_enter Tryz.func147, Tryz.ntmps147
  go_wp2_with fail
  refine (refIsName2_any b A c L σ _ h0.out.st HS.out).mono ?_
  rw [HN.out]
  rintro e w1 ⟨rfl, hb1⟩
  have h1 := hid (h0.out.below hb1)
  clear hb1 h0
  go_wp2_with fail
  refine (refName_any b A c L σ _ h1.out.st HS.out).mono ?_
  rintro e w3 ⟨rfl, h3⟩
  have H3 := hid (h1.out.call h3)
  have H16y := hid (h1.out.st.name16 HS.out)
  clear h3
  generalize (nameR σ).1 = y at *
  generalize (nameR σ).2 = σ2 at *
  obtain ⟨⟨q0, q1, q2, q3⟩, ⟨r0, r1, r2, r3⟩, -, -, hz⟩ := H3.out.cells
  have H4 := hid ((H3.out.putO 1).putD y H16y.out)
  clear h1
  go_wp2_with fail
  generalize ((w3.setCell ⟨w.heap.size + 1, 0, none⟩ (.int .i64 1)).setCell ⟨w.heap.size + 1, 1, none⟩ (.string y)) = w4 at *
  clear q0 q1 q2 q3 r0 r1 r2 r3 hz
  cases hd : isD 2 σ2 with
  | false =>
    have HD := hid hd
    rw [hd] at HR
    clear hd
    refine (refIsKind_any b A c L σ2 2 (by omega) _ H4.out.st).mono ?_
    rw [HD.out]
    rintro e w5 ⟨rfl, hb5⟩
    have H5 := hid (H4.out.below hb5)
    clear hb5
    go_wp2_with fail
    refine (refFail_any b A c L σ2 4 _ H5.out.st).mono ?_
    rintro e wz ⟨rfl, hz0⟩
    have HZ := hid (H5.out.call hz0)
    clear hz0
    obtain ⟨⟨p0, p1, p2, p3⟩, ⟨-, -, -, -⟩, ⟨v0, v1, v2, v3⟩, ⟨s0, s1, s2, s3⟩, hsz⟩ := HZ.out.cells
    have hsz2 : w.heap.size < wz.heap.size := by omega
    go_wp2_with fail
    refine bodyPost_ret (v := agS ⟨none, 0, 0, none, 0, 0, ⟨1, y, [], []⟩⟩) (by simp [results, Tryz.results147, go_sem, p0, p1, p2, p3, s0, s1, s2, s3, v0, v1, v2, v3, hsz, hsz2, agS]) rfl ?_
    exact HZ.out.done _ _ _ _ HR.out
  | true =>
    have HD := hid hd
    rw [hd] at HR
    have Hne := hid (isD_l (by omega) hd)
    clear hd
    refine (refIsKind_any b A c L σ2 2 (by omega) _ H4.out.st).mono ?_
    rw [HD.out]
    rintro e w5 ⟨rfl, hb5⟩
    have H5 := hid (H4.out.below hb5)
    clear hb5
    obtain ⟨l, er⟩ := σ2
    obtain ⟨k, a, hkl, hl, hf, rfl, ha, a0, a1⟩ := H5.out.st.next Hne.out
    have hlt := H5.out.st.lt
    have hfew := H5.out.st.few
    obtain ⟨⟨c0, c1, c2⟩, ⟨f0, f1, f2⟩⟩ := hf.three
    have Hst := hid (H5.out.call (H5.out.st.step hkl hl hf))
    clear hf hl a0 a1
    have HR2 : Hid (stmtR σ = (⟨1, y, (namesR 4 ⟨l.tail, er⟩).1, []⟩, endR (namesR 4 ⟨l.tail, er⟩).2)) := HR
    clear HR
    go_wp2_with fail
    refine (refNames_any b (some a) c L ⟨l.tail, er⟩ _ Hst.out.st HS.out).mono ?_
    rintro e w6 ⟨B, d, rfl, hown6, hsm6, -, h6⟩
    have H6 := hid (Hst.out.call h6)
    have hr4 := namesR_len 4 ⟨l.tail, er⟩
    have Hfr := hid (frs_own (N := w.heap.size + 2) hown6 (Hst.out.size) (by omega) (fun x hx => by have := hsm6 x hx; omega))
    clear h6 hown6 hsm6
    generalize (namesR 4 ⟨l.tail, er⟩).1 = r at *
    generalize (namesR 4 ⟨l.tail, er⟩).2 = σ4 at *
    generalize hm : r.length = m at *
    have Hm := hid hm
    clear hm hr4
    obtain ⟨⟨q0, q1, q2, q3⟩, ⟨r0, r1, r2, r3⟩, -, -, hz⟩ := H6.out.cells
    have H7 := hid (H6.out.putU (c2 := d) Hfr.out)
    go_wp2_with fail
    clear q0 q1 q2 q3 r0 r1 r2 r3 hz
    refine (refEnd_any b (some a) c L σ4 _ H7.out.st).mono ?_
    rintro e wz ⟨rfl, hz0⟩
    have HZ := hid (H7.out.call hz0)
    clear hz0
    obtain ⟨⟨p0, p1, p2, p3⟩, ⟨-, -, -, -⟩, ⟨v0, v1, v2, v3⟩, ⟨s0, s1, s2, s3⟩, hsz⟩ := HZ.out.cells
    have hsz2 : w.heap.size < wz.heap.size := by omega
    go_wp2_with fail
    refine bodyPost_ret (v := agS ⟨B, m, d, none, 0, 0, ⟨1, y, r, []⟩⟩) (by simp [results, Tryz.results147, go_sem, p0, p1, p2, p3, s0, s1, s2, s3, v0, v1, v2, v3, hsz, hsz2, agS]) rfl ?_
    exact HZ.out.done _ _ _ _ HR2.out
theorem refStmt_any (b : Nat) (A : Option Addr) (c : Nat) (L : List Tok) (σ : Rs) (w : World) (h : Rst w b A c L σ) (hs : Short L) (hb : begR σ = true) :
    Calls Tryz.prog 147 #[.pointer (some ⟨b, 0, none⟩)] w (RetT w b A c L (stmtR σ)) := by
  cases hn : isN σ with
  | true => exact refStmt_name b A c L σ w h hs hn
  | false =>
    unfold begR at hb
    rw [hn] at hb
    simp only [Bool.or_false, Bool.or_eq_true] at hb
    rcases hb with ((((((hb | hb) | hb) | hb) | hb) | hb) | hb) | hb
    · exact refStmt_use b A c L σ w h hs hn hb
    · exact refStmt_call b A c L σ w h hs hn hb
    · exact refStmt_source b A c L σ w h hs hn hb
    · exact refStmt_sink b A c L σ w h hs hn hb
    · exact refStmt_sanitize b A c L σ w h hs hn hb
    · exact refStmt_goto b A c L σ w h hs hn hb
    · exact refStmt_branch b A c L σ w h hs hn hb
    · exact refStmt_return b A c L σ w h hs hn hb
end Go.Proofs.YtfapgnbnfhpicaaGreatDoor

namespace Go.Proofs.YtfapgnbnfhpicaaGreatDoor
set_option maxRecDepth 20000
set_option linter.unusedVariables false
set_option linter.unusedSimpArgs false
open Go.ChangeShapes Go.WideShapes Go.ChangeAt Go.RowKit

/-- Safe from all that is written below N, and from the row that grows. -/
def FrV (N : Nat) (v : Value) (P : World → List (Option Nat) → Prop) (w : World) : Prop := ∀ ex : List (Option Nat), (∀ k, some k ∈ ex → k < N ∨ v.ownBlock = some k) → P w ex
section
variable {N : Nat} {v v' : Value} {P : World → List (Option Nat) → Prop} {w w' : World}
theorem FrV.fr (h : FrV N v P w) : Fr N P w := fun ex he => h ex fun k hk => .inl (he k hk)
theorem FrV.grown (hP : ∀ {w w' : World} {ex ex' : List (Option Nat)}, P w ex → Go2 w ex w' ex' → P w' ex') {row : Option Nat} (h : FrV N v P w) (hg : w.grownBy w' row) (hr : ∀ k, row = some k → k < N) : FrV N v P w' := by
  intro ex he
  have e1 := h (row :: ex) (fun k hk => by
    rcases List.mem_cons.1 hk with hk | hk
    · exact .inl (hr k hk.symm)
    · exact he k hk)
  exact hP (hP e1 (Go2.same hg (.inr (by simp)))) (Go2.less _ fun k hk => List.mem_cons_of_mem _ hk)
theorem FrV.push (hP : ∀ {w w' : World} {ex ex' : List (Option Nat)}, P w ex → Go2 w ex w' ex' → P w' ex') (h : FrV N v P w) (hg : w.grownBy w' v.ownBlock) {g : Nat} (hv : v'.ownBlock = some g) (hgh : v.ownBlock = some g ∨ g = w.heap.size) : FrV N v' P w' := by
  intro ex he
  have e1 := h (v.ownBlock :: ex.filter (fun o => decide (o ≠ some g))) (fun k hk => by
    rcases List.mem_cons.1 hk with hk | hk
    · exact .inr hk.symm
    · simp only [List.mem_filter, decide_eq_true_eq] at hk
      rcases he k hk.1 with h1 | h1
      · exact .inl h1
      · rw [hv] at h1; exact absurd h1.symm hk.2)
  refine hP e1 (Go2.grown hg (.inr (by simp)) (fun k hk hin => ?_))
  by_cases hkg : k = g
  · subst hkg
    rcases hgh with h1 | h1
    · rw [h1]; simp
    · omega
  · refine List.mem_cons_of_mem _ ?_
    simp only [List.mem_filter, decide_eq_true_eq]
    exact ⟨hin, by simpa using hkg⟩
theorem FrV.fresh {B : Nat} (h : Fr B P w) (hN : N ≤ B) (hv : ∀ k, v.ownBlock = some k → k < B) : FrV N v P w := fun ex he => h ex fun k hk => by
  rcases he k hk with h1 | h1
  · omega
  · exact hv k h1
end
/-- What lies in a row whose elements are parts. -/
structure Kind (α : Type) where
  f : α → List Value
  k : Nat
  te : TypeId
  tb : TypeId
  P : α → World → List (Option Nat) → Prop
  go : ∀ (x : α) {w w' : World} {ex ex' : List (Option Nat)}, P x w ex → Go2 w ex w' ex' → P x w' ex'

structure Bg {α : Type} (K : Kind α) (w0 : World) (b : Nat) (A : Option Addr) (c : Nat) (L : List Tok) (σ : Rs) (nm : ByteArray) (v : Value) (l : List α) (w : World) : Prop where
  st : Rst w b A c L σ
  old : b < w0.heap.size
  gr : w0.grownBy w (some b)
  f2 : Fb w w0.heap.size #[.string ⟨#[]⟩, .slice none 0 0] K.tb
  f3 : Fb w (w0.heap.size + 1) #[.string nm, v] K.tb
  own : w.ownsRow (w0.heap.size + 2) K.te K.k v l.length (l.flatMap K.f)
  all : ∀ x ∈ l, FrV (w0.heap.size + 2) v (K.P x) w
section
variable {α : Type} {K : Kind α} {w0 w w' : World} {b : Nat} {A : Option Addr} {c : Nat} {L : List Tok} {σ σ' : Rs} {nm : ByteArray} {v : Value} {l : List α}
theorem Bg.start (h : Rst w0 b A c L σ) : Bg K w0 b A c L σ ⟨#[]⟩ (.slice none 0 0) [] ((w0.alloc (.cells #[.string ⟨#[]⟩, .slice none 0 0] K.tb)).alloc (.cells #[.string ⟨#[]⟩, .slice none 0 0] K.tb)) := by
  have hb : Below w0.heap.size w0 ((w0.alloc (.cells #[.string ⟨#[]⟩, .slice none 0 0] K.tb)).alloc (.cells #[.string ⟨#[]⟩, .slice none 0 0] K.tb)) := ((Below.refl _ _).alloc (Nat.le_refl _) _).alloc (by simp) _
  refine ⟨h.below hb h.lt, h.lt, grown_of_below hb _, (Fb.new w0 _ _).alloc _, ?_, World.ownsRow_nil _ _ _ _, by simp⟩
  have := Fb.new (w0.alloc (.cells #[.string ⟨#[]⟩, .slice none 0 0] K.tb)) #[.string ⟨#[]⟩, .slice none 0 0] K.tb
  rw [World.size_alloc] at this
  exact this
theorem Bg.call (h : Bg K w0 b A c L σ nm v l w) (hr : RTo w b A c L σ' w') : Bg K w0 b A c L σ' nm v l w' :=
  ⟨hr.1, h.old, grown_two h.gr hr.2, h.f2.grown hr.2 (by have := h.old; simp; omega), h.f3.grown hr.2 (by have := h.old; simp; omega), RTo.own h.own hr (by have := h.old; omega),
    fun x hx => (h.all x hx).grown (K.go x) hr.2 (fun k hk => by injection hk with hk; have := h.old; omega)⟩
theorem Bg.below (h : Bg K w0 b A c L σ nm v l w) (hb : Below w.heap.size w w') : Bg K w0 b A c L σ nm v l w' := h.call ((RTo.refl h.st).belowr hb)
theorem Bg.drewN (h : Bg K w0 b A c L σ nm v l w) (q : Nat) : Bg K w0 b A c L σ nm v l (w.drewN q) := h.below (below_drewN (Below.refl _ _) q)
theorem Bg.size (h : Bg K w0 b A c L σ nm v l w) : w0.heap.size + 2 ≤ w.heap.size := by have := h.f3.lt; omega
theorem Bg.name (h : Bg K w0 b A c L σ nm v l w) (y : ByteArray) : Bg K w0 b A c L σ y v l (w.setCell ⟨w0.heap.size + 1, 0, none⟩ (.string y)) := by
  have ho := h.old
  have hg := setCell_grown w ⟨w0.heap.size + 1, 0, none⟩ (.string y)
  refine ⟨h.st.far (by show b < w0.heap.size + 1; omega) _, ho, grown_set_new h.gr (by show w0.heap.size ≤ w0.heap.size + 1; omega) _, h.f2.far (by show w0.heap.size ≠ w0.heap.size + 1; omega) _, ?_, ?_, fun x hx => (h.all x hx).grown (K.go x) hg (fun k hk => by injection hk with hk; have : w0.heap.size + 1 = k := hk; omega)⟩
  · have := h.f3.set 0 (.string y)
    simpa using this
  · exact h.own.kept hg (by
      cases e : v.ownBlock with
      | none => exact .inl rfl
      | some g => exact .inr (by have h2 := (h.own.lt g e).1; show some g ≠ some (w0.heap.size + 1); simp; omega))
theorem Bg.cells (h : Bg K w0 b A c L σ nm v l w) :
    (w.cell? ⟨w0.heap.size + 1, 0, none⟩ = some (.string nm) ∧ w.cell? ⟨w0.heap.size + 1, 1, none⟩ = some v) ∧ (w.frozen? ⟨w0.heap.size + 1, 0, none⟩ = false ∧ w.frozen? ⟨w0.heap.size + 1, 1, none⟩ = false) ∧
    (w.cell? ⟨w0.heap.size, 0, none⟩ = some (.string ⟨#[]⟩) ∧ w.cell? ⟨w0.heap.size, 1, none⟩ = some (.slice none 0 0)) ∧ (w.frozen? ⟨w0.heap.size, 0, none⟩ = false ∧ w.frozen? ⟨w0.heap.size, 1, none⟩ = false) ∧ w0.heap.size + 1 < w.heap.size :=
  ⟨⟨h.f3.cell 0, h.f3.cell 1⟩, ⟨h.f3.frozen 0, h.f3.frozen 1⟩, ⟨h.f2.cell 0, h.f2.cell 1⟩, ⟨h.f2.frozen 0, h.f2.frozen 1⟩, h.f3.lt⟩
/-- A part more: the row has grown, and the field is stored. -/
theorem Bg.push {wa w9 : World} {g9 cap9 : Nat} {x : α} (h : Bg K w0 b A c L σ nm v l w) (ha : Below w.heap.size w wa) (hx : Fr w.heap.size (K.P x) w ∨ FrV (w0.heap.size + 2) v (K.P x) w) (hg : wa.grownBy w9 v.ownBlock)
    (hown : w9.ownsRow (w0.heap.size + 2) K.te K.k (.slice (some ⟨g9, 0, none⟩) (l.length + 1) cap9) (l.length + 1) (l.flatMap K.f ++ K.f x)) (hat : v.ownBlock = some g9 ∨ g9 = wa.heap.size) :
    (w9.cell? ⟨w0.heap.size + 1, 1, none⟩ = some v ∧ w9.frozen? ⟨w0.heap.size + 1, 1, none⟩ = false ∧ w0.heap.size + 1 < w9.heap.size) ∧
    Bg K w0 b A c L σ nm (.slice (some ⟨g9, 0, none⟩) (l.length + 1) cap9) (l ++ [x]) (w9.setCell ⟨w0.heap.size + 1, 1, none⟩ (.slice (some ⟨g9, 0, none⟩) (l.length + 1) cap9)) := by
  have h1 := h.below ha
  have ho := h.old
  have hz := h1.size
  have hlt : ∀ k, v.ownBlock = some k → w0.heap.size + 2 ≤ k := fun k hk => (h1.own.lt k hk).1
  have hne : ∀ k, k < w0.heap.size + 2 → some k ≠ v.ownBlock := fun k hk e => by have := hlt k e.symm; omega
  have hf3 := h1.f3.grown hg (hne _ (by omega))
  have hxV : FrV (w0.heap.size + 2) v (K.P x) wa := by
    have h2 : FrV (w0.heap.size + 2) v (K.P x) w := by
      rcases hx with hx | hx
      · exact FrV.fresh hx h.size (fun k hk => (h.own.lt k hk).2)
      · exact hx
    exact h2.grown (K.go x) (grown_of_below ha none) (fun k hk => by cases hk)
  have hset := setCell_grown w9 ⟨w0.heap.size + 1, 1, none⟩ (.slice (some ⟨g9, 0, none⟩) (l.length + 1) cap9)
  have hg9 := (hown.lt g9 rfl).1
  refine ⟨⟨hf3.cell 1, hf3.frozen 1, hf3.lt⟩, ?_⟩
  refine ⟨(h1.st.grown hg (fun k hk => by have := hlt k hk; omega)).far (by show b < w0.heap.size + 1; omega) _, ho, grown_set_new ?_ (by show w0.heap.size ≤ w0.heap.size + 1; omega) _, (h1.f2.grown hg (hne _ (by omega))).far (by show w0.heap.size ≠ w0.heap.size + 1; omega) _, ?_, ?_, ?_⟩
  · have h2 := h1.gr
    exact ⟨hg.os.trans h2.os, hg.tape.trans h2.tape, hg.output.trans h2.output, Nat.le_trans h2.size hg.size, fun i hi hne2 => (hg.block i (Nat.lt_of_lt_of_le hi h2.size) (hne i (by omega))).trans (h2.block i hi hne2)⟩
  · have := hf3.set 1 (.slice (some ⟨g9, 0, none⟩) (l.length + 1) cap9)
    simpa using this
  · rw [List.flatMap_append, List.length_append]
    have e : [x].flatMap K.f = K.f x := by simp
    rw [e]
    exact hown.kept hset (.inr (by show some g9 ≠ some (w0.heap.size + 1); simp; omega))
  · intro y hy
    have hyV : FrV (w0.heap.size + 2) v (K.P y) wa := by
      rcases List.mem_append.1 hy with hy | hy
      · exact h1.all y hy
      · simp at hy; subst hy; exact hxV
    exact (hyV.push (K.go y) hg (v' := .slice (some ⟨g9, 0, none⟩) (l.length + 1) cap9) (g := g9) rfl hat).grown (K.go y) hset (fun k hk => by injection hk with hk; have : w0.heap.size + 1 = k := hk; omega)
end
/-- How far a list has come. -/
def Lrel {α : Type} (bb : Rs → Bool) (part : Rs → α × Rs) (N : Nat) (σ0 : Rs) (done : List α) (n : Nat) (σ : Rs) : Prop :=
  done.length + n = N ∧ listR bb part N σ0 = (done ++ (listR bb part n σ).1, (listR bb part n σ).2)
section
variable {α : Type} {bb : Rs → Bool} {part : Rs → α × Rs} {N n : Nat} {σ0 σ : Rs} {done : List α}
theorem Lrel.start : Lrel bb part N σ0 [] N σ0 := ⟨by simp, by simp⟩
theorem Lrel.step (h : Lrel bb part N σ0 done (n + 1) σ) (hb : bb σ = true) : Lrel bb part N σ0 (done ++ [(part σ).1]) n (part σ).2 := by
  refine ⟨by have := h.1; simp; omega, ?_⟩
  rw [h.2]
  conv => lhs; unfold listR
  rw [hb]; simp
theorem Lrel.stop (h : Lrel bb part N σ0 done n σ) (hb : bb σ = false) : listR bb part N σ0 = (done, σ) := by
  rw [h.2]
  cases n <;> (unfold listR; rw [hb]; simp)
theorem Lrel.full (h : Lrel bb part N σ0 done 0 σ) (hb : bb σ = true) : listR bb part N σ0 = (done, failR 7 σ) := by
  rw [h.2]
  unfold listR
  rw [hb]; simp
end
def lenAt (g : Nat) (w : World) : Nat := match w.cell? ⟨g, 1, none⟩ with | some (.slice _ n _) => n | _ => 0
theorem lenAt_of {g n c : Nat} {B : Option Addr} {w : World} (h : w.cell? ⟨g, 1, none⟩ = some (.slice B n c)) : lenAt g w = n := by unfold lenAt; rw [h]
/-- A block in memory, and its parts. -/
def KS : Kind SH := ⟨shc, 4, 68, 65, TP, fun _ _ _ _ _ h hg => TP.go h hg⟩
def BP (x : BH) : World → List (Option Nat) → Prop := fun w ex => BHok w ex x
def KB : Kind BH := ⟨bhc, 2, 65, 62, BP, fun _ _ _ _ _ h hg => BHok.go h hg⟩
def FP (x : FH) : World → List (Option Nat) → Prop := fun w ex => FHok w ex x
def agB (x : BH) : Value := .agg #[.string x.name, .slice x.A x.n x.c]
def agF (x : FH) : Value := .agg #[.string x.name, .slice x.A x.n x.c]
def RetBk (w : World) (b : Nat) (A : Option Addr) (c : Nat) (L : List Tok) (r : Blk × Rs) (e : Ending) (w' : World) : Prop :=
  ∃ x : BH, e = .returned (agB x) ∧ x.b = r.1 ∧ Fr w.heap.size (BP x) w' ∧ RTo w b A c L r.2 w'
def RetFn (w : World) (b : Nat) (A : Option Addr) (c : Nat) (L : List Tok) (r : Fnc × Rs) (e : Ending) (w' : World) : Prop :=
  ∃ x : FH, e = .returned (agF x) ∧ x.f = r.1 ∧ Fr w.heap.size (FP x) w' ∧ RTo w b A c L r.2 w'
theorem set2_grown {w0 w : World} {b : Nat} (h : w0.grownBy w (some b)) (p q : Value) : w0.grownBy ((w.setCell ⟨w0.heap.size, 0, none⟩ p).setCell ⟨w0.heap.size, 1, none⟩ q) (some b) :=
  grown_set_new (grown_set_new h (p := ⟨w0.heap.size, 0, none⟩) (Nat.le_refl _) p) (p := ⟨w0.heap.size, 1, none⟩) (Nat.le_refl _) q
theorem Bg.doneB {w0 w : World} {b c n d : Nat} {A B : Option Addr} {L : List Tok} {σ : Rs} {nm : ByteArray} {l : List SH} (h : Bg KS w0 b A c L σ nm (.slice B n d) l w) (hn : l.length = n) (hl : n ≤ 40) (hnm : nm.size ≤ 16) (p q : Value) {R : Blk × Rs} (hR : R = (⟨nm, l.map SH.t⟩, σ)) :
    RetBk w0 b A c L R (.returned (agB ⟨nm, B, n, d, l⟩)) ((w.setCell ⟨w0.heap.size, 0, none⟩ p).setCell ⟨w0.heap.size, 1, none⟩ q) := by
  subst hR
  have ho := h.old
  have hg : w.grownBy ((w.setCell ⟨w0.heap.size, 0, none⟩ p).setCell ⟨w0.heap.size, 1, none⟩ q) (some w0.heap.size) := grown_two (setCell_grown w ⟨w0.heap.size, 0, none⟩ p) (setCell_grown _ ⟨w0.heap.size, 1, none⟩ q)
  refine ⟨⟨nm, B, n, d, l⟩, rfl, rfl, ?_, h.st.grown hg (fun k hk => by injection hk with hk; omega), set2_grown h.gr p q⟩
  have h1 : Fr (w0.heap.size + 2) (BP ⟨nm, B, n, d, l⟩) w := by
    subst hn
    exact fun ex he => ⟨EAt.own h.own (fun g hg2 hin => by have h1 := (h.own.lt g hg2).1; have h2 := he g hin; omega), rfl, hl, by show nm.size ≤ 1000; omega, fun y hy => (h.all y hy).fr ex he⟩
  exact (h1.grown (fun h hg => BHok.go h hg) hg (fun k hk => by injection hk with hk; omega)).less (by omega)
theorem Bg.doneF {w0 w : World} {b c n d : Nat} {A B : Option Addr} {L : List Tok} {σ : Rs} {nm : ByteArray} {l : List BH} (h : Bg KB w0 b A c L σ nm (.slice B n d) l w) (hn : l.length = n) (hl : n ≤ 40) (hnm : nm.size ≤ 16) (p q : Value) {R : Fnc × Rs} (hR : R = (⟨nm, l.map BH.b⟩, σ)) :
    RetFn w0 b A c L R (.returned (agF ⟨nm, B, n, d, l⟩)) ((w.setCell ⟨w0.heap.size, 0, none⟩ p).setCell ⟨w0.heap.size, 1, none⟩ q) := by
  subst hR
  have ho := h.old
  have hg : w.grownBy ((w.setCell ⟨w0.heap.size, 0, none⟩ p).setCell ⟨w0.heap.size, 1, none⟩ q) (some w0.heap.size) := grown_two (setCell_grown w ⟨w0.heap.size, 0, none⟩ p) (setCell_grown _ ⟨w0.heap.size, 1, none⟩ q)
  refine ⟨⟨nm, B, n, d, l⟩, rfl, rfl, ?_, h.st.grown hg (fun k hk => by injection hk with hk; omega), set2_grown h.gr p q⟩
  have h1 : Fr (w0.heap.size + 2) (FP ⟨nm, B, n, d, l⟩) w := by
    subst hn
    exact fun ex he => ⟨EAt.own h.own (fun g hg2 hin => by have h1 := (h.own.lt g hg2).1; have h2 := he g hin; omega), rfl, hl, by show nm.size ≤ 1000; omega, fun y hy => (h.all y hy).fr ex he⟩
  exact (h1.grown (fun h hg => FHok.go h hg) hg (fun k hk => by injection hk with hk; omega)).less (by omega)
end Go.Proofs.YtfapgnbnfhpicaaGreatDoor

namespace Go.Proofs.YtfapgnbnfhpicaaGreatDoor
set_option maxRecDepth 20000
set_option linter.unusedVariables false
set_option linter.unusedSimpArgs false
open Go.ChangeShapes Go.WideShapes Go.ChangeAt Go.RowKit
attribute [local go_sem ↓] Go.wp_at_zero Go.wp_at_succ

theorem bad_word {r : Rs} (h : r.e ≠ 0) (k : ByteArray) : wordR k r = r := by
  unfold wordR isK failR
  simp [h]
theorem full_e {r : Rs} (h : r.e = 0) : (failR 7 r).e ≠ 0 := by
  unfold failR
  simp [h]
set_option maxHeartbeats 6400000 in
theorem refBlock_any (b : Nat) (A : Option Addr) (c : Nat) (L : List Tok) (σ : Rs) (w : World) (h : Rst w b A c L σ) (hs : Short L) :
    Calls Tryz.prog 111 #[.pointer (some ⟨b, 0, none⟩)] w (RetBk w b A c L (blockR σ)) := by
  have HS := hid hs
  have h0 : Hid (Bg KS w b A c L σ ⟨#[]⟩ (.slice none 0 0) [] ((w.alloc (.cells #[.string ⟨#[]⟩, .slice none 0 0] 65)).alloc (.cells #[.string ⟨#[]⟩, .slice none 0 0] 65))) := hid (Bg.start (K := KS) h)
  have HR : Hid (blockR σ = (⟨(nameR (wordR kwBlock σ)).1, (listR begR stmtR 32 (needR begR (endR (nameR (wordR kwBlock σ)).2))).1⟩, (listR begR stmtR 32 (needR begR (endR (nameR (wordR kwBlock σ)).2))).2)) := hid rfl
  clear h hs
  obtain ⟨i1, hi, hz0, hz1, hz2⟩ := info_parts info68
  have Hi := hid hi; have Hz0 := hid hz0; have Hz1 := hid hz1; have Hz2 := hid hz2
  clear hi hz0 hz1 hz2
  go_enter Tryz.func111, Tryz.ntmps111
  go_wp2_with fail
  refine (refWord_any b A c L σ kwBlock _ h0.out.st).mono ?_
  rintro e w1 ⟨rfl, h1⟩
  have H1 := hid (h0.out.call h1)
  clear h1 h0
  generalize wordR kwBlock σ = σ1 at *
  go_wp2_with fail
  refine (refName_any b A c L σ1 _ H1.out.st HS.out).mono ?_
  rintro e w2 ⟨rfl, h2⟩
  have H2 := hid (H1.out.call h2)
  have H16 := hid (H1.out.st.name16 HS.out)
  clear h2 H1
  generalize (nameR σ1).1 = y at *
  generalize (nameR σ1).2 = σ2 at *
  obtain ⟨⟨q0, q1⟩, ⟨r0, r1⟩, -, -, hz⟩ := H2.out.cells
  have H3 := hid (H2.out.name y)
  go_wp2_with fail
  generalize w2.setCell ⟨w.heap.size + 1, 0, none⟩ (.string y) = w3 at *
  clear q0 q1 r0 r1 hz H2
  refine (refEnd_any b A c L σ2 _ H3.out.st).mono ?_
  rintro e w4 ⟨rfl, h4⟩
  have H4 := hid (H3.out.call h4)
  clear h4 H3
  generalize endR σ2 = σ3 at *
  go_wp2_with fail
  refine (refBegins_any b A c L σ3 _ H4.out.st HS.out).mono ?_
  rintro e w5 ⟨rfl, hb5⟩
  have H5 := hid (H4.out.below hb5)
  clear hb5 H4
  cases hb0 : begR σ3 with
  | true =>
    have hneed : needR begR σ3 = σ3 := by unfold needR; rw [hb0]; rfl
    rw [hneed] at HR
    clear hneed hb0
    go_wp2_with fail
    go_loopw [] (fun wr => ∃ (l : List SH) (n : Nat) (σ4 : Rs) (v : Value), Hid (Bg KS w b A c L σ4 y v l wr) ∧ Hid (Lrel begR stmtR 32 σ3 (l.map SH.t) n σ4)) (fun wr => 32 + 1 - lenAt (w.heap.size + 1) wr)
    case atStart => exact ⟨[], 32, σ3, _, H5.out, Lrel.start⟩
    case round =>
      clear H5
      obtain ⟨l, n, σ4, v, H, HL⟩ := hrel
      obtain ⟨B, d, hv⟩ := own_any_slice H.out.own
      subst hv
      have hlen : l.length + n = 32 := by have := HL.out.1; simpa using this
      obtain ⟨⟨q0, q1⟩, ⟨r0, r1⟩, ⟨p0, p1⟩, ⟨s0, s1⟩, hz⟩ := H.out.cells
      have Hm := hid (lenAt_of q1)
      clear q0 r0 r1 p0 p1 s0 s1 q1 hz
      cases hb : begR σ4 with
      | false =>
        have HB := hid hb
        clear hb
        go_wp2_with fail
        refine (refBegins_any b A c L σ4 _ H.out.st HS.out).mono ?_
        rw [HB.out]
        rintro e w7 ⟨rfl, hb7⟩
        have H7 := hid (H.out.below hb7)
        clear hb7 H
        obtain ⟨⟨q0, q1⟩, ⟨r0, r1⟩, ⟨p0, p1⟩, ⟨s0, s1⟩, hz⟩ := H7.out.cells
        have hsz2 : w.heap.size < w7.heap.size := by omega
        go_wp2_with fail
        refine bodyPost_ret (v := agB ⟨y, B, l.length, d, l⟩) (by simp [results, Tryz.results111, go_sem, q0, q1, p0, p1, s0, s1, hz, hsz2, agB]) rfl ?_
        exact H7.out.doneB rfl (by omega) H16.out _ _ (by rw [HR.out, HL.out.stop HB.out])
      | true =>
        have HB := hid hb
        clear hb
        cases n with
        | zero =>
          have hl32 : l.length = 32 := by omega
          go_wp2_with fail
          refine (refBegins_any b A c L σ4 _ H.out.st HS.out).mono ?_
          rw [HB.out]
          rintro e w7 ⟨rfl, hb7⟩
          have H7 := hid (H.out.below hb7)
          clear hb7 H
          obtain ⟨⟨q0, q1⟩, ⟨r0, r1⟩, -, -, hz⟩ := H7.out.cells
          have tl : ((l.length : Int) == 32) = true := by simp; omega
          go_wp2_with fail
          clear q0 q1 r0 r1 hz
          refine (refFail_any b A c L σ4 7 _ H7.out.st).mono ?_
          rintro e w8 ⟨rfl, h8⟩
          have H8 := hid (H7.out.call h8)
          clear h8 H7
          obtain ⟨⟨q0, q1⟩, ⟨r0, r1⟩, ⟨p0, p1⟩, ⟨s0, s1⟩, hz⟩ := H8.out.cells
          have hsz2 : w.heap.size < w8.heap.size := by omega
          go_wp2_with fail
          refine bodyPost_ret (v := agB ⟨y, B, l.length, d, l⟩) (by simp [results, Tryz.results111, go_sem, q0, q1, p0, p1, s0, s1, hz, hsz2, agB, hl32]) rfl ?_
          exact H8.out.doneB rfl (by omega) H16.out _ _ (by rw [HR.out, HL.out.full HB.out])
        | succ n =>
          have hl32 : l.length < 32 := by omega
          have tl : ((l.length : Int) == 32) = false := by simp; omega
          go_wp2_with fail
          refine (refBegins_any b A c L σ4 _ H.out.st HS.out).mono ?_
          rw [HB.out]
          rintro e w7 ⟨rfl, hb7⟩
          have H7 := hid (H.out.below hb7)
          clear hb7 H
          obtain ⟨⟨q0, q1⟩, ⟨r0, r1⟩, -, -, hz⟩ := H7.out.cells
          go_wp2_with fail
          have H7d : Hid (Bg KS w b A c L σ4 y (.slice B l.length d) l w7.drew) := hid (H7.out.drewN 1)
          have HC := hid (fun w' (h' : Rst w' b A c L σ4) => refStmt_any b A c L σ4 w' h' HS.out HB.out)
          go_region_law (first
            | (go_simp
               go_at_call 147
               go_must (
               refine (HC.out _ H7d.out.st).mono ?_
               rintro e w8 ⟨x, he, hxt, hfx, h8⟩
               unfold agS at he
               subst he
               have H8 := hid (H7d.out.call h8)
               have Hx := hid (FrV.fresh (N := w.heap.size + 2) (v := .slice B l.length d) hfx (by have := H7d.out.size; omega) (fun k hk => (H7d.out.own.lt k hk).2))
               have Hxt := hid hxt
               obtain ⟨⟨q0, q1⟩, ⟨r0, r1⟩, -, -, hz⟩ := H8.out.cells
               clear hfx h8 hxt))
            | ((refine step_append_lies _ (by rfl) _ _ 63 (by rfl) (w.heap.size + 2) 68 i1 _ 4 72 Tryz.underlying63 Hi.out Hz0.out Hz1.out Hz2.out (by rfl) (by decide) (.slice B l.length d) l.length (l.flatMap shc) (by rfl) (by exact World.ownsRow.alloc H8.out.own _)
                  ⟨_, 0, none⟩ 1 1 (shc x) (by rfl) rfl (by exact four_new _ _ _ _ _ _) (one_shc x) (by decide) (by unfold maxLen; omega) (by omega) (by have := H8.out.size; rw [World.size_alloc]; omega) _ rfl ?_)
               intro g9 cap9 w9 hown9 hgr9 hat9 hlt9
               obtain ⟨⟨y0, y1, y2⟩, hT9⟩ := Bg.push (x := x) H8.out ((Below.refl _ _).alloc (Nat.le_refl _) _) (.inr Hx.out) hgr9 hown9 hat9
               have H9 := hid hT9
               clear hown9 hgr9 hat9 hlt9 hT9))
          all_goals
            clear q0 q1 r0 r1 hz
            generalize w9.setCell ⟨w.heap.size + 1, 1, none⟩ (.slice (some ⟨g9, 0, none⟩) (l.length + 1) cap9) = w10 at *
            clear y0 y1 y2
            go_wp2_with fail
            go_roundw
            case rel => exact ⟨l ++ [x], n, (stmtR σ4).2, _, H9.out, by have := HL.out.step HB.out; rw [List.map_append]; rw [← Hxt.out] at this; exact this⟩
            case measure =>
              obtain ⟨⟨q0, q1⟩, -⟩ := H9.out.cells
              rw [Hm.out, lenAt_of q1]
              omega
  | false =>
    have hneed : needR begR σ3 = failR 4 σ3 := by unfold needR; rw [hb0]; rfl
    rw [hneed] at HR
    clear hneed hb0
    go_wp2_with fail
    refine (refFail_any b A c L σ3 4 _ H5.out.st).mono ?_
    rintro e w6 ⟨rfl, h6⟩
    have H6 := hid (H5.out.call h6)
    clear h6 H5
    generalize failR 4 σ3 = σ3 at *
    go_wp2_with fail
    go_loopw [] (fun wr => ∃ (l : List SH) (n : Nat) (σ4 : Rs) (v : Value), Hid (Bg KS w b A c L σ4 y v l wr) ∧ Hid (Lrel begR stmtR 32 σ3 (l.map SH.t) n σ4)) (fun wr => 32 + 1 - lenAt (w.heap.size + 1) wr)
    case atStart => exact ⟨[], 32, σ3, _, H6.out, Lrel.start⟩
    case round =>
      clear H6
      obtain ⟨l, n, σ4, v, H, HL⟩ := hrel
      obtain ⟨B, d, hv⟩ := own_any_slice H.out.own
      subst hv
      have hlen : l.length + n = 32 := by have := HL.out.1; simpa using this
      obtain ⟨⟨q0, q1⟩, ⟨r0, r1⟩, ⟨p0, p1⟩, ⟨s0, s1⟩, hz⟩ := H.out.cells
      have Hm := hid (lenAt_of q1)
      clear q0 r0 r1 p0 p1 s0 s1 q1 hz
      cases hb : begR σ4 with
      | false =>
        have HB := hid hb
        clear hb
        go_wp2_with fail
        refine (refBegins_any b A c L σ4 _ H.out.st HS.out).mono ?_
        rw [HB.out]
        rintro e w7 ⟨rfl, hb7⟩
        have H7 := hid (H.out.below hb7)
        clear hb7 H
        obtain ⟨⟨q0, q1⟩, ⟨r0, r1⟩, ⟨p0, p1⟩, ⟨s0, s1⟩, hz⟩ := H7.out.cells
        have hsz2 : w.heap.size < w7.heap.size := by omega
        go_wp2_with fail
        refine bodyPost_ret (v := agB ⟨y, B, l.length, d, l⟩) (by simp [results, Tryz.results111, go_sem, q0, q1, p0, p1, s0, s1, hz, hsz2, agB]) rfl ?_
        exact H7.out.doneB rfl (by omega) H16.out _ _ (by rw [HR.out, HL.out.stop HB.out])
      | true =>
        have HB := hid hb
        clear hb
        cases n with
        | zero =>
          have hl32 : l.length = 32 := by omega
          go_wp2_with fail
          refine (refBegins_any b A c L σ4 _ H.out.st HS.out).mono ?_
          rw [HB.out]
          rintro e w7 ⟨rfl, hb7⟩
          have H7 := hid (H.out.below hb7)
          clear hb7 H
          obtain ⟨⟨q0, q1⟩, ⟨r0, r1⟩, -, -, hz⟩ := H7.out.cells
          have tl : ((l.length : Int) == 32) = true := by simp; omega
          go_wp2_with fail
          clear q0 q1 r0 r1 hz
          refine (refFail_any b A c L σ4 7 _ H7.out.st).mono ?_
          rintro e w8 ⟨rfl, h8⟩
          have H8 := hid (H7.out.call h8)
          clear h8 H7
          obtain ⟨⟨q0, q1⟩, ⟨r0, r1⟩, ⟨p0, p1⟩, ⟨s0, s1⟩, hz⟩ := H8.out.cells
          have hsz2 : w.heap.size < w8.heap.size := by omega
          go_wp2_with fail
          refine bodyPost_ret (v := agB ⟨y, B, l.length, d, l⟩) (by simp [results, Tryz.results111, go_sem, q0, q1, p0, p1, s0, s1, hz, hsz2, agB, hl32]) rfl ?_
          exact H8.out.doneB rfl (by omega) H16.out _ _ (by rw [HR.out, HL.out.full HB.out])
        | succ n =>
          have hl32 : l.length < 32 := by omega
          have tl : ((l.length : Int) == 32) = false := by simp; omega
          go_wp2_with fail
          refine (refBegins_any b A c L σ4 _ H.out.st HS.out).mono ?_
          rw [HB.out]
          rintro e w7 ⟨rfl, hb7⟩
          have H7 := hid (H.out.below hb7)
          clear hb7 H
          obtain ⟨⟨q0, q1⟩, ⟨r0, r1⟩, -, -, hz⟩ := H7.out.cells
          go_wp2_with fail
          have H7d : Hid (Bg KS w b A c L σ4 y (.slice B l.length d) l w7.drew) := hid (H7.out.drewN 1)
          have HC := hid (fun w' (h' : Rst w' b A c L σ4) => refStmt_any b A c L σ4 w' h' HS.out HB.out)
          go_region_law (first
            | (go_simp
               go_at_call 147
               go_must (
               refine (HC.out _ H7d.out.st).mono ?_
               rintro e w8 ⟨x, he, hxt, hfx, h8⟩
               unfold agS at he
               subst he
               have H8 := hid (H7d.out.call h8)
               have Hx := hid (FrV.fresh (N := w.heap.size + 2) (v := .slice B l.length d) hfx (by have := H7d.out.size; omega) (fun k hk => (H7d.out.own.lt k hk).2))
               have Hxt := hid hxt
               obtain ⟨⟨q0, q1⟩, ⟨r0, r1⟩, -, -, hz⟩ := H8.out.cells
               clear hfx h8 hxt))
            | ((refine step_append_lies _ (by rfl) _ _ 63 (by rfl) (w.heap.size + 2) 68 i1 _ 4 72 Tryz.underlying63 Hi.out Hz0.out Hz1.out Hz2.out (by rfl) (by decide) (.slice B l.length d) l.length (l.flatMap shc) (by rfl) (by exact World.ownsRow.alloc H8.out.own _)
                  ⟨_, 0, none⟩ 1 1 (shc x) (by rfl) rfl (by exact four_new _ _ _ _ _ _) (one_shc x) (by decide) (by unfold maxLen; omega) (by omega) (by have := H8.out.size; rw [World.size_alloc]; omega) _ rfl ?_)
               intro g9 cap9 w9 hown9 hgr9 hat9 hlt9
               obtain ⟨⟨y0, y1, y2⟩, hT9⟩ := Bg.push (x := x) H8.out ((Below.refl _ _).alloc (Nat.le_refl _) _) (.inr Hx.out) hgr9 hown9 hat9
               have H9 := hid hT9
               clear hown9 hgr9 hat9 hlt9 hT9))
          all_goals
            clear q0 q1 r0 r1 hz
            generalize w9.setCell ⟨w.heap.size + 1, 1, none⟩ (.slice (some ⟨g9, 0, none⟩) (l.length + 1) cap9) = w10 at *
            clear y0 y1 y2
            go_wp2_with fail
            go_roundw
            case rel => exact ⟨l ++ [x], n, (stmtR σ4).2, _, H9.out, by have := HL.out.step HB.out; rw [List.map_append]; rw [← Hxt.out] at this; exact this⟩
            case measure =>
              obtain ⟨⟨q0, q1⟩, -⟩ := H9.out.cells
              rw [Hm.out, lenAt_of q1]
              omega
set_option maxHeartbeats 6400000 in
theorem refFunc_any (b : Nat) (A : Option Addr) (c : Nat) (L : List Tok) (σ : Rs) (w : World) (h : Rst w b A c L σ) (hs : Short L) :
    Calls Tryz.prog 69 #[.pointer (some ⟨b, 0, none⟩)] w (RetFn w b A c L (funcR σ)) := by
  have HS := hid hs
  have h0 : Hid (Bg KB w b A c L σ ⟨#[]⟩ (.slice none 0 0) [] ((w.alloc (.cells #[.string ⟨#[]⟩, .slice none 0 0] 62)).alloc (.cells #[.string ⟨#[]⟩, .slice none 0 0] 62))) := hid (Bg.start (K := KB) h)
  have HR : Hid (funcR σ = (⟨(nameR (wordR kwFunc σ)).1, (listR (isK kwBlock) blockR 16 (needR (isK kwBlock) (endR (nameR (wordR kwFunc σ)).2))).1⟩, endR (wordR kwEnd (listR (isK kwBlock) blockR 16 (needR (isK kwBlock) (endR (nameR (wordR kwFunc σ)).2))).2))) := hid rfl
  clear h hs
  obtain ⟨i1, hi, hz0, hz1, hz2⟩ := info_parts info66
  have Hi := hid hi; have Hz0 := hid hz0; have Hz1 := hid hz1; have Hz2 := hid hz2
  clear hi hz0 hz1 hz2
  go_enter Tryz.func69, Tryz.ntmps69
  go_wp2_with fail
  refine (refWord_any b A c L σ kwFunc _ h0.out.st).mono ?_
  rintro e w1 ⟨rfl, h1⟩
  have H1 := hid (h0.out.call h1)
  clear h1 h0
  generalize wordR kwFunc σ = σ1 at *
  go_wp2_with fail
  refine (refName_any b A c L σ1 _ H1.out.st HS.out).mono ?_
  rintro e w2 ⟨rfl, h2⟩
  have H2 := hid (H1.out.call h2)
  have H16 := hid (H1.out.st.name16 HS.out)
  clear h2 H1
  generalize (nameR σ1).1 = y at *
  generalize (nameR σ1).2 = σ2 at *
  obtain ⟨⟨q0, q1⟩, ⟨r0, r1⟩, -, -, hz⟩ := H2.out.cells
  have H3 := hid (H2.out.name y)
  go_wp2_with fail
  generalize w2.setCell ⟨w.heap.size + 1, 0, none⟩ (.string y) = w3 at *
  clear q0 q1 r0 r1 hz H2
  refine (refEnd_any b A c L σ2 _ H3.out.st).mono ?_
  rintro e w4 ⟨rfl, h4⟩
  have H4 := hid (H3.out.call h4)
  clear h4 H3
  generalize endR σ2 = σ3 at *
  go_wp2_with fail
  refine (refIs_any b A c L σ3 kwBlock _ H4.out.st).mono ?_
  rintro e w5 ⟨rfl, hb5⟩
  have H5 := hid (H4.out.below hb5)
  clear hb5 H4
  cases hb0 : isK kwBlock σ3 with
  | true =>
    have hneed : needR (isK kwBlock) σ3 = σ3 := by unfold needR; rw [hb0]; rfl
    rw [hneed] at HR
    clear hneed hb0
    go_wp2_with fail
    go_loopw [] (fun wr => ∃ (l : List BH) (n : Nat) (σ4 : Rs) (v : Value), Hid (Bg KB w b A c L σ4 y v l wr) ∧ Hid (Lrel (isK kwBlock) blockR 16 σ3 (l.map BH.b) n σ4)) (fun wr => 16 + 1 - lenAt (w.heap.size + 1) wr)
    case atStart => exact ⟨[], 16, σ3, _, H5.out, Lrel.start⟩
    case round =>
      clear H5
      obtain ⟨l, n, σ4, v, H, HL⟩ := hrel
      obtain ⟨B, d, hv⟩ := own_any_slice H.out.own
      subst hv
      have hlen : l.length + n = 16 := by have := HL.out.1; simpa using this
      obtain ⟨⟨q0, q1⟩, ⟨r0, r1⟩, ⟨p0, p1⟩, ⟨s0, s1⟩, hz⟩ := H.out.cells
      have Hm := hid (lenAt_of q1)
      clear q0 r0 r1 p0 p1 s0 s1 q1 hz
      cases hb : isK kwBlock σ4 with
      | false =>
        have HB := hid hb
        clear hb
        go_wp2_with fail
        refine (refIs_any b A c L σ4 kwBlock _ H.out.st).mono ?_
        rw [HB.out]
        rintro e w7 ⟨rfl, hb7⟩
        have H7 := hid (H.out.below hb7)
        clear hb7 H
        go_wp2_with fail
        refine (refWord_any b A c L σ4 kwEnd _ H7.out.st).mono ?_
        rintro e w8 ⟨rfl, h8⟩
        have H8 := hid (H7.out.call h8)
        clear h8 H7
        go_wp2_with fail
        refine (refEnd_any b A c L _ _ H8.out.st).mono ?_
        rintro e w9 ⟨rfl, h9⟩
        have H9 := hid (H8.out.call h9)
        clear h9 H8
        obtain ⟨⟨q0, q1⟩, ⟨r0, r1⟩, ⟨p0, p1⟩, ⟨s0, s1⟩, hz⟩ := H9.out.cells
        have hsz2 : w.heap.size < w9.heap.size := by omega
        go_wp2_with fail
        refine bodyPost_ret (v := agF ⟨y, B, l.length, d, l⟩) (by simp [results, Tryz.results69, go_sem, q0, q1, p0, p1, s0, s1, hz, hsz2, agF]) rfl ?_
        exact H9.out.doneF rfl (by omega) H16.out _ _ (by rw [HR.out, HL.out.stop HB.out])
      | true =>
        have HB := hid hb
        clear hb
        cases n with
        | zero =>
          have hl32 : l.length = 16 := by omega
          go_wp2_with fail
          refine (refIs_any b A c L σ4 kwBlock _ H.out.st).mono ?_
          rw [HB.out]
          rintro e w7 ⟨rfl, hb7⟩
          have H7 := hid (H.out.below hb7)
          clear hb7 H
          obtain ⟨⟨q0, q1⟩, ⟨r0, r1⟩, -, -, hz⟩ := H7.out.cells
          have tl : ((l.length : Int) == 16) = true := by simp; omega
          go_wp2_with fail
          clear q0 q1 r0 r1 hz
          refine (refFail_any b A c L σ4 7 _ H7.out.st).mono ?_
          rintro e w8 ⟨rfl, h8⟩
          have H8 := hid (H7.out.call h8)
          clear h8 H7
          obtain ⟨⟨q0, q1⟩, ⟨r0, r1⟩, ⟨p0, p1⟩, ⟨s0, s1⟩, hz⟩ := H8.out.cells
          have hsz2 : w.heap.size < w8.heap.size := by omega
          go_wp2_with fail
          refine bodyPost_ret (v := agF ⟨y, B, l.length, d, l⟩) (by simp [results, Tryz.results69, go_sem, q0, q1, p0, p1, s0, s1, hz, hsz2, agF, hl32]) rfl ?_
          exact H8.out.doneF rfl (by omega) H16.out _ _ (by rw [HR.out, HL.out.full HB.out, bad_word (full_e (isK_ne HB.out).1), bad_end (full_e (isK_ne HB.out).1)])
        | succ n =>
          have hl32 : l.length < 16 := by omega
          have tl : ((l.length : Int) == 16) = false := by simp; omega
          go_wp2_with fail
          refine (refIs_any b A c L σ4 kwBlock _ H.out.st).mono ?_
          rw [HB.out]
          rintro e w7 ⟨rfl, hb7⟩
          have H7 := hid (H.out.below hb7)
          clear hb7 H
          obtain ⟨⟨q0, q1⟩, ⟨r0, r1⟩, -, -, hz⟩ := H7.out.cells
          go_wp2_with fail
          have H7d : Hid (Bg KB w b A c L σ4 y (.slice B l.length d) l w7.drew) := hid (H7.out.drewN 1)
          have HC := hid (fun w' (h' : Rst w' b A c L σ4) => refBlock_any b A c L σ4 w' h' HS.out)
          go_region_law (first
            | (go_simp
               go_at_call 111
               go_must (
               refine (HC.out _ H7d.out.st).mono ?_
               rintro e w8 ⟨x, he, hxt, hfx, h8⟩
               unfold agB at he
               subst he
               have H8 := hid (H7d.out.call h8)
               have Hx := hid (FrV.fresh (N := w.heap.size + 2) (v := .slice B l.length d) hfx (by have := H7d.out.size; omega) (fun k hk => (H7d.out.own.lt k hk).2))
               have Hxt := hid hxt
               obtain ⟨⟨q0, q1⟩, ⟨r0, r1⟩, -, -, hz⟩ := H8.out.cells
               clear hfx h8 hxt))
            | ((refine step_append_lies _ (by rfl) _ _ 60 (by rfl) (w.heap.size + 2) 65 i1 _ 2 40 Tryz.underlying60 Hi.out Hz0.out Hz1.out Hz2.out (by rfl) (by decide) (.slice B l.length d) l.length (l.flatMap bhc) (by rfl) (by exact World.ownsRow.alloc H8.out.own _)
                  ⟨_, 0, none⟩ 1 1 (bhc x) (by rfl) rfl (by exact two_new _ _ _ _) (one_two _ _ _ _) (by decide) (by unfold maxLen; omega) (by omega) (by have := H8.out.size; rw [World.size_alloc]; omega) _ rfl ?_)
               intro g9 cap9 w9 hown9 hgr9 hat9 hlt9
               obtain ⟨⟨y0, y1, y2⟩, hT9⟩ := Bg.push (x := x) H8.out ((Below.refl _ _).alloc (Nat.le_refl _) _) (.inr Hx.out) hgr9 hown9 hat9
               have H9 := hid hT9
               clear hown9 hgr9 hat9 hlt9 hT9))
          all_goals
            clear q0 q1 r0 r1 hz
            generalize w9.setCell ⟨w.heap.size + 1, 1, none⟩ (.slice (some ⟨g9, 0, none⟩) (l.length + 1) cap9) = w10 at *
            clear y0 y1 y2
            go_wp2_with fail
            go_roundw
            case rel => exact ⟨l ++ [x], n, (blockR σ4).2, _, H9.out, by have := HL.out.step HB.out; rw [List.map_append]; rw [← Hxt.out] at this; exact this⟩
            case measure =>
              obtain ⟨⟨q0, q1⟩, -⟩ := H9.out.cells
              rw [Hm.out, lenAt_of q1]
              omega
  | false =>
    have hneed : needR (isK kwBlock) σ3 = failR 4 σ3 := by unfold needR; rw [hb0]; rfl
    rw [hneed] at HR
    clear hneed hb0
    go_wp2_with fail
    refine (refFail_any b A c L σ3 4 _ H5.out.st).mono ?_
    rintro e w6 ⟨rfl, h6⟩
    have H6 := hid (H5.out.call h6)
    clear h6 H5
    generalize failR 4 σ3 = σ3 at *
    go_wp2_with fail
    go_loopw [] (fun wr => ∃ (l : List BH) (n : Nat) (σ4 : Rs) (v : Value), Hid (Bg KB w b A c L σ4 y v l wr) ∧ Hid (Lrel (isK kwBlock) blockR 16 σ3 (l.map BH.b) n σ4)) (fun wr => 16 + 1 - lenAt (w.heap.size + 1) wr)
    case atStart => exact ⟨[], 16, σ3, _, H6.out, Lrel.start⟩
    case round =>
      clear H6
      obtain ⟨l, n, σ4, v, H, HL⟩ := hrel
      obtain ⟨B, d, hv⟩ := own_any_slice H.out.own
      subst hv
      have hlen : l.length + n = 16 := by have := HL.out.1; simpa using this
      obtain ⟨⟨q0, q1⟩, ⟨r0, r1⟩, ⟨p0, p1⟩, ⟨s0, s1⟩, hz⟩ := H.out.cells
      have Hm := hid (lenAt_of q1)
      clear q0 r0 r1 p0 p1 s0 s1 q1 hz
      cases hb : isK kwBlock σ4 with
      | false =>
        have HB := hid hb
        clear hb
        go_wp2_with fail
        refine (refIs_any b A c L σ4 kwBlock _ H.out.st).mono ?_
        rw [HB.out]
        rintro e w7 ⟨rfl, hb7⟩
        have H7 := hid (H.out.below hb7)
        clear hb7 H
        go_wp2_with fail
        refine (refWord_any b A c L σ4 kwEnd _ H7.out.st).mono ?_
        rintro e w8 ⟨rfl, h8⟩
        have H8 := hid (H7.out.call h8)
        clear h8 H7
        go_wp2_with fail
        refine (refEnd_any b A c L _ _ H8.out.st).mono ?_
        rintro e w9 ⟨rfl, h9⟩
        have H9 := hid (H8.out.call h9)
        clear h9 H8
        obtain ⟨⟨q0, q1⟩, ⟨r0, r1⟩, ⟨p0, p1⟩, ⟨s0, s1⟩, hz⟩ := H9.out.cells
        have hsz2 : w.heap.size < w9.heap.size := by omega
        go_wp2_with fail
        refine bodyPost_ret (v := agF ⟨y, B, l.length, d, l⟩) (by simp [results, Tryz.results69, go_sem, q0, q1, p0, p1, s0, s1, hz, hsz2, agF]) rfl ?_
        exact H9.out.doneF rfl (by omega) H16.out _ _ (by rw [HR.out, HL.out.stop HB.out])
      | true =>
        have HB := hid hb
        clear hb
        cases n with
        | zero =>
          have hl32 : l.length = 16 := by omega
          go_wp2_with fail
          refine (refIs_any b A c L σ4 kwBlock _ H.out.st).mono ?_
          rw [HB.out]
          rintro e w7 ⟨rfl, hb7⟩
          have H7 := hid (H.out.below hb7)
          clear hb7 H
          obtain ⟨⟨q0, q1⟩, ⟨r0, r1⟩, -, -, hz⟩ := H7.out.cells
          have tl : ((l.length : Int) == 16) = true := by simp; omega
          go_wp2_with fail
          clear q0 q1 r0 r1 hz
          refine (refFail_any b A c L σ4 7 _ H7.out.st).mono ?_
          rintro e w8 ⟨rfl, h8⟩
          have H8 := hid (H7.out.call h8)
          clear h8 H7
          obtain ⟨⟨q0, q1⟩, ⟨r0, r1⟩, ⟨p0, p1⟩, ⟨s0, s1⟩, hz⟩ := H8.out.cells
          have hsz2 : w.heap.size < w8.heap.size := by omega
          go_wp2_with fail
          refine bodyPost_ret (v := agF ⟨y, B, l.length, d, l⟩) (by simp [results, Tryz.results69, go_sem, q0, q1, p0, p1, s0, s1, hz, hsz2, agF, hl32]) rfl ?_
          exact H8.out.doneF rfl (by omega) H16.out _ _ (by rw [HR.out, HL.out.full HB.out, bad_word (full_e (isK_ne HB.out).1), bad_end (full_e (isK_ne HB.out).1)])
        | succ n =>
          have hl32 : l.length < 16 := by omega
          have tl : ((l.length : Int) == 16) = false := by simp; omega
          go_wp2_with fail
          refine (refIs_any b A c L σ4 kwBlock _ H.out.st).mono ?_
          rw [HB.out]
          rintro e w7 ⟨rfl, hb7⟩
          have H7 := hid (H.out.below hb7)
          clear hb7 H
          obtain ⟨⟨q0, q1⟩, ⟨r0, r1⟩, -, -, hz⟩ := H7.out.cells
          go_wp2_with fail
          have H7d : Hid (Bg KB w b A c L σ4 y (.slice B l.length d) l w7.drew) := hid (H7.out.drewN 1)
          have HC := hid (fun w' (h' : Rst w' b A c L σ4) => refBlock_any b A c L σ4 w' h' HS.out)
          go_region_law (first
            | (go_simp
               go_at_call 111
               go_must (
               refine (HC.out _ H7d.out.st).mono ?_
               rintro e w8 ⟨x, he, hxt, hfx, h8⟩
               unfold agB at he
               subst he
               have H8 := hid (H7d.out.call h8)
               have Hx := hid (FrV.fresh (N := w.heap.size + 2) (v := .slice B l.length d) hfx (by have := H7d.out.size; omega) (fun k hk => (H7d.out.own.lt k hk).2))
               have Hxt := hid hxt
               obtain ⟨⟨q0, q1⟩, ⟨r0, r1⟩, -, -, hz⟩ := H8.out.cells
               clear hfx h8 hxt))
            | ((refine step_append_lies _ (by rfl) _ _ 60 (by rfl) (w.heap.size + 2) 65 i1 _ 2 40 Tryz.underlying60 Hi.out Hz0.out Hz1.out Hz2.out (by rfl) (by decide) (.slice B l.length d) l.length (l.flatMap bhc) (by rfl) (by exact World.ownsRow.alloc H8.out.own _)
                  ⟨_, 0, none⟩ 1 1 (bhc x) (by rfl) rfl (by exact two_new _ _ _ _) (one_two _ _ _ _) (by decide) (by unfold maxLen; omega) (by omega) (by have := H8.out.size; rw [World.size_alloc]; omega) _ rfl ?_)
               intro g9 cap9 w9 hown9 hgr9 hat9 hlt9
               obtain ⟨⟨y0, y1, y2⟩, hT9⟩ := Bg.push (x := x) H8.out ((Below.refl _ _).alloc (Nat.le_refl _) _) (.inr Hx.out) hgr9 hown9 hat9
               have H9 := hid hT9
               clear hown9 hgr9 hat9 hlt9 hT9))
          all_goals
            clear q0 q1 r0 r1 hz
            generalize w9.setCell ⟨w.heap.size + 1, 1, none⟩ (.slice (some ⟨g9, 0, none⟩) (l.length + 1) cap9) = w10 at *
            clear y0 y1 y2
            go_wp2_with fail
            go_roundw
            case rel => exact ⟨l ++ [x], n, (blockR σ4).2, _, H9.out, by have := HL.out.step HB.out; rw [List.map_append]; rw [← Hxt.out] at this; exact this⟩
            case measure =>
              obtain ⟨⟨q0, q1⟩, -⟩ := H9.out.cells
              rw [Hm.out, lenAt_of q1]
              omega
end Go.Proofs.YtfapgnbnfhpicaaGreatDoor

namespace Go.Proofs.YtfapgnbnfhpicaaGreatDoor
set_option linter.unusedVariables false
open Go.ChangeShapes Go.WideShapes Go.ChangeAt Go.RowKit

def PP (x : PH) : World → List (Option Nat) → Prop := fun w ex => PHok w ex x
theorem PP.go {x : PH} {w w' : World} {ex ex' : List (Option Nat)} (h : PP x w ex) (hg : Go2 w ex w' ex') : PP x w' ex' := PHok.go h hg
theorem pp_of {w : World} {base : Nat} {B : Option Addr} {d : Nat} {l : List FH} (hown : w.ownsRow base 62 2 (.slice B l.length d) l.length (l.flatMap fhc)) (hall : ∀ x ∈ l, Fr base (FP x) w) (hl : l.length ≤ 40) : Fr base (PP ⟨B, l.length, d, l⟩) w :=
  fun ex he => ⟨EAt.own hown (fun g hg hin => by have h1 := (hown.lt g hg).1; have h2 := he g hin; omega), rfl, hl, fun y hy => hall y hy ex he⟩
def RetParse (r : Par) (w : World) (e : Ending) (w' : World) : Prop :=
  ∃ x : PH, e = .returned (.tuple #[.agg #[.slice x.A x.n x.c], .int .i64 (r.2.1 : Int), .int .i64 (r.2.2.1 : Int), .int .i64 r.2.2.2]) ∧ x.p = r.1 ∧ Fr w.heap.size (PP x) w' ∧ Below w.heap.size w w'
theorem pp_nil (w : World) (N : Nat) : Fr N (PP ⟨none, 0, 0, []⟩) w := fun ex _ => ⟨EAt.nil _ _ _, rfl, by show (0 : Nat) ≤ 40; omega, by simp⟩
end Go.Proofs.YtfapgnbnfhpicaaGreatDoor

namespace Go.Proofs.YtfapgnbnfhpicaaGreatDoor
set_option maxRecDepth 20000
set_option linter.unusedVariables false
set_option linter.unusedSimpArgs false
open Go.ChangeShapes Go.WideShapes Go.ChangeAt Go.RowKit
attribute [local go_sem ↓] Go.wp_at_zero Go.wp_at_succ

structure Po (w0 : World) (b : Nat) (A : Option Addr) (c : Nat) (L : List Tok) (σ : Rs) (v : Value) (l : List FH) (w : World) : Prop where
  st : RTo w0 b A c L σ w
  old : b < w0.heap.size
  f3 : Fb w w0.heap.size #[v] 44
  own : w.ownsRow (w0.heap.size + 1) 62 2 v l.length (l.flatMap fhc)
  all : ∀ x ∈ l, FrV (w0.heap.size + 1) v (FP x) w
theorem FP.go {x : FH} {w w' : World} {ex ex' : List (Option Nat)} (h : FP x w ex) (hg : Go2 w ex w' ex') : FP x w' ex' := FHok.go h hg
section
variable {w0 w w' : World} {b : Nat} {A : Option Addr} {c : Nat} {L : List Tok} {σ σ' : Rs} {v : Value} {l : List FH}
theorem Po.start (h : Rst w0 b A c L σ) : Po w0 b A c L σ (.slice none 0 0) [] (w0.alloc (.cells #[.slice none 0 0] 44)) :=
  ⟨(RTo.refl h).belowr ((Below.refl _ _).alloc (Nat.le_refl _) _), h.lt, Fb.new w0 _ _, World.ownsRow_nil _ _ _ _, by simp⟩
theorem Po.call (h : Po w0 b A c L σ v l w) (hr : RTo w b A c L σ' w') : Po w0 b A c L σ' v l w' :=
  ⟨h.st.trans hr, h.old, h.f3.grown hr.2 (by have := h.old; simp; omega), RTo.own h.own hr (by have := h.old; omega),
    fun x hx => (h.all x hx).grown FP.go hr.2 (fun k hk => by injection hk with hk; have := h.old; omega)⟩
theorem Po.below (h : Po w0 b A c L σ v l w) (hb : Below w.heap.size w w') : Po w0 b A c L σ v l w' := h.call ((RTo.refl h.st.1).belowr hb)
theorem Po.drewN (h : Po w0 b A c L σ v l w) (q : Nat) : Po w0 b A c L σ v l (w.drewN q) := h.below (below_drewN (Below.refl _ _) q)
theorem Po.size (h : Po w0 b A c L σ v l w) : w0.heap.size + 1 ≤ w.heap.size := h.f3.lt
theorem Po.push {wa w9 : World} {g9 cap9 : Nat} {x : FH} (h : Po w0 b A c L σ v l w) (ha : Below w.heap.size w wa) (hx : FrV (w0.heap.size + 1) v (FP x) w) (hg : wa.grownBy w9 v.ownBlock)
    (hown : w9.ownsRow (w0.heap.size + 1) 62 2 (.slice (some ⟨g9, 0, none⟩) (l.length + 1) cap9) (l.length + 1) (l.flatMap fhc ++ fhc x)) (hat : v.ownBlock = some g9 ∨ g9 = wa.heap.size) :
    (w9.cell? ⟨w0.heap.size, 0, none⟩ = some v ∧ w9.frozen? ⟨w0.heap.size, 0, none⟩ = false ∧ w0.heap.size < w9.heap.size) ∧
    Po w0 b A c L σ (.slice (some ⟨g9, 0, none⟩) (l.length + 1) cap9) (l ++ [x]) (w9.setCell ⟨w0.heap.size, 0, none⟩ (.slice (some ⟨g9, 0, none⟩) (l.length + 1) cap9)) := by
  have h1 := h.below ha
  have ho := h.old
  have hlt : ∀ k, v.ownBlock = some k → w0.heap.size + 1 ≤ k := fun k hk => (h1.own.lt k hk).1
  have hne : ∀ k, k < w0.heap.size + 1 → some k ≠ v.ownBlock := fun k hk e => by have := hlt k e.symm; omega
  have hf3 := h1.f3.grown hg (hne _ (by omega))
  have hxV : FrV (w0.heap.size + 1) v (FP x) wa := hx.grown FP.go (grown_of_below ha none) (fun k hk => by cases hk)
  have hset := setCell_grown w9 ⟨w0.heap.size, 0, none⟩ (.slice (some ⟨g9, 0, none⟩) (l.length + 1) cap9)
  have hg9 := (hown.lt g9 rfl).1
  refine ⟨⟨hf3.cell 0, hf3.frozen 0, hf3.lt⟩, ?_⟩
  refine ⟨⟨(h1.st.1.grown hg (fun k hk => by have := hlt k hk; omega)).far (by show b < w0.heap.size; omega) _, grown_set_new ?_ (Nat.le_refl _) _⟩, ho, ?_, ?_, ?_⟩
  · have h2 := h1.st.2
    exact ⟨hg.os.trans h2.os, hg.tape.trans h2.tape, hg.output.trans h2.output, Nat.le_trans h2.size hg.size, fun i hi hne2 => (hg.block i (Nat.lt_of_lt_of_le hi h2.size) (hne i (by omega))).trans (h2.block i hi hne2)⟩
  · have := hf3.set 0 (.slice (some ⟨g9, 0, none⟩) (l.length + 1) cap9)
    simpa using this
  · rw [List.flatMap_append, List.length_append]
    have e : [x].flatMap fhc = fhc x := by simp
    rw [e]
    exact hown.kept hset (.inr (by show some g9 ≠ some w0.heap.size; simp; omega))
  · intro y hy
    have hyV : FrV (w0.heap.size + 1) v (FP y) wa := by
      rcases List.mem_append.1 hy with hy | hy
      · exact h1.all y hy
      · simp at hy; subst hy; exact hxV
    exact (hyV.push FP.go hg (v' := .slice (some ⟨g9, 0, none⟩) (l.length + 1) cap9) (g := g9) rfl hat).grown FP.go hset (fun k hk => by injection hk with hk; have : w0.heap.size = k := hk; omega)
end
def lenAt0 (g : Nat) (w : World) : Nat := match w.cell? ⟨g, 0, none⟩ with | some (.slice _ n _) => n | _ => 0
theorem lenAt0_of {g n c : Nat} {B : Option Addr} {w : World} (h : w.cell? ⟨g, 0, none⟩ = some (.slice B n c)) : lenAt0 g w = n := by unfold lenAt0; rw [h]
theorem RTo.kept {w w' : World} {b c : Nat} {A : Option Addr} {L : List Tok} {σ : Rs} {g t : Nat} {cs : Array Value} (h : RTo w b A c L σ w') (hf : Fb w g cs t) (hne : g ≠ b) : Fb w' g cs t := hf.grown h.2 (by simpa using hne)
end Go.Proofs.YtfapgnbnfhpicaaGreatDoor

namespace Go.Proofs.YtfapgnbnfhpicaaGreatDoor
set_option maxRecDepth 20000
set_option linter.unusedVariables false
open Go.ChangeShapes Go.WideShapes Go.ChangeAt Go.RowKit

theorem scanL_few (s : ByteArray) (n i line col : Nat) (l : List Tok) (hn : s.size - i ≤ n) (hf : Fine s i line col l) : (scanL s i line col l).1.length ≤ s.size + 1 ∧ (scanL s i line col l).2.1 ≤ s.size + 1 ∧ (scanL s i line col l).2.2.1 ≤ s.size + 1 := by
  induction n generalizing i line col l with
  | zero =>
    have h := hf.few; have h2 := hf.le; have he := endT_len line col l
    rw [scanL_end (by omega)]
    exact ⟨by simp; omega, by simp, by simp⟩
  | succ n ih =>
    by_cases hlt : i < s.size
    · cases e : stp s i line col l with
      | go i' line' col' l' =>
        have hg := stp_go hlt e
        rw [scanL_go hlt e]
        exact ih i' line' col' l' (by omega) (hf.go hlt e)
      | stop line' col' er =>
        have h3 := hf.line2; have h4 := hf.col2; have h5 := hf.le
        have hst : line' = line ∧ col' = col := by
          unfold stp at e
          repeat' split at e
          all_goals (first | (cases e; done) | (cases e; exact ⟨rfl, rfl⟩))
        rw [scanL_stop hlt e]
        exact ⟨by simp, by simp; omega, by simp; omega⟩
    · have h := hf.few; have h2 := hf.le; have he := endT_len line col l
      rw [scanL_end (by omega)]
      exact ⟨by simp; omega, by simp, by simp⟩
theorem scanR_few (s : ByteArray) : (scanR s).1.length ≤ 100000 := by
  unfold scanR
  split
  · have := (scanL_few s (s.size - 0) 0 1 1 [] (Nat.le_refl _) (Fine.start s)).1
    omega
  · simp

end Go.Proofs.YtfapgnbnfhpicaaGreatDoor

namespace Go.Proofs.YtfapgnbnfhpicaaGreatDoor
set_option maxRecDepth 20000
set_option linter.unusedVariables false
set_option linter.unusedSimpArgs false
open Go.ChangeShapes Go.WideShapes Go.ChangeAt Go.RowKit
attribute [local go_sem ↓] Go.wp_at_zero Go.wp_at_succ

theorem progR_of {σ0 : Rs} {done : List Fnc} {le : List Tok} {ee : Int} (h : listR (isK kwFunc) funcR 8 (needR (isK kwFunc) σ0) = (done, ⟨le, ee⟩)) :
    progR σ0 = (done, if ee == 0 && !le.isEmpty then failR 4 ⟨le, ee⟩ else ⟨le, ee⟩) := by
  unfold progR
  simp only
  rw [h]
theorem Po.pp {w0 w : World} {b c d : Nat} {A B : Option Addr} {L : List Tok} {σ : Rs} {l : List FH} (h : Po w0 b A c L σ (.slice B l.length d) l w) (hl : l.length ≤ 40) : Fr (w0.heap.size + 1) (PP ⟨B, l.length, d, l⟩) w :=
  pp_of h.own (fun x hx => (h.all x hx).fr) hl
theorem Po.grownw {w0 w : World} {b c : Nat} {A : Option Addr} {L : List Tok} {σ : Rs} {v : Value} {l : List FH} (h : Po w0 b A c L σ v l w) : w0.grownBy w (some b) := h.st.2
def parO (p : List Fnc × Rs) : Par := if p.2.e == 0 then (p.1, 0, 0, 0) else ([], (nxt p.2.l).line, (nxt p.2.l).col, p.2.e)
theorem parO_ok {P : List Fnc} {l : List Tok} {ee : Int} (h : (ee == 0) = true) : parO (P, ⟨l, ee⟩) = (P, 0, 0, 0) := by
  unfold parO
  exact if_pos h
theorem parO_bad {P : List Fnc} {l : List Tok} {ee : Int} (h : (ee == 0) = false) : parO (P, ⟨l, ee⟩) = ([], (nxt l).line, (nxt l).col, ee) := by
  unfold parO
  exact if_neg (by show ¬ ((ee == 0) = true); rw [h]; exact Bool.false_ne_true)
theorem par_more {s : ByteArray} {σ0 : Rs} {done : List Fnc} {le : List Tok} {ee : Int} (h2 : parseR s = parO (progR σ0)) (h : progR σ0 = (done, if ee == 0 && !le.isEmpty then failR 4 ⟨le, ee⟩ else ⟨le, ee⟩)) (he : (ee == 0) = true) (hn : le ≠ []) (hf : failR 4 ⟨le, ee⟩ = ⟨le, 4⟩) :
    parseR s = ([], (nxt le).line, (nxt le).col, 4) := by
  have hemp : le.isEmpty = false := by cases le with | nil => exact absurd rfl hn | cons => rfl
  rw [h2, h, hemp, he, hf]
  exact parO_bad rfl
theorem par_end {s : ByteArray} {σ0 : Rs} {done : List Fnc} {le : List Tok} {ee : Int} (h2 : parseR s = parO (progR σ0)) (h : progR σ0 = (done, if ee == 0 && !le.isEmpty then failR 4 ⟨le, ee⟩ else ⟨le, ee⟩)) (he : (ee == 0) = true) (hn : le = []) :
    parseR s = (done, 0, 0, 0) := by
  subst hn
  rw [h2, h]
  have h0 : (ee == 0 && !([] : List Tok).isEmpty) = false := by simp
  rw [h0]
  exact parO_ok he
theorem par_err {s : ByteArray} {σ0 : Rs} {done : List Fnc} {le : List Tok} {ee : Int} (h2 : parseR s = parO (progR σ0)) (h : progR σ0 = (done, if ee == 0 && !le.isEmpty then failR 4 ⟨le, ee⟩ else ⟨le, ee⟩)) (he : (ee == 0) = false) :
    parseR s = ([], (nxt le).line, (nxt le).col, ee) := by
  rw [h2, h, he]
  exact parO_bad he
set_option maxHeartbeats 20000000 in
theorem refParse_any (s : ByteArray) (w : World) (hs : s.size ≤ maxLen) : Calls Tryz.prog 34 #[.string s] w (RetParse (parseR s) w) := by
  have HC := hid (fun w => refScan_any s w hs)
  have HR : Hid (parseR s = (if (scanR s).2.2.2 == 0 then parO (progR ⟨(scanR s).1, 0⟩) else ([], (scanR s).2.1, (scanR s).2.2.1, (scanR s).2.2.2))) := hid rfl
  have HS := hid (show Short (scanR s).1 from fun t ht => tokOk_size (scan_tok s t ht))
  have Hfew := hid (scanR_few s)
  have hf0 := hid (Fb.new w #[.slice none 0 0] 44)
  have hb0 := hid ((Below.refl w.heap.size w).alloc (Nat.le_refl _) (.cells #[.slice none 0 0] 44))
  have hwa := hid (show (w.alloc (.cells #[.slice none 0 0] 44)).heap.size = w.heap.size + 1 by rw [World.size_alloc])
  clear hs
  generalize scanR s = r at *
  obtain ⟨L, line, col, er⟩ := r
  simp only at HR HS Hfew
  obtain ⟨i3, hi, hz0, hz1, hz2⟩ := info_parts info63
  have Hi := hid hi; have Hz0 := hid hz0; have Hz1 := hid hz1; have Hz2 := hid hz2
  clear hi hz0 hz1 hz2
  go_enter Tryz.func34, Tryz.ntmps34
  go_wp2_with fail
  generalize w.alloc (.cells #[.slice none 0 0] 44) = wa at *
  refine (HC.out _).mono ?_
  rintro e w1 ⟨A, c, rfl, ha, hb1⟩
  simp only at ha
  have hf1 := hid (hf0.out.below hb1 hf0.out.lt)
  have hB1 := hid (hb0.out.trans (hb1.mono hb0.out.size))
  have hsz1 := hid (show w.heap.size + 1 ≤ w1.heap.size by have := hb1.size; have := hwa.out; omega)
  cases he : (er == 0) with
  | false =>
    have hne : (er != 0) = true := by simpa using he
    have HR2 : Hid (parseR s = ([], line, col, er)) := hid (by rw [HR.out, he]; rfl)
    have HB : Hid (Below w.heap.size w (w1.setCell ⟨w.heap.size, 0, none⟩ (.slice none 0 0))) := hid (hB1.out.setCell (Nat.le_refl _) _)
    have v0 := hf1.out.cell 0
    have s0 := hf1.out.frozen 0
    have hsz := hf1.out.lt
    clear HR he ha hb1
    go_wp2_with fail
    refine bodyPost_ret (v := .tuple #[.agg #[.slice none 0 0], .int .i64 (line : Int), .int .i64 (col : Int), .int .i64 er]) (by simp [results, Tryz.results34, go_sem, v0, s0, hsz]) rfl ?_
    rw [HR2.out]
    exact ⟨⟨none, 0, 0, []⟩, rfl, rfl, pp_nil _ _, HB.out⟩
  | true =>
    have hne : (er != 0) = false := by simpa using he
    have HR2 : Hid (parseR s = parO (progR ⟨L, 0⟩)) := hid (by rw [HR.out, he]; rfl)
    have hst := hid (show Rst (w1.alloc (.cells #[.slice A L.length c, .int .i64 0, .int .i64 0] 115)) w1.heap.size A c L ⟨L, 0⟩ from ⟨⟨0, Nat.zero_le _, rfl, Fb.new w1 _ _⟩, ha.lies.alloc (Nat.le_refl _) _, Hfew.out⟩)
    have hB2 := hid (hB1.out.alloc (by have := hsz1.out; omega) (.cells #[.slice A L.length c, .int .i64 0, .int .i64 0] 115))
    have hf2 := hid ((hf1.out.alloc (.cells #[.slice A L.length c, .int .i64 0, .int .i64 0] 115)).alloc (.cells #[.slice none 0 0] 44))
    have hszp := hid (show (w1.alloc (.cells #[.slice A L.length c, .int .i64 0, .int .i64 0] 115)).heap.size = w1.heap.size + 1 by rw [World.size_alloc])
    have H0 := hid (Po.start hst.out)
    clear HR he ha hb1 hf0 hb0 hwa hf1 HC hst
    go_wp2_with fail
    generalize w1.alloc (.cells #[.slice A L.length c, .int .i64 0, .int .i64 0] 115) = wp at *
    generalize w1.heap.size = b at *
    have hszp2 := hszp.out
    have hszb := hsz1.out
    rw [show b + 1 = wp.heap.size from hszp2.symm]
    have hww : w.heap.size < wp.heap.size := by omega
    have hwb : w.heap.size < b := by omega
    have hbp : b < wp.heap.size := by omega
    clear hszp2 hszb
    generalize wp.alloc (.cells #[.slice none 0 0] 44) = w2 at *
    refine (refIs_any b A c L ⟨L, 0⟩ kwFunc _ H0.out.st.1).mono ?_
    rintro e w5 ⟨rfl, hb5⟩
    have H5 := hid (H0.out.below hb5)
    have hf5 := hid (hf2.out.below hb5 hf2.out.lt)
    clear hb5 H0 hf2
    cases hb0 : isK kwFunc ⟨L, 0⟩ with
    | true =>
      have hneed := hid (show needR (isK kwFunc) ⟨L, 0⟩ = ⟨L, 0⟩ by unfold needR; rw [hb0]; rfl)
      generalize hσ3 : (⟨L, 0⟩ : Rs) = σ3 at *
      clear hσ3 hb0
      go_wp2_with fail
      go_loopw [] (fun wr => ∃ (l : List FH) (n : Nat) (σ4 : Rs) (v : Value), Hid (Po wp b A c L σ4 v l wr) ∧ Hid (Lrel (isK kwFunc) funcR 8 σ3 (l.map FH.f) n σ4) ∧ Hid (Fb wr w.heap.size #[.slice none 0 0] 44)) (fun wr => 9 - lenAt0 wp.heap.size wr)
      case atStart => exact ⟨[], 8, σ3, _, H5.out, Lrel.start, hf5.out⟩
      case round =>
        clear H5 hf5
        obtain ⟨l, n, σ4, v, H, HL, hfR⟩ := hrel
        obtain ⟨B, d, hv⟩ := own_any_slice H.out.own
        subst hv
        have hlen : l.length + n = 8 := by have := HL.out.1; simpa using this
        have q0 := H.out.f3.cell 0
        have Hm := hid (lenAt0_of q0)
        clear q0
        cases hb : isK kwFunc σ4 with
        | false =>
          have HB0 := hid hb
          clear hb
          go_wp2_with fail
          refine (refIs_any b A c L σ4 kwFunc _ H.out.st.1).mono ?_
          rw [HB0.out]
          rintro e w7 ⟨rfl, hb7⟩
          have H7 := hid (H.out.below hb7)
          have hf7 := hid (hfR.out.below hb7 hfR.out.lt)
          clear hb7 H hfR
          obtain ⟨le, ee⟩ := σ4
          have HPg := hid (progR_of (σ0 := σ3) (done := l.map FH.f) (le := le) (ee := ee) (by rw [hneed.out]; exact HL.out.stop HB0.out))
          obtain ⟨k, hk, hl, hf⟩ := H7.out.st.1.at_
          simp only at hl hf
          cases hee : (ee == 0) with
          | true =>
            by_cases hkl : k < L.length
            · as_aux_lemma =>
              have HneL := hid (show le ≠ [] by
                  intro h0
                  rw [h0] at hl
                  have h1 := congrArg List.length hl
                  rw [List.length_drop] at h1
                  simp at h1
                  omega)
              have hfr := hid (show failR 4 ⟨le, ee⟩ = ⟨le, 4⟩ by unfold failR; simp [hee])
              have HPar : Hid (parseR s = ([], (nxt le).line, (nxt le).col, 4)) := hid (par_more HR2.out HPg.out hee HneL.out hfr.out)
              obtain ⟨⟨c0, c1, c2⟩, -⟩ := hf.three
              have hfew0 := H7.out.st.1.few
              clear hf hl HR2 HPg
              go_wp2_with fail
              refine (refFail_any b A c L ⟨le, ee⟩ 4 _ H7.out.st.1).mono ?_
              rintro e w8 ⟨rfl, h8⟩
              rw [hfr.out] at h8
              have H8 := hid (H7.out.call h8)
              have hf8 := hid (h8.kept hf7.out (by omega))
              clear h8 H7 hf7 c0 c1 c2 hfew0
              obtain ⟨k2, hk2, hl2, hfp⟩ := H8.out.st.1.at_
              simp only at hl2 hfp
              have hkl2 : k2 < L.length := by
                rcases Nat.lt_or_ge k2 L.length with h | h
                · exact h
                · exact absurd (by rw [← hl2, nxt_end h]) HneL.out
              obtain ⟨a, hAa, hab, -, a2, a3⟩ := H8.out.st.1.arg.cell hkl2
              subst hAa
              rw [← nxt_drop hkl2, hl2] at a2 a3
              obtain ⟨⟨c0, c1, c2⟩, -⟩ := hfp.three
              have hltb := H8.out.st.1.lt
              have hfew := H8.out.st.1.few
              have hna : a.block ≠ w.heap.size := by
                intro hq
                have h1 := a2
                rw [show (a.add (k2 * 4)).block = w.heap.size by rw [add_block]; exact hq] at h1
                rw [hf8.out.cell] at h1
                simp at h1
              have hna2 : w.heap.size ≠ a.block := fun h => hna h.symm
              have hab2 : (a.add (k2 * 4)).block < w8.heap.size := by rw [add_block]; exact hab
              have v0 := hf8.out.cell 0
              have s0 := hf8.out.frozen 0
              have hsz := hf8.out.lt
              have hBX := hid (hB2.out.grown H8.out.st.2 hB2.out.size (fun k hk => by injection hk with hk; omega))
              have HB : Hid (∀ q, Below w.heap.size w ((w8.drewN q).setCell ⟨w.heap.size, 0, none⟩ (.slice none 0 0))) := hid (fun q => (below_drewN hBX.out q).setCell (Nat.le_refl _) _)
              generalize (nxt le).line = ln at *
              generalize (nxt le).col = cl at *
              have hS0 : ((fun w' => Below w.heap.size w w' ∧ w'.cell? ⟨w.heap.size, 0, none⟩ = some (.slice none 0 0) ∧ w'.frozen? ⟨w.heap.size, 0, none⟩ = false ∧ w.heap.size < w'.heap.size ∧ w'.cell? ⟨b, 1, none⟩ = some (.int .i64 (k2 : Int)) ∧ w'.cell? ⟨b, 2, none⟩ = some (.int .i64 4) ∧ w'.cell? ⟨(a.add (k2 * 4)).block, (a.add (k2 * 4)).off + 2, none⟩ = some (.int .i64 (ln : Int)) ∧ w'.cell? ⟨(a.add (k2 * 4)).block, (a.add (k2 * 4)).off + 3, none⟩ = some (.int .i64 (cl : Int))) (w8.drew)) := ⟨below_drewN hBX.out 1, v0, s0, hsz, c1, c2, a2, a3⟩
              have HS0 := hid hS0
              have hSt : ∀ w', (fun w' => Below w.heap.size w w' ∧ w'.cell? ⟨w.heap.size, 0, none⟩ = some (.slice none 0 0) ∧ w'.frozen? ⟨w.heap.size, 0, none⟩ = false ∧ w.heap.size < w'.heap.size ∧ w'.cell? ⟨b, 1, none⟩ = some (.int .i64 (k2 : Int)) ∧ w'.cell? ⟨b, 2, none⟩ = some (.int .i64 4) ∧ w'.cell? ⟨(a.add (k2 * 4)).block, (a.add (k2 * 4)).off + 2, none⟩ = some (.int .i64 (ln : Int)) ∧ w'.cell? ⟨(a.add (k2 * 4)).block, (a.add (k2 * 4)).off + 3, none⟩ = some (.int .i64 (cl : Int))) w' → (fun w' => Below w.heap.size w w' ∧ w'.cell? ⟨w.heap.size, 0, none⟩ = some (.slice none 0 0) ∧ w'.frozen? ⟨w.heap.size, 0, none⟩ = false ∧ w.heap.size < w'.heap.size ∧ w'.cell? ⟨b, 1, none⟩ = some (.int .i64 (k2 : Int)) ∧ w'.cell? ⟨b, 2, none⟩ = some (.int .i64 4) ∧ w'.cell? ⟨(a.add (k2 * 4)).block, (a.add (k2 * 4)).off + 2, none⟩ = some (.int .i64 (ln : Int)) ∧ w'.cell? ⟨(a.add (k2 * 4)).block, (a.add (k2 * 4)).off + 3, none⟩ = some (.int .i64 (cl : Int))) (w'.setCell ⟨w.heap.size, 0, none⟩ (.slice none 0 0)) := by
                rintro w' ⟨h0, h1, h2, h3, h4, h5, h6, h7⟩
                refine ⟨h0.setCell (Nat.le_refl _) _, World.cell?_setCell_same (w := w') (a := ⟨w.heap.size, 0, none⟩) (v := .slice none 0 0) h1, by rw [World.frozen?_setCell]; exact h2, by rw [World.size_setCell]; exact h3, ?_, ?_, ?_, ?_⟩
                · exact (World.cell?_setCell_far _ _ _ _ (by show w.heap.size ≠ b; omega)).trans h4
                · exact (World.cell?_setCell_far _ _ _ _ (by show w.heap.size ≠ b; omega)).trans h5
                · exact (World.cell?_setCell_far _ _ _ _ (by show w.heap.size ≠ (a.add (k2 * 4)).block; rw [add_block]; exact hna2)).trans h6
                · exact (World.cell?_setCell_far _ _ _ _ (by show w.heap.size ≠ (a.add (k2 * 4)).block; rw [add_block]; exact hna2)).trans h7
              have HSt := hid hSt
              clear hl2 hfp hS0 hSt
              go_wp2_with fail
              clear c0 c1 c2 v0 s0 hsz a2 a3
              go_region_held3 (fun w' => Below w.heap.size w w' ∧ w'.cell? ⟨w.heap.size, 0, none⟩ = some (.slice none 0 0) ∧ w'.frozen? ⟨w.heap.size, 0, none⟩ = false ∧ w.heap.size < w'.heap.size ∧ w'.cell? ⟨b, 1, none⟩ = some (.int .i64 (k2 : Int)) ∧ w'.cell? ⟨b, 2, none⟩ = some (.int .i64 4) ∧ w'.cell? ⟨(a.add (k2 * 4)).block, (a.add (k2 * 4)).off + 2, none⟩ = some (.int .i64 (ln : Int)) ∧ w'.cell? ⟨(a.add (k2 * 4)).block, (a.add (k2 * 4)).off + 3, none⟩ = some (.int .i64 (cl : Int)))
                (first | exact HS0.out | exact HSt.out _ (by assumption) | assumption)
                (fail)
              go_wp2_with fail
              rename (Below _ _ _ ∧ _) => hh
              obtain ⟨hB9, v9, s9, hz9, -⟩ := hh
              refine bodyPost_ret (v := .tuple #[.agg #[.slice none 0 0], .int .i64 (ln : Int), .int .i64 (cl : Int), .int .i64 4]) (by simp [results, Tryz.results34, go_sem, v9, s9, hz9]) rfl ?_
              rw [HPar.out]
              exact ⟨⟨none, 0, 0, []⟩, rfl, rfl, pp_nil _ _, hB9⟩
            · as_aux_lemma =>
              have hle : le = [] := by rw [← hl, nxt_end (by omega)]
              have hkL : k = L.length := by omega
              have HPar : Hid (parseR s = (l.map FH.f, 0, 0, 0)) := hid (par_end HR2.out HPg.out hee hle)
              subst hkL
              clear hl HR2 HPg hkl
              obtain ⟨⟨c0, c1, c2⟩, -⟩ := hf.three
              have hltb := H7.out.st.1.lt
              have v0 := hf7.out.cell 0
              have s0 := hf7.out.frozen 0
              have hsz := hf7.out.lt
              have k0 := H7.out.f3.cell 0
              have hszX := H7.out.f3.lt
              have hBX := hid (hB2.out.grown H7.out.st.2 hB2.out.size (fun k hk => by injection hk with hk; omega))
              have HB : Hid (Below w.heap.size w (w7.setCell ⟨w.heap.size, 0, none⟩ (.slice B l.length d))) := hid (hBX.out.setCell (Nat.le_refl _) _)
              have Hpp := hid (show Fr w.heap.size (PP ⟨B, l.length, d, l⟩) (w7.setCell ⟨w.heap.size, 0, none⟩ (.slice B l.length d)) from Fr.less (M := w.heap.size) (Fr.grown (fun h hg => PP.go h hg) (H7.out.pp (by omega)) (setCell_grown w7 ⟨w.heap.size, 0, none⟩ _) (fun k hk => by injection hk with hk; have : w.heap.size = k := hk; omega)) (by omega))
              clear hf
              go_wp2_with fail
              refine bodyPost_ret (v := .tuple #[.agg #[.slice B l.length d], .int .i64 0, .int .i64 0, .int .i64 0]) (by simp [results, Tryz.results34, go_sem, v0, s0, hsz]) rfl ?_
              rw [HPar.out]
              exact ⟨⟨B, l.length, d, l⟩, rfl, rfl, Hpp.out, HB.out⟩
          | false =>
            have HPar0 : Hid (parseR s = ([], (nxt le).line, (nxt le).col, ee)) := hid (par_err HR2.out HPg.out hee)
            by_cases hkl : k < L.length
            · as_aux_lemma =>
              have HneL := hid (show le ≠ [] by
                  intro h0
                  rw [h0] at hl
                  have h1 := congrArg List.length hl
                  rw [List.length_drop] at h1
                  simp at h1
                  omega)
              have HPar := HPar0
              clear HPar0 hf hl HR2 HPg
              obtain ⟨k2, hk2, hl2, hfp⟩ := H7.out.st.1.at_
              simp only at hl2 hfp
              have hkl2 : k2 < L.length := by
                rcases Nat.lt_or_ge k2 L.length with h | h
                · exact h
                · exact absurd (by rw [← hl2, nxt_end h]) HneL.out
              obtain ⟨a, hAa, hab, -, a2, a3⟩ := H7.out.st.1.arg.cell hkl2
              subst hAa
              rw [← nxt_drop hkl2, hl2] at a2 a3
              obtain ⟨⟨c0, c1, c2⟩, -⟩ := hfp.three
              have hltb := H7.out.st.1.lt
              have hfew := H7.out.st.1.few
              have hna : a.block ≠ w.heap.size := by
                intro hq
                have h1 := a2
                rw [show (a.add (k2 * 4)).block = w.heap.size by rw [add_block]; exact hq] at h1
                rw [hf7.out.cell] at h1
                simp at h1
              have hna2 : w.heap.size ≠ a.block := fun h => hna h.symm
              have hab2 : (a.add (k2 * 4)).block < w7.heap.size := by rw [add_block]; exact hab
              have v0 := hf7.out.cell 0
              have s0 := hf7.out.frozen 0
              have hsz := hf7.out.lt
              have hBX := hid (hB2.out.grown H7.out.st.2 hB2.out.size (fun k hk => by injection hk with hk; omega))
              have HB : Hid (∀ q, Below w.heap.size w ((w7.drewN q).setCell ⟨w.heap.size, 0, none⟩ (.slice none 0 0))) := hid (fun q => (below_drewN hBX.out q).setCell (Nat.le_refl _) _)
              generalize (nxt le).line = ln at *
              generalize (nxt le).col = cl at *
              have hS0 : ((fun w' => Below w.heap.size w w' ∧ w'.cell? ⟨w.heap.size, 0, none⟩ = some (.slice none 0 0) ∧ w'.frozen? ⟨w.heap.size, 0, none⟩ = false ∧ w.heap.size < w'.heap.size ∧ w'.cell? ⟨b, 1, none⟩ = some (.int .i64 (k2 : Int)) ∧ w'.cell? ⟨b, 2, none⟩ = some (.int .i64 ee) ∧ w'.cell? ⟨(a.add (k2 * 4)).block, (a.add (k2 * 4)).off + 2, none⟩ = some (.int .i64 (ln : Int)) ∧ w'.cell? ⟨(a.add (k2 * 4)).block, (a.add (k2 * 4)).off + 3, none⟩ = some (.int .i64 (cl : Int))) (w7.drew)) := ⟨below_drewN hBX.out 1, v0, s0, hsz, c1, c2, a2, a3⟩
              have HS0 := hid hS0
              have hSt : ∀ w', (fun w' => Below w.heap.size w w' ∧ w'.cell? ⟨w.heap.size, 0, none⟩ = some (.slice none 0 0) ∧ w'.frozen? ⟨w.heap.size, 0, none⟩ = false ∧ w.heap.size < w'.heap.size ∧ w'.cell? ⟨b, 1, none⟩ = some (.int .i64 (k2 : Int)) ∧ w'.cell? ⟨b, 2, none⟩ = some (.int .i64 ee) ∧ w'.cell? ⟨(a.add (k2 * 4)).block, (a.add (k2 * 4)).off + 2, none⟩ = some (.int .i64 (ln : Int)) ∧ w'.cell? ⟨(a.add (k2 * 4)).block, (a.add (k2 * 4)).off + 3, none⟩ = some (.int .i64 (cl : Int))) w' → (fun w' => Below w.heap.size w w' ∧ w'.cell? ⟨w.heap.size, 0, none⟩ = some (.slice none 0 0) ∧ w'.frozen? ⟨w.heap.size, 0, none⟩ = false ∧ w.heap.size < w'.heap.size ∧ w'.cell? ⟨b, 1, none⟩ = some (.int .i64 (k2 : Int)) ∧ w'.cell? ⟨b, 2, none⟩ = some (.int .i64 ee) ∧ w'.cell? ⟨(a.add (k2 * 4)).block, (a.add (k2 * 4)).off + 2, none⟩ = some (.int .i64 (ln : Int)) ∧ w'.cell? ⟨(a.add (k2 * 4)).block, (a.add (k2 * 4)).off + 3, none⟩ = some (.int .i64 (cl : Int))) (w'.setCell ⟨w.heap.size, 0, none⟩ (.slice none 0 0)) := by
                rintro w' ⟨h0, h1, h2, h3, h4, h5, h6, h7⟩
                refine ⟨h0.setCell (Nat.le_refl _) _, World.cell?_setCell_same (w := w') (a := ⟨w.heap.size, 0, none⟩) (v := .slice none 0 0) h1, by rw [World.frozen?_setCell]; exact h2, by rw [World.size_setCell]; exact h3, ?_, ?_, ?_, ?_⟩
                · exact (World.cell?_setCell_far _ _ _ _ (by show w.heap.size ≠ b; omega)).trans h4
                · exact (World.cell?_setCell_far _ _ _ _ (by show w.heap.size ≠ b; omega)).trans h5
                · exact (World.cell?_setCell_far _ _ _ _ (by show w.heap.size ≠ (a.add (k2 * 4)).block; rw [add_block]; exact hna2)).trans h6
                · exact (World.cell?_setCell_far _ _ _ _ (by show w.heap.size ≠ (a.add (k2 * 4)).block; rw [add_block]; exact hna2)).trans h7
              have HSt := hid hSt
              clear hl2 hfp hS0 hSt
              go_wp2_with fail
              clear c0 c1 c2 v0 s0 hsz a2 a3
              go_region_held3 (fun w' => Below w.heap.size w w' ∧ w'.cell? ⟨w.heap.size, 0, none⟩ = some (.slice none 0 0) ∧ w'.frozen? ⟨w.heap.size, 0, none⟩ = false ∧ w.heap.size < w'.heap.size ∧ w'.cell? ⟨b, 1, none⟩ = some (.int .i64 (k2 : Int)) ∧ w'.cell? ⟨b, 2, none⟩ = some (.int .i64 ee) ∧ w'.cell? ⟨(a.add (k2 * 4)).block, (a.add (k2 * 4)).off + 2, none⟩ = some (.int .i64 (ln : Int)) ∧ w'.cell? ⟨(a.add (k2 * 4)).block, (a.add (k2 * 4)).off + 3, none⟩ = some (.int .i64 (cl : Int)))
                (first | exact HS0.out | exact HSt.out _ (by assumption) | assumption)
                (fail)
              go_wp2_with fail
              rename (Below _ _ _ ∧ _) => hh
              obtain ⟨hB9, v9, s9, hz9, -⟩ := hh
              refine bodyPost_ret (v := .tuple #[.agg #[.slice none 0 0], .int .i64 (ln : Int), .int .i64 (cl : Int), .int .i64 ee]) (by simp [results, Tryz.results34, go_sem, v9, s9, hz9]) rfl ?_
              rw [HPar.out]
              exact ⟨⟨none, 0, 0, []⟩, rfl, rfl, pp_nil _ _, hB9⟩
            · as_aux_lemma =>
              have hle : le = [] := by rw [← hl, nxt_end (by omega)]
              have hkL : k = L.length := by omega
              have HPar : Hid (parseR s = ([], 0, 0, ee)) := hid (by rw [HPar0.out, hle]; rfl)
              subst hkL
              clear HPar0 hl HR2 HPg hkl
              obtain ⟨⟨c0, c1, c2⟩, -⟩ := hf.three
              have hltb := H7.out.st.1.lt
              have v0 := hf7.out.cell 0
              have s0 := hf7.out.frozen 0
              have hsz := hf7.out.lt
              have hBX := hid (hB2.out.grown H7.out.st.2 hB2.out.size (fun k hk => by injection hk with hk; omega))
              have HB : Hid (∀ q, Below w.heap.size w ((w7.drewN q).setCell ⟨w.heap.size, 0, none⟩ (.slice none 0 0))) := hid (fun q => (below_drewN hBX.out q).setCell (Nat.le_refl _) _)
              clear hf
              go_wp2_with fail
              go_region_law (fail)
              all_goals
                go_wp2_with fail
                refine bodyPost_ret (v := .tuple #[.agg #[.slice none 0 0], .int .i64 0, .int .i64 0, .int .i64 ee]) (by simp [results, Tryz.results34, go_sem, v0, s0, hsz]) rfl ?_
                rw [HPar.out]
                exact ⟨⟨none, 0, 0, []⟩, rfl, rfl, pp_nil _ _, HB.out 1⟩
        | true =>
          have HB0 := hid hb
          clear hb
          cases n with
          | zero =>
            have hl8 : l.length = 8 := by omega
            go_wp2_with fail
            refine (refIs_any b A c L σ4 kwFunc _ H.out.st.1).mono ?_
            rw [HB0.out]
            rintro e w7 ⟨rfl, hb7⟩
            have H7 := hid (H.out.below hb7)
            have hf7 := hid (hfR.out.below hb7 hfR.out.lt)
            clear hb7 H hfR
            have q0 := H7.out.f3.cell 0
            have tl : ((l.length : Int) == 8) = true := by simp; omega
            go_wp2_with fail
            clear q0 tl
            refine (refFail_any b A c L σ4 7 _ H7.out.st.1).mono ?_
            rintro e w8 ⟨rfl, h8⟩
            obtain ⟨le, ee⟩ := σ4
            have hfr := hid (show failR 7 ⟨le, ee⟩ = ⟨le, 7⟩ by
              have h0 : ee = 0 := (isK_ne HB0.out).1
              unfold failR
              simp [h0])
            rw [hfr.out] at h8
            have HneL := hid (show le ≠ [] from isK_l HB0.out)
            have HPg := hid (progR_of (σ0 := σ3) (done := l.map FH.f) (le := le) (ee := 7) (by rw [hneed.out]; exact (HL.out.full HB0.out).trans (by rw [hfr.out])))
            have HPar : Hid (parseR s = ([], (nxt le).line, (nxt le).col, 7)) := hid (par_err HR2.out HPg.out rfl)
            have H8 := hid (H7.out.call h8)
            have hf8 := hid (h8.kept hf7.out (by omega))
            clear h8 H7 hf7 HR2 HPg
            obtain ⟨k2, hk2, hl2, hfp⟩ := H8.out.st.1.at_
            simp only at hl2 hfp
            have hkl2 : k2 < L.length := by
              rcases Nat.lt_or_ge k2 L.length with h | h
              · exact h
              · exact absurd (by rw [← hl2, nxt_end h]) HneL.out
            obtain ⟨a, hAa, hab, -, a2, a3⟩ := H8.out.st.1.arg.cell hkl2
            subst hAa
            rw [← nxt_drop hkl2, hl2] at a2 a3
            obtain ⟨⟨c0, c1, c2⟩, -⟩ := hfp.three
            have hltb := H8.out.st.1.lt
            have hfew := H8.out.st.1.few
            have hna : a.block ≠ w.heap.size := by
              intro hq
              have h1 := a2
              rw [show (a.add (k2 * 4)).block = w.heap.size by rw [add_block]; exact hq] at h1
              rw [hf8.out.cell] at h1
              simp at h1
            have hna2 : w.heap.size ≠ a.block := fun h => hna h.symm
            have hab2 : (a.add (k2 * 4)).block < w8.heap.size := by rw [add_block]; exact hab
            have v0 := hf8.out.cell 0
            have s0 := hf8.out.frozen 0
            have hsz := hf8.out.lt
            have hBX := hid (hB2.out.grown H8.out.st.2 hB2.out.size (fun k hk => by injection hk with hk; omega))
            have HB : Hid (∀ q, Below w.heap.size w ((w8.drewN q).setCell ⟨w.heap.size, 0, none⟩ (.slice none 0 0))) := hid (fun q => (below_drewN hBX.out q).setCell (Nat.le_refl _) _)
            generalize (nxt le).line = ln at *
            generalize (nxt le).col = cl at *
            have hS0 : ((fun w' => Below w.heap.size w w' ∧ w'.cell? ⟨w.heap.size, 0, none⟩ = some (.slice none 0 0) ∧ w'.frozen? ⟨w.heap.size, 0, none⟩ = false ∧ w.heap.size < w'.heap.size ∧ w'.cell? ⟨b, 1, none⟩ = some (.int .i64 (k2 : Int)) ∧ w'.cell? ⟨b, 2, none⟩ = some (.int .i64 7) ∧ w'.cell? ⟨(a.add (k2 * 4)).block, (a.add (k2 * 4)).off + 2, none⟩ = some (.int .i64 (ln : Int)) ∧ w'.cell? ⟨(a.add (k2 * 4)).block, (a.add (k2 * 4)).off + 3, none⟩ = some (.int .i64 (cl : Int))) (w8.drew)) := ⟨below_drewN hBX.out 1, v0, s0, hsz, c1, c2, a2, a3⟩
            have HS0 := hid hS0
            have hSt : ∀ w', (fun w' => Below w.heap.size w w' ∧ w'.cell? ⟨w.heap.size, 0, none⟩ = some (.slice none 0 0) ∧ w'.frozen? ⟨w.heap.size, 0, none⟩ = false ∧ w.heap.size < w'.heap.size ∧ w'.cell? ⟨b, 1, none⟩ = some (.int .i64 (k2 : Int)) ∧ w'.cell? ⟨b, 2, none⟩ = some (.int .i64 7) ∧ w'.cell? ⟨(a.add (k2 * 4)).block, (a.add (k2 * 4)).off + 2, none⟩ = some (.int .i64 (ln : Int)) ∧ w'.cell? ⟨(a.add (k2 * 4)).block, (a.add (k2 * 4)).off + 3, none⟩ = some (.int .i64 (cl : Int))) w' → (fun w' => Below w.heap.size w w' ∧ w'.cell? ⟨w.heap.size, 0, none⟩ = some (.slice none 0 0) ∧ w'.frozen? ⟨w.heap.size, 0, none⟩ = false ∧ w.heap.size < w'.heap.size ∧ w'.cell? ⟨b, 1, none⟩ = some (.int .i64 (k2 : Int)) ∧ w'.cell? ⟨b, 2, none⟩ = some (.int .i64 7) ∧ w'.cell? ⟨(a.add (k2 * 4)).block, (a.add (k2 * 4)).off + 2, none⟩ = some (.int .i64 (ln : Int)) ∧ w'.cell? ⟨(a.add (k2 * 4)).block, (a.add (k2 * 4)).off + 3, none⟩ = some (.int .i64 (cl : Int))) (w'.setCell ⟨w.heap.size, 0, none⟩ (.slice none 0 0)) := by
              rintro w' ⟨h0, h1, h2, h3, h4, h5, h6, h7⟩
              refine ⟨h0.setCell (Nat.le_refl _) _, World.cell?_setCell_same (w := w') (a := ⟨w.heap.size, 0, none⟩) (v := .slice none 0 0) h1, by rw [World.frozen?_setCell]; exact h2, by rw [World.size_setCell]; exact h3, ?_, ?_, ?_, ?_⟩
              · exact (World.cell?_setCell_far _ _ _ _ (by show w.heap.size ≠ b; omega)).trans h4
              · exact (World.cell?_setCell_far _ _ _ _ (by show w.heap.size ≠ b; omega)).trans h5
              · exact (World.cell?_setCell_far _ _ _ _ (by show w.heap.size ≠ (a.add (k2 * 4)).block; rw [add_block]; exact hna2)).trans h6
              · exact (World.cell?_setCell_far _ _ _ _ (by show w.heap.size ≠ (a.add (k2 * 4)).block; rw [add_block]; exact hna2)).trans h7
            have HSt := hid hSt
            clear hl2 hfp hS0 hSt
            go_wp2_with fail
            clear c0 c1 c2 v0 s0 hsz a2 a3
            go_region_held3 (fun w' => Below w.heap.size w w' ∧ w'.cell? ⟨w.heap.size, 0, none⟩ = some (.slice none 0 0) ∧ w'.frozen? ⟨w.heap.size, 0, none⟩ = false ∧ w.heap.size < w'.heap.size ∧ w'.cell? ⟨b, 1, none⟩ = some (.int .i64 (k2 : Int)) ∧ w'.cell? ⟨b, 2, none⟩ = some (.int .i64 7) ∧ w'.cell? ⟨(a.add (k2 * 4)).block, (a.add (k2 * 4)).off + 2, none⟩ = some (.int .i64 (ln : Int)) ∧ w'.cell? ⟨(a.add (k2 * 4)).block, (a.add (k2 * 4)).off + 3, none⟩ = some (.int .i64 (cl : Int)))
              (first | exact HS0.out | exact HSt.out _ (by assumption) | assumption)
              (fail)
            go_wp2_with fail
            rename (Below _ _ _ ∧ _) => hh
            obtain ⟨hB9, v9, s9, hz9, -⟩ := hh
            refine bodyPost_ret (v := .tuple #[.agg #[.slice none 0 0], .int .i64 (ln : Int), .int .i64 (cl : Int), .int .i64 7]) (by simp [results, Tryz.results34, go_sem, v9, s9, hz9]) rfl ?_
            rw [HPar.out]
            exact ⟨⟨none, 0, 0, []⟩, rfl, rfl, pp_nil _ _, hB9⟩
          | succ n =>
            have hl8 : l.length < 8 := by omega
            have tl : ((l.length : Int) == 8) = false := by simp; omega
            go_wp2_with fail
            refine (refIs_any b A c L σ4 kwFunc _ H.out.st.1).mono ?_
            rw [HB0.out]
            rintro e w7 ⟨rfl, hb7⟩
            have H7 := hid (H.out.below hb7)
            have hf7 := hid (hfR.out.below hb7 hfR.out.lt)
            clear hb7 H hfR
            have q0 := H7.out.f3.cell 0
            have hzq := H7.out.f3.lt
            go_wp2_with fail
            have H7d : Hid (Po wp b A c L σ4 (.slice B l.length d) l w7.drew) := hid (H7.out.drewN 1)
            have HCc := hid (fun w' (h' : Rst w' b A c L σ4) => refFunc_any b A c L σ4 w' h' HS.out)
            go_region_law (first
              | (go_simp
                 go_at_call 69
                 go_must (
                 refine (HCc.out _ H7d.out.st.1).mono ?_
                 rintro e w8 ⟨x, he, hxt, hfx, h8⟩
                 unfold agF at he
                 subst he
                 have H8 := hid (H7d.out.call h8)
                 have hf8 := hid (h8.kept (w := w7.drew) hf7.out (by omega))
                 have Hx := hid (FrV.fresh (N := wp.heap.size + 1) (v := .slice B l.length d) hfx H7d.out.size (fun k hk => (H7d.out.own.lt k hk).2))
                 have Hxt := hid hxt
                 have q0 := H8.out.f3.cell 0
                 have hzq := H8.out.f3.lt
                 clear hfx h8 hxt))
              | ((refine step_append_lies _ (by rfl) _ _ 42 (by rfl) (wp.heap.size + 1) 62 i3 _ 2 40 Tryz.underlying42 Hi.out Hz0.out Hz1.out Hz2.out (by rfl) (by decide) (.slice B l.length d) l.length (l.flatMap fhc) (by rfl) (by exact World.ownsRow.alloc H8.out.own _)
                    ⟨_, 0, none⟩ 1 1 (fhc x) (by rfl) rfl (by exact two_new _ _ _ _) (one_two _ _ _ _) (by decide) (by unfold maxLen; omega) (by omega) (by have := H8.out.size; rw [World.size_alloc]; omega) _ rfl ?_)
                 intro g9 cap9 w9 hown9 hgr9 hat9 hlt9
                 obtain ⟨⟨y0, y1, y2⟩, hT9⟩ := Po.push (x := x) H8.out ((Below.refl _ _).alloc (Nat.le_refl _) _) Hx.out hgr9 hown9 hat9
                 have H9 := hid hT9
                 have hne9 : ∀ k, (Value.slice B l.length d).ownBlock = some k → wp.heap.size + 1 ≤ k := fun k hk => (H8.out.own.lt k hk).1
                 have hf9 := hid (((hf8.out.alloc _).grown hgr9 (fun e => by have := hne9 _ e.symm; omega)).far (p := ⟨wp.heap.size, 0, none⟩) (by show w.heap.size ≠ wp.heap.size; omega) (.slice (some ⟨g9, 0, none⟩) (l.length + 1) cap9))
                 clear hown9 hgr9 hat9 hlt9 hT9 hne9))
            all_goals
              clear q0 hzq
              generalize w9.setCell ⟨wp.heap.size, 0, none⟩ (.slice (some ⟨g9, 0, none⟩) (l.length + 1) cap9) = w10 at *
              clear y0 y1 y2
              go_wp2_with fail
              go_roundw
              case rel => exact ⟨l ++ [x], n, (funcR σ4).2, _, H9.out, by have := HL.out.step HB0.out; rw [List.map_append]; rw [← Hxt.out] at this; exact this, hf9.out⟩
              case measure =>
                have q0 := H9.out.f3.cell 0
                rw [Hm.out, lenAt0_of q0]
                omega
    | false =>
      have hneed := hid (show needR (isK kwFunc) ⟨L, 0⟩ = failR 4 ⟨L, 0⟩ by unfold needR; rw [hb0]; rfl)
      clear hb0
      go_wp2_with fail
      refine (refFail_any b A c L ⟨L, 0⟩ 4 _ H5.out.st.1).mono ?_
      rintro e w6 ⟨rfl, h6⟩
      have H6 := hid (H5.out.call h6)
      have hf6 := hid (h6.kept hf5.out (by omega))
      clear h6 H5 hf5
      generalize failR 4 ⟨L, 0⟩ = σ3 at *
      generalize hσ0 : (⟨L, 0⟩ : Rs) = σ0 at *
      clear hσ0
      go_wp2_with fail
      go_loopw [] (fun wr => ∃ (l : List FH) (n : Nat) (σ4 : Rs) (v : Value), Hid (Po wp b A c L σ4 v l wr) ∧ Hid (Lrel (isK kwFunc) funcR 8 σ3 (l.map FH.f) n σ4) ∧ Hid (Fb wr w.heap.size #[.slice none 0 0] 44)) (fun wr => 9 - lenAt0 wp.heap.size wr)
      case atStart => exact ⟨[], 8, σ3, _, H6.out, Lrel.start, hf6.out⟩
      case round =>
        clear H6 hf6
        obtain ⟨l, n, σ4, v, H, HL, hfR⟩ := hrel
        obtain ⟨B, d, hv⟩ := own_any_slice H.out.own
        subst hv
        have hlen : l.length + n = 8 := by have := HL.out.1; simpa using this
        have q0 := H.out.f3.cell 0
        have Hm := hid (lenAt0_of q0)
        clear q0
        cases hb : isK kwFunc σ4 with
        | false =>
          have HB0 := hid hb
          clear hb
          go_wp2_with fail
          refine (refIs_any b A c L σ4 kwFunc _ H.out.st.1).mono ?_
          rw [HB0.out]
          rintro e w7 ⟨rfl, hb7⟩
          have H7 := hid (H.out.below hb7)
          have hf7 := hid (hfR.out.below hb7 hfR.out.lt)
          clear hb7 H hfR
          obtain ⟨le, ee⟩ := σ4
          have HPg := hid (progR_of (σ0 := σ0) (done := l.map FH.f) (le := le) (ee := ee) (by rw [hneed.out]; exact HL.out.stop HB0.out))
          obtain ⟨k, hk, hl, hf⟩ := H7.out.st.1.at_
          simp only at hl hf
          cases hee : (ee == 0) with
          | true =>
            by_cases hkl : k < L.length
            · as_aux_lemma =>
              have HneL := hid (show le ≠ [] by
                  intro h0
                  rw [h0] at hl
                  have h1 := congrArg List.length hl
                  rw [List.length_drop] at h1
                  simp at h1
                  omega)
              have hfr := hid (show failR 4 ⟨le, ee⟩ = ⟨le, 4⟩ by unfold failR; simp [hee])
              have HPar : Hid (parseR s = ([], (nxt le).line, (nxt le).col, 4)) := hid (par_more HR2.out HPg.out hee HneL.out hfr.out)
              obtain ⟨⟨c0, c1, c2⟩, -⟩ := hf.three
              have hfew0 := H7.out.st.1.few
              clear hf hl HR2 HPg
              go_wp2_with fail
              refine (refFail_any b A c L ⟨le, ee⟩ 4 _ H7.out.st.1).mono ?_
              rintro e w8 ⟨rfl, h8⟩
              rw [hfr.out] at h8
              have H8 := hid (H7.out.call h8)
              have hf8 := hid (h8.kept hf7.out (by omega))
              clear h8 H7 hf7 c0 c1 c2 hfew0
              obtain ⟨k2, hk2, hl2, hfp⟩ := H8.out.st.1.at_
              simp only at hl2 hfp
              have hkl2 : k2 < L.length := by
                rcases Nat.lt_or_ge k2 L.length with h | h
                · exact h
                · exact absurd (by rw [← hl2, nxt_end h]) HneL.out
              obtain ⟨a, hAa, hab, -, a2, a3⟩ := H8.out.st.1.arg.cell hkl2
              subst hAa
              rw [← nxt_drop hkl2, hl2] at a2 a3
              obtain ⟨⟨c0, c1, c2⟩, -⟩ := hfp.three
              have hltb := H8.out.st.1.lt
              have hfew := H8.out.st.1.few
              have hna : a.block ≠ w.heap.size := by
                intro hq
                have h1 := a2
                rw [show (a.add (k2 * 4)).block = w.heap.size by rw [add_block]; exact hq] at h1
                rw [hf8.out.cell] at h1
                simp at h1
              have hna2 : w.heap.size ≠ a.block := fun h => hna h.symm
              have hab2 : (a.add (k2 * 4)).block < w8.heap.size := by rw [add_block]; exact hab
              have v0 := hf8.out.cell 0
              have s0 := hf8.out.frozen 0
              have hsz := hf8.out.lt
              have hBX := hid (hB2.out.grown H8.out.st.2 hB2.out.size (fun k hk => by injection hk with hk; omega))
              have HB : Hid (∀ q, Below w.heap.size w ((w8.drewN q).setCell ⟨w.heap.size, 0, none⟩ (.slice none 0 0))) := hid (fun q => (below_drewN hBX.out q).setCell (Nat.le_refl _) _)
              generalize (nxt le).line = ln at *
              generalize (nxt le).col = cl at *
              have hS0 : ((fun w' => Below w.heap.size w w' ∧ w'.cell? ⟨w.heap.size, 0, none⟩ = some (.slice none 0 0) ∧ w'.frozen? ⟨w.heap.size, 0, none⟩ = false ∧ w.heap.size < w'.heap.size ∧ w'.cell? ⟨b, 1, none⟩ = some (.int .i64 (k2 : Int)) ∧ w'.cell? ⟨b, 2, none⟩ = some (.int .i64 4) ∧ w'.cell? ⟨(a.add (k2 * 4)).block, (a.add (k2 * 4)).off + 2, none⟩ = some (.int .i64 (ln : Int)) ∧ w'.cell? ⟨(a.add (k2 * 4)).block, (a.add (k2 * 4)).off + 3, none⟩ = some (.int .i64 (cl : Int))) (w8.drew)) := ⟨below_drewN hBX.out 1, v0, s0, hsz, c1, c2, a2, a3⟩
              have HS0 := hid hS0
              have hSt : ∀ w', (fun w' => Below w.heap.size w w' ∧ w'.cell? ⟨w.heap.size, 0, none⟩ = some (.slice none 0 0) ∧ w'.frozen? ⟨w.heap.size, 0, none⟩ = false ∧ w.heap.size < w'.heap.size ∧ w'.cell? ⟨b, 1, none⟩ = some (.int .i64 (k2 : Int)) ∧ w'.cell? ⟨b, 2, none⟩ = some (.int .i64 4) ∧ w'.cell? ⟨(a.add (k2 * 4)).block, (a.add (k2 * 4)).off + 2, none⟩ = some (.int .i64 (ln : Int)) ∧ w'.cell? ⟨(a.add (k2 * 4)).block, (a.add (k2 * 4)).off + 3, none⟩ = some (.int .i64 (cl : Int))) w' → (fun w' => Below w.heap.size w w' ∧ w'.cell? ⟨w.heap.size, 0, none⟩ = some (.slice none 0 0) ∧ w'.frozen? ⟨w.heap.size, 0, none⟩ = false ∧ w.heap.size < w'.heap.size ∧ w'.cell? ⟨b, 1, none⟩ = some (.int .i64 (k2 : Int)) ∧ w'.cell? ⟨b, 2, none⟩ = some (.int .i64 4) ∧ w'.cell? ⟨(a.add (k2 * 4)).block, (a.add (k2 * 4)).off + 2, none⟩ = some (.int .i64 (ln : Int)) ∧ w'.cell? ⟨(a.add (k2 * 4)).block, (a.add (k2 * 4)).off + 3, none⟩ = some (.int .i64 (cl : Int))) (w'.setCell ⟨w.heap.size, 0, none⟩ (.slice none 0 0)) := by
                rintro w' ⟨h0, h1, h2, h3, h4, h5, h6, h7⟩
                refine ⟨h0.setCell (Nat.le_refl _) _, World.cell?_setCell_same (w := w') (a := ⟨w.heap.size, 0, none⟩) (v := .slice none 0 0) h1, by rw [World.frozen?_setCell]; exact h2, by rw [World.size_setCell]; exact h3, ?_, ?_, ?_, ?_⟩
                · exact (World.cell?_setCell_far _ _ _ _ (by show w.heap.size ≠ b; omega)).trans h4
                · exact (World.cell?_setCell_far _ _ _ _ (by show w.heap.size ≠ b; omega)).trans h5
                · exact (World.cell?_setCell_far _ _ _ _ (by show w.heap.size ≠ (a.add (k2 * 4)).block; rw [add_block]; exact hna2)).trans h6
                · exact (World.cell?_setCell_far _ _ _ _ (by show w.heap.size ≠ (a.add (k2 * 4)).block; rw [add_block]; exact hna2)).trans h7
              have HSt := hid hSt
              clear hl2 hfp hS0 hSt
              go_wp2_with fail
              clear c0 c1 c2 v0 s0 hsz a2 a3
              go_region_held3 (fun w' => Below w.heap.size w w' ∧ w'.cell? ⟨w.heap.size, 0, none⟩ = some (.slice none 0 0) ∧ w'.frozen? ⟨w.heap.size, 0, none⟩ = false ∧ w.heap.size < w'.heap.size ∧ w'.cell? ⟨b, 1, none⟩ = some (.int .i64 (k2 : Int)) ∧ w'.cell? ⟨b, 2, none⟩ = some (.int .i64 4) ∧ w'.cell? ⟨(a.add (k2 * 4)).block, (a.add (k2 * 4)).off + 2, none⟩ = some (.int .i64 (ln : Int)) ∧ w'.cell? ⟨(a.add (k2 * 4)).block, (a.add (k2 * 4)).off + 3, none⟩ = some (.int .i64 (cl : Int)))
                (first | exact HS0.out | exact HSt.out _ (by assumption) | assumption)
                (fail)
              go_wp2_with fail
              rename (Below _ _ _ ∧ _) => hh
              obtain ⟨hB9, v9, s9, hz9, -⟩ := hh
              refine bodyPost_ret (v := .tuple #[.agg #[.slice none 0 0], .int .i64 (ln : Int), .int .i64 (cl : Int), .int .i64 4]) (by simp [results, Tryz.results34, go_sem, v9, s9, hz9]) rfl ?_
              rw [HPar.out]
              exact ⟨⟨none, 0, 0, []⟩, rfl, rfl, pp_nil _ _, hB9⟩
            · as_aux_lemma =>
              have hle : le = [] := by rw [← hl, nxt_end (by omega)]
              have hkL : k = L.length := by omega
              have HPar : Hid (parseR s = (l.map FH.f, 0, 0, 0)) := hid (par_end HR2.out HPg.out hee hle)
              subst hkL
              clear hl HR2 HPg hkl
              obtain ⟨⟨c0, c1, c2⟩, -⟩ := hf.three
              have hltb := H7.out.st.1.lt
              have v0 := hf7.out.cell 0
              have s0 := hf7.out.frozen 0
              have hsz := hf7.out.lt
              have k0 := H7.out.f3.cell 0
              have hszX := H7.out.f3.lt
              have hBX := hid (hB2.out.grown H7.out.st.2 hB2.out.size (fun k hk => by injection hk with hk; omega))
              have HB : Hid (Below w.heap.size w (w7.setCell ⟨w.heap.size, 0, none⟩ (.slice B l.length d))) := hid (hBX.out.setCell (Nat.le_refl _) _)
              have Hpp := hid (show Fr w.heap.size (PP ⟨B, l.length, d, l⟩) (w7.setCell ⟨w.heap.size, 0, none⟩ (.slice B l.length d)) from Fr.less (M := w.heap.size) (Fr.grown (fun h hg => PP.go h hg) (H7.out.pp (by omega)) (setCell_grown w7 ⟨w.heap.size, 0, none⟩ _) (fun k hk => by injection hk with hk; have : w.heap.size = k := hk; omega)) (by omega))
              clear hf
              go_wp2_with fail
              refine bodyPost_ret (v := .tuple #[.agg #[.slice B l.length d], .int .i64 0, .int .i64 0, .int .i64 0]) (by simp [results, Tryz.results34, go_sem, v0, s0, hsz]) rfl ?_
              rw [HPar.out]
              exact ⟨⟨B, l.length, d, l⟩, rfl, rfl, Hpp.out, HB.out⟩
          | false =>
            have HPar0 : Hid (parseR s = ([], (nxt le).line, (nxt le).col, ee)) := hid (par_err HR2.out HPg.out hee)
            by_cases hkl : k < L.length
            · as_aux_lemma =>
              have HneL := hid (show le ≠ [] by
                  intro h0
                  rw [h0] at hl
                  have h1 := congrArg List.length hl
                  rw [List.length_drop] at h1
                  simp at h1
                  omega)
              have HPar := HPar0
              clear HPar0 hf hl HR2 HPg
              obtain ⟨k2, hk2, hl2, hfp⟩ := H7.out.st.1.at_
              simp only at hl2 hfp
              have hkl2 : k2 < L.length := by
                rcases Nat.lt_or_ge k2 L.length with h | h
                · exact h
                · exact absurd (by rw [← hl2, nxt_end h]) HneL.out
              obtain ⟨a, hAa, hab, -, a2, a3⟩ := H7.out.st.1.arg.cell hkl2
              subst hAa
              rw [← nxt_drop hkl2, hl2] at a2 a3
              obtain ⟨⟨c0, c1, c2⟩, -⟩ := hfp.three
              have hltb := H7.out.st.1.lt
              have hfew := H7.out.st.1.few
              have hna : a.block ≠ w.heap.size := by
                intro hq
                have h1 := a2
                rw [show (a.add (k2 * 4)).block = w.heap.size by rw [add_block]; exact hq] at h1
                rw [hf7.out.cell] at h1
                simp at h1
              have hna2 : w.heap.size ≠ a.block := fun h => hna h.symm
              have hab2 : (a.add (k2 * 4)).block < w7.heap.size := by rw [add_block]; exact hab
              have v0 := hf7.out.cell 0
              have s0 := hf7.out.frozen 0
              have hsz := hf7.out.lt
              have hBX := hid (hB2.out.grown H7.out.st.2 hB2.out.size (fun k hk => by injection hk with hk; omega))
              have HB : Hid (∀ q, Below w.heap.size w ((w7.drewN q).setCell ⟨w.heap.size, 0, none⟩ (.slice none 0 0))) := hid (fun q => (below_drewN hBX.out q).setCell (Nat.le_refl _) _)
              generalize (nxt le).line = ln at *
              generalize (nxt le).col = cl at *
              have hS0 : ((fun w' => Below w.heap.size w w' ∧ w'.cell? ⟨w.heap.size, 0, none⟩ = some (.slice none 0 0) ∧ w'.frozen? ⟨w.heap.size, 0, none⟩ = false ∧ w.heap.size < w'.heap.size ∧ w'.cell? ⟨b, 1, none⟩ = some (.int .i64 (k2 : Int)) ∧ w'.cell? ⟨b, 2, none⟩ = some (.int .i64 ee) ∧ w'.cell? ⟨(a.add (k2 * 4)).block, (a.add (k2 * 4)).off + 2, none⟩ = some (.int .i64 (ln : Int)) ∧ w'.cell? ⟨(a.add (k2 * 4)).block, (a.add (k2 * 4)).off + 3, none⟩ = some (.int .i64 (cl : Int))) (w7.drew)) := ⟨below_drewN hBX.out 1, v0, s0, hsz, c1, c2, a2, a3⟩
              have HS0 := hid hS0
              have hSt : ∀ w', (fun w' => Below w.heap.size w w' ∧ w'.cell? ⟨w.heap.size, 0, none⟩ = some (.slice none 0 0) ∧ w'.frozen? ⟨w.heap.size, 0, none⟩ = false ∧ w.heap.size < w'.heap.size ∧ w'.cell? ⟨b, 1, none⟩ = some (.int .i64 (k2 : Int)) ∧ w'.cell? ⟨b, 2, none⟩ = some (.int .i64 ee) ∧ w'.cell? ⟨(a.add (k2 * 4)).block, (a.add (k2 * 4)).off + 2, none⟩ = some (.int .i64 (ln : Int)) ∧ w'.cell? ⟨(a.add (k2 * 4)).block, (a.add (k2 * 4)).off + 3, none⟩ = some (.int .i64 (cl : Int))) w' → (fun w' => Below w.heap.size w w' ∧ w'.cell? ⟨w.heap.size, 0, none⟩ = some (.slice none 0 0) ∧ w'.frozen? ⟨w.heap.size, 0, none⟩ = false ∧ w.heap.size < w'.heap.size ∧ w'.cell? ⟨b, 1, none⟩ = some (.int .i64 (k2 : Int)) ∧ w'.cell? ⟨b, 2, none⟩ = some (.int .i64 ee) ∧ w'.cell? ⟨(a.add (k2 * 4)).block, (a.add (k2 * 4)).off + 2, none⟩ = some (.int .i64 (ln : Int)) ∧ w'.cell? ⟨(a.add (k2 * 4)).block, (a.add (k2 * 4)).off + 3, none⟩ = some (.int .i64 (cl : Int))) (w'.setCell ⟨w.heap.size, 0, none⟩ (.slice none 0 0)) := by
                rintro w' ⟨h0, h1, h2, h3, h4, h5, h6, h7⟩
                refine ⟨h0.setCell (Nat.le_refl _) _, World.cell?_setCell_same (w := w') (a := ⟨w.heap.size, 0, none⟩) (v := .slice none 0 0) h1, by rw [World.frozen?_setCell]; exact h2, by rw [World.size_setCell]; exact h3, ?_, ?_, ?_, ?_⟩
                · exact (World.cell?_setCell_far _ _ _ _ (by show w.heap.size ≠ b; omega)).trans h4
                · exact (World.cell?_setCell_far _ _ _ _ (by show w.heap.size ≠ b; omega)).trans h5
                · exact (World.cell?_setCell_far _ _ _ _ (by show w.heap.size ≠ (a.add (k2 * 4)).block; rw [add_block]; exact hna2)).trans h6
                · exact (World.cell?_setCell_far _ _ _ _ (by show w.heap.size ≠ (a.add (k2 * 4)).block; rw [add_block]; exact hna2)).trans h7
              have HSt := hid hSt
              clear hl2 hfp hS0 hSt
              go_wp2_with fail
              clear c0 c1 c2 v0 s0 hsz a2 a3
              go_region_held3 (fun w' => Below w.heap.size w w' ∧ w'.cell? ⟨w.heap.size, 0, none⟩ = some (.slice none 0 0) ∧ w'.frozen? ⟨w.heap.size, 0, none⟩ = false ∧ w.heap.size < w'.heap.size ∧ w'.cell? ⟨b, 1, none⟩ = some (.int .i64 (k2 : Int)) ∧ w'.cell? ⟨b, 2, none⟩ = some (.int .i64 ee) ∧ w'.cell? ⟨(a.add (k2 * 4)).block, (a.add (k2 * 4)).off + 2, none⟩ = some (.int .i64 (ln : Int)) ∧ w'.cell? ⟨(a.add (k2 * 4)).block, (a.add (k2 * 4)).off + 3, none⟩ = some (.int .i64 (cl : Int)))
                (first | exact HS0.out | exact HSt.out _ (by assumption) | assumption)
                (fail)
              go_wp2_with fail
              rename (Below _ _ _ ∧ _) => hh
              obtain ⟨hB9, v9, s9, hz9, -⟩ := hh
              refine bodyPost_ret (v := .tuple #[.agg #[.slice none 0 0], .int .i64 (ln : Int), .int .i64 (cl : Int), .int .i64 ee]) (by simp [results, Tryz.results34, go_sem, v9, s9, hz9]) rfl ?_
              rw [HPar.out]
              exact ⟨⟨none, 0, 0, []⟩, rfl, rfl, pp_nil _ _, hB9⟩
            · as_aux_lemma =>
              have hle : le = [] := by rw [← hl, nxt_end (by omega)]
              have hkL : k = L.length := by omega
              have HPar : Hid (parseR s = ([], 0, 0, ee)) := hid (by rw [HPar0.out, hle]; rfl)
              subst hkL
              clear HPar0 hl HR2 HPg hkl
              obtain ⟨⟨c0, c1, c2⟩, -⟩ := hf.three
              have hltb := H7.out.st.1.lt
              have v0 := hf7.out.cell 0
              have s0 := hf7.out.frozen 0
              have hsz := hf7.out.lt
              have hBX := hid (hB2.out.grown H7.out.st.2 hB2.out.size (fun k hk => by injection hk with hk; omega))
              have HB : Hid (∀ q, Below w.heap.size w ((w7.drewN q).setCell ⟨w.heap.size, 0, none⟩ (.slice none 0 0))) := hid (fun q => (below_drewN hBX.out q).setCell (Nat.le_refl _) _)
              clear hf
              go_wp2_with fail
              go_region_law (fail)
              all_goals
                go_wp2_with fail
                refine bodyPost_ret (v := .tuple #[.agg #[.slice none 0 0], .int .i64 0, .int .i64 0, .int .i64 ee]) (by simp [results, Tryz.results34, go_sem, v0, s0, hsz]) rfl ?_
                rw [HPar.out]
                exact ⟨⟨none, 0, 0, []⟩, rfl, rfl, pp_nil _ _, HB.out 1⟩
        | true =>
          have HB0 := hid hb
          clear hb
          cases n with
          | zero =>
            have hl8 : l.length = 8 := by omega
            go_wp2_with fail
            refine (refIs_any b A c L σ4 kwFunc _ H.out.st.1).mono ?_
            rw [HB0.out]
            rintro e w7 ⟨rfl, hb7⟩
            have H7 := hid (H.out.below hb7)
            have hf7 := hid (hfR.out.below hb7 hfR.out.lt)
            clear hb7 H hfR
            have q0 := H7.out.f3.cell 0
            have tl : ((l.length : Int) == 8) = true := by simp; omega
            go_wp2_with fail
            clear q0 tl
            refine (refFail_any b A c L σ4 7 _ H7.out.st.1).mono ?_
            rintro e w8 ⟨rfl, h8⟩
            obtain ⟨le, ee⟩ := σ4
            have hfr := hid (show failR 7 ⟨le, ee⟩ = ⟨le, 7⟩ by
              have h0 : ee = 0 := (isK_ne HB0.out).1
              unfold failR
              simp [h0])
            rw [hfr.out] at h8
            have HneL := hid (show le ≠ [] from isK_l HB0.out)
            have HPg := hid (progR_of (σ0 := σ0) (done := l.map FH.f) (le := le) (ee := 7) (by rw [hneed.out]; exact (HL.out.full HB0.out).trans (by rw [hfr.out])))
            have HPar : Hid (parseR s = ([], (nxt le).line, (nxt le).col, 7)) := hid (par_err HR2.out HPg.out rfl)
            have H8 := hid (H7.out.call h8)
            have hf8 := hid (h8.kept hf7.out (by omega))
            clear h8 H7 hf7 HR2 HPg
            obtain ⟨k2, hk2, hl2, hfp⟩ := H8.out.st.1.at_
            simp only at hl2 hfp
            have hkl2 : k2 < L.length := by
              rcases Nat.lt_or_ge k2 L.length with h | h
              · exact h
              · exact absurd (by rw [← hl2, nxt_end h]) HneL.out
            obtain ⟨a, hAa, hab, -, a2, a3⟩ := H8.out.st.1.arg.cell hkl2
            subst hAa
            rw [← nxt_drop hkl2, hl2] at a2 a3
            obtain ⟨⟨c0, c1, c2⟩, -⟩ := hfp.three
            have hltb := H8.out.st.1.lt
            have hfew := H8.out.st.1.few
            have hna : a.block ≠ w.heap.size := by
              intro hq
              have h1 := a2
              rw [show (a.add (k2 * 4)).block = w.heap.size by rw [add_block]; exact hq] at h1
              rw [hf8.out.cell] at h1
              simp at h1
            have hna2 : w.heap.size ≠ a.block := fun h => hna h.symm
            have hab2 : (a.add (k2 * 4)).block < w8.heap.size := by rw [add_block]; exact hab
            have v0 := hf8.out.cell 0
            have s0 := hf8.out.frozen 0
            have hsz := hf8.out.lt
            have hBX := hid (hB2.out.grown H8.out.st.2 hB2.out.size (fun k hk => by injection hk with hk; omega))
            have HB : Hid (∀ q, Below w.heap.size w ((w8.drewN q).setCell ⟨w.heap.size, 0, none⟩ (.slice none 0 0))) := hid (fun q => (below_drewN hBX.out q).setCell (Nat.le_refl _) _)
            generalize (nxt le).line = ln at *
            generalize (nxt le).col = cl at *
            have hS0 : ((fun w' => Below w.heap.size w w' ∧ w'.cell? ⟨w.heap.size, 0, none⟩ = some (.slice none 0 0) ∧ w'.frozen? ⟨w.heap.size, 0, none⟩ = false ∧ w.heap.size < w'.heap.size ∧ w'.cell? ⟨b, 1, none⟩ = some (.int .i64 (k2 : Int)) ∧ w'.cell? ⟨b, 2, none⟩ = some (.int .i64 7) ∧ w'.cell? ⟨(a.add (k2 * 4)).block, (a.add (k2 * 4)).off + 2, none⟩ = some (.int .i64 (ln : Int)) ∧ w'.cell? ⟨(a.add (k2 * 4)).block, (a.add (k2 * 4)).off + 3, none⟩ = some (.int .i64 (cl : Int))) (w8.drew)) := ⟨below_drewN hBX.out 1, v0, s0, hsz, c1, c2, a2, a3⟩
            have HS0 := hid hS0
            have hSt : ∀ w', (fun w' => Below w.heap.size w w' ∧ w'.cell? ⟨w.heap.size, 0, none⟩ = some (.slice none 0 0) ∧ w'.frozen? ⟨w.heap.size, 0, none⟩ = false ∧ w.heap.size < w'.heap.size ∧ w'.cell? ⟨b, 1, none⟩ = some (.int .i64 (k2 : Int)) ∧ w'.cell? ⟨b, 2, none⟩ = some (.int .i64 7) ∧ w'.cell? ⟨(a.add (k2 * 4)).block, (a.add (k2 * 4)).off + 2, none⟩ = some (.int .i64 (ln : Int)) ∧ w'.cell? ⟨(a.add (k2 * 4)).block, (a.add (k2 * 4)).off + 3, none⟩ = some (.int .i64 (cl : Int))) w' → (fun w' => Below w.heap.size w w' ∧ w'.cell? ⟨w.heap.size, 0, none⟩ = some (.slice none 0 0) ∧ w'.frozen? ⟨w.heap.size, 0, none⟩ = false ∧ w.heap.size < w'.heap.size ∧ w'.cell? ⟨b, 1, none⟩ = some (.int .i64 (k2 : Int)) ∧ w'.cell? ⟨b, 2, none⟩ = some (.int .i64 7) ∧ w'.cell? ⟨(a.add (k2 * 4)).block, (a.add (k2 * 4)).off + 2, none⟩ = some (.int .i64 (ln : Int)) ∧ w'.cell? ⟨(a.add (k2 * 4)).block, (a.add (k2 * 4)).off + 3, none⟩ = some (.int .i64 (cl : Int))) (w'.setCell ⟨w.heap.size, 0, none⟩ (.slice none 0 0)) := by
              rintro w' ⟨h0, h1, h2, h3, h4, h5, h6, h7⟩
              refine ⟨h0.setCell (Nat.le_refl _) _, World.cell?_setCell_same (w := w') (a := ⟨w.heap.size, 0, none⟩) (v := .slice none 0 0) h1, by rw [World.frozen?_setCell]; exact h2, by rw [World.size_setCell]; exact h3, ?_, ?_, ?_, ?_⟩
              · exact (World.cell?_setCell_far _ _ _ _ (by show w.heap.size ≠ b; omega)).trans h4
              · exact (World.cell?_setCell_far _ _ _ _ (by show w.heap.size ≠ b; omega)).trans h5
              · exact (World.cell?_setCell_far _ _ _ _ (by show w.heap.size ≠ (a.add (k2 * 4)).block; rw [add_block]; exact hna2)).trans h6
              · exact (World.cell?_setCell_far _ _ _ _ (by show w.heap.size ≠ (a.add (k2 * 4)).block; rw [add_block]; exact hna2)).trans h7
            have HSt := hid hSt
            clear hl2 hfp hS0 hSt
            go_wp2_with fail
            clear c0 c1 c2 v0 s0 hsz a2 a3
            go_region_held3 (fun w' => Below w.heap.size w w' ∧ w'.cell? ⟨w.heap.size, 0, none⟩ = some (.slice none 0 0) ∧ w'.frozen? ⟨w.heap.size, 0, none⟩ = false ∧ w.heap.size < w'.heap.size ∧ w'.cell? ⟨b, 1, none⟩ = some (.int .i64 (k2 : Int)) ∧ w'.cell? ⟨b, 2, none⟩ = some (.int .i64 7) ∧ w'.cell? ⟨(a.add (k2 * 4)).block, (a.add (k2 * 4)).off + 2, none⟩ = some (.int .i64 (ln : Int)) ∧ w'.cell? ⟨(a.add (k2 * 4)).block, (a.add (k2 * 4)).off + 3, none⟩ = some (.int .i64 (cl : Int)))
              (first | exact HS0.out | exact HSt.out _ (by assumption) | assumption)
              (fail)
            go_wp2_with fail
            rename (Below _ _ _ ∧ _) => hh
            obtain ⟨hB9, v9, s9, hz9, -⟩ := hh
            refine bodyPost_ret (v := .tuple #[.agg #[.slice none 0 0], .int .i64 (ln : Int), .int .i64 (cl : Int), .int .i64 7]) (by simp [results, Tryz.results34, go_sem, v9, s9, hz9]) rfl ?_
            rw [HPar.out]
            exact ⟨⟨none, 0, 0, []⟩, rfl, rfl, pp_nil _ _, hB9⟩
          | succ n =>
            have hl8 : l.length < 8 := by omega
            have tl : ((l.length : Int) == 8) = false := by simp; omega
            go_wp2_with fail
            refine (refIs_any b A c L σ4 kwFunc _ H.out.st.1).mono ?_
            rw [HB0.out]
            rintro e w7 ⟨rfl, hb7⟩
            have H7 := hid (H.out.below hb7)
            have hf7 := hid (hfR.out.below hb7 hfR.out.lt)
            clear hb7 H hfR
            have q0 := H7.out.f3.cell 0
            have hzq := H7.out.f3.lt
            go_wp2_with fail
            have H7d : Hid (Po wp b A c L σ4 (.slice B l.length d) l w7.drew) := hid (H7.out.drewN 1)
            have HCc := hid (fun w' (h' : Rst w' b A c L σ4) => refFunc_any b A c L σ4 w' h' HS.out)
            go_region_law (first
              | (go_simp
                 go_at_call 69
                 go_must (
                 refine (HCc.out _ H7d.out.st.1).mono ?_
                 rintro e w8 ⟨x, he, hxt, hfx, h8⟩
                 unfold agF at he
                 subst he
                 have H8 := hid (H7d.out.call h8)
                 have hf8 := hid (h8.kept (w := w7.drew) hf7.out (by omega))
                 have Hx := hid (FrV.fresh (N := wp.heap.size + 1) (v := .slice B l.length d) hfx H7d.out.size (fun k hk => (H7d.out.own.lt k hk).2))
                 have Hxt := hid hxt
                 have q0 := H8.out.f3.cell 0
                 have hzq := H8.out.f3.lt
                 clear hfx h8 hxt))
              | ((refine step_append_lies _ (by rfl) _ _ 42 (by rfl) (wp.heap.size + 1) 62 i3 _ 2 40 Tryz.underlying42 Hi.out Hz0.out Hz1.out Hz2.out (by rfl) (by decide) (.slice B l.length d) l.length (l.flatMap fhc) (by rfl) (by exact World.ownsRow.alloc H8.out.own _)
                    ⟨_, 0, none⟩ 1 1 (fhc x) (by rfl) rfl (by exact two_new _ _ _ _) (one_two _ _ _ _) (by decide) (by unfold maxLen; omega) (by omega) (by have := H8.out.size; rw [World.size_alloc]; omega) _ rfl ?_)
                 intro g9 cap9 w9 hown9 hgr9 hat9 hlt9
                 obtain ⟨⟨y0, y1, y2⟩, hT9⟩ := Po.push (x := x) H8.out ((Below.refl _ _).alloc (Nat.le_refl _) _) Hx.out hgr9 hown9 hat9
                 have H9 := hid hT9
                 have hne9 : ∀ k, (Value.slice B l.length d).ownBlock = some k → wp.heap.size + 1 ≤ k := fun k hk => (H8.out.own.lt k hk).1
                 have hf9 := hid (((hf8.out.alloc _).grown hgr9 (fun e => by have := hne9 _ e.symm; omega)).far (p := ⟨wp.heap.size, 0, none⟩) (by show w.heap.size ≠ wp.heap.size; omega) (.slice (some ⟨g9, 0, none⟩) (l.length + 1) cap9))
                 clear hown9 hgr9 hat9 hlt9 hT9 hne9))
            all_goals
              clear q0 hzq
              generalize w9.setCell ⟨wp.heap.size, 0, none⟩ (.slice (some ⟨g9, 0, none⟩) (l.length + 1) cap9) = w10 at *
              clear y0 y1 y2
              go_wp2_with fail
              go_roundw
              case rel => exact ⟨l ++ [x], n, (funcR σ4).2, _, H9.out, by have := HL.out.step HB0.out; rw [List.map_append]; rw [← Hxt.out] at this; exact this, hf9.out⟩
              case measure =>
                have q0 := H9.out.f3.cell 0
                rw [Hm.out, lenAt0_of q0]
                omega
end Go.Proofs.YtfapgnbnfhpicaaGreatDoor

namespace Go.Proofs.YtfapgnbnfhpicaaGreatDoor
set_option maxRecDepth 100000
set_option linter.unusedVariables false
set_option linter.unusedSimpArgs false
open Go.ChangeShapes Go.WideShapes Go.ChangeAt Go.RowKit

def s8T : ByteArray := ⟨#[102, 117, 110, 99, 32, 109, 59, 32, 98, 108, 111, 99, 107, 32, 98, 59, 32, 98, 114, 97, 110, 99, 104, 32, 120, 32, 98, 32, 98, 59, 32, 101, 110, 100]⟩
def s8P : List Fnc := [⟨⟨#[109]⟩, [⟨⟨#[98]⟩, [⟨8, noB, [⟨#[120]⟩], [⟨#[98]⟩, ⟨#[98]⟩]⟩]⟩]⟩]
theorem s8_parse : parseS s8T = (s8P, 0, 0, 0) := by kernel_rfl
theorem s8_ok : (checkP s8P).2 = 0 := by kernel_rfl
theorem s8_S : sucL s8P = [[1], [1], []] := by kernel_rfl
theorem s8_P : revL (listN s8P).length (sucL s8P) = [[], [0, 1], []] := by kernel_rfl
theorem s8_N : (listN s8P).length = 3 := by kernel_rfl
theorem s8_E : edgN 3 [[1], [1], []] [[], [0, 1], []] = 2 := by kernel_rfl
theorem LH.three {x : LH} {a b c : List Int} (h : x.v = [a, b, c]) : ∃ r0 r1 r2 : RH, x.l = [r0, r1, r2] ∧ r0.l = a ∧ r1.l = b ∧ r2.l = c := by
  unfold LH.v at h
  rcases hl : x.l with _ | ⟨r0, _ | ⟨r1, _ | ⟨r2, _ | ⟨r3, l⟩⟩⟩⟩ <;> rw [hl] at h <;> simp at h
  exact ⟨r0, r1, r2, rfl, h.1, h.2.1, h.2.2⟩
theorem lit_row (w : World) (cs : Array Value) (l : List Int) (n : Nat) (hc : cs = (ints l).toArray) (hn : l.length = n) (hf : n ≤ 1000) : RHok (w.alloc (.cells cs 3)) [] ⟨some ⟨w.heap.size, 0, none⟩, n, n, l⟩ :=
  ⟨EAt.fb (Fb.new w cs 3) (by simp) (fun j u hu => by subst hc; simpa using hu), hn, by show n ≤ _; omega⟩
theorem LHok.cell_of {w : World} {ex : List (Option Nat)} {x : LH} (h : LHok w ex x) {ad : Addr} (hA : x.A = some ad) {i : Nat} {y : RH} (hi : x.l[i]? = some y) : w.cell? (ad.add i) = some (.slice y.A y.n y.c) ∧ ad.block < w.heap.size := by
  obtain ⟨ad2, h1, h2, h3⟩ := h.cell hi
  obtain rfl := Option.some.inj (hA.symm.trans h1)
  exact ⟨h3, h2⟩
theorem add_zero2 (ad : Addr) : ad.add 0 = ad := by unfold Addr.add; simp
theorem lit_row2 (w : World) (cs : Array Value) (l : List Int) (n b : Nat) (hb : b = w.heap.size) (hc : cs = (ints l).toArray) (hn : l.length = n) (hf : n ≤ 1000) : RHok (w.alloc (.cells cs 3)) [] ⟨some ⟨b, 0, none⟩, n, n, l⟩ := by subst hb; exact lit_row w cs l n hc hn hf
/-- What stands while the examples are asked. -/
structure Sw (w : World) (G : Nat) (y : GH) (v : World) : Prop where
  bel : Below w.heap.size w v
  box : Fb v G #[.slice y.A y.n y.c, .slice y.S.A y.S.n y.S.c, .slice y.P.A y.P.n y.P.c] 28
  g : GHok v [] y
theorem Sw.below {w v v' : World} {G : Nat} {y : GH} (h : Sw w G y v) (hb : Below v.heap.size v v') : Sw w G y v' := ⟨below_step h.bel hb, h.box.below hb h.box.lt, h.g.below hb⟩
set_option maxHeartbeats 6400000 in
theorem sane8_any (w : World) (hsh : Shp w) : Calls Tryz.prog 14 #[] w fun e w' => e = .returned (.bool true) ∧ Below w.heap.size w w' := by
  have hs : s8T.size ≤ maxLen := by have : s8T.size ≤ 100 := by decide
                                    unfold maxLen; omega
  have Hs := hid hs
  have HS := hid hsh
  clear hs hsh
  go_enter Tryz.func14, Tryz.ntmps14
  go_wp2_with fail
  refine (refParse_any s8T _ Hs.out).mono ?_
  rw [← parse_same, s8_parse]
  rintro e w1 ⟨x, rfl, hx, hp, hb⟩
  have ha := (Below.refl w1.heap.size w1).alloc (Nat.le_refl _) (.cells #[.slice x.A x.n x.c] 44)
  have hb2 := below_step hb ha
  have HX := hid (PHok.below (hp [] (by simp)) ha)
  have HB1 := hid hb2
  have HS1 := hid (HS.out.keep (hb2.block 1 HS.out.pos0))
  have HM1 := hid (Fb.new w1 #[.slice x.A x.n x.c] 44)
  have HBd := hid (fun (v : World) (h : PHok v [] x) (hs : Shp v) => build_yes x [] v h hs (by rw [hx]; exact s8_ok))
  have e1 : listN x.p = listN s8P := by rw [hx]
  have e2 : sucL x.p = sucL s8P := by rw [hx]
  rw [e1, e2, s8_S, show revL (listN s8P).length [[1], [1], []] = [[], [0, 1], []] from by rw [← s8_S]; exact s8_P] at HBd
  clear hb ha hb2 hp hx HS e1 e2
  have b0 := HM1.out.onec
  have hl := HM1.out.lt
  simp only
  go_wp2_with fail
  clear b0 hl
  refine (HBd.out _ HX.out HS1.out).mono ?_
  rintro e w2 ⟨y, rfl, hyn, hyS, hyP, hyok, hb⟩
  have ha := (Below.refl w2.heap.size w2).alloc (Nat.le_refl _) (.cells #[.slice y.A y.n y.c, .slice y.S.A y.S.n y.S.c, .slice y.P.A y.P.n y.P.c] 28)
  have HW := hid (show Sw w w2.heap.size y (w2.alloc (.cells #[.slice y.A y.n y.c, .slice y.S.A y.S.n y.S.c, .slice y.P.A y.P.n y.P.c] 28)) from ⟨below_step HB1.out (below_step hb ha), Fb.new _ _ _, (hyok [] (by simp)).below ha⟩)
  have hn3 : y.n = 3 := by rw [← (hyok [] (by simp)).len, hyn]; exact s8_N
  obtain ⟨r0, r1, r2, hr, hr0, hr1, hr2⟩ := LH.three hyS
  obtain ⟨q0, q1, q2, hq, hq0, hq1, hq2⟩ := LH.three hyP
  have hsn : y.S.n = 3 := by rw [← (hyok [] (by simp)).s.len, hr]; rfl
  have hpn : y.P.n = 3 := by rw [← (hyok [] (by simp)).p.len, hq]; rfl
  obtain ⟨adS, hAS, -, -⟩ := (hyok [] (by simp)).s.cell (i := 0) (y := r0) (by rw [hr]; rfl)
  obtain ⟨adP, hAP, -, -⟩ := (hyok [] (by simp)).p.cell (i := 1) (y := q1) (by rw [hq]; rfl)
  have hl2 : r2.n = 0 := by rw [← ((hyok [] (by simp)).s.all r2 (by rw [hr]; simp)).len, hr2]; rfl
  have HF := hid (fun (v : World) (h : Sw w w2.heap.size y v) => show ((v.cell? ⟨w2.heap.size, 0, none⟩ = some (.slice y.A 3 y.c) ∧ v.cell? ⟨w2.heap.size, 1, none⟩ = some (.slice (some adS) 3 y.S.c) ∧ v.cell? ⟨w2.heap.size, 2, none⟩ = some (.slice (some adP) 3 y.P.c)) ∧
    (v.cell? adS = some (.slice r0.A r0.n r0.c) ∧ v.cell? ⟨adS.block, adS.off + 1, none⟩ = some (.slice r1.A r1.n r1.c) ∧ v.cell? ⟨adS.block, adS.off + 2, none⟩ = some (.slice r2.A 0 r2.c) ∧ v.cell? ⟨adP.block, adP.off + 1, none⟩ = some (.slice q1.A q1.n q1.c))) ∧ (w2.heap.size < v.heap.size ∧ adS.block < v.heap.size ∧ adP.block < v.heap.size) from by
    obtain ⟨c0, c1, c2⟩ := h.box.thr
    rw [hn3] at c0
    rw [hAS, hsn] at c1
    rw [hAP, hpn] at c2
    obtain ⟨d0, e0⟩ := h.g.s.cell_of hAS (i := 0) (y := r0) (by rw [hr]; rfl)
    obtain ⟨d1, -⟩ := h.g.s.cell_of hAS (i := 1) (y := r1) (by rw [hr]; rfl)
    obtain ⟨d2, -⟩ := h.g.s.cell_of hAS (i := 2) (y := r2) (by rw [hr]; rfl)
    obtain ⟨d3, e3⟩ := h.g.p.cell_of hAP (i := 1) (y := q1) (by rw [hq]; rfl)
    rw [add_zero2] at d0
    rw [hl2] at d2
    exact ⟨⟨⟨c0, c1, c2⟩, d0, d1, d2, d3⟩, h.box.lt, e0, e3⟩)
  have HR0 := hid (fun (v : World) (h : Sw w w2.heap.size y v) => h.g.s.all r0 (by rw [hr]; simp))
  have HR1 := hid (fun (v : World) (h : Sw w w2.heap.size y v) => h.g.s.all r1 (by rw [hr]; simp))
  have HQ1 := hid (fun (v : World) (h : Sw w w2.heap.size y v) => h.g.p.all q1 (by rw [hq]; simp))
  have HEd := hid (fun (v : World) (h : Sw w w2.heap.size y v) => edges_any y [] v h.g)
  rw [hyS, hyP, hn3, s8_E] at HEd
  unfold GH.a at HEd
  rw [hn3, hAS, hsn, hAP, hpn] at HEd
  have HK := hid (fun (v u : World) (h : Sw w w2.heap.size y v) (hb : Below v.heap.size v u) => h.below hb)
  have E0 := hid (show eqD r0.l [1] = true by rw [hr0]; rfl)
  have E1 := hid (show eqD r1.l [1] = true by rw [hr1]; rfl)
  have E2 := hid (show eqD q1.l [0, 1] = true by rw [hq1]; rfl)
  have HBw := hid (fun (v : World) (h : Sw w w2.heap.size y v) => h.bel)
  unfold GH.a
  rw [hn3, hAS, hsn, hAP, hpn]
  rw [hn3, hAS, hsn, hAP, hpn] at HW
  clear hb ha hyok hyn hyS hyP hr hq HB1 HX HS1 HM1 HBd hr0 hr1 hr2 hq0 hq1 hq2 hl2 hAS hAP hn3 hsn hpn
  simp only
  obtain ⟨⟨⟨c0, c1, c2⟩, d0, d1, d2, d3⟩, g0, g1, g2⟩ := HF.out _ HW.out
  go_wp2_with fail
  clear c0 c1 c2 d0 d1 d2 d3 g0 g1 g2
  refine (refInts_any r0 ⟨some ⟨w2.heap.size + 1, 0, none⟩, 1, 1, [1]⟩ [] [] _ (HR0.out _ (HK.out _ _ HW.out ((Below.refl _ _).alloc (Nat.le_refl _) _))) (lit_row2 _ _ _ _ _ (by rw [World.size_alloc]) rfl rfl (by omega))).mono ?_
  rw [E0.out]
  rintro e w' ⟨rfl, q, rfl⟩
  have HW1 := hid (HK.out _ _ (HK.out _ _ HW.out ((Below.refl _ _).alloc (Nat.le_refl _) (.cells (ints [1]).toArray 3))) (below_drewN (Below.refl _ _) q))
  clear HW
  generalize ((w2.alloc (.cells #[.slice y.A 3 y.c, .slice (some adS) 3 y.S.c, .slice (some adP) 3 y.P.c] 28)).alloc (.cells (ints [1]).toArray 3)).drewN q = V1 at HW1 ⊢
  obtain ⟨⟨⟨c0, c1, c2⟩, d0, d1, d2, d3⟩, g0, g1, g2⟩ := HF.out _ HW1.out
  go_wp2_with fail
  clear c0 c1 c2 d0 d1 d2 d3 g0 g1 g2
  refine (refInts_any r1 ⟨some ⟨V1.heap.size, 0, none⟩, 1, 1, [1]⟩ [] [] _ (HR1.out _ (HK.out _ _ HW1.out ((Below.refl _ _).alloc (Nat.le_refl _) _))) (lit_row2 _ _ _ _ _ (by rfl) rfl rfl (by omega))).mono ?_
  rw [E1.out]
  rintro e w' ⟨rfl, q, rfl⟩
  have HW2 := hid (HK.out _ _ (HK.out _ _ HW1.out ((Below.refl _ _).alloc (Nat.le_refl _) (.cells (ints [1]).toArray 3))) (below_drewN (Below.refl _ _) q))
  clear HW1
  generalize ((V1).alloc (.cells (ints [1]).toArray 3)).drewN q = V2 at HW2 ⊢
  obtain ⟨⟨⟨c0, c1, c2⟩, d0, d1, d2, d3⟩, g0, g1, g2⟩ := HF.out _ HW2.out
  go_wp2_with fail
  clear c0 c1 c2 d0 d1 d2 d3 g0 g1 g2
  refine (refInts_any q1 ⟨some ⟨V2.heap.size, 0, none⟩, 2, 2, [0, 1]⟩ [] [] _ (HQ1.out _ (HK.out _ _ HW2.out ((Below.refl _ _).alloc (Nat.le_refl _) _))) (lit_row2 _ _ _ _ _ (by rfl) rfl rfl (by omega))).mono ?_
  rw [E2.out]
  rintro e w' ⟨rfl, q, rfl⟩
  have HW3 := hid (HK.out _ _ (HK.out _ _ HW2.out ((Below.refl _ _).alloc (Nat.le_refl _) (.cells (ints [0, 1]).toArray 3))) (below_drewN (Below.refl _ _) q))
  clear HW2
  generalize ((V2).alloc (.cells (ints [0, 1]).toArray 3)).drewN q = V3 at HW3 ⊢
  obtain ⟨⟨⟨c0, c1, c2⟩, d0, d1, d2, d3⟩, g0, g1, g2⟩ := HF.out _ HW3.out
  go_wp2_with fail
  clear c0 c1 c2 d0 d1 d2 d3 g0 g1 g2
  refine (HEd.out _ HW3.out).mono ?_
  rintro e w' ⟨rfl, hb⟩
  have HB := hid (below_step (HBw.out _ HW3.out) hb)
  go_wp2_with fail
  refine bodyPost_ret (v := .bool true) (by simp [results, Tryz.results14, go_sem]) rfl ?_
  exact ⟨rfl, HB.out⟩
end Go.Proofs.YtfapgnbnfhpicaaGreatDoor

namespace Go.Proofs.YtfapgnbnfhpicaaGreatDoor
set_option linter.unusedVariables false
open Go.ChangeShapes Go.WideShapes Go.ChangeAt Go.RowKit

/-- The statement's tape and the table of shapes stand, and nothing old has changed. -/
structure GoS (w : World) (T : Nat) (wr : World) : Prop where
  go : Going w T wr
  shp : Shp wr
  pos : 1 < w.heap.size
theorem GoS.step {w wr w' : World} {T : Nat} (h : GoS w T wr) (hg : Going w T w') (hw : wr.grownBy w' (some T)) : GoS w T w' :=
  ⟨hg, h.shp.keep (hw.block 1 h.shp.pos0 (by have := h.go.2.2; have := h.pos; intro e; injection e with e; omega)), h.pos⟩
theorem GoS.stepT {w wr w' : World} {T : Nat} (h : GoS w T wr) (ht : Tape w' T) (hw : wr.grownBy w' (some T)) : GoS w T w' := h.step (h.go.step ht hw) hw
theorem GoS.below {w wr w' : World} {T : Nat} (h : GoS w T wr) (hb : Below wr.heap.size wr w') : GoS w T w' := h.step (h.go.below hb) (grown_of_below hb _)
theorem GoS.alloc {w wr : World} {T : Nat} (h : GoS w T wr) (o : Obj) : GoS w T (wr.alloc o) := h.below ((Below.refl _ _).alloc (Nat.le_refl _) o)

end Go.Proofs.YtfapgnbnfhpicaaGreatDoor

namespace Go.Proofs.YtfapgnbnfhpicaaGreatDoor
set_option maxRecDepth 20000
set_option linter.unusedVariables false
set_option linter.unusedSimpArgs false
open Go.ChangeShapes Go.WideShapes Go.ChangeAt Go.RowKit

/-- A graph and its box. -/
structure Bxg (v : World) (G : Nat) (x : GH) : Prop where
  box : Fb v G #[.slice x.A x.n x.c, .slice x.S.A x.S.n x.S.c, .slice x.P.A x.P.n x.P.c] 28
  g : GHok v [] x
theorem Bxg.below {v v' : World} {G : Nat} {x : GH} (h : Bxg v G x) (hb : Below v.heap.size v v') : Bxg v' G x := ⟨h.box.below hb h.box.lt, h.g.below hb⟩
theorem Bxg.new {v : World} {x : GH} (h : GHok v [] x) : Bxg (v.alloc (.cells #[.slice x.A x.n x.c, .slice x.S.A x.S.n x.S.c, .slice x.P.A x.P.n x.P.c] 28)) v.heap.size x := ⟨Fb.new _ _ _, h.below ((Below.refl _ _).alloc (Nat.le_refl _) _)⟩
theorem edg_val {N : Nat} {S P : List (List Int)} (h : ValG N S P) : edgN N S P = tot S := by unfold edgN; rw [validB_iff.2 h]; rfl
theorem retq_below {w : World} {v : Value} {e : Ending} {w' : World} (h : RetQ w v e w') : e = .returned v ∧ Below w.heap.size w w' := by
  obtain ⟨h1, q, rfl⟩ := h
  exact ⟨h1, below_drewN (Below.refl _ _) q⟩
set_option maxHeartbeats 6400000 in
theorem lawGrr (At : Option Addr) (nt ct : Nat) (zs : List Int) (w : World) (ht : IArg w At nt zs) (hnt : nt ≤ maxLen) (hsh : Shp w) :
    Calls Tryz.prog 4 #[.slice At nt ct] w fun e w' => e = .returned (.bool true) ∧ Below w.heap.size w w' := by
  have Hinv := hid (show GoS w w.heap.size (w.alloc (.cells #[.slice At nt ct, .int .i64 0] 71)) from ⟨⟨tape_new ht hnt, (Below.refl _ _).alloc (Nat.le_refl _) _, Nat.le_refl _⟩, hsh.keep (Below.heap_alloc w _ 1 hsh.pos0), hsh.pos0⟩)
  clear ht hsh
  go_enter Tryz.func4, Tryz.ntmps4
  go_wp2_with (go_at_call 7; refine (new_any At nt ct _).mono ?_; rintro e w1 ⟨rfl, rfl⟩)
  generalize w.alloc (.cells #[.slice At nt ct, .int .i64 0] 71) = w1 at Hinv ⊢
  refine (tgraph_any [] w w.heap.size 9 _ Hinv.out.go (by simp) (by omega)).mono ?_
  rintro e w2 ⟨x, rfl, hx, hv, hsn, hpn, hfew, hgo, hgr⟩
  have h2 := GoS.step Hinv.out hgo hgr
  have ha := (Below.refl w2.heap.size w2).alloc (Nat.le_refl _) (.cells #[.slice x.A x.n x.c, .slice x.S.A x.S.n x.S.c, .slice x.P.A x.P.n x.P.c] 28)
  have HB := hid (below_step h2.go.2.1 ha)
  have HS := hid (h2.shp.keep (ha.block 1 h2.shp.pos0))
  have HX := hid (Bxg.new hx)
  have HV := hid hv
  clear h2 ha hx hv hsn hpn hfew hgo hgr Hinv
  unfold GH.a at *
  have hc := HX.out.box.thr
  have hl := HX.out.box.lt
  go_wp2_with fail
  clear hc hl
  generalize w2.alloc (.cells #[.slice x.A x.n x.c, .slice x.S.A x.S.n x.S.c, .slice x.P.A x.P.n x.P.c] 28) = w3 at *
  generalize w2.heap.size = G1 at *
  refine (reverse_yes x [] _ HX.out.g HV.out).mono ?_
  rintro e w4 ⟨y, rfl, hyn, hyS, hyP, hyok, hb⟩
  have hy := hyok [] (by simp)
  have hynn : y.n = x.n := by rw [← hy.len, hyn]; exact HX.out.g.len
  have HVy := hid (show ValG y.n y.S.v y.P.v by rw [hynn, hyS, hyP]; exact HV.out.rev)
  have HE := hid (And.intro hyn (And.intro hyS hyP))
  have ha := (Below.refl w4.heap.size w4).alloc (Nat.le_refl _) (.cells #[.slice y.A y.n y.c, .slice y.S.A y.S.n y.S.c, .slice y.P.A y.P.n y.P.c] 28)
  have hb2 := below_step hb ha
  have HB2 := hid (below_step HB.out hb2)
  have HS2 := hid (HS.out.keep (hb2.block 1 HS.out.pos0))
  have HX2 := hid (HX.out.below hb2)
  have HY2 := hid (Bxg.new hy)
  clear hyok hy hb ha hb2 hyn hyS hyP hynn HB HS HX
  unfold GH.a at *
  have hc := HY2.out.box.thr
  have hl := HY2.out.box.lt
  simp only
  go_wp2_with fail
  clear hc hl
  generalize w4.alloc (.cells #[.slice y.A y.n y.c, .slice y.S.A y.S.n y.S.c, .slice y.P.A y.P.n y.P.c] 28) = w5 at *
  generalize w4.heap.size = G2 at *
  refine (reverse_yes y [] _ HY2.out.g HVy.out).mono ?_
  rintro e w6 ⟨z, rfl, hzn, hzS, hzP, hzok, hb⟩
  have hz := hzok [] (by simp)
  have HEz := hid (show z.ns = x.ns ∧ z.S.v = x.S.v ∧ z.P.v = x.P.v from ⟨hzn.trans HE.out.1, hzS.trans HE.out.2.2, hzP.trans HE.out.2.1⟩)
  have ha := (Below.refl w6.heap.size w6).alloc (Nat.le_refl _) (.cells #[.slice z.A z.n z.c, .slice z.S.A z.S.n z.S.c, .slice z.P.A z.P.n z.P.c] 28)
  have hb2 := below_step hb ha
  have HB3 := hid (below_step HB2.out hb2)
  have HS3 := hid (HS2.out.keep (hb2.block 1 HS2.out.pos0))
  have HX3 := hid (HX2.out.below hb2)
  have HY3 := hid (HY2.out.below hb2)
  have HZ3 := hid (Bxg.new hz)
  clear hzok hz hb ha hb2 hzn hzS hzP HB2 HS2 HX2 HY2
  unfold GH.a at *
  have hx3 := HX3.out.box.thr
  have hxl := HX3.out.box.lt
  have hy3 := HY3.out.box.thr
  have hyl := HY3.out.box.lt
  have hz3 := HZ3.out.box.thr
  have hzl := HZ3.out.box.lt
  simp only
  go_wp2_with fail
  clear hx3 hy3 hz3
  generalize w6.alloc (.cells #[.slice z.A z.n z.c, .slice z.S.A z.S.n z.S.c, .slice z.P.A z.P.n z.P.c] 28) = w7 at *
  generalize w6.heap.size = G3 at *
  have HCs := hid (fun (v : World) (h : Below w7.heap.size w7 v) => sameGraph_yes z x [] [] v (HZ3.out.below h).g (HX3.out.below h).g HEz.out.1.symm HEz.out.2.1.symm HEz.out.2.2.symm)
  have HCy := hid (fun (v : World) (h : Below w7.heap.size w7 v) => edges_any y [] v (HY3.out.below h).g)
  have HCx := hid (fun (v : World) (h : Below w7.heap.size w7 v) => edges_any x [] v (HX3.out.below h).g)
  rw [edg_val HVy.out, HE.out.2.1, HV.out.tot] at HCy
  rw [edg_val HV.out] at HCx
  have HCv := hid (fun (v : World) (h : Below w7.heap.size w7 v) => valid_graph y [] v (HY3.out.below h).g)
  rw [validB_iff.2 HVy.out] at HCv
  have HCn := hid (fun (v : World) (h : Below w7.heap.size w7 v) => sane8_any v (HS3.out.keep (h.block 1 HS3.out.pos0)))
  generalize tot x.S.v = tt at *
  unfold GH.a at *
  obtain ⟨x0, x1, x2⟩ := HX3.out.box.thr
  obtain ⟨y0, y1, y2⟩ := HY3.out.box.thr
  obtain ⟨z0, z1, z2⟩ := HZ3.out.box.thr
  have lx0 := Later.cell (show (⟨G1, 0, none⟩ : Addr).block < w7.heap.size from hxl) x0
  have lx1 := Later.cell (show (⟨G1, 1, none⟩ : Addr).block < w7.heap.size from hxl) x1
  have lx2 := Later.cell (show (⟨G1, 2, none⟩ : Addr).block < w7.heap.size from hxl) x2
  have ly0 := Later.cell (show (⟨G2, 0, none⟩ : Addr).block < w7.heap.size from hyl) y0
  have ly1 := Later.cell (show (⟨G2, 1, none⟩ : Addr).block < w7.heap.size from hyl) y1
  have ly2 := Later.cell (show (⟨G2, 2, none⟩ : Addr).block < w7.heap.size from hyl) y2
  have lz0 := Later.cell (show (⟨G3, 0, none⟩ : Addr).block < w7.heap.size from HZ3.out.box.lt) z0
  have lz1 := Later.cell (show (⟨G3, 1, none⟩ : Addr).block < w7.heap.size from HZ3.out.box.lt) z1
  have lz2 := Later.cell (show (⟨G3, 2, none⟩ : Addr).block < w7.heap.size from HZ3.out.box.lt) z2
  clear x0 x1 x2 y0 y1 y2 z0 z1 z2 HV HVy HE HEz hxl hyl hzl HS3
  refine wp_region_below (by kernel_rfl) (by kernel_rfl) ?_
  repeat (go_big_quiet_step (first
    | (go_at_call 15; exact Later.call (HCs.out _ (Later.keeps _)))
    | (go_at_call_of 16 y; exact Later.call (HCy.out _ (Later.keeps _)))
    | (go_at_call_of 16 x; exact Later.call (HCx.out _ (Later.keeps _)))
    | (go_at_call 17; exact Later.call (HCv.out _ (Later.keeps _)))
    | (go_at_call 14; exact Later.call (HCn.out _ (Later.keeps _)))))
  refine wpQuiet_nil ?_
  rintro _ ⟨pq, rfl⟩
  have HF := hid (below_step HB3.out pq.keeps)
  generalize pq.wd = wq at *
  clear pq lx0 lx1 lx2 ly0 ly1 ly2 lz0 lz1 lz2
  go_wp2
  go_ret
  exact ⟨rfl, HF.out⟩
end Go.Proofs.YtfapgnbnfhpicaaGreatDoor

namespace Go.Proofs.YtfapgnbnfhpicaaGreatDoor
set_option maxRecDepth 10000
open Go.ChangeShapes Go.WideShapes Go.ChangeAt Go.RowKit Go.Joins

theorem cells3 : Tryz.prog.cellsOf 3 = 1 := by kernel_rfl
theorem cell_in {w : World} {a : Addr} {v : Value} (h : w.cell? a = some v) : a.block < w.heap.size := by
  rcases Nat.lt_or_ge a.block w.heap.size with hlt | hge
  · exact hlt
  · unfold World.cell? at h; rw [Array.getElem?_eq_none hge] at h; cases h

theorem wf_u64 {z : Int} (h : (Lit.int .u64 z).wf = true) : 0 ≤ z ∧ z ≤ 18446744073709551615 := by
  have m0 : IntKind.u64.min = 0 := by decide
  have m1 : IntKind.u64.max = 18446744073709551615 := by decide
  simp [Lit.wf] at h
  omega
theorem open_list {H : Type} {enc : TypeId × Value → H} {W : World} {b0 base : Nat} {spare : Nat → Bool} {held : Bool} {v : Value} {d : DataW H} {p : List MemPlace}
    (hv : Value.okWide Tryz.prog W .any b0 22 v) (h : DataW.Trod enc Tryz.prog W base spare held 22 v d p) :
    ∃ (A : Option Addr) (n c : Nat) (l : List Int), v = .slice A n c ∧ IArg W A n l ∧ n ≤ maxLen := by
  obtain ⟨A, n, c, rfl⟩ := okWide_slice Tryz.underlying22 hv
  obtain ⟨fuel, hf⟩ := h
  rcases open_ints Tryz.underlying22 Tryz.underlying3 cells3 hf with ⟨hcs, _⟩ | ⟨x, l, c', zs, hcs, _, hl, hm, hz, _, hcell, hwz⟩
  · simp [Value.cells] at hcs
    obtain ⟨rfl, rfl, rfl⟩ := hcs
    exact ⟨none, 0, 0, [], rfl, ⟨.inl rfl, rfl⟩, by simp [maxLen]⟩
  · simp [Value.cells] at hcs
    obtain ⟨rfl, rfl, rfl⟩ := hcs
    have hle : n ≤ zs.length := by rw [hz]; split <;> omega
    refine ⟨some x, n, c, zs.take n, rfl, ⟨?_, by rw [List.length_take]; omega⟩, Nat.le_trans hl hm⟩
    by_cases h0 : n = 0
    · subst h0; exact .inl rfl
    · refine .inr ⟨x, rfl, ?_, fun j u hu => ?_⟩
      · have := cell_in (hcell 0 (by omega)); rwa [add_block] at this
      · unfold ints at hu
        rw [List.getElem?_map] at hu
        have hj : j < n := by
          rcases Nat.lt_or_ge j n with h | h
          · exact h
          · rw [List.getElem?_eq_none (by rw [List.length_take]; omega)] at hu; simp at hu
        rw [List.getElem?_take, if_pos hj, List.getElem?_eq_getElem (by omega)] at hu
        have := hcell j (by omega)
        rw [List.getD_eq_getElem?_getD, List.getElem?_eq_getElem (by omega)] at this
        rw [this]; simpa using hu

end Go.Proofs.YtfapgnbnfhpicaaGreatDoor

namespace Go.Proofs.YtfapgnbnfhpicaaGreatDoor
set_option maxRecDepth 100000
set_option linter.unusedVariables false
open Go.ChangeShapes Go.WideShapes Go.ChangeAt Go.RowKit

theorem own : ownKnob Tryz.prog.godebug = none := by kernel_rfl
theorem laidOut : laidOutB Tryz.prog = true := by kernel_rfl
theorem gShp : Tryz.prog.globalNamed "flowquery/syntax.shapes" = some 1 := by kernel_rfl
theorem gShpType : (Tryz.prog.globals[1]?).map (·.type) = some 215 := by kernel_rfl
theorem undArr : Tryz.prog.underlying 215 = some (.array 10 214) := by kernel_rfl
theorem undShape : ∃ fs : Array Field, Tryz.prog.underlying 214 = some (.struct fs) ∧ (fs.toList.map fun f => (f.type, f.offset)) = [(9, 0), (4, 1), (3, 2), (3, 3), (3, 4)] := by
  have h : (match Tryz.prog.underlying 214 with | some (.struct fs) => some (fs.toList.map fun f => (f.type, f.offset)) | _ => none) = some [(9, 0), (4, 1), (3, 2), (3, 3), (3, 4)] := by kernel_rfl
  split at h
  · next fs e => exact ⟨fs, e, Option.some.inj h⟩
  · cases h
theorem cArr : Tryz.prog.cellsOf 215 = 50 := by kernel_rfl
theorem cShape : Tryz.prog.cellsOf 214 = 5 := by kernel_rfl
theorem cStr : Tryz.prog.cellsOf 9 = 1 := by kernel_rfl
theorem cBool : Tryz.prog.cellsOf 4 = 1 := by kernel_rfl
theorem cInt : Tryz.prog.cellsOf 3 = 1 := by kernel_rfl
abbrev Sh := List UInt8 × Bool × Int × Int × Int
def dataSh (t : Sh) : DataW Unit := .agg [.lit (.string t.1), .lit (.bool t.2.1), .lit (.int .i64 t.2.2.1), .lit (.int .i64 t.2.2.2.1), .lit (.int .i64 t.2.2.2.2)]
def cellsSh (t : Sh) : List Value := [.string ⟨t.1.toArray⟩, .bool t.2.1, .int .i64 t.2.2.1, .int .i64 t.2.2.2.1, .int .i64 t.2.2.2.2]
def shpT : List Sh := [([], false, 0, 0, 0), ([], true, 0, 4, 0), ([117, 115, 101], false, 1, 4, 0), ([99, 97, 108, 108], false, 0, 0, 1), ([115, 111, 117, 114, 99, 101], true, 0, 0, 0), ([115, 105, 110, 107], false, 1, 1, 0), ([115, 97, 110, 105, 116, 105, 122, 101], true, 0, 0, 0), ([103, 111, 116, 111], false, 0, 0, 1), ([98, 114, 97, 110, 99, 104], false, 1, 1, 2), ([114, 101, 116, 117, 114, 110], false, 0, 0, 0)]
theorem shp_data : (Rows.laid_flowquery_syntax_shapes : DataW Unit) = .agg (shpT.map dataSh) := by kernel_rfl
theorem shp_cells : shpCells = shpT.flatMap cellsSh := by rfl
theorem one_of_drop {cs : List Value} {i : Nat} {v : Value} (h : (cs.drop i).take 1 = [v]) : cs[i]? = some v := by
  have := congrArg (·[0]?) h
  simpa [List.getElem?_take, List.getElem?_drop] using this
theorem shape_of {enc : TypeId × Value → Unit} {w : World} {base : Nat} {sp : Nat → Bool} {held : Bool} {fuel : Nat} {cs : List Value} {t : Sh} {p : List MemPlace}
    (h : DataW.trod enc Tryz.prog w base sp held fuel 214 cs = some (dataSh t, p)) : cs = cellsSh t := by
  obtain ⟨fs, hu, hfs⟩ := undShape
  obtain ⟨xs, n, -, hx, hl, hxl, hf⟩ := DataW.trod_struct hu h
  rw [cShape] at hl
  have hxs : xs.map (·.1) = [.lit (.string t.1), .lit (.bool t.2.1), .lit (.int .i64 t.2.2.1), .lit (.int .i64 t.2.2.2.1), .lit (.int .i64 t.2.2.2.2)] := by
    have := congrArg Prod.fst hx
    unfold dataSh at this
    simpa using this.symm
  have key : ∀ (i : Nat) (ty off : Nat), [((9 : Nat), 0), (4, 1), (3, 2), (3, 3), (3, 4)][i]? = some (ty, off) → Tryz.prog.cellsOf ty = 1 → ∀ d, (xs.map (·.1))[i]? = some d →
      ∃ q, DataW.trod enc Tryz.prog w base sp held n ty ((cs.drop off).take 1) = some (d, q) := by
    intro i ty off hi hc d hd
    have h1 := congrArg (·[i]?) hfs
    try simp only at h1
    rw [hi, List.getElem?_map] at h1
    obtain ⟨f, hf1, hf2⟩ := Option.map_eq_some_iff.1 h1
    injection hf2 with e1 e2
    have h2 := hf i f (by simpa using hf1)
    rw [e1, e2, hc] at h2
    rw [List.getElem?_map] at hd
    obtain ⟨x, hx1, hx2⟩ := Option.map_eq_some_iff.1 hd
    rw [hx1] at h2
    subst hx2
    exact ⟨x.2, h2⟩
  obtain ⟨q0, k0⟩ := key 0 9 0 rfl cStr _ (by rw [hxs]; rfl)
  obtain ⟨q1, k1⟩ := key 1 4 1 rfl cBool _ (by rw [hxs]; rfl)
  obtain ⟨q2, k2⟩ := key 2 3 2 rfl cInt _ (by rw [hxs]; rfl)
  obtain ⟨q3, k3⟩ := key 3 3 3 rfl cInt _ (by rw [hxs]; rfl)
  obtain ⟨q4, k4⟩ := key 4 3 4 rfl cInt _ (by rw [hxs]; rfl)
  obtain ⟨s, c0, d0, -⟩ := DataW.trod_string Tryz.underlying9 k0
  obtain ⟨bb, c1, d1⟩ := DataW.trod_bool Tryz.underlying4 k1
  obtain ⟨z2, c2, d2, -⟩ := DataW.trod_int Tryz.underlying3 k2
  obtain ⟨z3, c3, d3, -⟩ := DataW.trod_int Tryz.underlying3 k3
  obtain ⟨z4, c4, d4, -⟩ := DataW.trod_int Tryz.underlying3 k4
  have g0 := one_of_drop c0
  have g1 := one_of_drop c1
  have g2 := one_of_drop c2
  have g3 := one_of_drop c3
  have g4 := one_of_drop c4
  simp only [Prod.mk.injEq, DataW.lit.injEq, Lit.string.injEq, Lit.bool.injEq, Lit.int.injEq, true_and] at d0 d1 d2 d3 d4
  have es : s = ⟨t.1.toArray⟩ := ext_list (by simpa using d0.1.symm)
  have hc : cellsSh t = [.string s, .bool bb, .int .i64 z2, .int .i64 z3, .int .i64 z4] := by
    unfold cellsSh
    rw [es, d1.1, d2.1, d3.1, d4.1]
  rw [hc]
  apply List.ext_getElem?
  intro i
  match i with
  | 0 => exact g0
  | 1 => exact g1
  | 2 => exact g2
  | 3 => exact g3
  | 4 => exact g4
  | i + 5 => rw [List.getElem?_eq_none (by omega), List.getElem?_eq_none (by simp)]
theorem cells_of_shp {enc : TypeId × Value → Unit} {w : World} {base : Nat} {sp : Nat → Bool} {held : Bool} {fuel : Nat} {cs : List Value} {p : List MemPlace}
    (h : DataW.trod enc Tryz.prog w base sp held fuel 215 cs = some (.agg (shpT.map dataSh), p)) : cs = shpT.flatMap cellsSh := by
  cases fuel with
  | zero => simp [DataW.trod] at h
  | succ fuel =>
    unfold DataW.trod at h
    rw [undArr] at h
    try simp only at h
    rw [cShape, cArr] at h
    split at h
    · rename_i hl
      obtain ⟨xs, hm, hx⟩ := Option.map_eq_some_iff.1 h
      have hxs : xs.map (·.1) = shpT.map dataSh := by
        have := congrArg Prod.fst hx
        simpa using this
      have hlen : (shpT.flatMap cellsSh).length = 50 := by rw [flat_len (k := 5) (fun _ => rfl)]; rfl
      apply List.ext_getElem?
      intro j
      by_cases hj : j < 50
      · have hi : j / 5 < 10 := by omega
        obtain ⟨b, hb, hf⟩ := Lib.mapM_at hm (j / 5) (j / 5) (by simp [hi])
        have h1 := congrArg (·[j / 5]?) hxs
        simp only [List.getElem?_map, hb, Option.map_some] at h1
        have hti : shpT[j / 5]? = some (shpT[j / 5]'(by show j / 5 < 10; exact hi)) := List.getElem?_eq_getElem _
        rw [hti] at h1
        simp only [Option.map_some, Option.some.injEq] at h1
        obtain ⟨b1, b2⟩ := b
        try simp only at h1
        subst h1
        have hc := shape_of hf
        have hr : j % 5 < 5 := Nat.mod_lt _ (by omega)
        have h2 : (cellsSh (shpT[j / 5]'(by show j / 5 < 10; exact hi)))[j % 5]? = cs[j]? := by
          rw [← hc, List.getElem?_take, List.getElem?_drop, if_pos hr]
          congr 1
          omega
        cases h3 : cs[j]? with
        | none =>
          rw [List.getElem?_eq_none_iff] at h3
          omega
        | some u =>
          rw [h3] at h2
          have := flat_get (f := cellsSh) (k := 5) (fun _ => rfl) shpT hti h2
          rw [show j / 5 * 5 + j % 5 = j by omega] at this
          exact this.symm
      · rw [List.getElem?_eq_none (by omega), List.getElem?_eq_none (by omega)]
    · cases h

theorem wf_u8 {z : Int} (h : (Lit.int .u8 z).wf = true) : 0 ≤ z ∧ z < 256 := by
  have m0 : IntKind.u8.min = 0 := by decide
  have m1 : IntKind.u8.max = 255 := by decide
  simp [Lit.wf] at h
  omega
/-- The rows' list. -/
def listS1 : List (String × DataW Unit) := Rows.graphReachRow.laid
theorem shp_of {W : World} {n1 : String} {d1 : DataW Unit} {rest : List (String × DataW Unit)} (h : laidMet Tryz.prog ((n1, d1) :: rest) W) (hn : n1 = "flowquery/syntax.shapes") (hd : d1 = .agg (shpT.map dataSh)) : Shp W := by
  subst hn; subst hd
  obtain ⟨ps, ⟨g0, t0, cs0, f0, p0, q0, hg0, ht0, hv0, hd0, _, _⟩, _, _⟩ := h
  obtain rfl := Option.some.inj (gShp.symm.trans hg0)
  obtain rfl := Option.some.inj (gShpType.symm.trans ht0)
  have hc := cells_of_shp hd0
  intro j u hu
  rw [shp_cells, ← hc] at hu
  have := World.var?_cell gShp hv0 j
  rw [this]
  simpa using hu
theorem shp1 {W : World} (h : laidMetH Tryz.prog listS1 W) : Shp W := shp_of h rfl shp_data

/-- The heap that the program's own start leaves. -/
noncomputable def door (os : Os) : World := World.doorLaid Tryz.prog 400 os
theorem door_met (os : Os) (args : Array Value) : laidMet Tryz.prog listS1 ((door os).forCall (fun _ _ => 0) ⟨#[], args, []⟩).memory :=
  laidMet_of_run' 8 (by kernel_rfl) (by kernel_rfl)
theorem door_vars (os : Os) (args : Array Value) : ((door os).forCall (fun _ _ => 0) ⟨#[], args, []⟩).variablesRefB Tryz.prog = true := by kernel_rfl
theorem door_rest (os : Os) (args : Array Value) : (((door os).forCall (fun _ _ => 0) ⟨#[], args, []⟩).heap.toList.drop Tryz.prog.globals.size).take ((begin Tryz.prog (fun _ _ => 0) default).world.heap.size - Tryz.prog.globals.size) =
    (begin Tryz.prog (fun _ _ => 0) default).world.heap.toList.drop Tryz.prog.globals.size := by kernel_rfl
end Go.Proofs.YtfapgnbnfhpicaaGreatDoor

namespace Go.Proofs.YtfapgnbnfhpicaaGreatDoor.graphReverse
set_option maxRecDepth 100000
open Go.ChangeShapes Go.WideShapes Go.ChangeAt Go.RowKit
open Go.ChangeMaps (open_string)
set_option linter.unusedVariables false

theorem reads (os : Os) {H : Type} (enc : TypeId × Value → H) : ∃ places, DataW.whole enc Tryz.prog ((door os).forCall (fun _ _ => 0) ⟨#[], #[.slice none 0 0], []⟩).memory Tryz.f4.params.toList Rows.graphReverseSpec.vars false (#[.slice none 0 0] : Array Value).toList 8 = some ([.nil], [], places) :=
  ⟨[], by kernel_rfl⟩

theorem lifted (os : Os) (started : os.Started) (H : Type) (enc : TypeId × Value → H) (F : Stop.Interp) :
    ReturnsInHanded {} Tryz.checked os 4 .any ((OpenSpec.ofChange Rows.graphReverseSpec).preRow enc Tryz.prog Tryz.f4 Rows.graphReverseRow.domain false Rows.graphReverseRow.laid) (((OpenSpec.ofChange Rows.graphReverseSpec).at F).post enc Tryz.prog Tryz.f4 false true false false) := by
  obtain ⟨places, hx⟩ := reads os enc
  refine returnsInHanded_of_row (C := Tryz.checked) (s := OpenSpec.ofChange Rows.graphReverseSpec) own started (by kernel_rfl) Tryz.func4
    (witness_row_atRef (enc := enc) (C := Tryz.checked) false (door os) #[.slice none 0 0] rfl (door_vars os _) (door_rest os _) (by kernel_rfl)
      (OpenSpec.preRow_of_cond 8 hx (by kernel_rfl) (fun k hk => by cases hk) (by kernel_rfl) (door_met os _))) ?_
  intro W base args ds gs before hval0 hW _ _ _ hL hsh _
  have hval : ∀ (j : Nat) t v, Tryz.f4.params[j]? = some t → args[j]? = some v → Value.okWide Tryz.prog W .any base t v := hval0
  have hW' := hW
  obtain ⟨p, q, hA0, hV, rfl, hfz, hnd⟩ := hW
  have hA : DataW.TrodAll enc Tryz.prog W 0 (fun _ => true) true Tryz.f4.params.toList args.toList ds p := hA0
  rw [Tryz.params4] at hA hval
  obtain ⟨v0, vs0, d0, ds0, p0, q0, hargs, rfl, rfl, h0, r0⟩ := trodAll_cons hA
  obtain ⟨rfl, rfl, rfl⟩ := trodAll_nil r0
  obtain rfl : args = #[v0] := by cases args; simp_all
  obtain ⟨rfl, rfl⟩ := trodVars_none hV
  have k0 := h0
  have lt0 : ∀ x ∈ p0, x.block < W.heap.size := by obtain ⟨m, hm⟩ := k0; exact DataW.trod_lt m _ _ _ hm
  obtain ⟨a0, n0, c0, l0, rfl, g0, m0⟩ := open_list (hval 0 22 v0 rfl rfl) h0
  clear hA0 hval0
  refine (lawGrr a0 n0 c0 l0 W g0 m0 (shp1 hL)).mono fun e W' ⟨he, bel⟩ => ?_
  subst he
  exact ⟨_, rfl, _, _, _, [], _, [], hW', trodAll_mk1 (shut_bool Tryz.underlying4 _), (trodAll_cons_mk (Below.trod laidOut (by kernel_rfl) (of_decide_eq_true (by kernel_rfl)) k0 bel lt0) trodAll_mk0), rfl, bel.frame _, fun h => by cases h⟩

theorem said : Rows.GraphReverseSaid :=
  OpenClaim.holds_of_cond 4 Tryz.f4 rfl rfl rfl rfl rfl rfl rfl ⟨rfl, rfl, rfl, rfl, rfl⟩ rfl rfl rfl rfl rfl (by kernel_rfl) Tryz.func4 (by kernel_rfl)
    (of_decide_eq_true (by kernel_rfl)) (by unfold Func.isWrapper; first | (rw [if_pos (by decide +kernel)]; kernel_rfl) | (rw [if_neg (by decide +kernel)]; exact ⟨rfl, rfl⟩))
    (fun os started H enc _ F => by rw [OpenClaim.pre_eq_preRow]; exact lifted os started H enc F)

theorem plain (f : FuncId) (fn : Func) (hf : Tryz.pinned.checked.prog.funcNamed "flowquery/flqlaw8.GraphReverse" = some f) (hfn : Tryz.pinned.checked.prog.funcs[f]? = some fn) :
    false = Tryz.pinned.checked.prog.looks [] ∧ ∀ (j : Nat) t, fn.params[j]? = some t → Tryz.pinned.checked.prog.wantsStandIn t = false := by
  obtain rfl : f = 4 := Option.some.inj ((show Tryz.prog.funcNamed "flowquery/flqlaw8.GraphReverse" = some 4 by kernel_rfl).symm.trans hf) |>.symm
  obtain rfl : fn = Tryz.f4 := (Option.some.inj (Tryz.func4.symm.trans hfn)).symm
  refine ⟨by kernel_rfl, fun j t ht => ?_⟩
  rw [Tryz.params4] at ht
  have hm : t ∈ [22] := by simpa using Array.mem_of_getElem? ht
  have hall : ([22].all fun u => !Tryz.prog.wantsStandIn u) = true := by kernel_rfl
  exact (show Tryz.prog.wantsStandIn t = false by simpa using List.all_eq_true.1 hall t hm)

theorem proved : Rows.GraphReverseCardSaid :=
  Claim7.holds_tied_plain_at .later [] _ _ _ _ said (fun _ h => by cases h) (by kernel_rfl) (fun _ h => by cases h) graphReverse_row_tie rfl ⟨rfl, rfl⟩ (by kernel_rfl) rfl plain (by kernel_rfl)
#print axioms proved
end Go.Proofs.YtfapgnbnfhpicaaGreatDoor.graphReverse
