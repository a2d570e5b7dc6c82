/- The chapter's second and third example: the program with two functions has eleven nodes, the successors of its last node are 2 and 4, node 6 has one predecessor, and from node 0 ten nodes are reached; and the sanity check holds: GraphExamples returns true. The rows' list ties the table of shapes of the program's syntax. -/
import Derived.Test.YtfapgnbnfhpicaaDoorGxlAlla
import Derived.Test.YtfapgnbnfhpicaaDoorRpa
import Derived.Test.YtfapgnbnfhpicaaDoorPms
import Derived.Test.YtfapgnbnfhpicaaDoorKw
import Derived.Test.YtfapgnbnfhpicaaDoorLin
import Derived.Deep.DeepCutAuto
import Derived.BigRegion
import Derived.Deep.QuietTactic
import Derived.BigQuiet
import Derived.Test.YtfapgnbnfhpicaaDoorDp1
import Derived.Test.YtfapgnbnfhpicaaDoorRp7
import Derived.Laws.OwnMore
import Derived.Deep.RegionLaw
import Derived.Deep.DrawnRows
import Derived.Test.YtfapgnbnfhpicaaDoorPpr
import Derived.Test.YtfapgnbnfhpicaaDoorScF
import Derived.Deep.RegionHeld3
import Derived.Test.YtfapgnbnfhpicaaDoorVlp
import Derived.Test.YtfapgnbnfhpicaaDoorLns
import Derived.Test.YtfapgnbnfhpicaaDoorPg2
import Derived.Lib.SliceRun
import Derived.RegionTactic
import Derived.Test.YtfapgnbnfhpicaaDoorVdv
import Derived.Test.YtfapgnbnfhpicaaDoorSup
import Derived.Lib.SmallJoins
import Derived.ShutString
import Derived.ChangeOld
import Derived.Test.YtfapgnbnfhpicaaDoorTie
import Derived.Test.YtfapgnbnfhpicaaDoorCards
import Derived.Deep.DeepHandedRow
import Derived.Deep.DeepWitnessRowRef
import Derived.LaidMore
import Derived.Lib.LaidTab
namespace Go.Proofs.YtfapgnbnfhpicaaDoor
set_option maxRecDepth 20000
set_option linter.unusedVariables false
set_option linter.unusedSimpArgs false
open Go.ChangeShapes Go.WideShapes Go.ChangeAt Go.RowKit

def pre1 (p : List Fnc) (k : Nat) : List Nd := (List.range k).flatMap (ndFs p)
def pre2 (p : List Fnc) (k : Nat) (bs : List Blk) (b : Nat) : List Nd := (pre1 p k ++ [⟨1, k, -1, -1⟩]) ++ (List.range b).flatMap (ndBs k bs)
def pre3 (p : List Fnc) (k : Nat) (bs : List Blk) (b : Nat) (ss : List Stm) (i : Nat) : List Nd := pre2 p k bs b ++ (List.range i).flatMap (ndSs k b ss)
theorem range_pre {f : Nat → List Nd} {k n : Nat} (h : k ≤ n) : (List.range k).flatMap f <+: (List.range n).flatMap f := by
  obtain ⟨d, rfl⟩ := Nat.exists_eq_add_of_le h
  induction d with
  | zero => exact List.prefix_refl _
  | succ d ih => exact (ih (by omega)).trans (by rw [← Nat.add_assoc, range_flat]; exact List.prefix_append _ _)
theorem pre2_zero (p : List Fnc) (k : Nat) (bs : List Blk) : (pre2 p k bs 0).length = (pre1 p k).length + 1 := by simp [pre2]
theorem pre3_zero (p : List Fnc) (k : Nat) (bs : List Blk) (b : Nat) (ss : List Stm) : (pre3 p k bs b ss 0).length = (pre2 p k bs b).length := by simp [pre3]
theorem pre3_succ {p : List Fnc} {k : Nat} {bs : List Blk} {b : Nat} {ss : List Stm} {i : Nat} {t : Stm} (h : ss[i]? = some t) : pre3 p k bs b ss (i + 1) = pre3 p k bs b ss i ++ ndS k b i t := by
  unfold pre3
  rw [range_flat, ndSs_at h, List.append_assoc]
theorem pre3_all {p : List Fnc} {k : Nat} {bs : List Blk} {b : Nat} {x : Blk} (h : bs[b]? = some x) : pre3 p k bs b x.ss x.ss.length = pre2 p k bs (b + 1) := by
  unfold pre3 pre2
  rw [range_flat, ndBs_at h]
  simp [ndB]
theorem pre2_all {p : List Fnc} {k : Nat} {x : Fnc} (h : p[k]? = some x) : pre2 p k x.bs x.bs.length ++ [⟨2, k, -1, -1⟩] = pre1 p (k + 1) := by
  unfold pre2 pre1
  rw [range_flat, ndFs_at h]
  simp [ndF]
theorem pre2_mono {p : List Fnc} {k : Nat} {bs : List Blk} {b c : Nat} (h : b ≤ c) : pre2 p k bs b <+: pre2 p k bs c := (List.prefix_append_right_inj _).2 (range_pre h)
theorem pre3_mono {p : List Fnc} {k : Nat} {bs : List Blk} {b : Nat} {ss : List Stm} {i j : Nat} (h : i ≤ j) : pre3 p k bs b ss i <+: pre3 p k bs b ss j := (List.prefix_append_right_inj _).2 (range_pre h)
/-- A statement's nodes stand at their places. -/
theorem node_at {p : List Fnc} {k b i : Nat} {F : Fnc} {B : Blk} {t : Stm} (h1 : p[k]? = some F) (h2 : F.bs[b]? = some B) (h3 : B.ss[i]? = some t) {q : Nat} {nd : Nd} (hq : (ndS k b i t)[q]? = some nd) :
    (pre1 p p.length)[(pre3 p k F.bs b B.ss i).length + q]? = some nd := by
  have e1 : pre3 p k F.bs b B.ss i ++ ndS k b i t <+: pre3 p k F.bs b B.ss B.ss.length := by
    rw [← pre3_succ h3]
    exact pre3_mono (by have := (List.getElem?_eq_some_iff.1 h3).1; omega)
  rw [pre3_all h2] at e1
  have e2 := e1.trans (pre2_mono (p := p) (k := k) (bs := F.bs) (c := F.bs.length) (by have := (List.getElem?_eq_some_iff.1 h2).1; omega))
  have e3 : pre2 p k F.bs F.bs.length <+: pre1 p (k + 1) := by rw [← pre2_all h1]; exact List.prefix_append _ _
  have e4 : pre1 p (k + 1) <+: pre1 p p.length := range_pre (by have := (List.getElem?_eq_some_iff.1 h1).1; omega)
  obtain ⟨r, hr⟩ := (e2.trans e3).trans e4
  rw [← hr, List.append_assoc, List.getElem?_append_right (by omega), Nat.add_sub_cancel_left, List.getElem?_append_left (List.getElem?_eq_some_iff.1 hq).1]
  exact hq
/-- What stands in the list is found. -/
theorem find_has {L : List Nd} {n : Nd} {i : Nat} (h : L[i]? = some n) : ∃ j : Nat, findI L n = (j : Int) := by
  unfold findI
  cases hs : (List.range L.length).findSome? (findAt L n) with
  | none =>
    rw [List.findSome?_eq_none_iff] at hs
    have := hs i (List.mem_range.2 (List.getElem?_eq_some_iff.1 h).1)
    rw [find_yes h] at this
    cases this
  | some v =>
    obtain ⟨j, -, hj⟩ := List.exists_of_findSome?_eq_some hs
    unfold findAt at hj
    split at hj
    · injection hj with hj; exact ⟨j, by rw [← hj]; rfl⟩
    · cases hj
theorem ndS_kind {f b j : Nat} {t : Stm} {q : Nat} (h : q < (ndS f b j t).length) : ∃ kd : Int, (ndS f b j t)[q]? = some ⟨kd, f, b, j⟩ ∧ (kd == 1) = false ∧ (kd == 2) = false := by
  unfold ndS at h ⊢
  split at h
  · next ho =>
    rw [if_pos ho]
    have : q = 0 ∨ q = 1 := by simp at h; omega
    rcases this with rfl | rfl
    · exact ⟨3, rfl, rfl, rfl⟩
    · exact ⟨4, rfl, rfl, rfl⟩
  · next ho =>
    rw [if_neg ho]
    obtain rfl : q = 0 := by simp at h; omega
    exact ⟨3, rfl, rfl, rfl⟩
theorem ndS_len_yes {f b j : Nat} {t : Stm} (h : (t.op == 3) = true) : (ndS f b j t).length = 2 := by unfold ndS; rw [if_pos h]; rfl
theorem ndS_len_no {f b j : Nat} {t : Stm} (h : (t.op == 3) = false) : (ndS f b j t).length = 1 := by unfold ndS; rw [if_neg (by rw [h]; decide)]; rfl
end Go.Proofs.YtfapgnbnfhpicaaDoor

namespace Go.Proofs.YtfapgnbnfhpicaaDoor
set_option maxRecDepth 20000
set_option linter.unusedVariables false
set_option linter.unusedSimpArgs false
open Go.ChangeShapes Go.WideShapes Go.ChangeAt Go.RowKit

/-- All edges, in their order. -/
def edgesN (p : List Fnc) : List (Nd × Nd) := (listN p).flatMap (lvE p)
def sumH (h : Nd → Nat) (l : List Nd) : Nat := (l.map h).sum
theorem sumH_append (h : Nd → Nat) (l m : List Nd) : sumH h (l ++ m) = sumH h l + sumH h m := by simp [sumH]
theorem sumH_len (l : List Nd) : sumH (fun _ => 1) l = l.length := by
  induction l with
  | nil => rfl
  | cons x l ih => unfold sumH at *; simp [ih]; omega
theorem flat_sum (p : List Fnc) (l : List Nd) : (l.flatMap (lvE p)).length = sumH (fun n => (lvE p n).length) l := by
  induction l with
  | nil => rfl
  | cons x l ih => rw [List.flatMap_cons, List.length_append, ih]; unfold sumH; simp
theorem sumP_append (f : Int → Nat) (l m : List Stm) : sumP f (l ++ m) = sumP f l + sumP f m := by simp [sumP]
theorem sum_stmts {h : Nd → Nat} {e : Int → Nat} {f b : Nat} {ss : List Stm} (hs : ∀ (j : Nat) (t : Stm), ss[j]? = some t → sumH h (ndS f b j t) = e t.op) : ∀ k, k ≤ ss.length → sumH h ((List.range k).flatMap (ndSs f b ss)) = sumP e (ss.take k) := by
  intro k
  induction k with
  | zero => intro _; rfl
  | succ k ih =>
    intro hk
    have ht : ss[k]? = some ss[k] := List.getElem?_eq_getElem (by omega)
    rw [range_flat, sumH_append, ih (by omega), ndSs_at ht, hs k _ ht, List.take_add_one, ht, sumP_append]
    simp [sumP]
theorem sum_blocks {h : Nd → Nat} {e : Int → Nat} {f : Nat} {bs : List Blk} (hs : ∀ (b : Nat) (B : Blk) (j : Nat) (t : Stm), bs[b]? = some B → B.ss[j]? = some t → sumH h (ndS f b j t) = e t.op) :
    ∀ k, k ≤ bs.length → sumH h ((List.range k).flatMap (ndBs f bs)) = sumP e ((bs.take k).flatMap Blk.ss) := by
  intro k
  induction k with
  | zero => intro _; rfl
  | succ k ih =>
    intro hk
    have ht : bs[k]? = some bs[k] := List.getElem?_eq_getElem (by omega)
    rw [range_flat, sumH_append, ih (by omega), ndBs_at ht, List.take_add_one, ht]
    have := sum_stmts (h := h) (e := e) (f := f) (b := k) (ss := bs[k].ss) (fun j t hj => hs k _ j t ht hj) bs[k].ss.length (Nat.le_refl _)
    unfold ndB
    rw [this, List.take_length, List.flatMap_append, sumP_append, Option.toList_some, List.flatMap_cons, List.flatMap_nil, List.append_nil]
theorem sum_funcs {h : Nd → Nat} {e : Int → Nat} {p : List Fnc} {c : Nat} (hc : ∀ f : Nat, h ⟨1, f, -1, -1⟩ + h ⟨2, f, -1, -1⟩ = c)
    (hs : ∀ (f : Nat) (F : Fnc) (b : Nat) (B : Blk) (j : Nat) (t : Stm), p[f]? = some F → F.bs[b]? = some B → B.ss[j]? = some t → sumH h (ndS f b j t) = e t.op) :
    ∀ k, k ≤ p.length → sumH h (pre1 p k) = k * c + sumP e ((p.take k).flatMap fncS) := by
  intro k
  induction k with
  | zero => intro _; simp [pre1, sumH, sumP]
  | succ k ih =>
    intro hk
    have ht : p[k]? = some p[k] := List.getElem?_eq_getElem (by omega)
    have hp : pre1 p (k + 1) = pre1 p k ++ ndF k p[k] := by unfold pre1; rw [range_flat, ndFs_at ht]
    rw [hp, sumH_append, ih (by omega), List.take_add_one, ht]
    have := sum_blocks (h := h) (e := e) (f := k) (bs := p[k].bs) (fun b B j t hb hj => hs k _ b B j t ht hb hj) p[k].bs.length (Nat.le_refl _)
    rw [List.take_length] at this
    have h2 : sumH h (ndF k p[k]) = c + sumP e (fncS p[k]) := by
      unfold ndF fncS
      rw [sumH_append, show (⟨1, k, -1, -1⟩ : Nd) :: (List.range p[k].bs.length).flatMap (ndBs k p[k].bs) = [(⟨1, k, -1, -1⟩ : Nd)] ++ (List.range p[k].bs.length).flatMap (ndBs k p[k].bs) from rfl, sumH_append, this]
      have := hc k
      unfold sumH
      simp
      omega
    rw [h2, Nat.succ_mul, List.flatMap_append, sumP_append, Option.toList_some, List.flatMap_cons, List.flatMap_nil, List.append_nil]
    omega
theorem check_parts {p : List Fnc} (h : (checkP p).2 = 0) : prgB p = true ∧ fitB p = true ∧ listN p = pre1 p p.length := by
  unfold checkP at h
  by_cases h1 : prgB p = true
  · rw [if_pos h1] at h
    by_cases h2 : ((funcsE p).2 == 0) = true
    · rw [if_pos h2] at h
      by_cases h3 : fitB p = true
      · refine ⟨h1, h3, ?_⟩
        unfold listN pre1 checkP
        rw [if_pos h1, if_pos h2, if_pos h3]
        rfl
      · rw [if_neg h3] at h; simp at h
    · rw [if_neg h2] at h
      rw [h] at h2
      simp at h2
  · rw [if_neg h1] at h; simp at h
theorem stm_ts {t : Stm} (h : stmB t = true) : (t.op = 3 ∨ t.op = 7 → t.ts.length = 1) ∧ (t.op = 8 → t.ts.length = 2) ∧ t.ts.length ≤ 2 ∧ 1 ≤ t.op ∧ t.op ≤ 9 := by
  unfold stmB at h
  simp only [Bool.and_eq_true] at h
  obtain ⟨⟨_, h2⟩, h3⟩ := h
  have hl : t.ts.length ≤ 2 := by
    unfold namesB at h2
    simp only [Bool.and_eq_true, decide_eq_true_eq] at h2
    omega
  unfold okP at h3
  refine ⟨fun ho => ?_, fun ho => ?_, hl, ?_⟩
  · rcases ho with ho | ho <;> (rw [ho] at h3; simp at h3; omega)
  · rw [ho] at h3; simp at h3; omega
  · split at h3
    · omega
    · split at h3
      · omega
      · split at h3
        · omega
        · split at h3
          · omega
          · split at h3
            · omega
            · split at h3
              · omega
              · split at h3
                · omega
                · simp at h3
theorem stE_len {p : List Fnc} {bs : List Blk} {f b j : Nat} {t : Stm} (h : stmB t = true) : (stE p bs f b j t).length + (if t.op == 3 then 1 else 0) = edgO t.op := by
  obtain ⟨h1, h2, h3, h4, h5⟩ := stm_ts h
  unfold stE edgO
  by_cases e7 : t.op = 7
  · have := h1 (.inr e7); simp [e7, this]
  · by_cases e8 : t.op = 8
    · have := h2 e8; simp [e8, this]
    · by_cases e9 : t.op = 9
      · simp [e9]
      · by_cases e3 : t.op = 3
        · simp [e3]
        · simp [e7, e8, e9, e3]
theorem lvE_at {p : List Fnc} {f b j : Nat} {F : Fnc} {B : Blk} {t : Stm} (h1 : p[f]? = some F) (h2 : F.bs[b]? = some B) (h3 : B.ss[j]? = some t) : lvE p ⟨3, f, b, j⟩ = stE p F.bs f b j t := by
  unfold lvE
  simp [h1, h2, h3]
theorem sizes_ok {p : List Fnc} (h : (checkP p).2 = 0) : (listN p).length = (sizesP p).1 ∧ (edgesN p).length = (sizesP p).2 ∧ (listN p).length ≤ 256 ∧ (edgesN p).length ≤ 1024 := by
  obtain ⟨hp, hf, hL⟩ := check_parts h
  obtain ⟨q1, q2, q3⟩ := prg_parts hp
  have hst : ∀ (f : Nat) (F : Fnc) (b : Nat) (B : Blk) (j : Nat) (t : Stm), p[f]? = some F → F.bs[b]? = some B → B.ss[j]? = some t → stmB t = true := fun f F b B j t h1 h2 h3 =>
    (blk_parts ((fnc_parts (q3 F (List.mem_of_getElem? h1))).2.2 B (List.mem_of_getElem? h2))).2.2 t (List.mem_of_getElem? h3)
  have hn : (listN p).length = 2 * p.length + sumP nodO (p.flatMap fncS) := by
    rw [← sumH_len, hL, sum_funcs (h := fun _ => 1) (e := nodO) (c := 2) (fun _ => rfl) (fun f F b B j t h1 h2 h3 => ?_) p.length (Nat.le_refl _), List.take_length]
    · omega
    · rw [sumH_len]; unfold ndS nodO; split <;> rfl
  have he : (edgesN p).length = p.length + sumP edgO (p.flatMap fncS) := by
    unfold edgesN
    rw [flat_sum, hL, sum_funcs (h := fun n => (lvE p n).length) (e := edgO) (c := 1) (fun f => ?_) (fun f F b B j t h1 h2 h3 => ?_) p.length (Nat.le_refl _), List.take_length]
    · omega
    · rfl
    · rw [← stE_len (p := p) (bs := F.bs) (f := f) (b := b) (j := j) (hst f F b B j t h1 h2 h3)]
      unfold ndS
      by_cases e3 : (t.op == 3) = true
      · rw [if_pos e3, if_pos e3]
        unfold sumH
        simp only [List.map_cons, List.map_nil, List.sum_cons, List.sum_nil, lvE_at h1 h2 h3]
        rfl
      · rw [if_neg e3, if_neg e3]
        unfold sumH
        simp only [List.map_cons, List.map_nil, List.sum_cons, List.sum_nil, lvE_at h1 h2 h3]
  have hs : stmtsP p = p.flatMap fncS := by unfold stmtsP; rw [if_pos hp]
  have hne : (stmtsP p).length ≠ 0 := by
    rw [hs]
    intro h0
    have h0 := List.length_eq_zero_iff.1 h0
    rw [List.flatMap_eq_nil_iff] at h0
    have hF : p[0] ∈ p := List.getElem_mem (by omega)
    have h1 := h0 _ hF
    obtain ⟨a1, _, a3⟩ := fnc_parts (q3 _ hF)
    unfold fncS at h1
    rw [List.flatMap_eq_nil_iff] at h1
    have hB : p[0].bs[0] ∈ p[0].bs := List.getElem_mem (by omega)
    have h2 := h1 _ hB
    have := (blk_parts (a3 _ hB)).1
    rw [h2] at this
    simp at this
  have hz : sizesP p = (2 * p.length + sumP nodO (p.flatMap fncS), p.length + sumP edgO (p.flatMap fncS)) := by unfold sizesP; rw [if_neg hne, hs]
  unfold fitB at hf
  rw [hz] at hf ⊢
  simp only [Bool.and_eq_true, decide_eq_true_eq] at hf
  exact ⟨hn, he, by omega, by omega⟩
theorem list_pos {p : List Fnc} (h : (checkP p).2 = 0) : 1 ≤ (listN p).length := by
  obtain ⟨hp, hf, hL⟩ := check_parts h
  obtain ⟨q1, q2, q3⟩ := prg_parts hp
  have hF : p[0]? = some p[0] := List.getElem?_eq_getElem (by omega)
  have : (⟨1, (0 : Nat), -1, -1⟩ : Nd) ∈ listN p := by
    rw [hL]
    unfold pre1
    refine List.mem_flatMap.2 ⟨0, List.mem_range.2 (by omega), ?_⟩
    rw [ndFs_at hF]
    unfold ndF
    simp
  exact List.length_pos_of_mem this
end Go.Proofs.YtfapgnbnfhpicaaDoor

namespace Go.Proofs.YtfapgnbnfhpicaaDoor
set_option maxRecDepth 20000
set_option linter.unusedVariables false
set_option linter.unusedSimpArgs false
open Go.ChangeShapes Go.WideShapes Go.ChangeAt Go.RowKit

theorem flat_nodup {f : Nat → List Nd} {key : Nd → Int} (h1 : ∀ i, (f i).Nodup) (h2 : ∀ i, ∀ x ∈ f i, key x = i) : ∀ n : Nat, ((List.range n).flatMap f).Nodup := by
  intro n
  induction n with
  | zero => exact List.nodup_nil
  | succ n ih =>
    rw [range_flat, List.nodup_append]
    refine ⟨ih, h1 n, ?_⟩
    intro a ha b hb e
    subst e
    obtain ⟨i, hi, hx⟩ := List.mem_flatMap.1 ha
    have e1 := h2 i a hx
    have e2 := h2 n a hb
    have := List.mem_range.1 hi
    omega
theorem ndS_mem {f b j : Nat} {t : Stm} {x : Nd} (h : x ∈ ndS f b j t) : (x.kd = 3 ∨ x.kd = 4) ∧ x.fn = f ∧ x.bk = b ∧ x.st = j := by
  unfold ndS at h
  split at h
  · simp at h
    rcases h with rfl | rfl
    · exact ⟨.inl rfl, rfl, rfl, rfl⟩
    · exact ⟨.inr rfl, rfl, rfl, rfl⟩
  · simp at h
    subst h
    exact ⟨.inl rfl, rfl, rfl, rfl⟩
theorem ndSs_mem {f b j : Nat} {ss : List Stm} {x : Nd} (h : x ∈ ndSs f b ss j) : (x.kd = 3 ∨ x.kd = 4) ∧ x.fn = f ∧ x.bk = b ∧ x.st = j := by
  unfold ndSs at h
  split at h
  · exact ndS_mem h
  · cases h
theorem ndSs_nodup (f b : Nat) (ss : List Stm) (j : Nat) : (ndSs f b ss j).Nodup := by
  unfold ndSs
  split
  · unfold ndS
    split
    · simp
    · simp
  · exact List.nodup_nil
theorem ndB_mem {f b : Nat} {y : Blk} {x : Nd} (h : x ∈ ndB f b y) : (x.kd = 3 ∨ x.kd = 4) ∧ x.fn = f ∧ x.bk = b := by
  obtain ⟨i, -, hx⟩ := List.mem_flatMap.1 h
  obtain ⟨h1, h2, h3, -⟩ := ndSs_mem hx
  exact ⟨h1, h2, h3⟩
theorem ndBs_mem {f b : Nat} {bs : List Blk} {x : Nd} (h : x ∈ ndBs f bs b) : (x.kd = 3 ∨ x.kd = 4) ∧ x.fn = f ∧ x.bk = b := by
  unfold ndBs at h
  split at h
  · exact ndB_mem h
  · cases h
theorem ndBs_nodup (f : Nat) (bs : List Blk) (b : Nat) : (ndBs f bs b).Nodup := by
  unfold ndBs
  split
  · exact flat_nodup (key := Nd.st) (ndSs_nodup f b _) (fun i x h => (ndSs_mem h).2.2.2) _
  · exact List.nodup_nil
theorem ndF_nodup (f : Nat) (y : Fnc) : (ndF f y).Nodup := by
  unfold ndF
  have h1 : ((List.range y.bs.length).flatMap (ndBs f y.bs)).Nodup := flat_nodup (key := Nd.bk) (ndBs_nodup f y.bs) (fun i x h => (ndBs_mem h).2.2) _
  have h2 : ∀ x ∈ (List.range y.bs.length).flatMap (ndBs f y.bs), x.kd = 3 ∨ x.kd = 4 := by
    intro x hx
    obtain ⟨i, -, hx⟩ := List.mem_flatMap.1 hx
    exact (ndBs_mem hx).1
  rw [List.cons_append, List.nodup_cons, List.nodup_append]
  refine ⟨?_, h1, by simp, ?_⟩
  · intro h
    rcases List.mem_append.1 h with h | h
    · rcases h2 _ h with e | e <;> cases e
    · simp at h
  · intro a ha b hb e
    subst e
    simp at hb
    subst hb
    rcases h2 _ ha with e | e <;> cases e
theorem ndF_mem {f : Nat} {y : Fnc} {x : Nd} (h : x ∈ ndF f y) : x.fn = f := by
  unfold ndF at h
  rw [List.cons_append, List.mem_cons, List.mem_append] at h
  rcases h with rfl | h | h
  · rfl
  · obtain ⟨i, -, hx⟩ := List.mem_flatMap.1 h
    exact (ndBs_mem hx).2.1
  · simp at h
    subst h
    rfl
theorem ndFs_mem {fs : List Fnc} {f : Nat} {x : Nd} (h : x ∈ ndFs fs f) : x.fn = f := by
  unfold ndFs at h
  split at h
  · exact ndF_mem h
  · cases h
theorem ndFs_nodup (fs : List Fnc) (f : Nat) : (ndFs fs f).Nodup := by
  unfold ndFs
  split
  · exact ndF_nodup f _
  · exact List.nodup_nil
theorem list_nodup (p : List Fnc) : (listN p).Nodup := by
  unfold listN
  split
  · exact flat_nodup (key := Nd.fn) (ndFs_nodup p) (fun i x h => ndFs_mem h) _
  · exact List.nodup_nil
/-- P7.2: a node is found at its index. -/
theorem find_index {L : List Nd} (hd : L.Nodup) {n : Nd} {i : Nat} (h : L[i]? = some n) : findI L n = i := by
  have hi := (List.getElem?_eq_some_iff.1 h).1
  refine find_hit (k := i) ?_ hi h
  rw [List.findSome?_eq_none_iff]
  intro j hj
  have hji := List.mem_range.1 hj
  unfold findAt
  rw [if_neg]
  intro e
  have hj2 : j < L.length := by omega
  exact List.pairwise_iff_getElem.1 hd j i hj2 hi hji ((List.getElem?_eq_some_iff.1 e).2.trans (List.getElem?_eq_some_iff.1 h).2.symm)
end Go.Proofs.YtfapgnbnfhpicaaDoor

namespace Go.Proofs.YtfapgnbnfhpicaaDoor
set_option maxRecDepth 20000
set_option linter.unusedVariables false
set_option linter.unusedSimpArgs false
open Go.ChangeShapes Go.WideShapes Go.ChangeAt Go.RowKit

/-- The edges as pairs of numbers. -/
def numsE (p : List Fnc) : List (Nat × Nat) := (edgesN p).map (numE (listN p))
def sucF (p : List Fnc) (a : Nat) : List Int := rowP (listN p).length fun b => decide ((b : Int) ∈ outF (numsE p) a)
def sucL (p : List Fnc) : List (List Int) := rowsF (listN p).length (sucF p)
/-- What the sorted part of the lists holds. -/
def srF (N : Nat) (E : List (Nat × Nat)) (k : Nat) (a : Nat) : List Int := if a < k then rowP N (fun b => decide ((b : Int) ∈ outF E a)) else outF E a
theorem nodes_ok {p : List Fnc} (h : (checkP p).2 = 0) : ∀ n ∈ listN p, NdOk p n ∧ wfN n := by
  obtain ⟨hp, hf, hL⟩ := check_parts h
  obtain ⟨q1, q2, q3⟩ := prg_parts hp
  intro n hn
  rw [hL] at hn
  unfold pre1 at hn
  obtain ⟨f, hf1, hn⟩ := List.mem_flatMap.1 hn
  have hf1 := List.mem_range.1 hf1
  have hF : p[f]? = some p[f] := List.getElem?_eq_getElem hf1
  rw [ndFs_at hF] at hn
  have hfl : f ≤ 1000 := by omega
  obtain ⟨a1, a2, a3⟩ := fnc_parts (q3 _ (List.getElem_mem hf1))
  unfold ndF at hn
  simp only [List.mem_append, List.mem_cons, List.mem_singleton, List.not_mem_nil, or_false] at hn
  rcases hn with (rfl | hn) | rfl
  · exact ⟨.entry f hfl, wf_small (by omega) (by omega) (by omega) (by omega)⟩
  · obtain ⟨b, hb1, hn⟩ := List.mem_flatMap.1 hn
    have hb1 := List.mem_range.1 hb1
    have hB : p[f].bs[b]? = some p[f].bs[b] := List.getElem?_eq_getElem hb1
    rw [ndBs_at hB] at hn
    obtain ⟨c1, c2, c3⟩ := blk_parts (a3 _ (List.getElem_mem hb1))
    unfold ndB at hn
    obtain ⟨j, hj1, hn⟩ := List.mem_flatMap.1 hn
    have hj1 := List.mem_range.1 hj1
    have hS : p[f].bs[b].ss[j]? = some p[f].bs[b].ss[j] := List.getElem?_eq_getElem hj1
    rw [ndSs_at hS] at hn
    have hst := stm_ts (c3 _ (List.getElem_mem hj1))
    have hts : (p[f].bs[b].ss[j].op == 3) = true → p[f].bs[b].ss[j].ts ≠ [] := fun e h0 => by
      have := hst.1 (.inl (by simpa using e))
      rw [h0] at this
      simp at this
    have h3 : NdOk p ⟨3, f, b, j⟩ ∧ wfN ⟨3, f, b, j⟩ := ⟨.stmt f b j _ _ _ hF hB hS hts, wf_small (by omega) (by omega) (by omega) (by omega)⟩
    have h4 : NdOk p ⟨4, f, b, j⟩ ∧ wfN ⟨4, f, b, j⟩ := ⟨.retn f b j hfl (by omega) (by omega), wf_small (by omega) (by omega) (by omega) (by omega)⟩
    unfold ndS at hn
    split at hn
    · simp only [List.mem_cons, List.not_mem_nil, or_false] at hn
      rcases hn with rfl | rfl
      · exact h3
      · exact h4
    · simp only [List.mem_cons, List.not_mem_nil, or_false] at hn
      subst hn
      exact h3
  · exact ⟨.exit f hfl, wf_small (by omega) (by omega) (by omega) (by omega)⟩
theorem drew_size (w : World) : w.drew.heap.size = w.heap.size := rfl
/-- What stands in Build before the builder is made. -/
structure Bw (w : World) (P0 : Nat) (x : PH) (A : Option Addr) (L : List Nd) (v : World) : Prop where
  bel : Below w.heap.size w v
  par : Fb v P0 #[.slice x.A x.n x.c] 24
  res : Fb v (P0 + 1) #[.slice none 0 0, .slice none 0 0, .slice none 0 0] 31
  nds : ∀ ex : List (Option Nat), (∀ k, some k ∈ ex → k < w.heap.size + 2) → EAt v ex A (L.flatMap ndc)
  peq : P0 = w.heap.size
theorem Bw.below {w v v' : World} {P0 : Nat} {x : PH} {A : Option Addr} {L : List Nd} (h : Bw w P0 x A L v) (hb : Below v.heap.size v v') : Bw w P0 x A L v' :=
  ⟨below_step h.bel hb, h.par.below hb h.par.lt, h.res.below hb h.res.lt, fun ex hex => (h.nds ex hex).go (Go2.below hb), h.peq⟩
/-- The builder while its lists are sorted. -/
structure Bms (w0 : World) (x : PH) (B MB M N : Nat) (f : Nat → List Int) (w : World) : Prop where
  box : Fb w B #[.slice x.A x.n x.c, .map (some MB), .slice (some ⟨M, 0, none⟩) N N] 60
  mx : Mx w M N f
  bel : Below w0.heap.size w0 w
  mle : w0.heap.size ≤ M
theorem Bms.below {w0 w w' : World} {x : PH} {B MB M N : Nat} {f : Nat → List Int} (h : Bms w0 x B MB M N f w) (hb : Below w.heap.size w w') : Bms w0 x B MB M N f w' :=
  ⟨h.box.below hb h.box.lt, h.mx.below hb, below_step h.bel hb, h.mle⟩
theorem ints_mem {E : List (Nat × Nat)} {N : Nat} (hE : ∀ e ∈ E, e.2 < N) (a : Nat) : ∀ x ∈ outF E a, 0 ≤ x ∧ x < (N : Int) := by
  intro x hx
  obtain ⟨c, hc, rfl⟩ := outF_mem.1 hx
  have := hE _ hc
  simp only at this
  omega
theorem srF_step {N : Nat} {E : List (Nat × Nat)} {k : Nat} (hE : ∀ e ∈ E, e.2 < N) (a : Nat) : upd (srF N E k) k (Lib.compact (srtI (outF E k))) a = srF N E (k + 1) a := by
  by_cases e : a = k
  · subst e
    rw [upd_at, compact_row (ints_mem hE a)]
    unfold srF
    rw [if_pos (by omega)]
  · rw [upd_ne _ _ e]
    unfold srF
    by_cases e2 : a < k
    · rw [if_pos e2, if_pos (by omega)]
    · rw [if_neg e2, if_neg (by omega)]
theorem srF_at {N : Nat} {E : List (Nat × Nat)} {k : Nat} : srF N E k k = outF E k := by unfold srF; rw [if_neg (by omega)]
theorem srF_zero (N : Nat) (E : List (Nat × Nat)) (a : Nat) : srF N E 0 a = outF E a := by unfold srF; rw [if_neg (by omega)]
theorem slice_own {A : Option Addr} {n c m d : Nat} : (Value.slice A n c).ownBlock = (Value.slice A m d).ownBlock := by cases A <;> rfl
theorem Bms.turn {w0 w w2 : World} {x : PH} {B MB M N : Nat} {E : List (Nat × Nat)} {k n c n2 c2 : Nat} {A : Option Addr} (h : Bms w0 x B MB M N (srF N E k) w) (hE : ∀ e ∈ E, e.2 < N) (hk : k < N) (hc : w.cell? ⟨M, k, none⟩ = some (.slice A n c))
    (hg : w.grownBy w2 (Value.slice A n c).ownBlock) (ho : w2.ownsRow (M + 1) 3 1 (.slice A n2 c2) n2 (ints (Lib.compact (srtI (outF E k))))) (hn2 : (Lib.compact (srtI (outF E k))).length = n2) :
    (w2.cell? ⟨M, k, none⟩ = some (.slice A n c) ∧ w2.frozen? ⟨M, k, none⟩ = false) ∧ Bms w0 x B MB M N (srF N E (k + 1)) (w2.setCell ⟨M, k, none⟩ (.slice A n2 c2)) := by
  obtain ⟨h1, h2, h3⟩ := h.mx.of hk hc
  subst hn2
  have hbM := h.mx.fb h.box (by decide)
  refine ⟨h2 _ hg, ⟨(h.box.grown hg (fb_ne_own h.box h1 (by decide))).far (by simpa using hbM) _, ?_, ?_, h.mle⟩⟩
  · exact (h3 w2 (.slice A (Lib.compact (srtI (outF E k))).length c2) _ hg ho (fun g hg2 => .inl (by rw [← hg2]; exact slice_own))).congr fun a _ => srF_step hE a
  · exact (h.bel.grown hg h.bel.size (fun j hj => by have := (h1.lt j hj).1; have := h.mle; omega)).setCell (by simpa using h.mle) _
theorem numsE_lt {p : List Fnc} {N : Nat} (h : (listN p).length = N) (hN : 1 ≤ N) : ∀ e ∈ numsE p, e.2 < N := by
  intro e he
  obtain ⟨e2, _, rfl⟩ := List.mem_map.1 he
  show numN (listN p) e2.2 < N
  rw [← h]; exact numN_lt (by omega) _
theorem flat_take {p : List Fnc} {L : List Nd} {k : Nat} {y : Nd} (h : L[k]? = some y) : ((L.take k).flatMap (lvE p)).map (numE L) ++ (lvE p y).map (numE L) = ((L.take (k + 1)).flatMap (lvE p)).map (numE L) := by
  rw [List.take_add_one, h]; simp
theorem flat_take_len {p : List Fnc} {L : List Nd} {k m : Nat} (h : (L.flatMap (lvE p)).length ≤ m) : (((L.take k).flatMap (lvE p)).map (numE L)).length ≤ m := by
  rw [List.length_map]
  refine Nat.le_trans ?_ h
  conv => rhs; rw [← List.take_append_drop k L]
  rw [List.flatMap_append, List.length_append]
  omega
theorem mx_nil {w : World} {M N : Nat} (h : Fb w M (Array.replicate N (Value.slice none 0 0)) 35) : Mx w M N (outF []) := by
  refine ⟨List.replicate N (.slice none 0 0), by simp, by rw [List.toArray_replicate]; exact h, fun i v hv => ?_, fun i j u v g _ hu hv hg => ?_⟩
  · obtain rfl := List.eq_of_mem_replicate (List.mem_of_getElem? hv)
    exact World.ownsRow_nil _ _ _ _
  · obtain rfl := List.eq_of_mem_replicate (List.mem_of_getElem? hu)
    simp [Value.ownBlock] at hg
theorem NMp.far {w : World} {MB B t : Nat} {cs : Array Value} {L : List Nd} (h : NMp w MB L) (hf : Fb w B cs t) (o : Nat) (u : Value) : NMp (w.setCell ⟨B, o, none⟩ u) MB L := by
  refine h.kept (setCell_grown w ⟨B, o, none⟩ u) (fun e => ?_)
  injection e with e
  simp only at e
  obtain ⟨es, clock, hm⟩ := h.isMap
  unfold Fb at hf
  rw [← e, hm] at hf
  cases hf
section
variable {w5 wn : World} {x : PH} {MB N : Nat} {L : List Nd}
theorem bl1 (hm : NMp wn MB L) (hb : Below w5.heap.size w5 wn) :
    Bls w5 x (wn.heap.size + 1) MB wn.heap.size N L [] ((wn.alloc (.cells (Array.replicate N (Value.slice none 0 0)) 35)).alloc (.cells #[.slice x.A x.n x.c, .map (some MB), .slice (some ⟨wn.heap.size, 0, none⟩) N N] 60)) :=
  ⟨by have := Fb.new (wn.alloc (.cells (Array.replicate N (Value.slice none 0 0)) 35)) #[.slice x.A x.n x.c, .map (some MB), .slice (some ⟨wn.heap.size, 0, none⟩) N N] 60; rwa [World.size_alloc] at this,
    hm.below (((Below.refl _ _).alloc (Nat.le_refl _) _).alloc (by simp) _), mx_nil ((Fb.new _ _ _).alloc _), (hb.alloc hb.size _).alloc (by simp; have := hb.size; omega) _, hb.size⟩
theorem bl2 (hm : NMp wn MB L) (hb : Below w5.heap.size w5 wn) :
    Bls w5 x wn.heap.size MB (wn.heap.size + 1) N L [] ((wn.alloc (.cells #[.slice x.A x.n x.c, .map (some MB), .slice (some ⟨wn.heap.size + 1, 0, none⟩) N N] 60)).alloc (.cells (Array.replicate N (Value.slice none 0 0)) 35)) :=
  ⟨(Fb.new _ _ _).alloc _, hm.below (((Below.refl _ _).alloc (Nat.le_refl _) _).alloc (by simp) _),
    mx_nil (by have := Fb.new (wn.alloc (.cells #[.slice x.A x.n x.c, .map (some MB), .slice (some ⟨wn.heap.size + 1, 0, none⟩) N N] 60)) (Array.replicate N (Value.slice none 0 0)) 35; rwa [World.size_alloc] at this),
    (hb.alloc hb.size _).alloc (by simp; have := hb.size; omega) _, by have := hb.size; omega⟩
theorem bl3 (hm : NMp wn MB L) (hb : Below w5.heap.size w5 wn) (hk : Below (w5.alloc (.cells (Array.replicate N (Value.slice none 0 0)) 35)).drew.heap.size (w5.alloc (.cells (Array.replicate N (Value.slice none 0 0)) 35)).drew wn) :
    Bls w5 x wn.heap.size MB w5.heap.size N L [] (wn.alloc (.cells #[.slice x.A x.n x.c, .map (some MB), .slice (some ⟨w5.heap.size, 0, none⟩) N N] 60)) :=
  have h1 : Fb (w5.alloc (.cells (Array.replicate N (Value.slice none 0 0)) 35)).drew w5.heap.size (Array.replicate N (Value.slice none 0 0)) 35 := Fb.new w5 _ _
  ⟨Fb.new _ _ _, hm.below ((Below.refl _ _).alloc (Nat.le_refl _) _), mx_nil ((h1.below hk h1.lt).alloc _), hb.alloc hb.size _, Nat.le_refl _⟩
theorem set3 {w : World} {B : Nat} {a b c a' b' c' : Value} {t : Nat} (h : Fb w B #[a, b, c] t) : Fb (((w.setCell ⟨B, 0, none⟩ a').setCell ⟨B, 1, none⟩ b').setCell ⟨B, 2, none⟩ c') B #[a', b', c'] t := by
  have := ((h.set 0 a').set 1 b').set 2 c'
  simpa using this
theorem far3 {w : World} {B g t : Nat} {a' b' c' : Value} {cs : Array Value} (h : Fb w g cs t) (hne : g ≠ B) : Fb (((w.setCell ⟨B, 0, none⟩ a').setCell ⟨B, 1, none⟩ b').setCell ⟨B, 2, none⟩ c') g cs t :=
  ((h.far (p := ⟨B, 0, none⟩) hne _).far (p := ⟨B, 1, none⟩) hne _).far (p := ⟨B, 2, none⟩) hne _
theorem map3 {w : World} {B t : Nat} {a b c a' b' c' : Value} (hm : NMp w MB L) (h : Fb w B #[a, b, c] t) : NMp (((w.setCell ⟨B, 0, none⟩ a').setCell ⟨B, 1, none⟩ b').setCell ⟨B, 2, none⟩ c') MB L :=
  ((hm.far h 0 a').far (h.set 0 a') 1 b').far ((h.set 0 a').set 1 b') 2 c'
theorem bel3 {w : World} {B : Nat} {a' b' c' : Value} (hb : Below w5.heap.size w5 w) (hB : w5.heap.size ≤ B) : Below w5.heap.size w5 (((w.setCell ⟨B, 0, none⟩ a').setCell ⟨B, 1, none⟩ b').setCell ⟨B, 2, none⟩ c') :=
  ((hb.setCell (by simpa using hB) _).setCell (by simpa using hB) _).setCell (by simpa using hB) _
theorem bl4 (hm : NMp wn MB L) (hb : Below w5.heap.size w5 wn)
    (hk : Below ((w5.alloc (.cells (Array.replicate N (Value.slice none 0 0)) 35)).alloc (.cells #[.slice none 0 0, .map none, .slice none 0 0] 60)).drew.heap.size ((w5.alloc (.cells (Array.replicate N (Value.slice none 0 0)) 35)).alloc (.cells #[.slice none 0 0, .map none, .slice none 0 0] 60)).drew wn) :
    Bls w5 x (w5.heap.size + 1) MB w5.heap.size N L [] (((wn.setCell ⟨w5.heap.size + 1, 0, none⟩ (.slice x.A x.n x.c)).setCell ⟨w5.heap.size + 1, 1, none⟩ (.map (some MB))).setCell ⟨w5.heap.size + 1, 2, none⟩ (.slice (some ⟨w5.heap.size, 0, none⟩) N N)) :=
  have h1 : Fb ((w5.alloc (.cells (Array.replicate N (Value.slice none 0 0)) 35)).alloc (.cells #[.slice none 0 0, .map none, .slice none 0 0] 60)).drew w5.heap.size (Array.replicate N (Value.slice none 0 0)) 35 := (Fb.new w5 _ _).alloc _
  have h2 : Fb ((w5.alloc (.cells (Array.replicate N (Value.slice none 0 0)) 35)).alloc (.cells #[.slice none 0 0, .map none, .slice none 0 0] 60)).drew (w5.heap.size + 1) #[.slice none 0 0, .map none, .slice none 0 0] 60 := by
    have := Fb.new (w5.alloc (.cells (Array.replicate N (Value.slice none 0 0)) 35)) #[.slice none 0 0, .map none, .slice none 0 0] 60
    rw [World.size_alloc] at this
    exact this
  ⟨set3 (h2.below hk h2.lt), map3 hm (h2.below hk h2.lt), mx_nil (far3 (h1.below hk h1.lt) (by omega)), bel3 hb (by omega), Nat.le_refl _⟩
theorem bl5 (hm : NMp wn MB L) (hb : Below w5.heap.size w5 wn)
    (hk : Below (w5.alloc (.cells #[.slice none 0 0, .map none, .slice none 0 0] 60)).drew.heap.size (w5.alloc (.cells #[.slice none 0 0, .map none, .slice none 0 0] 60)).drew wn) :
    Bls w5 x w5.heap.size MB wn.heap.size N L [] ((((wn.setCell ⟨w5.heap.size, 0, none⟩ (.slice x.A x.n x.c)).setCell ⟨w5.heap.size, 1, none⟩ (.map (some MB))).setCell ⟨w5.heap.size, 2, none⟩ (.slice (some ⟨wn.heap.size, 0, none⟩) N N)).alloc (.cells (Array.replicate N (Value.slice none 0 0)) 35)) :=
  have h2 : Fb (w5.alloc (.cells #[.slice none 0 0, .map none, .slice none 0 0] 60)).drew w5.heap.size #[.slice none 0 0, .map none, .slice none 0 0] 60 := Fb.new w5 _ _
  have h3 := h2.below hk h2.lt
  have hb3 := bel3 (a' := .slice x.A x.n x.c) (b' := .map (some MB)) (c' := .slice (some ⟨wn.heap.size, 0, none⟩) N N) hb (Nat.le_refl w5.heap.size)
  ⟨(set3 h3).alloc _, (map3 hm h3).below ((Below.refl _ _).alloc (Nat.le_refl _) _),
    mx_nil (by have := Fb.new (((wn.setCell ⟨w5.heap.size, 0, none⟩ (.slice x.A x.n x.c)).setCell ⟨w5.heap.size, 1, none⟩ (.map (some MB))).setCell ⟨w5.heap.size, 2, none⟩ (.slice (some ⟨wn.heap.size, 0, none⟩) N N)) (Array.replicate N (Value.slice none 0 0)) 35; simpa using this),
    hb3.alloc hb3.size _, hb.size⟩
theorem bl6 (hm : NMp wn MB L) (hb : Below w5.heap.size w5 wn)
    (hk : Below ((w5.alloc (.cells #[.slice none 0 0, .map none, .slice none 0 0] 60)).alloc (.cells (Array.replicate N (Value.slice none 0 0)) 35)).drew.heap.size ((w5.alloc (.cells #[.slice none 0 0, .map none, .slice none 0 0] 60)).alloc (.cells (Array.replicate N (Value.slice none 0 0)) 35)).drew wn) :
    Bls w5 x w5.heap.size MB (w5.heap.size + 1) N L [] (((wn.setCell ⟨w5.heap.size, 0, none⟩ (.slice x.A x.n x.c)).setCell ⟨w5.heap.size, 1, none⟩ (.map (some MB))).setCell ⟨w5.heap.size, 2, none⟩ (.slice (some ⟨w5.heap.size + 1, 0, none⟩) N N)) :=
  have h2 : Fb ((w5.alloc (.cells #[.slice none 0 0, .map none, .slice none 0 0] 60)).alloc (.cells (Array.replicate N (Value.slice none 0 0)) 35)).drew w5.heap.size #[.slice none 0 0, .map none, .slice none 0 0] 60 := (Fb.new w5 _ _).alloc _
  have h1 : Fb ((w5.alloc (.cells #[.slice none 0 0, .map none, .slice none 0 0] 60)).alloc (.cells (Array.replicate N (Value.slice none 0 0)) 35)).drew (w5.heap.size + 1) (Array.replicate N (Value.slice none 0 0)) 35 := by
    have := Fb.new (w5.alloc (.cells #[.slice none 0 0, .map none, .slice none 0 0] 60)) (Array.replicate N (Value.slice none 0 0)) 35
    rw [World.size_alloc] at this
    exact this
  ⟨set3 (h2.below hk h2.lt), map3 hm (h2.below hk h2.lt), mx_nil (far3 (h1.below hk h1.lt) (by omega)), bel3 hb (Nat.le_refl _), by omega⟩
end
theorem bld_done {w wr w8 : World} {P0 M N c : Nat} {x : PH} {A : Option Addr} {L : List Nd} {yl : List RH} {y2 : LH} {S P : List (List Int)} {a b d : Value} (hW : Bw w P0 x A L wr) (hb : Below wr.heap.size wr w8) (hM : P0 + 2 ≤ M) (hl : L.length = N) (hN : N ≤ 100000)
    (hS : (⟨some ⟨M, 0, none⟩, N, N, yl⟩ : LH).v = S) (hS2 : ∀ ex : List (Option Nat), (∀ k, some k ∈ ex → k < M) → LHok wr ex ⟨some ⟨M, 0, none⟩, N, N, yl⟩) (hP : y2.v = P) (hP2 : ∀ ex : List (Option Nat), (∀ k, some k ∈ ex → k < wr.drew.heap.size) → LHok w8 ex y2) (hsz : w.heap.size + 2 ≤ wr.heap.size) :
    RetGr w L S P 0 (.returned (.tuple #[.agg #[.slice A N c, .slice (some ⟨M, 0, none⟩) N N, .slice y2.A y2.n y2.c], .int .i64 0])) (((w8.setCell ⟨P0 + 1, 0, none⟩ a).setCell ⟨P0 + 1, 1, none⟩ b).setCell ⟨P0 + 1, 2, none⟩ d) := by
  have hp := hW.peq
  refine ⟨⟨A, N, c, L, ⟨some ⟨M, 0, none⟩, N, N, yl⟩, y2⟩, rfl, rfl, hS, hP, fun ex hex => ?_, ?_⟩
  · have hx : ∀ k, some k ∈ some (P0 + 1) :: ex → k < w.heap.size + 2 := fun k hk => by
      rcases List.mem_cons.1 hk with e | e
      · injection e with e; omega
      · have := hex k e; omega
    have h1 : GHok w8 (some (P0 + 1) :: ex) ⟨A, N, c, L, ⟨some ⟨M, 0, none⟩, N, N, yl⟩, y2⟩ :=
      ⟨(hW.below hb).nds _ hx, hl, by show N ≤ _; omega, (hS2 _ (fun k hk => by have := hx k hk; omega)).below hb, hP2 _ (fun k hk => by have := hx k hk; show k < wr.heap.size; omega)⟩
    have hs : ∀ (u : World) (o : Nat) (z : Value), Go2 u (some (P0 + 1) :: ex) (u.setCell ⟨P0 + 1, o, none⟩ z) (some (P0 + 1) :: ex) := fun u o z => Go2.same (row := some (P0 + 1)) (setCell_grown u ⟨P0 + 1, o, none⟩ z) (.inr (by simp))
    exact (((h1.go (hs _ 0 a)).go (hs _ 1 b)).go (hs _ 2 d)).go (Go2.less _ (fun k hk => by simp [hk]))
  · have hbw := (hW.below hb).bel
    exact ((hbw.setCell (by simp; omega) _).setCell (by simp; omega) _).setCell (by simp; omega) _
set_option maxHeartbeats 16000000 in
theorem build_yes (x : PH) (ex : List (Option Nat)) (w : World) (h : PHok w ex x) (hs : Shp w) (hc : (checkP x.p).2 = 0) :
    Calls Tryd.prog 5 #[.agg #[.slice x.A x.n x.c]] w (RetGr w (listN x.p) (sucL x.p) (revL (listN x.p).length (sucL x.p)) 0) := by
  obtain ⟨z1, z2, z3, z4⟩ := sizes_ok hc
  have Hno := hid (nodes_ok hc)
  have Hnd := hid (list_nodup x.p)
  have HEl := hid z4
  have Hnl := hid (numsE_lt (p := x.p) rfl (list_pos hc))
  have hN1 := list_pos hc
  have hb0 : Below w.heap.size w ((w.alloc (.cells #[.slice x.A x.n x.c] 24)).alloc (.cells #[.slice none 0 0, .slice none 0 0, .slice none 0 0] 31)) := ((Below.refl _ _).alloc (Nat.le_refl _) _).alloc (by simp) _
  have HB0 := hid hb0
  have HP0 := hid ((Fb.new w #[.slice x.A x.n x.c] 24).alloc (.cells #[.slice none 0 0, .slice none 0 0, .slice none 0 0] 31))
  have HR0 := hid (show Fb ((w.alloc (.cells #[.slice x.A x.n x.c] 24)).alloc (.cells #[.slice none 0 0, .slice none 0 0, .slice none 0 0] 31)) (w.heap.size + 1) #[.slice none 0 0, .slice none 0 0, .slice none 0 0] 31 by
    have := Fb.new (w.alloc (.cells #[.slice x.A x.n x.c] 24)) #[.slice none 0 0, .slice none 0 0, .slice none 0 0] 31; rwa [World.size_alloc] at this)
  have HX := hid (fun (v : World) (hb : Below w.heap.size w v) => h.go (Go2.below hb))
  have HS := hid (fun (v : World) (hb : Below w.heap.size w v) => hs.keep (hb.block 0 hs.pos0))
  have HCk := hid (fun (v : World) (hb : Below w.heap.size w v) => check_any x ex v (HX.out v hb) (HS.out v hb))
  have HLs := hid (fun (v : World) (hb : Below w.heap.size w v) => list_any x ex v (HX.out v hb) (HS.out v hb))
  have hq : ∃ q, checkP x.p = q := ⟨_, rfl⟩
  obtain ⟨⟨⟨qa, qb, qc, qd⟩, qe⟩, hq⟩ := hq
  rw [hq] at hc HCk
  simp only at hc
  subst hc
  have Hsl := hid (show sucL x.p = rowsF (listN x.p).length (srF (listN x.p).length (numsE x.p) (listN x.p).length) by
    unfold sucL rowsF
    refine List.map_congr_left fun a ha => ?_
    unfold sucF srF
    rw [if_pos (List.mem_range.1 ha)])
  have HNe := hid (show (edgesN x.p).map (numE (listN x.p)) = numsE x.p from rfl)
  have HLe := hid (show (listN x.p).flatMap (lvE x.p) = edgesN x.p from rfl)
  clear h hs hb0 z1 z2 z4 hq
  generalize listN x.p = L at *
  generalize hln : L.length = N at *
  have Hln := hid hln
  clear hln
  go_enter Tryd.func5, Tryd.ntmps5
  go_wp2_with fail
  have hG : ∃ G, w.heap.size = G := ⟨_, rfl⟩
  obtain ⟨G, hG⟩ := hG
  have HGe := hid hG
  rw [hG] at HP0 HR0 ⊢
  clear hG
  generalize (w.alloc (.cells #[.slice x.A x.n x.c] 24)).alloc (.cells #[.slice none 0 0, .slice none 0 0, .slice none 0 0] 31) = w1 at *
  refine (HCk.out _ HB0.out).mono ?_
  rintro e w2 ⟨rfl, hb2⟩
  have ha := (Below.refl w2.heap.size w2).alloc (Nat.le_refl _) (.cells #[.int .i64 qa, .int .i64 qb, .int .i64 qc, .int .i64 qd] 53)
  have hb3 := below_step hb2 ha
  have HB3 := hid (below_step HB0.out hb3)
  have HP3 := hid (HP0.out.below hb3 HP0.out.lt)
  have HR3 := hid (HR0.out.below hb3 HR0.out.lt)
  have p0 := HP3.out.onec
  have hpl := HP3.out.lt
  have hG1 : w2.heap.size ≠ G := by have := HP0.out.lt; have := hb2.size; omega
  clear ha hb2 hb3 HB0 HP0 HR0 HCk
  simp only
  go_wp2_with fail
  clear p0 hpl hG1
  generalize w2.alloc (.cells #[.int .i64 qa, .int .i64 qb, .int .i64 qc, .int .i64 qd] 53) = w3 at *
  have hsz3 : G + 2 ≤ w3.heap.size := HR3.out.lt
  refine (HLs.out _ HB3.out).mono ?_
  rintro e w5 ⟨A, c, rfl, hE, hLl, hb5⟩
  have HW5 := hid (show Bw w G x A L w5 from ⟨below_step HB3.out hb5, HP3.out.below hb5 HP3.out.lt, HR3.out.below hb5 HR3.out.lt, fun ex hex => hE ex (fun k hk => by have := hex k hk; have := HGe.out; omega), HGe.out.symm⟩)
  clear hE hLl hb5 hsz3 HB3 HP3 HR3
  rw [Hln.out]
  have p0 := HW5.out.par.onec
  have hpl := HW5.out.par.lt
  go_wp2_with fail
  have hrow := run_mkrows N (by omega)
  go_cut [7] (fun a wd => ∃ (B MB M : Nat), a = .pointer (some ⟨B, 0, none⟩) ∧ Hid (Bls w5 x B MB M N L [] wd))
  case first =>
    have HN44 := hid (fun (v : World) (hb : Below w5.heap.size w5 v) => numbers_any A N c L v ((HW5.out.below hb).nds [] (by simp)) Hln.out (by omega) Hnd.out (fun y hy => (Hno.out y hy).2))
    have HPb := hid (fun (v : World) (hb : Below w5.heap.size w5 v) => And.intro (HW5.out.below hb).par.onec (HW5.out.below hb).par.lt)
    have hcur : Below w5.heap.size w5 w5.drew := (Below.refl _ _).drew
    go_region_law (
      (go_simp
       go_at_call 15
       refine (HN44.out _ (by first | exact hcur | exact hcur.alloc (by simp) _ | exact (hcur.alloc (by simp) _).alloc (by simp) _)).mono ?_
       rintro e wn ⟨MB, rfl, hm, hmb, hbk⟩
       have HM := hid hm
       have HBk := hid hbk
       have hcw : Below w5.heap.size w5 wn := by first | exact below_step hcur hbk | exact below_step (hcur.alloc (by simp) _) hbk | exact below_step ((hcur.alloc (by simp) _).alloc (by simp) _) hbk
       obtain ⟨p0, hpl⟩ := HPb.out wn hcw
       have HCw := hid hcw
       clear hcw
       obtain ⟨hcc, hff⟩ := bcell hbk
       have hzz := hbk.size
       try simp only [drew_size, World.size_alloc] at hzz hcc hff
       try (have hl5 : w5.heap.size < wn.heap.size := by omega)
       try (have hl6 : w5.heap.size + 1 < wn.heap.size := by omega)
       clear hm hbk hmb))
    all_goals
      clear hcc hff hzz p0 hpl hcur hrow
      go_wp2_with fail
      go_meet
      first
      | exact ⟨_, MB, _, rfl, hid (bl1 HM.out HCw.out)⟩
      | exact ⟨_, MB, _, rfl, hid (bl2 HM.out HCw.out)⟩
      | exact ⟨_, MB, _, rfl, hid (bl3 HM.out HCw.out HBk.out)⟩
      | exact ⟨_, MB, _, rfl, hid (bl4 HM.out HCw.out HBk.out)⟩
      | exact ⟨_, MB, _, rfl, hid (bl5 HM.out HCw.out HBk.out)⟩
      | exact ⟨_, MB, _, rfl, hid (bl6 HM.out HCw.out HBk.out)⟩
  case rest =>
    obtain ⟨B, MB, M, rfl, HL⟩ := hcut
    have HX5 := hid (HX.out w5 HW5.out.bel)
    clear p0 hpl hrow HX HS HLs
    go_wp2_with fail
    go_loopw [9, 32] (fun _ iv wr => ∃ k : Nat, k ≤ N ∧ iv = .int .i64 k ∧ Hid (Bls w5 x B MB M N L (((L.take k).flatMap (lvE x.p)).map (numE L)) wr)) (fun _ iv _ => N - (intOf iv).toNat)
    case atStart => exact ⟨0, by omega, rfl, hid (by simpa using HL.out)⟩
    case round =>
      clear HL
      obtain ⟨k, hk, rfl, hL⟩ := hrel
      by_cases hlt : k < N
      · obtain ⟨y, hy, hym⟩ := get_at Hln.out hlt
        obtain ⟨ad, hA, had, hc1, hc2, hc3, hc4⟩ := Nd.cells ((HW5.out.below hL.out.bel).nds [] (by simp)) hy
        subst hA
        have Hst := hid (flat_take (p := x.p) hy)
        have Hel := hid (flat_take_len (p := x.p) (L := L) (k := k) (m := 900000) (by rw [HLe.out]; have := HEl.out; omega))
        have Hok := hid ((Hno.out y hym).1)
        have ha := (Below.refl wr.heap.size wr).alloc (Nat.le_refl _) (.cells #[.int .i64 y.kd, .int .i64 y.fn, .int .i64 y.bk, .int .i64 y.st] 53)
        have HLa := hid (hL.out.below ha)
        have HF := hid (Fb.new wr #[.int .i64 y.kd, .int .i64 y.fn, .int .i64 y.bk, .int .i64 y.st] 53)
        have HC := hid (leave_any w5 x ex B MB M N L _ _ HLa.out HX5.out hN1 Hln.out Hel.out y Hok.out)
        clear hy hym ha HLa hL
        generalize hEk : ((L.take k).flatMap (lvE x.p)).map (numE L) = Ek at *
        clear hEk
        obtain ⟨yk, yf, yb, ys⟩ := y
        simp only at *
        obtain ⟨g0, g1, g2, g3⟩ := Fb.four HF.out
        as_aux_lemma =>
          go_wp2_with fail
          refine HC.out.mono ?_
          rintro e w6 ⟨rfl, h6, -⟩
          have H6 := hid (Hst.out ▸ h6)
          clear h6 HC g0 g1 g2 g3 hc1 hc2 hc3 hc4 had
          go_wp2_with fail
          go_roundw
          case rel => exact ⟨k + 1, by omega, by go_num, H6⟩
          case measure => simp [intOf]; omega
      · obtain rfl : k = N := by omega
        have HL2 := hid (show Bls w5 x B MB M k L (numsE x.p) wr from by
          have := hL.out
          rw [List.take_of_length_le (by rw [Hln.out]; omega), HLe.out, HNe.out] at this
          exact this)
        have HEl2 := hid (show (numsE x.p).length ≤ 1024 by rw [← HNe.out, List.length_map]; exact HEl.out)
        have HB2 := hid (show Bms w5 x B MB M k (srF k (numsE x.p) 0) wr from ⟨HL2.out.box, HL2.out.mx.congr (fun a _ => (srF_zero k (numsE x.p) a).symm), HL2.out.bel, HL2.out.mle⟩)
        clear hL HL2 HNe HLe HEl
        generalize numsE x.p = E at *
        obtain ⟨b0, b1, b2⟩ := HB2.out.box.thr
        have hbl := HB2.out.box.lt
        go_wp2_with fail
        clear b0 b1 b2 hbl
        go_loopw [10, 11, 42] (fun _ _ iv wr => ∃ j : Nat, j ≤ k ∧ iv = .int .i64 j ∧ Hid (Bms w5 x B MB M k (srF k E j) wr)) (fun _ _ iv _ => k - (intOf iv).toNat)
        case atStart => exact ⟨0, by omega, rfl, HB2⟩
        case round =>
          clear HB2
          obtain ⟨j, hj, rfl, hM⟩ := hrel
          by_cases hlt2 : j < k
          · obtain ⟨rv, hown, hcell, hfr, ⟨rA, rc, hrv⟩, -, -⟩ := hM.out.mx.at hlt2
            have hlen := outF_len E j
            have hE2 := HEl2.out
            rw [srF_at] at hown hrv
            subst hrv
            have HO := hid hown
            have Hcell := hid hcell
            have HSo := hid (sort_own hown rfl (by omega))
            have hMl := hM.out.mx.lt
            clear hown hfr
            as_aux_lemma =>
              go_wp2_with fail
              refine HSo.out.mono ?_
              rintro e w7 ⟨rfl, ho7, hg7⟩
              have HBx7 := hid (hM.out.box.grown hg7 (fb_ne_own hM.out.box HO.out (by decide)))
              have HG7 := hid hg7
              have ho7d := own_below ho7 (Below.refl w7.heap.size w7).drew
              have HCo := hid (compact_own ho7d (by rw [srtI_len]) (by omega))
              have hMl7 : M < w7.heap.size := Nat.lt_of_lt_of_le hMl hg7.size
              obtain ⟨b0, b1, b2⟩ := HBx7.out.thr
              have hbl := HBx7.out.lt
              clear ho7 hg7 ho7d HSo hcell
              go_wp2_with fail
              go_region_law (
                (go_simp
                 go_at_call 18
                 refine HCo.out.mono ?_
                 rintro e w8 ⟨rfl, ho8, hg8⟩
                 have hgt : wr.grownBy w8 (Value.slice rA (outF E j).length rc).ownBlock := (HG7.out.trans (grown_drewN w7 1 _)).trans hg8
                 obtain ⟨⟨y0, y1⟩, h8⟩ := Bms.turn hM.out Hnl.out hlt2 Hcell.out hgt ho8 rfl
                 have H8 := hid h8
                 have hbx8 := hM.out.box.grown hgt (fb_ne_own hM.out.box HO.out (by decide))
                 obtain ⟨b0, b1, b2⟩ := hbx8.thr
                 have hbl8 := hbx8.lt
                 clear ho8 hg8 hgt h8 hbx8))
              all_goals
                go_wp2_with fail
                go_roundw
                case rel => exact ⟨j + 1, by omega, by go_num, H8⟩
                case measure => simp [intOf]; omega
          · obtain rfl : j = k := by omega
            obtain ⟨yL, hy1, hy2, hy3, hy4, hy5⟩ := hM.out.mx.lists (by omega)
            obtain ⟨yA, yn, yc, yl⟩ := yL
            simp only at hy1 hy2 hy3
            subst hy1
            subst hy2
            subst hy3
            have HWr := hid (HW5.out.below hM.out.bel)
            have HMle := hid (show G + 2 ≤ M by have := hM.out.mle; have h2 : G + 1 < w5.heap.size := HW5.out.res.lt; omega)
            have Hy4 := hid (show (⟨some ⟨M, 0, none⟩, yc, yc, yl⟩ : LH).v = sucL x.p by rw [hy4, Hsl.out])
            have Hy5 := hid hy5
            have HRv := hid (fun (v : World) (hb : Below wr.heap.size wr v) => reversed_any ⟨some ⟨M, 0, none⟩, yc, yc, yl⟩ [] v ((hy5 [] (by simp)).below hb) (by show yc ≤ _; omega) (by
              rw [hy4]
              intro l hl
              unfold rowsF at hl
              obtain ⟨a, ha, rfl⟩ := List.mem_map.1 hl
              unfold srF
              rw [if_pos (List.mem_range.1 ha)]
              exact rowP_ris _ _))
            rw [Hy4.out] at HRv
            simp only at HRv
            have HBx := hid (fun (v : World) (hb : Below wr.heap.size wr v) => And.intro (hM.out.below hb).box.thr (hM.out.below hb).box.lt)
            have HRs := hid (fun (v : World) (hb : Below wr.heap.size wr v) => And.intro (And.intro (HWr.out.below hb).res.thr (HWr.out.below hb).res.thrz) (HWr.out.below hb).res.lt)
            have Hszw := hid (show w.heap.size + 2 ≤ wr.heap.size by have := HWr.out.res.lt; have := HGe.out; omega)
            clear hy4 hy5 hM HW5 Hsl HX5 Hnd Hno Hnl HEl2
            have hcur : Below wr.heap.size wr wr.drew := (Below.refl _ _).drew
            obtain ⟨⟨b0, b1, b2⟩, hbl⟩ := HBx.out _ hcur
            obtain ⟨⟨⟨r0, r1, r2⟩, z0, z1, z2⟩, hrl⟩ := HRs.out _ hcur
            as_aux_lemma =>
              go_wp2_with fail
              go_region_law (
                (go_simp
                 go_at_call 19
                 refine (HRv.out _ hcur).mono ?_
                 rintro e w8 ⟨y2, rfl, hv2, hok2, hbk⟩
                 have hcur := below_step hcur hbk
                 have Hv2 := hid hv2
                 have Hok2 := hid hok2
                 have Hcur := hid hcur
                 obtain ⟨⟨b0, b1, b2⟩, hbl⟩ := HBx.out _ hcur
                 obtain ⟨⟨⟨r0, r1, r2⟩, z0, z1, z2⟩, hrl⟩ := HRs.out _ hcur
                 clear hv2 hok2 hbk))
              all_goals
                clear hcur
                go_wp2_with fail
                refine bodyPost_ret (v := .tuple #[.agg #[.slice A yc c, .slice (some ⟨M, 0, none⟩) yc yc, .slice y2.A y2.n y2.c], .int .i64 0]) (by simp [results, Tryd.results5, go_sem, r0, r1, r2, z0, z1, z2, hrl]) rfl ?_
                exact bld_done HWr.out Hcur.out HMle.out Hln.out (by omega) Hy4.out Hy5.out Hv2.out Hok2.out Hszw.out
end Go.Proofs.YtfapgnbnfhpicaaDoor

namespace Go.Proofs.YtfapgnbnfhpicaaDoor
set_option maxRecDepth 100000
set_option linter.unusedVariables false
set_option linter.unusedSimpArgs false
open Go.ChangeShapes Go.WideShapes Go.ChangeAt Go.RowKit

def s8T : ByteArray := ⟨#[102, 117, 110, 99, 32, 109, 59, 32, 98, 108, 111, 99, 107, 32, 98, 59, 32, 98, 114, 97, 110, 99, 104, 32, 120, 32, 98, 32, 98, 59, 32, 101, 110, 100]⟩
def s8P : List Fnc := [⟨⟨#[109]⟩, [⟨⟨#[98]⟩, [⟨8, noB, [⟨#[120]⟩], [⟨#[98]⟩, ⟨#[98]⟩]⟩]⟩]⟩]
theorem s8_parse : parseS s8T = (s8P, 0, 0, 0) := by kernel_rfl
theorem s8_ok : (checkP s8P).2 = 0 := by kernel_rfl
theorem s8_S : sucL s8P = [[1], [1], []] := by kernel_rfl
theorem s8_P : revL (listN s8P).length (sucL s8P) = [[], [0, 1], []] := by kernel_rfl
theorem s8_N : (listN s8P).length = 3 := by kernel_rfl
theorem s8_E : edgN 3 [[1], [1], []] [[], [0, 1], []] = 2 := by kernel_rfl
theorem LH.three {x : LH} {a b c : List Int} (h : x.v = [a, b, c]) : ∃ r0 r1 r2 : RH, x.l = [r0, r1, r2] ∧ r0.l = a ∧ r1.l = b ∧ r2.l = c := by
  unfold LH.v at h
  rcases hl : x.l with _ | ⟨r0, _ | ⟨r1, _ | ⟨r2, _ | ⟨r3, l⟩⟩⟩⟩ <;> rw [hl] at h <;> simp at h
  exact ⟨r0, r1, r2, rfl, h.1, h.2.1, h.2.2⟩
theorem lit_row (w : World) (cs : Array Value) (l : List Int) (n : Nat) (hc : cs = (ints l).toArray) (hn : l.length = n) (hf : n ≤ 1000) : RHok (w.alloc (.cells cs 3)) [] ⟨some ⟨w.heap.size, 0, none⟩, n, n, l⟩ :=
  ⟨EAt.fb (Fb.new w cs 3) (by simp) (fun j u hu => by subst hc; simpa using hu), hn, by show n ≤ _; omega⟩
theorem LHok.cell_of {w : World} {ex : List (Option Nat)} {x : LH} (h : LHok w ex x) {ad : Addr} (hA : x.A = some ad) {i : Nat} {y : RH} (hi : x.l[i]? = some y) : w.cell? (ad.add i) = some (.slice y.A y.n y.c) ∧ ad.block < w.heap.size := by
  obtain ⟨ad2, h1, h2, h3⟩ := h.cell hi
  obtain rfl := Option.some.inj (hA.symm.trans h1)
  exact ⟨h3, h2⟩
theorem add_zero2 (ad : Addr) : ad.add 0 = ad := by unfold Addr.add; simp
theorem lit_row2 (w : World) (cs : Array Value) (l : List Int) (n b : Nat) (hb : b = w.heap.size) (hc : cs = (ints l).toArray) (hn : l.length = n) (hf : n ≤ 1000) : RHok (w.alloc (.cells cs 3)) [] ⟨some ⟨b, 0, none⟩, n, n, l⟩ := by subst hb; exact lit_row w cs l n hc hn hf
/-- What stands while the examples are asked. -/
structure Sw (w : World) (G : Nat) (y : GH) (v : World) : Prop where
  bel : Below w.heap.size w v
  box : Fb v G #[.slice y.A y.n y.c, .slice y.S.A y.S.n y.S.c, .slice y.P.A y.P.n y.P.c] 31
  g : GHok v [] y
theorem Sw.below {w v v' : World} {G : Nat} {y : GH} (h : Sw w G y v) (hb : Below v.heap.size v v') : Sw w G y v' := ⟨below_step h.bel hb, h.box.below hb h.box.lt, h.g.below hb⟩
set_option maxHeartbeats 6400000 in
theorem sane8_any (w : World) (hsh : Shp w) : Calls Tryd.prog 8 #[] w fun e w' => e = .returned (.bool true) ∧ Below w.heap.size w w' := by
  have hs : s8T.size ≤ maxLen := by have : s8T.size ≤ 100 := by decide
                                    unfold maxLen; omega
  have Hs := hid hs
  have HS := hid hsh
  clear hs hsh
  go_enter Tryd.func8, Tryd.ntmps8
  go_wp2_with fail
  refine (refParse_any s8T _ Hs.out).mono ?_
  rw [← parse_same, s8_parse]
  rintro e w1 ⟨x, rfl, hx, hp, hb⟩
  have ha := (Below.refl w1.heap.size w1).alloc (Nat.le_refl _) (.cells #[.slice x.A x.n x.c] 24)
  have hb2 := below_step hb ha
  have HX := hid (PHok.below (hp [] (by simp)) ha)
  have HB1 := hid hb2
  have HS1 := hid (HS.out.keep (hb2.block 0 HS.out.pos0))
  have HM1 := hid (Fb.new w1 #[.slice x.A x.n x.c] 24)
  have HBd := hid (fun (v : World) (h : PHok v [] x) (hs : Shp v) => build_yes x [] v h hs (by rw [hx]; exact s8_ok))
  have e1 : listN x.p = listN s8P := by rw [hx]
  have e2 : sucL x.p = sucL s8P := by rw [hx]
  rw [e1, e2, s8_S, show revL (listN s8P).length [[1], [1], []] = [[], [0, 1], []] from by rw [← s8_S]; exact s8_P] at HBd
  clear hb ha hb2 hp hx HS e1 e2
  have b0 := HM1.out.onec
  have hl := HM1.out.lt
  simp only
  go_wp2_with fail
  clear b0 hl
  refine (HBd.out _ HX.out HS1.out).mono ?_
  rintro e w2 ⟨y, rfl, hyn, hyS, hyP, hyok, hb⟩
  have ha := (Below.refl w2.heap.size w2).alloc (Nat.le_refl _) (.cells #[.slice y.A y.n y.c, .slice y.S.A y.S.n y.S.c, .slice y.P.A y.P.n y.P.c] 31)
  have HW := hid (show Sw w w2.heap.size y (w2.alloc (.cells #[.slice y.A y.n y.c, .slice y.S.A y.S.n y.S.c, .slice y.P.A y.P.n y.P.c] 31)) from ⟨below_step HB1.out (below_step hb ha), Fb.new _ _ _, (hyok [] (by simp)).below ha⟩)
  have hn3 : y.n = 3 := by rw [← (hyok [] (by simp)).len, hyn]; exact s8_N
  obtain ⟨r0, r1, r2, hr, hr0, hr1, hr2⟩ := LH.three hyS
  obtain ⟨q0, q1, q2, hq, hq0, hq1, hq2⟩ := LH.three hyP
  have hsn : y.S.n = 3 := by rw [← (hyok [] (by simp)).s.len, hr]; rfl
  have hpn : y.P.n = 3 := by rw [← (hyok [] (by simp)).p.len, hq]; rfl
  obtain ⟨adS, hAS, -, -⟩ := (hyok [] (by simp)).s.cell (i := 0) (y := r0) (by rw [hr]; rfl)
  obtain ⟨adP, hAP, -, -⟩ := (hyok [] (by simp)).p.cell (i := 1) (y := q1) (by rw [hq]; rfl)
  have hl2 : r2.n = 0 := by rw [← ((hyok [] (by simp)).s.all r2 (by rw [hr]; simp)).len, hr2]; rfl
  have HF := hid (fun (v : World) (h : Sw w w2.heap.size y v) => show ((v.cell? ⟨w2.heap.size, 0, none⟩ = some (.slice y.A 3 y.c) ∧ v.cell? ⟨w2.heap.size, 1, none⟩ = some (.slice (some adS) 3 y.S.c) ∧ v.cell? ⟨w2.heap.size, 2, none⟩ = some (.slice (some adP) 3 y.P.c)) ∧
    (v.cell? adS = some (.slice r0.A r0.n r0.c) ∧ v.cell? ⟨adS.block, adS.off + 1, none⟩ = some (.slice r1.A r1.n r1.c) ∧ v.cell? ⟨adS.block, adS.off + 2, none⟩ = some (.slice r2.A 0 r2.c) ∧ v.cell? ⟨adP.block, adP.off + 1, none⟩ = some (.slice q1.A q1.n q1.c))) ∧ (w2.heap.size < v.heap.size ∧ adS.block < v.heap.size ∧ adP.block < v.heap.size) from by
    obtain ⟨c0, c1, c2⟩ := h.box.thr
    rw [hn3] at c0
    rw [hAS, hsn] at c1
    rw [hAP, hpn] at c2
    obtain ⟨d0, e0⟩ := h.g.s.cell_of hAS (i := 0) (y := r0) (by rw [hr]; rfl)
    obtain ⟨d1, -⟩ := h.g.s.cell_of hAS (i := 1) (y := r1) (by rw [hr]; rfl)
    obtain ⟨d2, -⟩ := h.g.s.cell_of hAS (i := 2) (y := r2) (by rw [hr]; rfl)
    obtain ⟨d3, e3⟩ := h.g.p.cell_of hAP (i := 1) (y := q1) (by rw [hq]; rfl)
    rw [add_zero2] at d0
    rw [hl2] at d2
    exact ⟨⟨⟨c0, c1, c2⟩, d0, d1, d2, d3⟩, h.box.lt, e0, e3⟩)
  have HR0 := hid (fun (v : World) (h : Sw w w2.heap.size y v) => h.g.s.all r0 (by rw [hr]; simp))
  have HR1 := hid (fun (v : World) (h : Sw w w2.heap.size y v) => h.g.s.all r1 (by rw [hr]; simp))
  have HQ1 := hid (fun (v : World) (h : Sw w w2.heap.size y v) => h.g.p.all q1 (by rw [hq]; simp))
  have HEd := hid (fun (v : World) (h : Sw w w2.heap.size y v) => edges_any y [] v h.g)
  rw [hyS, hyP, hn3, s8_E] at HEd
  unfold GH.a at HEd
  rw [hn3, hAS, hsn, hAP, hpn] at HEd
  have HK := hid (fun (v u : World) (h : Sw w w2.heap.size y v) (hb : Below v.heap.size v u) => h.below hb)
  have E0 := hid (show eqD r0.l [1] = true by rw [hr0]; rfl)
  have E1 := hid (show eqD r1.l [1] = true by rw [hr1]; rfl)
  have E2 := hid (show eqD q1.l [0, 1] = true by rw [hq1]; rfl)
  have HBw := hid (fun (v : World) (h : Sw w w2.heap.size y v) => h.bel)
  unfold GH.a
  rw [hn3, hAS, hsn, hAP, hpn]
  rw [hn3, hAS, hsn, hAP, hpn] at HW
  clear hb ha hyok hyn hyS hyP hr hq HB1 HX HS1 HM1 HBd hr0 hr1 hr2 hq0 hq1 hq2 hl2 hAS hAP hn3 hsn hpn
  simp only
  obtain ⟨⟨⟨c0, c1, c2⟩, d0, d1, d2, d3⟩, g0, g1, g2⟩ := HF.out _ HW.out
  go_wp2_with fail
  clear c0 c1 c2 d0 d1 d2 d3 g0 g1 g2
  refine (refInts_any r0 ⟨some ⟨w2.heap.size + 1, 0, none⟩, 1, 1, [1]⟩ [] [] _ (HR0.out _ (HK.out _ _ HW.out ((Below.refl _ _).alloc (Nat.le_refl _) _))) (lit_row2 _ _ _ _ _ (by rw [World.size_alloc]) rfl rfl (by omega))).mono ?_
  rw [E0.out]
  rintro e w' ⟨rfl, q, rfl⟩
  have HW1 := hid (HK.out _ _ (HK.out _ _ HW.out ((Below.refl _ _).alloc (Nat.le_refl _) (.cells (ints [1]).toArray 3))) (below_drewN (Below.refl _ _) q))
  clear HW
  generalize ((w2.alloc (.cells #[.slice y.A 3 y.c, .slice (some adS) 3 y.S.c, .slice (some adP) 3 y.P.c] 31)).alloc (.cells (ints [1]).toArray 3)).drewN q = V1 at HW1 ⊢
  obtain ⟨⟨⟨c0, c1, c2⟩, d0, d1, d2, d3⟩, g0, g1, g2⟩ := HF.out _ HW1.out
  go_wp2_with fail
  clear c0 c1 c2 d0 d1 d2 d3 g0 g1 g2
  refine (refInts_any r1 ⟨some ⟨V1.heap.size, 0, none⟩, 1, 1, [1]⟩ [] [] _ (HR1.out _ (HK.out _ _ HW1.out ((Below.refl _ _).alloc (Nat.le_refl _) _))) (lit_row2 _ _ _ _ _ (by rfl) rfl rfl (by omega))).mono ?_
  rw [E1.out]
  rintro e w' ⟨rfl, q, rfl⟩
  have HW2 := hid (HK.out _ _ (HK.out _ _ HW1.out ((Below.refl _ _).alloc (Nat.le_refl _) (.cells (ints [1]).toArray 3))) (below_drewN (Below.refl _ _) q))
  clear HW1
  generalize ((V1).alloc (.cells (ints [1]).toArray 3)).drewN q = V2 at HW2 ⊢
  obtain ⟨⟨⟨c0, c1, c2⟩, d0, d1, d2, d3⟩, g0, g1, g2⟩ := HF.out _ HW2.out
  go_wp2_with fail
  clear c0 c1 c2 d0 d1 d2 d3 g0 g1 g2
  refine (refInts_any q1 ⟨some ⟨V2.heap.size, 0, none⟩, 2, 2, [0, 1]⟩ [] [] _ (HQ1.out _ (HK.out _ _ HW2.out ((Below.refl _ _).alloc (Nat.le_refl _) _))) (lit_row2 _ _ _ _ _ (by rfl) rfl rfl (by omega))).mono ?_
  rw [E2.out]
  rintro e w' ⟨rfl, q, rfl⟩
  have HW3 := hid (HK.out _ _ (HK.out _ _ HW2.out ((Below.refl _ _).alloc (Nat.le_refl _) (.cells (ints [0, 1]).toArray 3))) (below_drewN (Below.refl _ _) q))
  clear HW2
  generalize ((V2).alloc (.cells (ints [0, 1]).toArray 3)).drewN q = V3 at HW3 ⊢
  obtain ⟨⟨⟨c0, c1, c2⟩, d0, d1, d2, d3⟩, g0, g1, g2⟩ := HF.out _ HW3.out
  go_wp2_with fail
  clear c0 c1 c2 d0 d1 d2 d3 g0 g1 g2
  refine (HEd.out _ HW3.out).mono ?_
  rintro e w' ⟨rfl, hb⟩
  have HB := hid (below_step (HBw.out _ HW3.out) hb)
  go_wp2_with fail
  refine bodyPost_ret (v := .bool true) (by simp [results, Tryd.results8, go_sem]) rfl ?_
  exact ⟨rfl, HB.out⟩
end Go.Proofs.YtfapgnbnfhpicaaDoor

namespace Go.Proofs.YtfapgnbnfhpicaaDoor
set_option maxRecDepth 20000
open Go.ChangeShapes Go.WideShapes Go.ChangeAt Go.RowKit

/-- The decimal digits of a number, as bytes. -/
def dec (n : Nat) : List UInt8 := if h : n < 10 then [UInt8.ofNat (48 + n)] else dec (n / 10) ++ [UInt8.ofNat (48 + n % 10)]
termination_by n
decreasing_by omega

def str (l : List UInt8) : Value := .string ⟨l.toArray⟩
theorem add_str (a b : List UInt8) (h : a.length + b.length ≤ 4611686018427387904) (w : World) : (binOp BinOp.add 9 (str a) (str b)).run Tryd.prog w = .ok (str (a ++ b)) w := by
  unfold str
  simp [go_sem]
  rw [if_neg (by omega)]
  congr 3
theorem dec_len (n : Nat) : (dec n).length ≤ n + 1 := by
  induction n using Nat.strongRecOn with
  | ind n ih =>
    unfold dec
    split
    · simp
    · have := ih (n / 10) (by omega)
      rw [List.length_append]; simp; omega

theorem slice_digit (d : Int) (h0 : 0 ≤ d) (h1 : d < 10) (w : World) :
    (Instr.slice 9 (.string { data := #[48, 49, 50, 51, 52, 53, 54, 55, 56, 57] }) (some (.int .i64 d)) (some (.int .i64 (d + 1))) none).run Tryd.prog w = .ok (str [UInt8.ofNat (48 + d.toNat)]) w := by
  have : d = 0 ∨ d = 1 ∨ d = 2 ∨ d = 3 ∨ d = 4 ∨ d = 5 ∨ d = 6 ∨ d = 7 ∨ d = 8 ∨ d = 9 := by omega
  rcases this with rfl | rfl | rfl | rfl | rfl | rfl | rfl | rfl | rfl | rfl <;> rfl

end Go.Proofs.YtfapgnbnfhpicaaDoor

namespace Go.Proofs.YtfapgnbnfhpicaaDoor
set_option maxRecDepth 20000
set_option linter.unusedVariables false
set_option linter.unusedSimpArgs false
open Go.ChangeShapes Go.WideShapes Go.ChangeAt Go.RowKit

def digC (k : Nat) : UInt8 := UInt8.ofNat (48 + k)
def dotB : ByteArray := ⟨#[46]⟩
def entW : ByteArray := ⟨#[46, 101, 110, 116, 114, 121]⟩
def exiW : ByteArray := ⟨#[46, 101, 120, 105, 116]⟩
def plsW : ByteArray := ⟨#[43]⟩
def RetTx (w : World) (s : ByteArray) (e : Ending) (w' : World) : Prop := e = .returned (.string s) ∧ Below w.heap.size w w'
theorem prog_fn {w : World} {ex : List (Option Nat)} {x : PH} (h : PHok w ex x) {f : Nat} {F : Fnc} (h1 : x.p[f]? = some F) : ∃ y : FH, x.l[f]? = some y ∧ y ∈ x.l ∧ y.f = F := by
  unfold PH.p at h1
  rw [List.getElem?_map] at h1
  obtain ⟨y, hy, rfl⟩ := Option.map_eq_some_iff.1 h1
  exact ⟨y, hy, List.mem_of_getElem? hy, rfl⟩
end Go.Proofs.YtfapgnbnfhpicaaDoor

namespace Go.Proofs.YtfapgnbnfhpicaaDoor
set_option maxRecDepth 20000
set_option linter.unusedVariables false
set_option linter.unusedSimpArgs false
open Go.ChangeShapes Go.WideShapes Go.ChangeAt Go.RowKit
attribute [local go_sem] fieldTok0 fieldTok1 fieldTok2 fieldTok3

theorem ne_of_name {l : List Tok} (he : nameB (nxt l).text = true) : l ≠ [] := by
  rintro rfl
  rw [show (nxt []).text = noB from rfl, nameB_no] at he
  cases he
theorem ne_of_end {l : List Tok} (he : ((nxt l).kind == 3) = true) : l ≠ [] := by
  rintro rfl
  rw [show (nxt []).kind = 0 from rfl] at he
  cases he
def kwOf : Nat → ByteArray
  | 2 => kwUse
  | 3 => kwCall
  | 4 => kwSource
  | 5 => kwSink
  | 6 => kwSanitize
  | 7 => kwGoto
  | 8 => kwBranch
  | 9 => kwReturn
  | _ => noB
theorem opW_hit {x : ByteArray} {k : Nat} (h2 : 2 ≤ k) (h9 : k ≤ 9) (hn : nameB x = false) (hb : ∀ j, 2 ≤ j → j < k → eqB (kwOf j) x = false) (hk : eqB (kwOf k) x = true) : opW x = (k : Int) := by
  unfold opW
  rw [hn]
  rcases (by omega : k = 2 ∨ k = 3 ∨ k = 4 ∨ k = 5 ∨ k = 6 ∨ k = 7 ∨ k = 8 ∨ k = 9) with rfl | rfl | rfl | rfl | rfl | rfl | rfl | rfl
  all_goals
    have e := fun j h1 h2 => hb j h1 h2
    have e2 := e 2 (by omega); have e3 := e 3 (by omega); have e4 := e 4 (by omega); have e5 := e 5 (by omega); have e6 := e 6 (by omega); have e7 := e 7 (by omega); have e8 := e 8 (by omega)
    simp [kwOf] at e2 e3 e4 e5 e6 e7 e8 hk
    simp [*]
theorem opW_miss {x : ByteArray} (hn : nameB x = false) (hb : ∀ j, 2 ≤ j → j < 10 → eqB (kwOf j) x = false) : opW x = 0 := by
  unfold opW
  rw [hn]
  have e2 := hb 2 (by omega) (by omega); have e3 := hb 3 (by omega) (by omega); have e4 := hb 4 (by omega) (by omega); have e5 := hb 5 (by omega) (by omega); have e6 := hb 6 (by omega) (by omega); have e7 := hb 7 (by omega) (by omega); have e8 := hb 8 (by omega) (by omega); have e9 := hb 9 (by omega) (by omega)
  simp [kwOf] at e2 e3 e4 e5 e6 e7 e8 e9
  simp [*]
theorem Shp.key {w : World} (h : Shp w) {k : Nat} (h2 : 2 ≤ k) (h9 : k ≤ 9) : w.cell? ⟨0, k * 5, none⟩ = some (.string (kwOf k)) := by
  refine h _ _ ?_
  rcases (by omega : k = 2 ∨ k = 3 ∨ k = 4 ∨ k = 5 ∨ k = 6 ∨ k = 7 ∨ k = 8 ∨ k = 9) with rfl | rfl | rfl | rfl | rfl | rfl | rfl | rfl <;> rfl
end Go.Proofs.YtfapgnbnfhpicaaDoor

namespace Go.Proofs.YtfapgnbnfhpicaaDoor
set_option maxRecDepth 20000
set_option linter.unusedVariables false
set_option linter.unusedSimpArgs false
open Go.ChangeShapes Go.WideShapes Go.ChangeAt Go.RowKit

section
variable {α : Type} {K : Kind α} {w0 w w' : World} {b : Nat} {σ σ' : Ds} {v : Value} {l : List α}
end
def Drel {α : Type} (bb : ByteArray → Bool) (part : Ds → α × Ds) (N : Nat) (σ0 : Ds) (done : List α) (n : Nat) (σ : Ds) : Prop :=
  done.length + n = N ∧ listS bb part N σ0 = (done ++ (listS bb part n σ).1, (listS bb part n σ).2)
section
variable {α : Type} {bb : ByteArray → Bool} {part : Ds → α × Ds} {N n : Nat} {σ0 σ : Ds} {done : List α}
theorem Drel.start : Drel bb part N σ0 [] N σ0 := ⟨by simp, by simp⟩
theorem Drel.step (h : Drel bb part N σ0 done (n + 1) σ) (hb : bb (nxt σ.l).text = true) : Drel bb part N σ0 (done ++ [(part σ).1]) n (part σ).2 := by
  refine ⟨by have := h.1; simp; omega, ?_⟩
  rw [h.2]
  conv => lhs; unfold listS
  rw [hb]; simp
theorem Drel.step_as {γ : Type} {pr : γ → α} {l : List γ} {x : γ} (h : Drel bb part N σ0 (l.map pr) (n + 1) σ) (hb : bb (nxt σ.l).text = true) (hx : pr x = (part σ).1) : Drel bb part N σ0 ((l ++ [x]).map pr) n (part σ).2 := by
  have := h.step hb
  rw [List.map_append, List.map_singleton, hx]
  exact this
theorem Drel.stop (h : Drel bb part N σ0 done n σ) (hb : bb (nxt σ.l).text = false) : listS bb part N σ0 = (done, σ) := by
  rw [h.2]
  cases n <;> (unfold listS; rw [hb]; simp)
theorem Drel.full (h : Drel bb part N σ0 done 0 σ) (hb : bb (nxt σ.l).text = true) : listS bb part N σ0 = (done, failS 7 σ) := by
  rw [h.2]
  unfold listS
  rw [hb]; simp
end
def KStr : Kind ByteArray := ⟨fun x => [.string x], 1, 9, 0, fun x _ _ => x.size ≤ 16, fun _ _ _ _ _ h _ => h⟩
def KF : Kind FH := ⟨fhc, 2, 48, 24, FP, fun _ _ _ _ _ h hg => FHok.go h hg⟩
theorem flat_str (l : List ByteArray) : l.flatMap KStr.f = l.map Value.string := by
  show l.flatMap (fun x => [Value.string x]) = _
  induction l with
  | nil => rfl
  | cons x l ih => rw [List.flatMap_cons, ih]; rfl
end Go.Proofs.YtfapgnbnfhpicaaDoor

namespace Go.Proofs.YtfapgnbnfhpicaaDoor
set_option maxRecDepth 20000
set_option linter.unusedVariables false
set_option linter.unusedSimpArgs false
open Go.ChangeShapes Go.WideShapes Go.ChangeAt Go.RowKit
attribute [local go_sem] fieldTok0 fieldTok1 fieldTok2 fieldTok3

end Go.Proofs.YtfapgnbnfhpicaaDoor

namespace Go.Proofs.YtfapgnbnfhpicaaDoor
set_option maxRecDepth 20000
set_option linter.unusedVariables false
set_option linter.unusedSimpArgs false
open Go.ChangeShapes Go.WideShapes Go.ChangeAt Go.RowKit
attribute [local go_sem] fieldTok0 fieldTok1 fieldTok2 fieldTok3
attribute [local go_sem ↓] Go.wp_at_zero Go.wp_at_succ

section
variable {w0 w w' : World} {b g : Nat} {σ σ' : Ds} {A1 : Option Addr} {n1 c1 : Nat} {B1 : Option Addr} {m1 d1 : Nat} {op : Int} {d : ByteArray} {us ts : List ByteArray} {x : SH}
end
theorem begS_ne {l : List Tok} (he : begS (nxt l).text = true) : l ≠ [] := by
  rintro rfl
  rw [show (nxt []).text = noB from rfl, begS_no] at he
  cases he
theorem opS1 (x : ByteArray) (σ : Ds) : opS 1 x σ = (⟨1, x, (listS nameB nameS 4 (wordS kwEq σ)).1, []⟩, (listS nameB nameS 4 (wordS kwEq σ)).2) := rfl
theorem opS2 (x : ByteArray) (σ : Ds) : opS 2 x σ = (⟨2, ⟨#[]⟩, (someS nameB nameS 4 σ).1, []⟩, (someS nameB nameS 4 σ).2) := rfl
theorem opS3 (x : ByteArray) (σ : Ds) : opS 3 x σ = (⟨3, ⟨#[]⟩, [], [(nameS σ).1]⟩, (nameS σ).2) := rfl
theorem opS4 (x : ByteArray) (σ : Ds) : opS 4 x σ = (⟨4, (nameS σ).1, [], []⟩, (nameS σ).2) := rfl
theorem opS5 (x : ByteArray) (σ : Ds) : opS 5 x σ = (⟨5, ⟨#[]⟩, [(nameS σ).1], []⟩, (nameS σ).2) := rfl
theorem opS6 (x : ByteArray) (σ : Ds) : opS 6 x σ = (⟨6, (nameS σ).1, [], []⟩, (nameS σ).2) := rfl
theorem opS7 (x : ByteArray) (σ : Ds) : opS 7 x σ = (⟨7, ⟨#[]⟩, [], [(nameS σ).1]⟩, (nameS σ).2) := rfl
theorem opS8 (x : ByteArray) (σ : Ds) : opS 8 x σ = (⟨8, ⟨#[]⟩, [(nameS σ).1], [(nameS (nameS σ).2).1, (nameS (nameS (nameS σ).2).2).1]⟩, (nameS (nameS (nameS σ).2).2).2) := rfl
theorem opS9 (x : ByteArray) (σ : Ds) : opS 9 x σ = (⟨9, ⟨#[]⟩, [], []⟩, σ) := rfl
theorem opS0 (x : ByteArray) (σ : Ds) : opS 0 x σ = (⟨0, ⟨#[]⟩, [], []⟩, σ) := rfl
theorem opW_range (x : ByteArray) : opW x = 0 ∨ opW x = 1 ∨ opW x = 2 ∨ opW x = 3 ∨ opW x = 4 ∨ opW x = 5 ∨ opW x = 6 ∨ opW x = 7 ∨ opW x = 8 ∨ opW x = 9 := by
  unfold opW
  repeat' split
  all_goals simp
end Go.Proofs.YtfapgnbnfhpicaaDoor

namespace Go.Proofs.YtfapgnbnfhpicaaDoor
set_option maxRecDepth 20000
set_option linter.unusedVariables false
set_option linter.unusedSimpArgs false
open Go.ChangeShapes Go.WideShapes Go.ChangeAt Go.RowKit
attribute [local go_sem] fieldTok0 fieldTok1 fieldTok2 fieldTok3
attribute [local go_sem ↓] Go.wp_at_zero Go.wp_at_succ

theorem listS_len {α : Type} (bb : ByteArray → Bool) (part : Ds → α × Ds) (N : Nat) : ∀ σ, (listS bb part N σ).1.length ≤ N := by
  induction N with
  | zero => intro σ; unfold listS; split <;> simp
  | succ n ih =>
    intro σ
    unfold listS
    split
    · have := ih (part σ).2; simp; omega
    · simp
end Go.Proofs.YtfapgnbnfhpicaaDoor

namespace Go.Proofs.YtfapgnbnfhpicaaDoor
set_option maxRecDepth 20000
set_option linter.unusedVariables false
set_option linter.unusedSimpArgs false
open Go.ChangeShapes Go.WideShapes Go.ChangeAt Go.RowKit
attribute [local go_sem] fieldTok0 fieldTok1 fieldTok2 fieldTok3

end Go.Proofs.YtfapgnbnfhpicaaDoor

namespace Go.Proofs.YtfapgnbnfhpicaaDoor
set_option maxRecDepth 20000
set_option linter.unusedVariables false
set_option linter.unusedSimpArgs false
open Go.ChangeShapes Go.WideShapes Go.ChangeAt Go.RowKit
attribute [local go_sem] fieldTok0 fieldTok1 fieldTok2 fieldTok3

theorem own_mono {w : World} {base base' k n : Nat} {e : TypeId} {v : Value} {xs : List Value} (h : w.ownsRow base e k v n xs) (hb : base' ≤ base) : w.ownsRow base' e k v n xs := by
  obtain ⟨h1, h2⟩ := h
  refine ⟨h1, ?_⟩
  rcases h2 with h2 | ⟨g, cap, cur, a1, a2, a3⟩
  · exact .inl h2
  · exact .inr ⟨g, cap, cur, a1, Nat.le_trans hb a2, a3⟩
section
variable {α : Type} {K : Kind α} {w0 w w' : World} {b g : Nat} {σ σ' : Ds} {nm : ByteArray} {v : Value} {l : List α}
end
end Go.Proofs.YtfapgnbnfhpicaaDoor

namespace Go.Proofs.YtfapgnbnfhpicaaDoor
set_option maxRecDepth 20000
set_option linter.unusedVariables false
set_option linter.unusedSimpArgs false
open Go.ChangeShapes Go.WideShapes Go.ChangeAt Go.RowKit
attribute [local go_sem] fieldTok0 fieldTok1 fieldTok2 fieldTok3

end Go.Proofs.YtfapgnbnfhpicaaDoor

namespace Go.Proofs.YtfapgnbnfhpicaaDoor
set_option maxRecDepth 20000
set_option linter.unusedVariables false
set_option linter.unusedSimpArgs false
open Go.ChangeShapes Go.WideShapes Go.ChangeAt Go.RowKit
attribute [local go_sem] fieldTok0 fieldTok1 fieldTok2 fieldTok3

end Go.Proofs.YtfapgnbnfhpicaaDoor

namespace Go.Proofs.YtfapgnbnfhpicaaDoor
set_option maxRecDepth 20000
set_option linter.unusedVariables false
set_option linter.unusedSimpArgs false
open Go.ChangeShapes Go.WideShapes Go.ChangeAt Go.RowKit
attribute [local go_sem] fieldTok0 fieldTok1 fieldTok2 fieldTok3

end Go.Proofs.YtfapgnbnfhpicaaDoor

namespace Go.Proofs.YtfapgnbnfhpicaaDoor
set_option maxRecDepth 20000
set_option linter.unusedVariables false
set_option linter.unusedSimpArgs false
open Go.ChangeShapes Go.WideShapes Go.ChangeAt Go.RowKit
attribute [local go_sem] fieldTok0 fieldTok1 fieldTok2 fieldTok3
attribute [local go_sem ↓] Go.wp_at_zero Go.wp_at_succ

end Go.Proofs.YtfapgnbnfhpicaaDoor

namespace Go.Proofs.YtfapgnbnfhpicaaDoor
set_option maxRecDepth 20000
set_option linter.unusedVariables false
set_option linter.unusedSimpArgs false
open Go.ChangeShapes Go.WideShapes Go.ChangeAt Go.RowKit
attribute [local go_sem ↓] Go.wp_at_zero Go.wp_at_succ

theorem own_cap {w : World} {base k n c : Nat} {e : TypeId} {A : Option Addr} {xs : List Value} (h : w.ownsRow base e k (.slice A n c) n xs) : n ≤ c := by
  rcases h.2 with ⟨_, h0⟩ | ⟨g, cap, cur, hv, _, _, hc, _⟩
  · omega
  · injection hv with _ _ e3; omega
/-- What a scan returns, with the capacity. -/
def RetScanC (r : Res) (w : World) (e : Ending) (w' : World) : Prop :=
  ∃ (A : Option Addr) (c : Nat), e = .returned (.tuple #[.slice A r.1.length c, .int .i64 (r.2.1 : Int), .int .i64 (r.2.2.1 : Int), .int .i64 r.2.2.2]) ∧ TArg w' A r.1.length r.1 ∧ r.1.length ≤ c ∧ Below w.heap.size w w'
theorem Shp.lt {w : World} (h : Shp w) : 0 < w.heap.size := World.block_lt_of_cell? w _ (h 0 _ rfl)
end Go.Proofs.YtfapgnbnfhpicaaDoor

namespace Go.Proofs.YtfapgnbnfhpicaaDoor
set_option maxRecDepth 100000
set_option linter.unusedVariables false
set_option linter.unusedSimpArgs false
open Go.ChangeShapes Go.WideShapes Go.ChangeAt Go.RowKit

def sxT0 : ByteArray := ⟨#[102, 117, 110, 99, 32, 109, 59, 32, 98, 108, 111, 99, 107, 32, 98, 59, 32, 120, 32, 61, 32, 121, 59, 32, 101, 110, 100]⟩
def sxP0 : List Fnc := [⟨⟨#[109]⟩, [⟨⟨#[98]⟩, [⟨1, ⟨#[120]⟩, [⟨#[121]⟩], []⟩]⟩]⟩]
theorem sx_0 : parseS sxT0 = (sxP0, 0, 0, 0) := by kernel_rfl
def sxT1 : ByteArray := ⟨#[102, 117, 110, 99, 32, 109, 59, 32, 98, 108, 111, 99, 107, 32, 98, 59, 32, 103, 111, 116, 111, 32, 99, 59, 32, 101, 110, 100]⟩
def sxP1 : List Fnc := [⟨⟨#[109]⟩, [⟨⟨#[98]⟩, [⟨7, noB, [], [⟨#[99]⟩]⟩]⟩]⟩]
theorem sx_1 : parseS sxT1 = (sxP1, 0, 0, 0) := by kernel_rfl
def sxT2 : ByteArray := ⟨#[102, 117, 110, 99, 32, 109, 59, 32, 98, 108, 111, 99, 107, 32, 98, 59, 32, 99, 97, 108, 108, 32, 109, 59, 32, 114, 101, 116, 117, 114, 110, 59, 32, 101, 110, 100]⟩
def sxP2 : List Fnc := [⟨⟨#[109]⟩, [⟨⟨#[98]⟩, [⟨3, noB, [], [⟨#[109]⟩]⟩, ⟨9, noB, [], []⟩]⟩]⟩]
theorem sx_2 : parseS sxT2 = (sxP2, 0, 0, 0) := by kernel_rfl
theorem sxc0 : checkP sxP0 = ((3, 0, 0, 0), 4) := by kernel_rfl
theorem sxc1 : checkP sxP1 = ((3, 0, 0, 0), 5) := by kernel_rfl
theorem sxc2 : checkP sxP2 = ((0, 0, 0, 0), 0) := by kernel_rfl
theorem sxs2 : sizesP sxP2 = (5, 5) := by kernel_rfl
/-- A program that was parsed, in a box. -/
structure Bx (w : World) (g : Nat) (x : PH) (p : List Fnc) : Prop where
  box : Fb w g #[.slice x.A x.n x.c] 24
  ok : PHok w [] x
  is : x.p = p
theorem Bx.below {w w' : World} {g : Nat} {x : PH} {p : List Fnc} (h : Bx w g x p) (hb : Below w.heap.size w w') : Bx w' g x p := ⟨h.box.below hb h.box.lt, h.ok.below hb, h.is⟩
def RefP (p : List Fnc) (w : World) (e : Ending) (w' : World) : Prop :=
  ∃ x : PH, e = .returned (.tuple #[.agg #[.slice x.A x.n x.c], .int .i64 0, .int .i64 0, .int .i64 0]) ∧ Bx (w'.alloc (.cells #[.slice x.A x.n x.c] 24)) w'.heap.size x p ∧ Below w.heap.size w (w'.alloc (.cells #[.slice x.A x.n x.c] 24)) ∧ Below w.heap.size w w'
theorem ref_as (T : ByteArray) (w : World) (hs : T.size ≤ maxLen) {p : List Fnc} (h : parseS T = (p, 0, 0, 0)) : Calls Tryd.prog 4 #[.string T] w (RefP p w) := by
  refine (refParse_any T w hs).mono ?_
  rw [← parse_same, h]
  rintro e w' ⟨x, rfl, hx, hp, hb⟩
  have hb2 := (Below.refl w'.heap.size w').alloc (Nat.le_refl _) (.cells #[.slice x.A x.n x.c] 24)
  exact ⟨x, rfl, ⟨Fb.new w' _ _, (hp [] (by simp)).below hb2, hx⟩, below_step hb hb2, hb⟩
theorem nodNew (w : World) (a b c d : Int) : Fb (w.alloc (.cells #[.int .i64 a, .int .i64 b, .int .i64 c, .int .i64 d] 53)) w.heap.size #[.int .i64 a, .int .i64 b, .int .i64 c, .int .i64 d] 53 := Fb.new w _ _
theorem allocB (w : World) (o : Obj) : Below w.heap.size w (w.alloc o) := (Below.refl w.heap.size w).alloc (Nat.le_refl _) o
end Go.Proofs.YtfapgnbnfhpicaaDoor

namespace Go.Proofs.YtfapgnbnfhpicaaDoor
set_option maxRecDepth 100000
set_option linter.unusedVariables false
set_option linter.unusedSimpArgs false
open Go.ChangeShapes Go.WideShapes Go.ChangeAt Go.RowKit

def s7T : ByteArray := ⟨#[102, 117, 110, 99, 32, 109, 59, 32, 98, 108, 111, 99, 107, 32, 98, 59, 32, 120, 32, 61, 32, 121, 59, 32, 99, 97, 108, 108, 32, 109, 59, 32, 114, 101, 116, 117, 114, 110, 59, 32, 101, 110, 100]⟩
def s7P : List Fnc := [⟨⟨#[109]⟩, [⟨⟨#[98]⟩, [⟨1, ⟨#[120]⟩, [⟨#[121]⟩], []⟩, ⟨3, noB, [], [⟨#[109]⟩]⟩, ⟨9, noB, [], []⟩]⟩]⟩]
def s7L : List Nd := [⟨1, 0, -1, -1⟩, ⟨3, 0, 0, 0⟩, ⟨3, 0, 0, 1⟩, ⟨4, 0, 0, 1⟩, ⟨3, 0, 0, 2⟩, ⟨2, 0, -1, -1⟩]
def s7W : List ByteArray := [⟨#[109, 46, 101, 110, 116, 114, 121]⟩, ⟨#[109, 46, 98, 46, 48]⟩, ⟨#[109, 46, 98, 46, 49]⟩, ⟨#[109, 46, 98, 46, 49, 43]⟩, ⟨#[109, 46, 98, 46, 50]⟩, ⟨#[109, 46, 101, 120, 105, 116]⟩]
theorem s7_parse : parseS s7T = (s7P, 0, 0, 0) := by kernel_rfl
theorem s7_list : listN s7P = s7L := by kernel_rfl
theorem s7_miss : findI s7L ⟨3, 3, 0, 0⟩ = -1 := by kernel_rfl
def RetPg (p : List Fnc) (w : World) (e : Ending) (w' : World) : Prop := ∃ x : PH, e = .returned (.agg #[.slice x.A x.n x.c]) ∧ x.p = p ∧ PHok w' [] x ∧ Below w.heap.size w w'
end Go.Proofs.YtfapgnbnfhpicaaDoor

namespace Go.Proofs.YtfapgnbnfhpicaaDoor
set_option maxRecDepth 20000
set_option linter.unusedVariables false
open Go.ChangeShapes Go.WideShapes Go.ChangeAt Go.RowKit

end Go.Proofs.YtfapgnbnfhpicaaDoor

namespace Go.Proofs.YtfapgnbnfhpicaaDoor
set_option maxRecDepth 20000
set_option linter.unusedVariables false
open Go.ChangeShapes Go.WideShapes Go.ChangeAt Go.RowKit

def printL (L : List ByteArray) : ByteArray := L.foldl (fun s x => s ++ (x ++ ⟨#[10]⟩)) ⟨#[]⟩
def sepL (L : List ByteArray) (s : ByteArray) : ByteArray := L.foldl (fun s x => (s ++ ⟨#[59, 32]⟩) ++ x) s
def inlineL : List ByteArray → ByteArray
  | [] => ⟨#[]⟩
  | x :: L => sepL L (⟨#[]⟩ ++ x)
/-- P5.3: the texts. -/
def printP (p : List Fnc) : ByteArray := if prgB p then printL (linesP p) else ⟨#[]⟩
def inlineP (p : List Fnc) : ByteArray := if prgB p then inlineL (linesP p) else ⟨#[]⟩
theorem get_snoc {α : Type} (l : List α) {k : Nat} {x : α} (hx : l[k]? = some x) : l.take (k + 1) = l.take k ++ [x] := by
  rw [List.take_add_one, hx]; rfl
theorem printL_snoc (L : List ByteArray) (x : ByteArray) : printL (L ++ [x]) = printL L ++ (x ++ ⟨#[10]⟩) := by unfold printL; rw [List.foldl_append]; rfl
theorem printL_size (L : List ByteArray) (h : ∀ x ∈ L, x.size ≤ 100000) : (printL L).size ≤ L.length * 100001 := by
  suffices H : ∀ (L : List ByteArray) (s : ByteArray), (∀ x ∈ L, x.size ≤ 100000) → (L.foldl (fun s x => s ++ (x ++ ⟨#[10]⟩)) s).size ≤ s.size + L.length * 100001 by
    have := H L ⟨#[]⟩ h
    have e : (⟨#[]⟩ : ByteArray).size = 0 := rfl
    unfold printL; omega
  intro L
  induction L with
  | nil => intro s _; simp
  | cons x L ih =>
    intro s h
    have h1 := ih (s ++ (x ++ ⟨#[10]⟩)) fun y hy => h y (by simp [hy])
    have h2 := h x (by simp)
    rw [List.foldl_cons, List.length_cons, Nat.succ_mul]
    have e : (s ++ (x ++ (⟨#[10]⟩ : ByteArray))).size = s.size + (x.size + 1) := by rw [ByteArray.size_append, ByteArray.size_append]; rfl
    omega
theorem inlineL_one (x : ByteArray) : inlineL [x] = ⟨#[]⟩ ++ x := rfl
theorem inlineL_snoc (L : List ByteArray) (x : ByteArray) (h : 0 < L.length) : inlineL (L ++ [x]) = (inlineL L ++ ⟨#[59, 32]⟩) ++ x := by
  cases L with
  | nil => simp at h
  | cons y L => show sepL (L ++ [x]) _ = _; unfold sepL; rw [List.foldl_append]; rfl
theorem inlineL_size (L : List ByteArray) (h : ∀ x ∈ L, x.size ≤ 100000) : (inlineL L).size ≤ L.length * 100002 := by
  have H : ∀ (L : List ByteArray) (s : ByteArray), (∀ x ∈ L, x.size ≤ 100000) → (sepL L s).size ≤ s.size + L.length * 100002 := by
    intro L
    induction L with
    | nil => intro s _; simp [sepL]
    | cons x L ih =>
      intro s h
      have h1 := ih ((s ++ ⟨#[59, 32]⟩) ++ x) fun y hy => h y (by simp [hy])
      have h2 := h x (by simp)
      have e0 : sepL (x :: L) s = sepL L ((s ++ ⟨#[59, 32]⟩) ++ x) := rfl
      rw [e0, List.length_cons, Nat.succ_mul]
      have e : ((s ++ (⟨#[59, 32]⟩ : ByteArray)) ++ x).size = s.size + 2 + x.size := by rw [ByteArray.size_append, ByteArray.size_append]; rfl
      omega
  cases L with
  | nil => simp [inlineL]; rfl
  | cons x L =>
    have h1 := H L (⟨#[]⟩ ++ x) fun y hy => h y (by simp [hy])
    have h2 := h x (by simp)
    have e : ((⟨#[]⟩ : ByteArray) ++ x).size = x.size := by rw [ByteArray.size_append]; show 0 + x.size = _; omega
    show (sepL L (⟨#[]⟩ ++ x)).size ≤ _
    rw [List.length_cons, Nat.succ_mul]; omega
theorem linesP_len {w : World} {ex : List (Option Nat)} {x : PH} (h : PHok w ex x) : (linesP x.p).length ≤ 65680 := by
  have h1 := fncL_len x.l h.all
  have h2 := h.len; have h3 := h.few
  have e : linesP x.p = x.l.flatMap fun y => fncL y.f := by unfold linesP PH.p; rw [List.flatMap_map]
  rw [e]
  have : x.l.length * 1642 ≤ 40 * 1642 := Nat.mul_le_mul_right _ (by omega)
  omega

end Go.Proofs.YtfapgnbnfhpicaaDoor

namespace Go.Proofs.YtfapgnbnfhpicaaDoor
set_option maxRecDepth 20000
set_option linter.unusedVariables false
set_option linter.unusedSimpArgs false
open Go.ChangeShapes Go.WideShapes Go.ChangeAt Go.RowKit

theorem vars_name : ∀ x ∈ varsL, nameB x = true := by
  intro x hx
  rw [nameD_eq]
  revert x
  decide +kernel
theorem fns_name : ∀ x ∈ fnsL, nameB x = true := by
  intro x hx
  rw [nameD_eq]
  revert x
  decide +kernel
theorem bls_name : ∀ x ∈ blsL, nameB x = true := by
  intro x hx
  rw [nameD_eq]
  revert x
  decide +kernel
theorem f2_name {i : Nat} (h : i < 3) : nameB (f2 i) = true := bls_name _ (List.mem_of_getElem? (f2_get h))
theorem namesB_of {l : List ByteArray} {b : Int} (h : ∀ x ∈ l, nameB x = true) (hb : (l.length : Int) ≤ b) : namesB l 0 b = true := by
  unfold namesB
  rw [List.all_eq_true.2 h]
  simp
  exact hb
theorem genS_ok {k : Nat} {t : Stm} (hk : k ≤ 3) (h : genS k t) : stmB t = true := by
  obtain ⟨op, d, us, ts⟩ := t
  unfold genS at h
  simp only at h
  rcases h with ⟨rfl, rfl, ⟨h1, h2, h3⟩, rfl⟩ | ⟨h0, hd, rfl, rfl⟩ | ⟨rfl, rfl, ⟨x, hx, rfl⟩, rfl⟩ | ⟨rfl, rfl, rfl, i, x, hi, hx, rfl⟩ | ⟨rfl, hd, ⟨h1, h2⟩, rfl⟩
  · unfold stmB
    rw [namesB_of (fun x hx => vars_name x (h3 x hx)) (by show (us.length : Int) ≤ 4; omega), namesB_of (l := []) (by simp) (by simp)]
    simp [okP]
    omega
  · unfold stmB
    rw [namesB_of (l := []) (by simp) (by simp), namesB_of (l := []) (by simp) (by simp)]
    rcases h0 with rfl | rfl <;> simp [okP, vars_name d hd]
  · unfold stmB
    rw [namesB_of (l := [x]) (by intro y hy; simp at hy; subst hy; exact vars_name y hx) (by simp), namesB_of (l := []) (by simp) (by simp)]
    simp [okP]
  · unfold stmB
    rw [namesB_of (l := []) (by simp) (by simp), namesB_of (l := [x]) (by intro y hy; simp at hy; subst hy; exact fns_name y (List.mem_of_getElem? hx)) (by simp)]
    simp [okP]
  · unfold stmB
    rw [namesB_of (fun x hx => vars_name x (h2 x hx)) (by show (us.length : Int) ≤ 4; omega), namesB_of (l := []) (by simp) (by simp)]
    simp [okP, vars_name d hd]
theorem termS_ok {n : Nat} {t : Stm} (hn : n ≤ 3) (h : termS n t) : stmB t = true := by
  obtain ⟨op, d, us, ts⟩ := t
  unfold termS at h
  simp only at h
  rcases h with ⟨rfl, rfl, rfl, rfl⟩ | ⟨rfl, rfl, rfl, i, hi, rfl⟩ | ⟨rfl, rfl, ⟨x, hx, rfl⟩, i, j, hi, hj, rfl⟩
  · unfold stmB
    rw [namesB_of (l := []) (by simp) (by simp), namesB_of (l := []) (by simp) (by simp)]
    simp [okP]
  · unfold stmB
    rw [namesB_of (l := []) (by simp) (by simp), namesB_of (l := [f2 i]) (by intro y hy; simp at hy; subst hy; exact f2_name (by omega)) (by simp)]
    simp [okP]
  · unfold stmB
    rw [namesB_of (l := [x]) (by intro y hy; simp at hy; subst hy; exact vars_name y hx) (by simp), namesB_of (l := [f2 i, f2 j]) (by intro y hy; simp at hy; rcases hy with rfl | rfl <;> exact f2_name (by omega)) (by simp)]
    simp [okP]
theorem genB_ok {N M : Nat} {b : Blk} {j : Nat} (hN : N ≤ 3) (hM : M ≤ 3) (hnm : blsL[j]? = some b.name) (h : genB N M b) : blkB b = true := by
  obtain ⟨body, t, hb, hl, h1, h2⟩ := h
  unfold blkB
  rw [hb, bls_name _ (List.mem_of_getElem? hnm), List.all_append, List.all_eq_true.2 fun x hx => genS_ok hN (h1 x hx)]
  simp [termS_ok hM h2]
  omega
theorem genF_ok {N : Nat} {f : FH} {i : Nat} (hN : N ≤ 3) (hnm : fnsL[i]? = some f.name) (h : genF N f) : fncB f.f = true := by
  obtain ⟨h1, h2, h3⟩ := h
  unfold fncB
  have hall : f.f.bs.all blkB = true := by
    rw [List.all_eq_true]
    intro b hb
    obtain ⟨y, hy, rfl⟩ := List.mem_map.1 hb
    obtain ⟨j, hj, he⟩ := List.getElem_of_mem hy
    obtain ⟨g1, g2⟩ := h3 j y (by rw [List.getElem?_eq_getElem hj, he])
    exact genB_ok hN h2 g1 g2
  have hlen : f.f.bs.length = f.l.length := by simp [FH.f]
  rw [hall, hlen, show f.f.name = f.name from rfl, fns_name _ (List.mem_of_getElem? hnm)]
  simp
  omega
theorem genP_ok {ls : List FH} (h : genP ls) : prgB (ls.map FH.f) = true := by
  obtain ⟨h1, h2, h3⟩ := h
  unfold prgB
  have hall : (ls.map FH.f).all fncB = true := by
    rw [List.all_eq_true]
    intro b hb
    obtain ⟨y, hy, rfl⟩ := List.mem_map.1 hb
    obtain ⟨j, hj, he⟩ := List.getElem_of_mem hy
    obtain ⟨g1, g2⟩ := h3 j y (by rw [List.getElem?_eq_getElem hj, he])
    exact genF_ok h2 g1 g2
  rw [hall]
  simp
  omega

/-! ### Sizes -/
theorem vars_len {l : List ByteArray} {k : Nat} (hl : l.length ≤ k) (h : ∀ x ∈ l, x.size ≤ 1) : (wordsP l).size ≤ k * 2 := by
  have h1 := wordsP_size l l.length 1 (Nat.le_refl _) h
  rw [List.take_length] at h1
  have : l.length * (1 + 1) ≤ k * 2 := Nat.mul_le_mul_right _ hl
  omega
theorem line_20 {t : Stm} (hd : t.d.size ≤ 1) (hu : t.us.length ≤ 3) (hus : ∀ x ∈ t.us, x.size ≤ 1) (ht : t.ts.length ≤ 2) (hts : ∀ x ∈ t.ts, x.size ≤ 1) : (lineP t).size ≤ 20 := by
  have h1 := vars_len hu hus
  have h2 := vars_len ht hts
  unfold lineP
  repeat' split
  all_goals (try simp only [ByteArray.size_append])
  · show t.d.size + 2 + _ ≤ _; omega
  · show 3 + _ ≤ _; omega
  · show 4 + _ ≤ _; omega
  · show 7 + _ ≤ _; omega
  · show 4 + _ ≤ _; omega
  · show 9 + _ ≤ _; omega
  · show 4 + _ ≤ _; omega
  · show 6 + _ + _ ≤ _; omega
  · show 6 ≤ _; omega
theorem genS_20 {k : Nat} {t : Stm} (hk : k ≤ 3) (h : genS k t) : (lineP t).size ≤ 20 := by
  obtain ⟨op, d, us, ts⟩ := t
  unfold genS at h
  simp only at h
  rcases h with ⟨rfl, rfl, ⟨h1, h2, h3⟩, rfl⟩ | ⟨h0, hd, rfl, rfl⟩ | ⟨rfl, rfl, ⟨x, hx, rfl⟩, rfl⟩ | ⟨rfl, rfl, rfl, i, x, hi, hx, rfl⟩ | ⟨rfl, hd, ⟨h1, h2⟩, rfl⟩
  · exact line_20 (Nat.zero_le _) (by show us.length ≤ 3; omega) (fun x hx => varsL_small x (h3 x hx)) (by simp) (by simp)
  · exact line_20 (varsL_small d hd) (by simp) (by simp) (by simp) (by simp)
  · exact line_20 (Nat.zero_le _) (by simp) (by intro y hy; simp at hy; subst hy; exact varsL_small y hx) (by simp) (by simp)
  · exact line_20 (Nat.zero_le _) (by simp) (by simp) (by simp) (by intro y hy; simp at hy; subst hy; exact fnsL_small y (List.mem_of_getElem? hx))
  · exact line_20 (varsL_small d hd) (by show us.length ≤ 3; omega) (fun x hx => varsL_small x (h2 x hx)) (by simp) (by simp)
theorem termS_20 {n : Nat} {t : Stm} (h : termS n t) : (lineP t).size ≤ 20 := by
  obtain ⟨op, d, us, ts⟩ := t
  unfold termS at h
  simp only at h
  rcases h with ⟨rfl, rfl, rfl, rfl⟩ | ⟨rfl, rfl, rfl, i, hi, rfl⟩ | ⟨rfl, rfl, ⟨x, hx, rfl⟩, i, j, hi, hj, rfl⟩
  · exact line_20 (Nat.zero_le _) (by simp) (by simp) (by simp) (by simp)
  · exact line_20 (Nat.zero_le _) (by simp) (by simp) (by simp) (by intro y hy; simp at hy; subst hy; exact f2_small _)
  · exact line_20 (Nat.zero_le _) (by simp) (by intro y hy; simp at hy; subst hy; exact varsL_small y hx) (by simp) (by intro y hy; simp at hy; rcases hy with rfl | rfl <;> exact f2_small _)
theorem genB_20 {N M : Nat} {b : Blk} {j : Nat} (hN : N ≤ 3) (hnm : blsL[j]? = some b.name) (h : genB N M b) : (blkL b).length ≤ 5 ∧ ∀ x ∈ blkL b, x.size ≤ 20 := by
  obtain ⟨body, t, hb, hl, h1, h2⟩ := h
  unfold blkL
  rw [hb]
  refine ⟨by simp; omega, fun x hx => ?_⟩
  simp only [List.mem_cons, List.map_append, List.mem_append, List.mem_map, List.map_cons, List.map_nil, List.not_mem_nil, or_false] at hx
  rcases hx with rfl | ⟨y, hy, rfl⟩ | rfl
  · have := blsL_small _ (List.mem_of_getElem? hnm)
    rw [ByteArray.size_append]; show 6 + _ ≤ _; omega
  · exact genS_20 hN (h1 y hy)
  · exact termS_20 h2
theorem flat_20 {α : Type} (f : α → List ByteArray) (l : List α) (k m : Nat) (hl : l.length ≤ k) (h : ∀ x ∈ l, (f x).length ≤ m ∧ ∀ y ∈ f x, y.size ≤ 20) : (l.flatMap f).length ≤ k * m ∧ ∀ y ∈ l.flatMap f, y.size ≤ 20 := by
  refine ⟨?_, fun y hy => by obtain ⟨x, hx, hy⟩ := List.mem_flatMap.1 hy; exact (h x hx).2 y hy⟩
  have : (l.flatMap f).length ≤ l.length * m := by
    induction l with
    | nil => simp
    | cons x l ih =>
      have h1 := ih (by simp at hl; omega) fun z hz => h z (by simp [hz])
      have h2 := (h x (by simp)).1
      rw [List.flatMap_cons, List.length_append, List.length_cons, Nat.succ_mul]; omega
  exact Nat.le_trans this (Nat.mul_le_mul_right _ hl)
theorem genF_20 {N : Nat} {f : FH} {i : Nat} (hN : N ≤ 3) (hnm : fnsL[i]? = some f.name) (h : genF N f) : (fncL f.f).length ≤ 17 ∧ ∀ x ∈ fncL f.f, x.size ≤ 20 := by
  obtain ⟨h1, h2, h3⟩ := h
  have hb := flat_20 blkL f.f.bs 3 5 (by simpa [FH.f] using h2) (fun b hb => by
    obtain ⟨y, hy, rfl⟩ := List.mem_map.1 hb
    obtain ⟨j, hj, he⟩ := List.getElem_of_mem hy
    obtain ⟨g1, g2⟩ := h3 j y (by rw [List.getElem?_eq_getElem hj, he])
    exact genB_20 hN g1 g2)
  unfold fncL
  refine ⟨by simp only [List.length_cons, List.length_append, List.length_nil]; omega, fun x hx => ?_⟩
  simp only [List.mem_cons, List.mem_append, List.not_mem_nil, or_false] at hx
  rcases hx with rfl | hx | rfl
  · have := fnsL_small _ (List.mem_of_getElem? hnm)
    rw [ByteArray.size_append]; show 5 + f.name.size ≤ _; omega
  · exact hb.2 x hx
  · decide
theorem genP_20 {ls : List FH} (h : genP ls) : (linesP (ls.map FH.f)).length ≤ 51 ∧ ∀ x ∈ linesP (ls.map FH.f), x.size ≤ 20 := by
  obtain ⟨h1, h2, h3⟩ := h
  exact flat_20 fncL (ls.map FH.f) 3 17 (by simpa using h2) (fun b hb => by
    obtain ⟨y, hy, rfl⟩ := List.mem_map.1 hb
    obtain ⟨j, hj, he⟩ := List.getElem_of_mem hy
    obtain ⟨g1, g2⟩ := h3 j y (by rw [List.getElem?_eq_getElem hj, he])
    exact genF_20 h2 g1 g2)
theorem lines_pos {ls : List FH} (h : genP ls) : ∃ x L, linesP (ls.map FH.f) = (funcW ++ x) :: L := by
  obtain ⟨h1, h2, h3⟩ := h
  cases ls with
  | nil => simp at h1
  | cons f ls => exact ⟨f.name, _, rfl⟩
theorem printL_20 (L : List ByteArray) (h : ∀ x ∈ L, x.size ≤ 100000) : (printL L).size ≤ L.length * 100001 := printL_size L h
/-- The texts are not empty, and not long. -/
theorem print_small {ls : List FH} (h : genP ls) : 0 < (printP (ls.map FH.f)).size ∧ (printP (ls.map FH.f)).size ≤ 100000 := by
  obtain ⟨x, L, he⟩ := lines_pos h
  have h2 := genP_20 h
  have H : ∀ (L : List ByteArray) (s : ByteArray), (∀ x ∈ L, x.size ≤ 20) → s.size ≤ (L.foldl (fun s x => s ++ (x ++ ⟨#[10]⟩)) s).size ∧ (L.foldl (fun s x => s ++ (x ++ ⟨#[10]⟩)) s).size ≤ s.size + L.length * 21 := by
    intro L
    induction L with
    | nil => intro s _; simp
    | cons x L ih =>
      intro s h
      have h1 := ih (s ++ (x ++ ⟨#[10]⟩)) fun y hy => h y (by simp [hy])
      have h2 := h x (by simp)
      rw [List.foldl_cons, List.length_cons, Nat.succ_mul]
      have e : (s ++ (x ++ (⟨#[10]⟩ : ByteArray))).size = s.size + (x.size + 1) := by rw [ByteArray.size_append, ByteArray.size_append]; rfl
      omega
  have hp : printP (ls.map FH.f) = printL (linesP (ls.map FH.f)) := by unfold printP; rw [genP_ok h]; rfl
  rw [hp]
  have h3 := H (linesP (ls.map FH.f)) ⟨#[]⟩ h2.2
  have e0 : (⟨#[]⟩ : ByteArray).size = 0 := rfl
  refine ⟨?_, by unfold printL; omega⟩
  rw [he]
  have h4 := (H L (⟨#[]⟩ ++ ((funcW ++ x) ++ ⟨#[10]⟩)) fun y hy => h2.2 y (by rw [he]; simp [hy])).1
  have e1 : ((⟨#[]⟩ : ByteArray) ++ ((funcW ++ x) ++ ⟨#[10]⟩)).size = 0 + (5 + x.size + 1) := by
    rw [ByteArray.size_append, ByteArray.size_append, ByteArray.size_append]; rfl
  show 0 < (List.foldl (fun s x => s ++ (x ++ ⟨#[10]⟩)) (⟨#[]⟩ ++ ((funcW ++ x) ++ ⟨#[10]⟩)) L).size
  omega
theorem inline_small {ls : List FH} (h : genP ls) : 0 < (inlineP (ls.map FH.f)).size ∧ (inlineP (ls.map FH.f)).size ≤ 100000 := by
  obtain ⟨x, L, he⟩ := lines_pos h
  have h2 := genP_20 h
  have H : ∀ (L : List ByteArray) (s : ByteArray), (∀ x ∈ L, x.size ≤ 20) → s.size ≤ (sepL L s).size ∧ (sepL L s).size ≤ s.size + L.length * 22 := by
    intro L
    induction L with
    | nil => intro s _; simp [sepL]
    | cons x L ih =>
      intro s h
      have h1 := ih ((s ++ ⟨#[59, 32]⟩) ++ x) fun y hy => h y (by simp [hy])
      have h2 := h x (by simp)
      have e0 : sepL (x :: L) s = sepL L ((s ++ ⟨#[59, 32]⟩) ++ x) := rfl
      rw [e0, List.length_cons, Nat.succ_mul]
      have e : ((s ++ (⟨#[59, 32]⟩ : ByteArray)) ++ x).size = s.size + 2 + x.size := by rw [ByteArray.size_append, ByteArray.size_append]; rfl
      omega
  have hp : inlineP (ls.map FH.f) = inlineL (linesP (ls.map FH.f)) := by unfold inlineP; rw [genP_ok h]; rfl
  have hl := h2.1
  rw [hp, he]
  rw [he, List.length_cons] at hl
  have hx : (funcW ++ x).size ≤ 20 := h2.2 _ (by rw [he]; simp)
  have h3 := H L (⟨#[]⟩ ++ (funcW ++ x)) fun y hy => h2.2 y (by rw [he]; simp [hy])
  have e1 : ((⟨#[]⟩ : ByteArray) ++ (funcW ++ x)).size = 0 + (funcW ++ x).size := by rw [ByteArray.size_append]; rfl
  have e2 : (funcW ++ x).size = 5 + x.size := by rw [ByteArray.size_append]; rfl
  show 0 < (sepL L (⟨#[]⟩ ++ (funcW ++ x))).size ∧ (sepL L (⟨#[]⟩ ++ (funcW ++ x))).size ≤ _
  omega
end Go.Proofs.YtfapgnbnfhpicaaDoor

namespace Go.Proofs.YtfapgnbnfhpicaaDoor
set_option maxRecDepth 20000
set_option linter.unusedVariables false
set_option linter.unusedSimpArgs false

theorem nodup_len {α : Type} : ∀ (V S : List α), V.Nodup → (∀ x ∈ V, x ∈ S) → V.length ≤ S.length := by
  intro V
  induction V with
  | nil => intro S _ _; simp
  | cons x V ih =>
    intro S hn hs
    obtain ⟨S1, S2, rfl⟩ := List.append_of_mem (hs x (List.mem_cons_self ..))
    have hn2 := List.nodup_cons.1 hn
    have := ih (S1 ++ S2) hn2.2 (fun y hy => by
      have h := hs y (List.mem_cons_of_mem _ hy)
      rcases List.mem_append.1 h with h | h
      · exact List.mem_append_left _ h
      · rcases List.mem_cons.1 h with rfl | h
        · exact absurd hy hn2.1
        · exact List.mem_append_right _ h)
    simp at this ⊢
    omega
theorem addV_ok {S V : List ByteArray} {x : ByteArray} (hV : V.Nodup ∧ ∀ y ∈ V, y ∈ S) (hx : x ∈ S) : (addV V x).Nodup ∧ ∀ y ∈ addV V x, y ∈ S := by
  unfold addV
  cases h : inB x V with
  | true => exact hV
  | false =>
    have hnx : x ∉ V := fun hm => by rw [inB_iff.2 hm] at h; cases h
    refine ⟨?_, fun y hy => ?_⟩
    · show (V ++ [x]).Nodup
      rw [List.nodup_append]
      exact ⟨hV.1, by simp, fun a ha b hb e => by simp at hb; subst hb; subst e; exact hnx ha⟩
    · rcases List.mem_append.1 (show y ∈ V ++ [x] from hy) with h | h
      · exact hV.2 y h
      · simp at h; subst h; exact hx
theorem foldV_ok {S : List ByteArray} : ∀ (l V : List ByteArray), (V.Nodup ∧ ∀ y ∈ V, y ∈ S) → (∀ x ∈ l, x ∈ S) → ((l.foldl addV V).Nodup ∧ ∀ y ∈ l.foldl addV V, y ∈ S) := by
  intro l
  induction l with
  | nil => intro V h _; exact h
  | cons x l ih => intro V h hl; exact ih _ (addV_ok h (hl x (List.mem_cons_self ..))) fun y hy => hl y (List.mem_cons_of_mem _ hy)
theorem none_all {α : Type} {f : Nat → Option α} {n : Nat} (h : ∀ k, k < n → f k = none) : (List.range n).findSome? f = none := by
  rw [List.findSome?_eq_none_iff]
  intro k hk
  exact h k (List.mem_range.1 hk)
theorem names_take {α : Type} {nm : α → ByteArray} {S : List ByteArray} {l : List α} (h : ∀ (j : Nat) (y : α), l[j]? = some y → S[j]? = some (nm y)) (hl : l.length ≤ S.length) : l.map nm = S.take l.length := by
  apply List.ext_getElem?
  intro j
  rw [List.getElem?_map, List.getElem?_take]
  by_cases hj : j < l.length
  · rw [if_pos hj, List.getElem?_eq_getElem hj]
    exact (h j _ (List.getElem?_eq_getElem hj)).symm
  · rw [if_neg hj, List.getElem?_eq_none (by omega)]; rfl
theorem dup_fns (n : Nat) : dupI (fnsL.take n) = -1 := by
  rcases (show n = 0 ∨ n = 1 ∨ n = 2 ∨ 3 ≤ n by omega) with rfl | rfl | rfl | h
  · rfl
  · decide +kernel
  · decide +kernel
  · rw [List.take_of_length_le (by exact h)]; decide +kernel
theorem dup_bls (n : Nat) : dupI (blsL.take n) = -1 := by
  rcases (show n = 0 ∨ n = 1 ∨ n = 2 ∨ 3 ≤ n by omega) with rfl | rfl | rfl | h
  · rfl
  · decide +kernel
  · decide +kernel
  · rw [List.take_of_length_le (by exact h)]; decide +kernel
theorem gen_stm {N M : Nat} {t : Stm} (h : genS N t) : stmtE (fnsL.take N) (blsL.take M) false t = 0 := by
  refine stmtE_0 (S := if t.op == 3 then fnsL.take N else blsL.take M) ?_ rfl ?_
  · rcases h with ⟨h, _⟩ | ⟨h | h, _⟩ | ⟨h, _⟩ | ⟨h, _⟩ | ⟨h, _⟩ <;> rw [h] <;> rfl
  · rcases h with ⟨_, _, _, h⟩ | ⟨_, _, _, h⟩ | ⟨_, _, _, h⟩ | ⟨h0, _, _, i, x, hi, hx, h⟩ | ⟨_, _, _, h⟩
    · rw [h]; rfl
    · rw [h]; rfl
    · rw [h]; rfl
    · rw [h, h0]
      have hm : x ∈ fnsL.take N := by
        have : (fnsL.take N)[i]? = some x := by rw [List.getElem?_take, if_pos hi]; exact hx
        exact List.mem_of_getElem? this
      simp [inB_iff.2 hm]
    · rw [h]; rfl
theorem f2_mem {i M : Nat} (hi : i < M) (hM : M ≤ 3) : f2 i ∈ blsL.take M := by
  have : (blsL.take M)[i]? = some (f2 i) := by
    rw [List.getElem?_take, if_pos hi]
    rcases (show i = 0 ∨ i = 1 ∨ i = 2 by omega) with rfl | rfl | rfl <;> rfl
  exact List.mem_of_getElem? this
theorem gen_term {N M : Nat} {t : Stm} (hM : M ≤ 3) (h : termS M t) : stmtE (fnsL.take N) (blsL.take M) true t = 0 := by
  refine stmtE_0 (S := blsL.take M) ?_ ?_ ?_
  · rcases h with ⟨h, _⟩ | ⟨h, _⟩ | ⟨h, _⟩ <;> rw [h] <;> rfl
  · rcases h with ⟨h, _⟩ | ⟨h, _⟩ | ⟨h, _⟩ <;> rw [h] <;> rfl
  · rcases h with ⟨_, _, _, h⟩ | ⟨_, _, _, i, hi, h⟩ | ⟨_, _, _, i, j, hi, hj, h⟩
    · rw [h]; rfl
    · rw [h]; simp [inB_iff.2 (f2_mem hi hM)]
    · rw [h]; simp [inB_iff.2 (f2_mem hi hM), inB_iff.2 (f2_mem hj hM)]
theorem gen_blk {N M : Nat} {b : Blk} {k : Nat} (hM : M ≤ 3) (h : genB N M b) : (List.range b.ss.length).findSome? (stAt (fnsL.take N) (blsL.take M) b.ss k) = none := by
  obtain ⟨body, t, hb, hl, hbody, ht⟩ := h
  refine none_all fun j hj => ?_
  rw [hb] at hj ⊢
  rcases Nat.lt_or_ge j body.length with h1 | h1
  · refine st_none (t := body[j]) (e := 0) (by rw [List.getElem?_append_left h1, List.getElem?_eq_getElem h1]) ?_ rfl
    rw [decide_eq_false (by simp; omega)]
    exact gen_stm (hbody _ (List.getElem_mem h1))
  · have e : j = body.length := by simp at hj; omega
    subst e
    refine st_none (t := t) (e := 0) (by simp) ?_ rfl
    rw [decide_eq_true (by simp)]
    exact gen_term hM ht
theorem gen_fnc {N : Nat} {f : FH} (h : genF N f) : blocksE (fnsL.take N) f.f.bs = (0, 0, 0) := by
  obtain ⟨h1, h2, h3⟩ := h
  have hnm : f.f.bs.map Blk.name = blsL.take f.l.length := by
    rw [show f.f.bs.map Blk.name = f.l.map fun y => y.name by simp [FH.f, BH.b]]
    exact names_take (fun j y hy => (h3 j y hy).1) h2
  refine blocks_end (k := f.f.bs.length) (by rw [hnm]; exact dup_bls _) ?_ rfl
  rw [hnm]
  refine none_all fun k hk => ?_
  have hk2 : k < f.l.length := by simpa [FH.f] using hk
  have hy : f.l[k]? = some f.l[k] := List.getElem?_eq_getElem hk2
  rw [blk_at (b := (f.l[k]).b) (by show (f.l.map BH.b)[k]? = _; rw [List.getElem?_map, hy]; rfl)]
  exact gen_blk h2 (h3 k _ hy).2
theorem gen_funcs {ls : List FH} (h : genP ls) : funcsE (ls.map FH.f) = ((0, 0, 0, 0), 0) := by
  obtain ⟨h1, h2, h3⟩ := h
  have hnm : (ls.map FH.f).map Fnc.name = fnsL.take ls.length := by
    rw [show (ls.map FH.f).map Fnc.name = ls.map fun y => y.name by simp [FH.f]]
    exact names_take (fun j y hy => (h3 j y hy).1) h2
  refine funcs_end (k := (ls.map FH.f).length) (by rw [hnm]; exact dup_fns _) ?_ rfl
  rw [hnm]
  refine none_all fun k hk => ?_
  have hk2 : k < ls.length := by simpa using hk
  have hy : ls[k]? = some ls[k] := List.getElem?_eq_getElem hk2
  exact fn_none (f := (ls[k]).f) (by rw [List.getElem?_map, hy]; rfl) (gen_fnc (h3 k _ hy).2) rfl
theorem gen_occ {N : Nat} {t : Stm} (h : genS N t) : ∀ x ∈ occP t, x ∈ varsL := by
  unfold occP
  rcases h with ⟨h, _, hu, _⟩ | ⟨h, hd, hu, _⟩ | ⟨h, _, ⟨y, hy, hu⟩, _⟩ | ⟨h, _, hu, _⟩ | ⟨h, hd, hu, _⟩
  · rw [h]; intro x hx; exact hu.2.2 x hx
  · rcases h with h | h <;> rw [h, hu] <;> intro x hx <;> simp [defB] at hx <;> (subst hx; exact hd)
  · rw [h, hu]; intro x hx; simp [defB] at hx; subst hx; exact hy
  · rw [h, hu]; intro x hx; simp [defB] at hx
  · rw [h]; intro x hx; simp [defB] at hx; rcases hx with rfl | hx; exact hd; exact hu.2 x hx
theorem term_occ {M : Nat} {t : Stm} (h : termS M t) : ∀ x ∈ occP t, x ∈ varsL := by
  unfold occP
  rcases h with ⟨h, _, hu, _⟩ | ⟨h, _, hu, _⟩ | ⟨h, _, ⟨y, hy, hu⟩, _⟩
  · rw [h, hu]; intro x hx; simp [defB] at hx
  · rw [h, hu]; intro x hx; simp [defB] at hx
  · rw [h, hu]; intro x hx; simp [defB] at hx; subst hx; exact hy
theorem gen_each {ls : List FH} (h : genP ls) : ∀ t ∈ (ls.map FH.f).flatMap fncS, ∃ N M, genS N t ∨ termS M t := by
  refine flat_mem fun f hf => flat_mem fun b hb s hs => ?_
  obtain ⟨y, hy, rfl⟩ := List.mem_map.1 hf
  obtain ⟨z, hz, rfl⟩ := List.mem_map.1 (show b ∈ y.l.map BH.b from hb)
  obtain ⟨i, hi⟩ := List.mem_iff_getElem?.1 hy
  obtain ⟨j, hj⟩ := List.mem_iff_getElem?.1 hz
  obtain ⟨body, t, hbt, _, hbody, ht⟩ := ((h.2.2 i y hi).2.2.2 j z hj).2
  rw [hbt] at hs
  rcases List.mem_append.1 hs with hs | hs
  · exact ⟨_, 0, .inl (hbody s hs)⟩
  · simp at hs; subst hs; exact ⟨0, _, .inr ht⟩
theorem gen_vars {ls : List FH} (h : genP ls) : (varsP (ls.map FH.f)).length ≤ 64 := by
  have h1 := foldV_ok (S := varsL) ((stmtsP (ls.map FH.f)).flatMap occP) [] ⟨List.nodup_nil, by simp⟩ (by
    unfold stmtsP
    rw [if_pos (genP_ok h)]
    refine flat_mem fun t ht => ?_
    obtain ⟨N, M, h2 | h2⟩ := gen_each h t ht
    · exact gen_occ h2
    · exact term_occ h2)
  have h2 := nodup_len _ _ h1.1 h1.2
  have h3 : varsL.length = 4 := rfl
  show (List.foldl addV [] _).length ≤ 64
  omega
theorem flat_len2 {α β : Type} (f : α → List β) (l : List α) (k m : Nat) (hl : l.length ≤ k) (h : ∀ x ∈ l, (f x).length ≤ m) : (l.flatMap f).length ≤ k * m := by
  have key : ∀ l : List α, (∀ x ∈ l, (f x).length ≤ m) → (l.flatMap f).length ≤ l.length * m := by
    intro l
    induction l with
    | nil => intro _; simp
    | cons x l ih =>
      intro h
      rw [List.flatMap_cons, List.length_append, List.length_cons, Nat.succ_mul]
      have := h x (List.mem_cons_self ..)
      have := ih fun y hy => h y (List.mem_cons_of_mem _ hy)
      omega
  exact Nat.le_trans (key l h) (Nat.mul_le_mul_right _ hl)
theorem gen_stmts {ls : List FH} (h : genP ls) : ((ls.map FH.f).flatMap fncS).length ≤ 36 := by
  refine Go.Proofs.YtfapgnbnfhpicaaDoor.flat_len2 fncS _ 3 12 (by rw [List.length_map]; exact h.2.1) fun f hf => ?_
  obtain ⟨y, hy, rfl⟩ := List.mem_map.1 hf
  obtain ⟨i, hi⟩ := List.mem_iff_getElem?.1 hy
  have hg := (h.2.2 i y hi).2
  refine Go.Proofs.YtfapgnbnfhpicaaDoor.flat_len2 Blk.ss _ 3 4 (by show (y.l.map BH.b).length ≤ 3; rw [List.length_map]; exact hg.2.1) fun b hb => ?_
  obtain ⟨z, hz, rfl⟩ := List.mem_map.1 (show b ∈ y.l.map BH.b from hb)
  obtain ⟨j, hj⟩ := List.mem_iff_getElem?.1 hz
  obtain ⟨body, t, hbt, hbl, _, _⟩ := (hg.2.2 j z hj).2
  rw [hbt]; simp; omega
theorem gen_check {ls : List FH} (h : genP ls) : checkP (ls.map FH.f) = ((0, 0, 0, 0), 0) := by
  refine chk_fine (genP_ok h) (gen_funcs h) rfl ?_
  have h1 := gen_vars h
  have h2 := gen_stmts h
  have h3 : stmtsP (ls.map FH.f) = (ls.map FH.f).flatMap fncS := by unfold stmtsP; rw [if_pos (genP_ok h)]
  have h4 := sumP_le nod_le ((ls.map FH.f).flatMap fncS)
  have h5 := sumP_le edg_le ((ls.map FH.f).flatMap fncS)
  have h6 : (ls.map FH.f).length ≤ 3 := by rw [List.length_map]; exact h.2.1
  have h7 : (sizesP (ls.map FH.f)).1 ≤ 256 ∧ (sizesP (ls.map FH.f)).2 ≤ 1024 := by
    unfold sizesP
    rw [h3]
    split
    · simp
    · constructor
      · show 2 * _ + _ ≤ 256; omega
      · show _ + _ ≤ 1024; omega
  unfold fitB
  simp [h1, h7.1, h7.2]
end Go.Proofs.YtfapgnbnfhpicaaDoor

namespace Go.Proofs.YtfapgnbnfhpicaaDoor
set_option maxRecDepth 20000
set_option linter.unusedVariables false
set_option linter.unusedSimpArgs false
open Go.ChangeShapes Go.WideShapes Go.ChangeAt Go.RowKit
attribute [local go_sem ↓] Go.wp_at_zero Go.wp_at_succ

def RetCl (w : World) (l : List ByteArray) (e : Ending) (w' : World) : Prop :=
  ∃ (A : Option Addr) (n c : Nat), e = .returned (.slice A n c) ∧ SArg w' A n l ∧ (∀ ad, A = some ad → w.heap.size ≤ ad.block) ∧ Below w.heap.size w w'
/-- A list of strings that lies behind N. -/
structure SLk (N : Nat) (w : World) (A : Option Addr) (n : Nat) (L : List ByteArray) : Prop where
  arg : SArg w A n L
  off : ∀ ad, A = some ad → N ≤ ad.block
theorem SLk.grown {N g : Nat} {w w' : World} {A : Option Addr} {n : Nat} {L : List ByteArray} (h : SLk N w A n L) (hN : g < N) (hg : w.grownBy w' (some g)) : SLk N w' A n L := by
  refine ⟨⟨?_, h.arg.len, h.arg.few, h.arg.small⟩, h.off⟩
  rcases h.arg.lies with e | ⟨ad, e, hlt, hc⟩
  · exact .inl e
  · exact .inr ⟨ad, e, Nat.lt_of_lt_of_le hlt hg.size, fun j u hu => (World.cell?_of_block (by rw [add_block]; exact hg.block _ hlt (by have := h.off ad e; intro e2; injection e2 with e2; omega))).trans (hc j u hu)⟩
theorem SLk.below {N : Nat} {w w' : World} {A : Option Addr} {n : Nat} {L : List ByteArray} (h : SLk N w A n L) (hb : Below w.heap.size w w') : SLk N w' A n L := ⟨h.arg.below hb, h.off⟩
theorem SLk.of {N : Nat} {w w' : World} {A : Option Addr} {n : Nat} {L : List ByteArray} (h : SArg w' A n L) (hb : ∀ ad, A = some ad → w.heap.size ≤ ad.block) (hg : N ≤ w.heap.size) : SLk N w' A n L :=
  ⟨h, fun ad e => Nat.le_trans hg (hb ad e)⟩
/-- The statement of a node came back, in lists of its own. -/
def RetSm (w : World) (t : Stm) (e : Ending) (w' : World) : Prop :=
  ∃ (A : Option Addr) (n c : Nat) (B : Option Addr) (m d : Nat), e = .returned (.tuple #[.agg #[.int .i64 t.op, .string t.d, .slice A n c, .slice B m d], .bool true]) ∧ StArg w' t.op t.d A n B m t ∧ Below w.heap.size w w' ∧ (∀ ad, A = some ad → w.heap.size ≤ ad.block) ∧ (∀ ad, B = some ad → w.heap.size ≤ ad.block)
theorem prog_stm {w : World} {ex : List (Option Nat)} {x : PH} (h : PHok w ex x) {f b j : Nat} {F : Fnc} {B : Blk} {t : Stm} (h1 : x.p[f]? = some F) (h2 : F.bs[b]? = some B) (h3 : B.ss[j]? = some t) :
    ∃ (y : FH) (z : BH) (s : SH), x.l[f]? = some y ∧ y ∈ x.l ∧ y.l[b]? = some z ∧ z ∈ y.l ∧ z.l[j]? = some s ∧ s ∈ z.l ∧ s.t = t ∧ y.f = F ∧ z.b = B := by
  unfold PH.p at h1
  rw [List.getElem?_map] at h1
  obtain ⟨y, hy, rfl⟩ := Option.map_eq_some_iff.1 h1
  change (y.l.map BH.b)[b]? = some B at h2
  rw [List.getElem?_map] at h2
  obtain ⟨z, hz, rfl⟩ := Option.map_eq_some_iff.1 h2
  change (z.l.map SH.t)[j]? = some t at h3
  rw [List.getElem?_map] at h3
  obtain ⟨s, hs, rfl⟩ := Option.map_eq_some_iff.1 h3
  exact ⟨y, z, s, hy, List.mem_of_getElem? hy, hz, List.mem_of_getElem? hz, hs, List.mem_of_getElem? hs, rfl, rfl, rfl⟩
end Go.Proofs.YtfapgnbnfhpicaaDoor

namespace Go.Proofs.YtfapgnbnfhpicaaDoor
set_option linter.unusedVariables false
open Go.ChangeShapes Go.WideShapes Go.ChangeAt Go.RowKit

end Go.Proofs.YtfapgnbnfhpicaaDoor

namespace Go.Proofs.YtfapgnbnfhpicaaDoor
set_option maxRecDepth 20000
set_option linter.unusedVariables false
set_option linter.unusedSimpArgs false
open Go.ChangeShapes Go.WideShapes Go.ChangeAt Go.RowKit

/-- The walk's world: the program and the list of its nodes stand. -/
structure NW (w : World) (G : Nat) (x : PH) (A : Option Addr) (L : List Nd) (v : World) : Prop where
  bel : Below w.heap.size w v
  shp : Shp v
  prog : PHok v [] x
  ptr : Fb v G #[.slice x.A x.n x.c] 24
  nds : EAt v [] A (L.flatMap ndc)
theorem NW.below {w v v' : World} {G : Nat} {x : PH} {A : Option Addr} {L : List Nd} (h : NW w G x A L v) (hb : Below v.heap.size v v') : NW w G x A L v' :=
  ⟨below_step h.bel hb, h.shp.keep (hb.block 0 h.shp.pos0), PHok.below h.prog hb, h.ptr.below hb h.ptr.lt, h.nds.go (Go2.below hb)⟩
end Go.Proofs.YtfapgnbnfhpicaaDoor

namespace Go.Proofs.YtfapgnbnfhpicaaDoor
set_option maxRecDepth 20000
set_option linter.unusedVariables false
set_option linter.unusedSimpArgs false
open Go.ChangeShapes Go.WideShapes Go.ChangeAt Go.RowKit

theorem pre2_le {p : List Fnc} {k b : Nat} {F : Fnc} (h1 : p[k]? = some F) (hb : b ≤ F.bs.length) : (pre2 p k F.bs b).length + 1 ≤ (pre1 p p.length).length := by
  have e1 := (pre2_mono (p := p) (k := k) (bs := F.bs) hb).length_le
  have e2 := congrArg List.length (pre2_all h1)
  rw [List.length_append] at e2
  have e4 := (range_pre (f := ndFs p) (show k + 1 ≤ p.length by have := (List.getElem?_eq_some_iff.1 h1).1; omega)).length_le
  change (pre1 p (k + 1)).length ≤ (pre1 p p.length).length at e4
  simp at e2
  omega
theorem pre3_le {p : List Fnc} {k b i : Nat} {F : Fnc} {B : Blk} (h1 : p[k]? = some F) (h2 : F.bs[b]? = some B) (hi : i ≤ B.ss.length) : (pre3 p k F.bs b B.ss i).length + 1 ≤ (pre1 p p.length).length := by
  have e1 := (pre3_mono (p := p) (k := k) (bs := F.bs) (b := b) (ss := B.ss) hi).length_le
  rw [pre3_all h2] at e1
  have := pre2_le h1 (show b + 1 ≤ F.bs.length by have := (List.getElem?_eq_some_iff.1 h2).1; omega)
  omega
structure ZW (w : World) (x : PH) (v : World) : Prop where
  bel : Below w.heap.size w v
  prog : PHok v [] x
  ptr : Fb v w.heap.size #[.slice x.A x.n x.c] 24
end Go.Proofs.YtfapgnbnfhpicaaDoor

namespace Go.Proofs.YtfapgnbnfhpicaaDoor
set_option maxRecDepth 20000
set_option linter.unusedVariables false
set_option linter.unusedSimpArgs false
open Go.ChangeShapes Go.WideShapes Go.ChangeAt Go.RowKit

def eg1 (p : List Fnc) (k : Nat) : Nat := k + sumP edgO ((p.take k).flatMap fncS)
def eg2 (p : List Fnc) (k : Nat) (bs : List Blk) (b : Nat) : Nat := eg1 p k + 1 + sumP edgO ((bs.take b).flatMap Blk.ss)
def eg3 (p : List Fnc) (k : Nat) (bs : List Blk) (b : Nat) (ss : List Stm) (i : Nat) : Nat := eg2 p k bs b + sumP edgO (ss.take i)
theorem sumP_app2 (f : Int → Nat) (l m : List Stm) : sumP f (l ++ m) = sumP f l + sumP f m := by simp [sumP]
theorem eg3_succ {p : List Fnc} {k : Nat} {bs : List Blk} {b : Nat} {ss : List Stm} {i : Nat} {t : Stm} (h : ss[i]? = some t) : eg3 p k bs b ss (i + 1) = eg3 p k bs b ss i + edgO t.op := by
  unfold eg3
  rw [List.take_add_one, h, sumP_app2]
  simp [sumP]
  omega
theorem eg3_all {p : List Fnc} {k : Nat} {bs : List Blk} {b : Nat} {x : Blk} (h : bs[b]? = some x) : eg3 p k bs b x.ss x.ss.length = eg2 p k bs (b + 1) := by
  unfold eg3 eg2
  rw [List.take_length, List.take_add_one, h]
  simp [List.flatMap_append, sumP_app2]
  omega
theorem eg2_all {p : List Fnc} {k : Nat} {x : Fnc} (h : p[k]? = some x) : eg2 p k x.bs x.bs.length = eg1 p (k + 1) := by
  unfold eg2 eg1
  rw [List.take_length, List.take_add_one, h]
  simp [List.flatMap_append, sumP_app2, fncS]
  omega
theorem edg_3 {o : Int} (h : (o == 3) = true) : edgO o = 3 := by unfold edgO; rw [if_pos h]
theorem edg_8 {o : Int} (h : (o == 3) = false) (h2 : (o == 8) = true) : edgO o = 2 := by unfold edgO; rw [if_neg (by rw [h]; decide), if_pos h2]
theorem edg_1 {o : Int} (h : (o == 3) = false) (h2 : (o == 8) = false) : edgO o = 1 := by unfold edgO; rw [if_neg (by rw [h]; decide), if_neg (by rw [h2]; decide)]
end Go.Proofs.YtfapgnbnfhpicaaDoor

namespace Go.Proofs.YtfapgnbnfhpicaaDoor
set_option maxRecDepth 20000
set_option linter.unusedVariables false
set_option linter.unusedSimpArgs false
open Go.ChangeShapes Go.WideShapes Go.ChangeAt Go.RowKit

theorem edges_eg {p : List Fnc} (h : (checkP p).2 = 0) : (edgesN p).length = eg1 p p.length := by
  obtain ⟨h1, h2, _, _⟩ := sizes_ok h
  have hp := list_pos h
  obtain ⟨q1, _, _⟩ := check_parts h
  have hs : stmtsP p = p.flatMap fncS := by unfold stmtsP; rw [if_pos q1]
  rw [h2]
  rw [h1] at hp
  unfold sizesP at hp ⊢
  by_cases h0 : (stmtsP p).length = 0
  · rw [if_pos h0] at hp; simp at hp
  · rw [if_neg h0]
    unfold eg1
    rw [List.take_length, hs]
theorem count_one (N c : Nat) : ((List.range N).map fun a => if c == a then 1 else 0).sum ≤ 1 ∧ (N ≤ c → ((List.range N).map fun a => if c == a then 1 else 0).sum = 0) := by
  induction N with
  | zero => simp
  | succ N ih =>
    rw [List.range_succ, List.map_append, List.sum_append]
    simp only [List.map_cons, List.map_nil, List.sum_cons, List.sum_nil, Nat.add_zero]
    by_cases e : c = N
    · subst e
      have := ih.2 (Nat.le_refl _)
      simp only [beq_self_eq_true, if_true]
      omega
    · have he : (c == N) = false := by simpa using e
      rw [he]
      have h1 := ih.1
      have h2 := ih.2
      refine ⟨by simpa using h1, fun h => ?_⟩
      have := h2 (by omega)
      simpa using this
theorem outF_sum (N : Nat) (E : List (Nat × Nat)) : ((List.range N).map fun a => (outF E a).length).sum ≤ E.length := by
  induction E with
  | nil =>
    have : ((List.range N).map fun a => (outF [] a).length).sum = 0 := by
      induction N with
      | zero => rfl
      | succ N ih => rw [List.range_succ, List.map_append, List.sum_append, ih]; rfl
    omega
  | cons e E ih =>
    have h : ((List.range N).map fun a => (outF (e :: E) a).length).sum = ((List.range N).map fun a => (if e.1 == a then 1 else 0) + (outF E a).length).sum := by
      congr 1
      refine List.map_congr_left fun a _ => ?_
      unfold outF
      rw [List.filter_cons]
      by_cases he : (e.1 == a) = true
      · rw [if_pos he, if_pos he]; simp; omega
      · rw [if_neg he, if_neg he]; simp
    rw [h, sum_add, List.length_cons]
    have := (count_one N e.1).1
    omega
theorem row_le {N : Nat} {l : List Int} : (rowP N fun b => decide ((b : Int) ∈ l)).length ≤ l.length := by
  refine nodup_len _ _ ?_ (fun x hx => ?_)
  · exact (rowP_ris N _).1.imp (fun h => by omega)
  · obtain ⟨k, _, h2, rfl⟩ := mem_rowP.1 hx
    simpa using h2
theorem suc_tot (p : List Fnc) : tot (sucL p) ≤ (numsE p).length := by
  refine Nat.le_trans ?_ (outF_sum (listN p).length (numsE p))
  unfold tot sucL rowsF
  rw [List.map_map]
  have : ∀ n : Nat, ((List.range n).map (List.length ∘ sucF p)).sum ≤ ((List.range n).map fun a => (outF (numsE p) a).length).sum := by
    intro n
    induction n with
    | zero => simp
    | succ n ih =>
      rw [List.range_succ, List.map_append, List.map_append, List.sum_append, List.sum_append]
      simp only [List.map_cons, List.map_nil, List.sum_cons, List.sum_nil, Nat.add_zero, Function.comp]
      have := row_le (N := (listN p).length) (l := outF (numsE p) n)
      unfold sucF at *
      omega
  exact this _
theorem suc_val {p : List Fnc} (h : (checkP p).2 = 0) : ValG (listN p).length (sucL p) (revL (listN p).length (sucL p)) ∧ tot (sucL p) ≤ eg1 p p.length := by
  obtain ⟨_, _, h3, h4⟩ := sizes_ok h
  have ht := suc_tot p
  have hl : (numsE p).length = (edgesN p).length := by unfold numsE; rw [List.length_map]
  refine ⟨⟨list_pos h, h3, by unfold sucL rowsF; simp, revL_len _ _, fun l hl => ?_, by omega, rfl⟩, by rw [← edges_eg h]; omega⟩
  unfold sucL rowsF at hl
  obtain ⟨a, _, rfl⟩ := List.mem_map.1 hl
  exact rowP_ris _ _
theorem numN_at {L : List Nd} (hd : L.Nodup) {i : Nat} {x : Nd} (h : L[i]? = some x) : numN L x = i := by
  unfold numN
  obtain ⟨h1, h2⟩ := List.getElem?_eq_some_iff.1 h
  have : L.findIdx? (fun y => decide (y = x)) = some i := by
    rw [List.findIdx?_eq_some_iff_getElem]
    refine ⟨h1, by simp [h2], fun j hj => ?_⟩
    have := (List.pairwise_iff_getElem.1 (List.nodup_iff_pairwise_ne.1 hd)) j i (by omega) h1 hj
    simp only [decide_eq_true_eq]
    exact fun e => this (e.trans h2.symm)
  rw [this]
  rfl
/-- A node that is no exit leads on. -/
theorem suc_some {p : List Fnc} (h : (checkP p).2 = 0) {i : Nat} {n : Nd} (hn : (listN p)[i]? = some n) (hk : n.kd ≠ 2) : sucF p i ≠ [] := by
  obtain ⟨hp, hf, hL⟩ := check_parts h
  obtain ⟨q1, q2, q3⟩ := prg_parts hp
  have hm := List.mem_of_getElem? hn
  have hex : ∃ t, (n, t) ∈ lvE p n := by
    have hok := (nodes_ok h n hm).1
    cases hok with
    | entry f hf => exact ⟨⟨3, f, 0, 0⟩, by unfold lvE; simp⟩
    | exit f hf => exact absurd rfl hk
    | retn f b j _ _ _ => exact ⟨⟨3, f, b, (j : Int) + 1⟩, by unfold lvE; simp⟩
    | stmt f b j F B t h1 h2 h3 hts =>
      rw [lvE_at h1 h2 h3]
      have hst := stm_ts ((blk_parts ((fnc_parts (q3 F (List.mem_of_getElem? h1))).2.2 B (List.mem_of_getElem? h2))).2.2 t (List.mem_of_getElem? h3))
      unfold stE
      split
      · next h7 =>
        have : 0 < t.ts.length := by
          simp only [Bool.or_eq_true, beq_iff_eq] at h7
          rcases h7 with h7 | h7
          · have := hst.1 (.inr h7); omega
          · have := hst.2.1 h7; omega
        exact ⟨_, List.mem_map.2 ⟨t.ts[0], List.getElem_mem this, rfl⟩⟩
      · split
        · exact ⟨_, List.mem_singleton.2 rfl⟩
        · split
          · exact ⟨_, List.mem_cons_self ..⟩
          · exact ⟨_, List.mem_singleton.2 rfl⟩
  obtain ⟨t, ht⟩ := hex
  have he : (i, numN (listN p) t) ∈ numsE p := by
    have := List.mem_map_of_mem (f := numE (listN p)) (List.mem_flatMap.2 ⟨n, hm, ht⟩)
    rw [show numE (listN p) (n, t) = (i, numN (listN p) t) from by show (numN (listN p) n, _) = _; rw [numN_at (list_nodup p) hn]] at this
    exact this
  intro h0
  have : ((numN (listN p) t : Nat) : Int) ∈ sucF p i := by
    unfold sucF
    rw [mem_rowP_nat]
    exact ⟨numN_lt (list_pos h) t, by simp only [decide_eq_true_eq]; exact outF_mem.2 ⟨_, he, rfl⟩⟩
  rw [h0] at this
  simp at this
end Go.Proofs.YtfapgnbnfhpicaaDoor

namespace Go.Proofs.YtfapgnbnfhpicaaDoor
set_option linter.unusedVariables false

/-- A number put behind a list that lacks it. -/
def addI (R : List Int) (a : Int) : List Int := if a ∈ R then R else R ++ [a]
theorem addI_yes {R : List Int} {a : Int} (h : a ∈ R) : addI R a = R := by unfold addI; rw [if_pos h]
theorem addI_no {R : List Int} {a : Int} (h : a ∉ R) : addI R a = R ++ [a] := by unfold addI; rw [if_neg h]
theorem addI_mem {R : List Int} {a x : Int} : x ∈ addI R a ↔ x ∈ R ∨ x = a := by
  by_cases h : a ∈ R
  · rw [addI_yes h]
    exact ⟨.inl, fun h2 => h2.elim id (fun e => e ▸ h)⟩
  · rw [addI_no h]; simp
theorem addI_nodup {R : List Int} {a : Int} (h : R.Nodup) : (addI R a).Nodup := by
  by_cases h2 : a ∈ R
  · rw [addI_yes h2]; exact h
  · rw [addI_no h2, List.nodup_append]
    refine ⟨h, by simp, fun x hx y hy e => ?_⟩
    simp at hy
    subst hy
    subst e
    exact h2 hx
theorem addI_pre {R : List Int} {a : Int} : R <+: addI R a := by
  by_cases h2 : a ∈ R
  · rw [addI_yes h2]; exact List.prefix_refl R
  · rw [addI_no h2]; exact List.prefix_append R [a]
/-- A whole list visited. -/
def visI (R l : List Int) : List Int := l.foldl addI R
theorem visI_take {R l : List Int} {k : Nat} {a : Int} (h : l[k]? = some a) : visI R (l.take (k + 1)) = addI (visI R (l.take k)) a := by
  unfold visI; rw [List.take_add_one, h, List.foldl_append]; rfl
theorem visI_mem {R l : List Int} {x : Int} : x ∈ visI R l ↔ x ∈ R ∨ x ∈ l := by
  unfold visI
  induction l generalizing R with
  | nil => simp
  | cons a l ih => rw [List.foldl_cons, ih, addI_mem, List.mem_cons, or_assoc]
theorem visI_nodup {R l : List Int} (h : R.Nodup) : (visI R l).Nodup := by
  unfold visI
  induction l generalizing R with
  | nil => exact h
  | cons a l ih => rw [List.foldl_cons]; exact ih (addI_nodup h)
theorem visI_pre {R l : List Int} : R <+: visI R l := by
  unfold visI
  induction l generalizing R with
  | nil => exact List.prefix_refl R
  | cons a l ih => rw [List.foldl_cons]; exact List.IsPrefix.trans addI_pre ih
theorem pre_get {R T : List Int} (h : R <+: T) {j : Nat} (hj : j < R.length) : T[j]? = R[j]? := by
  obtain ⟨u, rfl⟩ := h
  rw [List.getElem?_append_left hj]
theorem nodup_few : ∀ (V S : List Int), V.Nodup → (∀ x ∈ V, x ∈ S) → V.length ≤ S.length := by
  intro V
  induction V with
  | nil => intro S _ _; simp
  | cons v V ih =>
    intro S hd hm
    rw [List.nodup_cons] at hd
    have hv := hm v (List.mem_cons_self ..)
    have h1 := ih (S.erase v) hd.2 (fun x hx => (List.mem_erase_of_ne (fun e => by subst e; exact hd.1 hx)).2 (hm x (List.mem_cons_of_mem _ hx)))
    rw [List.length_erase_of_mem hv] at h1
    have := List.length_pos_of_mem hv
    rw [List.length_cons]; omega
theorem nodup_below {N : Nat} {V : List Int} (h : V.Nodup) (hr : ∀ x ∈ V, 0 ≤ x ∧ x < (N : Int)) : V.length ≤ N := by
  have h1 := nodup_few V ((List.range N).map Int.ofNat) h (fun x hx => by
    have := hr x hx
    refine List.mem_map.2 ⟨x.toNat, List.mem_range.2 (by omega), ?_⟩
    show ((x.toNat : Nat) : Int) = x
    omega)
  simpa using h1
/-- What has been marked. -/
def fnd (N : Nat) (R : List Int) : List Bool := (List.range N).map fun k : Nat => decide ((k : Int) ∈ R)
theorem fnd_len (N : Nat) (R : List Int) : (fnd N R).length = N := by simp [fnd]
theorem fnd_nil (N : Nat) : fnd N [] = List.replicate N false := by
  apply List.ext_getElem?
  intro i
  unfold fnd
  rw [List.getElem?_map, List.getElem?_replicate]
  by_cases h : i < N
  · rw [List.getElem?_range h, if_pos h]; simp
  · rw [List.getElem?_eq_none (by simpa using h), if_neg h]; rfl
theorem fnd_at {N : Nat} {R : List Int} {k : Nat} (h : k < N) : (fnd N R)[k]? = some (decide ((k : Int) ∈ R)) := by
  unfold fnd; rw [List.getElem?_map, List.getElem?_range h]; rfl
theorem fnd_set {N : Nat} {R : List Int} {k : Nat} (h : k < N) : (fnd N R).set k true = fnd N (R ++ [(k : Int)]) := by
  apply List.ext_getElem?
  intro i
  by_cases hi : i < N
  · rw [List.getElem?_set, fnd_at hi, fnd_at hi, fnd_len]
    by_cases e : k = i
    · subst e; rw [if_pos rfl, if_pos hi]; simp
    · rw [if_neg e]
      have : ((i : Int) ∈ R ++ [(k : Int)]) ↔ (i : Int) ∈ R := by simp; omega
      simp only [this]
  · rw [List.getElem?_eq_none (by rw [List.length_set, fnd_len]; omega), List.getElem?_eq_none (by rw [fnd_len]; omega)]
/-- What stands while the list of the reached grows: the first i of it have been left. -/
structure RcG (N : Nat) (S : List (List Int)) (F R : List Int) (i : Nat) : Prop where
  nd : R.Nodup
  rng : ∀ x ∈ R, 0 ≤ x ∧ x < (N : Int)
  st : ∀ x ∈ F, x ∈ R
  rch : ∀ k : Nat, (k : Int) ∈ R → Rch S F k
  cl : ∀ (j : Nat) (a : Int), j < i → R[j]? = some a → ∀ b ∈ rw0 S a.toNat, b ∈ R
theorem RcG.start {N : Nat} {S : List (List Int)} {F : List Int} (hF : ∀ x ∈ F, 0 ≤ x ∧ x < (N : Int)) : RcG N S F (visI [] F) 0 :=
  ⟨visI_nodup List.nodup_nil, fun x hx => by rcases visI_mem.1 hx with h | h; cases h; exact hF x h, fun x hx => visI_mem.2 (.inr hx),
    fun k hk => by rcases visI_mem.1 hk with h | h; cases h; exact .start h, fun j a hj => by omega⟩
theorem RcG.few {N : Nat} {S : List (List Int)} {F R : List Int} {i : Nat} (h : RcG N S F R i) : R.length ≤ N := nodup_below h.nd h.rng
theorem RcG.step {N : Nat} {S : List (List Int)} {F R : List Int} {i : Nat} {a : Int} (h : RcG N S F R i) (hS : ∀ l ∈ S, RisP N l) (ha : R[i]? = some a) : RcG N S F (visI R (rw0 S a.toNat)) (i + 1) := by
  have ham := List.mem_of_getElem? ha
  have har := h.rng a ham
  have hae : ((a.toNat : Nat) : Int) = a := by omega
  refine ⟨visI_nodup h.nd, fun x hx => ?_, fun x hx => visI_mem.2 (.inl (h.st x hx)), fun k hk => ?_, fun j c hj hc b hb => ?_⟩
  · rcases visI_mem.1 hx with h1 | h1
    · exact h.rng x h1
    · exact (rw0_ris hS _).2 x h1
  · rcases visI_mem.1 hk with h1 | h1
    · exact h.rch k h1
    · exact .step (h.rch _ (by rw [hae]; exact ham)) h1
  · rw [pre_get visI_pre (by have := (List.getElem?_eq_some_iff.1 ha).1; omega)] at hc
    by_cases e : j = i
    · subst e
      obtain rfl := Option.some.inj (ha.symm.trans hc)
      exact visI_mem.2 (.inr hb)
    · exact visI_mem.2 (.inl (h.cl j c (by omega) hc b hb))
theorem RcG.done {N : Nat} {S : List (List Int)} {F R l : List Int} {i : Nat} (h : RcG N S F R i) (hi : R.length ≤ i) (hp : l.Perm R) (hs : l.Pairwise (· ≤ ·)) : l = rchL N S F := by
  have hnd : l.Nodup := hp.nodup_iff.2 h.nd
  have hm : ∀ x, x ∈ l ↔ x ∈ R := fun x => hp.mem_iff
  refine rchL_of ⟨?_, fun x hx => h.rng x ((hm x).1 hx)⟩ (fun x hx => (hm x).2 (h.st x hx)) (fun a b ha hb => ?_) (fun k hk => h.rch k ((hm _).1 hk))
  · refine (hs.and (List.nodup_iff_pairwise_ne.1 hnd)).imp fun {x y} h => ?_
    have := h.1
    have := h.2
    omega
  · obtain ⟨j, hj, he⟩ := List.mem_iff_getElem.1 ((hm _).1 ha)
    refine (hm _).2 (h.cl j a (by omega) (by rw [List.getElem?_eq_getElem hj, he]) b ?_)
    simpa using hb
end Go.Proofs.YtfapgnbnfhpicaaDoor

namespace Go.Proofs.YtfapgnbnfhpicaaDoor
set_option maxRecDepth 20000
set_option linter.unusedVariables false
set_option linter.unusedSimpArgs false
open Go.ChangeShapes Go.WideShapes Go.ChangeAt Go.RowKit

structure Rsv (W : World) (F fb rb N : Nat) (B : List Bool) (R : List Int) (v : Value) (wr : World) : Prop where
  own : wr.ownsRow W.heap.size 3 1 v R.length (ints R)
  fnd : Fb wr F (B.map Value.bool).toArray 4
  fbx : Fb wr fb #[.slice (some ⟨F, 0, none⟩) N N] 66
  rbx : Fb wr rb #[v] 35
  bl : B.length = N
  bel : Below W.heap.size W wr
  lo : W.heap.size ≤ F ∧ W.heap.size ≤ fb ∧ W.heap.size ≤ rb
  ne : F ≠ fb ∧ F ≠ rb ∧ fb ≠ rb
section
variable {W wr w' : World} {F fb rb N : Nat} {B : List Bool} {R : List Int} {v : Value}
theorem Rsv.below (h : Rsv W F fb rb N B R v wr) (hb : Below wr.heap.size wr w') : Rsv W F fb rb N B R v w' :=
  ⟨own_below h.own hb, h.fnd.below hb h.fnd.lt, h.fbx.below hb h.fbx.lt, h.rbx.below hb h.rbx.lt, h.bl, below_step h.bel hb, h.lo, h.ne⟩
theorem Rsv.alloc (h : Rsv W F fb rb N B R v wr) (o : Obj) : Rsv W F fb rb N B R v (wr.alloc o) := h.below ((Below.refl _ _).alloc (Nat.le_refl _) o)
theorem Rsv.mark (h : Rsv W F fb rb N B R v wr) (a : Nat) : Rsv W F fb rb N (B.set a true) R v (wr.setCell ⟨F, a, none⟩ (.bool true)) := by
  have h1 := h.lo
  have h2 := h.ne
  have hset := setCell_grown wr ⟨F, a, none⟩ (.bool true)
  refine ⟨h.own.kept hset (.inr fun e => (fb_ne_own h.fnd h.own (by decide)) e.symm), ?_, h.fbx.grown hset (by intro e; injection e with e; simp only at e; omega), h.rbx.grown hset (by intro e; injection e with e; simp only at e; omega), by rw [List.length_set]; exact h.bl, h.bel.setCell (p := ⟨F, a, none⟩) h1.1 _, h.lo, h.ne⟩
  have := h.fnd.set a (.bool true)
  simpa [List.map_set] using this
theorem Rsv.cellF (h : Rsv W F fb rb N B R v wr) {a : Nat} {u : Bool} (ha : B[a]? = some u) : wr.cell? ⟨F, a, none⟩ = some (.bool u) ∧ wr.frozen? ⟨F, a, none⟩ = false := by
  refine ⟨?_, h.fnd.frozen a⟩
  rw [h.fnd.cell]
  simp [ha]
/-- What stands behind the append, ahead of the store into the box. -/
theorem Rsv.grown (h : Rsv W F fb rb N B R v wr) (hg : wr.grownBy w' v.ownBlock) : w'.cell? ⟨rb, 0, none⟩ = some v ∧ w'.frozen? ⟨rb, 0, none⟩ = false := by
  have := h.rbx.grown hg (fb_ne_own h.rbx h.own (by decide))
  exact ⟨this.onec, this.frozen 0⟩
theorem Rsv.push {g cap : Nat} {a : Int} (h : Rsv W F fb rb N B R v wr) (hown : w'.ownsRow W.heap.size 3 1 (.slice (some ⟨g, 0, none⟩) (R.length + 1) cap) (R.length + 1) (ints R ++ [.int .i64 a])) (hg : wr.grownBy w' v.ownBlock) :
    Rsv W F fb rb N B (R ++ [a]) (.slice (some ⟨g, 0, none⟩) (R.length + 1) cap) (w'.setCell ⟨rb, 0, none⟩ (.slice (some ⟨g, 0, none⟩) (R.length + 1) cap)) := by
  have h1 := h.lo
  have h2 := h.ne
  have e1 := fb_ne_own h.fnd h.own (by decide)
  have e2 := fb_ne_own h.fbx h.own (by decide)
  have e3 := fb_ne_own h.rbx h.own (by decide)
  have f1 := h.fnd.grown hg e1
  have f2 := h.fbx.grown hg e2
  have f3 := h.rbx.grown hg e3
  have hset := setCell_grown w' ⟨rb, 0, none⟩ (.slice (some ⟨g, 0, none⟩) (R.length + 1) cap)
  refine ⟨?_, f1.grown hset (by intro e; injection e with e; simp only at e; omega), f2.grown hset (by intro e; injection e with e; simp only at e; omega), ?_, h.bl, ?_, h.lo, h.ne⟩
  · rw [ints_snoc, List.length_append]
    exact hown.kept hset (.inr fun e => (fb_ne_own f3 hown (by decide)) e.symm)
  · have := f3.set 0 (.slice (some ⟨g, 0, none⟩) (R.length + 1) cap)
    simpa using this
  · exact ((h.bel).grown hg h.bel.size (fun k hk => (h.own.lt k hk).1)).setCell (p := ⟨rb, 0, none⟩) h1.2.2 _
end
set_option maxHeartbeats 3200000 in
theorem visit_any (x : RH) (N F fb rb : Nat) (R0 : List Int) (v0 : Value) (W w : World) (hx : RHok W [] x) (hr : ∀ a ∈ x.l, 0 ≤ a ∧ a < (N : Int)) (hd : R0.Nodup) (hR : ∀ a ∈ R0, 0 ≤ a ∧ a < (N : Int)) (hN : N ≤ 100000) (h : Rsv W F fb rb N (fnd N R0) R0 v0 w) :
    Calls Tryd.prog 21 #[.slice x.A x.n x.c, .pointer (some ⟨fb, 0, none⟩), .pointer (some ⟨rb, 0, none⟩)] w fun e w' => e = .returned (.tuple #[]) ∧ ∃ v, Rsv W F fb rb N (fnd N (visI R0 x.l)) (visI R0 x.l) v w' := by
  obtain ⟨i1, hi, hz0, hz1, hz2⟩ := info_parts info3
  have Hi := hid hi; have Hz0 := hid hz0; have Hz1 := hid hz1; have Hz2 := hid hz2
  clear hi hz0 hz1 hz2
  have hn := hx.few
  have HX := hid hx
  have HL := hid hx.len
  have HR := hid hr
  have HD := hid hd
  have HRR := hid hR
  have H0 := hid h
  clear hx hr hd hR h
  obtain ⟨A, n, c, l⟩ := x
  simp only at *
  go_enter Tryd.func21, Tryd.ntmps21
  go_wp2_with fail
  go_loopw [5, 8] (fun _ iv wr => ∃ (k : Nat) (v : Value), k ≤ n ∧ iv = .int .i64 k ∧ Hid (Rsv W F fb rb N (fnd N (visI R0 (l.take k))) (visI R0 (l.take k)) v wr)) (fun _ iv _ => n - (intOf iv).toNat)
  case atStart => exact ⟨0, v0, by omega, rfl, hid (by rw [List.take_zero]; exact H0.out)⟩
  case round =>
    clear H0
    obtain ⟨k, v, hk, rfl, hS⟩ := hrel
    by_cases hlt : k < n
    · obtain ⟨a, ha, ham⟩ := get_at HL.out hlt
      obtain ⟨ad, hA, had, hc⟩ := (HX.out.below hS.out.bel).cell ha
      simp only at hA
      subst hA
      have har := HR.out a ham
      obtain ⟨j, rfl⟩ : ∃ j : Nat, a = (j : Int) := ⟨a.toNat, by omega⟩
      have hjN : j < N := by omega
      have Htk := hid (visI_take (R := R0) ha)
      have Hnd := hid (visI_nodup (l := l.take k) HD.out)
      have Hrg := hid (show ∀ z ∈ visI R0 (l.take k), 0 ≤ z ∧ z < (N : Int) from fun z hz => by
        rcases visI_mem.1 hz with h1 | h1
        · exact HRR.out z h1
        · exact HR.out z (List.mem_of_mem_take h1))
      have hfew : (visI R0 (l.take k)).length ≤ N := nodup_below Hnd.out Hrg.out
      clear ha ham har
      generalize visI R0 (l.take k) = R at *
      have hb0 := hS.out.fbx.onec
      obtain ⟨hf0, hf1⟩ := hS.out.cellF (fnd_at (R := R) hjN)
      have hfl := hS.out.fnd.lt
      cases hm : decide ((j : Int) ∈ R) with
      | true =>
        rw [hm] at hf0
        as_aux_lemma =>
          have Hr := hid (show visI R0 (l.take (k + 1)) = R by rw [Htk.out, addI_yes (by simpa using hm)])
          clear hm
          go_wp2_with fail
          go_roundw
          case rel => exact ⟨k + 1, v, by omega, by go_num, hid (by rw [Hr.out]; exact hS.out)⟩
          case measure => simp [intOf]; omega
      | false =>
        rw [hm] at hf0
        as_aux_lemma =>
          have Hr := hid (show visI R0 (l.take (k + 1)) = R ++ [(j : Int)] by rw [Htk.out, addI_no (by simpa using hm)])
          clear hm
          have H1 := hid (hS.out.mark j)
          rw [fnd_set hjN] at H1
          have hv1 := H1.out.rbx.onec
          have hb1 := H1.out.fbx.onec
          have hrl := H1.out.rbx.lt
          have H2 := hid (H1.out.alloc (.cells #[.int .i64 (j : Int)] 3))
          have hnew := int_new (wr.setCell ⟨F, j, none⟩ (.bool true)) (j : Int) 3
          rw [show (wr.setCell ⟨F, j, none⟩ (.bool true)).heap.size = wr.heap.size by simp [World.setCell]] at hnew
          have Hnew := hid hnew
          clear hnew
          obtain ⟨sA, sc, hsv⟩ := own_any_slice H1.out.own
          subst hsv
          go_wp2_with ((
            at_builtin
            go_must (refine wpList_append_lies _ rfl _ _ 35 rfl W.heap.size 3 i1 _ 1 8 Tryd.underlying35 Hi.out Hz0.out Hz1.out Hz2.out rfl (by decide) _ R.length (ints R) rfl H2.out.own ⟨wr.heap.size, 0, none⟩ 1 1 [.int .i64 (j : Int)] rfl rfl Hnew.out (one_int1 _) (by omega) (by unfold maxLen; omega) (by omega) H2.out.bel.size _ rfl ?_)
            intro g5 cap5 w5 hown5 hgr5 hat5 hlt5
            obtain ⟨y0, y1⟩ := H2.out.grown hgr5
            have H5 := hid (H2.out.push hown5 hgr5)
            clear hown5 hgr5 hat5 hlt5))
          go_roundw
          case rel => exact ⟨k + 1, _, by omega, by go_num, hid (by rw [Hr.out]; exact H5.out)⟩
          case measure => simp [intOf]; omega
    · obtain rfl : k = n := by omega
      have Hr := hid (show l.take k = l from List.take_of_length_le (by rw [HL.out]; omega))
      go_wp2_with fail
      refine bodyPost_end (v := .tuple #[]) (by simp [results, Tryd.results21]) rfl ⟨rfl, v, by rw [← Hr.out]; exact hS.out⟩
end Go.Proofs.YtfapgnbnfhpicaaDoor

namespace Go.Proofs.YtfapgnbnfhpicaaDoor
set_option maxRecDepth 20000
set_option linter.unusedVariables false
set_option linter.unusedSimpArgs false
open Go.ChangeShapes Go.WideShapes Go.ChangeAt Go.RowKit

theorem info4 : (Tryd.prog.info? 4).map (fun i => (i.zero, i.size, i.bytes)) = some (some (.bool false), 1, 1) := by kernel_rfl
theorem run_mkbools (n : Nat) (hn : n ≤ 100000) (w : World) :
    (Instr.makeSlice 66 (.int .i64 (n : Int)) (.int .i64 (n : Int))).run Tryd.prog w = .ok (.slice (some ⟨w.heap.size, 0, none⟩) n n) (w.alloc (.cells (Array.replicate n (Value.bool false)) 4)) := by
  obtain ⟨i, hi, hz0, hz1, hz2⟩ := info_parts info4
  have h := run_make (P := Tryd.prog) w 66 4 i (.bool false) Tryd.underlying66 hi hz0 .i64 .i64 n n (by omega) (by omega) (by rw [hz2]; omega) (by omega)
  rw [h, hz1]
  simp only [Int.toNat_natCast, Nat.mul_one]
  have e2 : madeCells (Value.bool false).cells n = Array.replicate n (Value.bool false) := by
    apply Array.toList_inj.1
    rw [show (Value.bool false).cells = #[Value.bool false] from rfl, toList_madeCells_one]
    simp
  rw [e2]
/-- A row came back, in new memory. -/
def RetRw (w : World) (l : List Int) (e : Ending) (w' : World) : Prop :=
  ∃ y : RH, e = .returned (.slice y.A y.n y.c) ∧ y.l = l ∧ y.n ≤ 100000 ∧ (∀ ex : List (Option Nat), (∀ k, some k ∈ ex → k < w.heap.size) → RHok w' ex y) ∧ Below w.heap.size w w'
theorem ris_at {N : Nat} {S : List (List Int)} (h : ∀ l ∈ S, RisP N l) {i : Nat} {l : List Int} (hi : S[i]? = some l) : ∀ a ∈ l, 0 ≤ a ∧ a < (N : Int) := (h l (List.mem_of_getElem? hi)).2
set_option maxHeartbeats 6400000 in
theorem reach_yes (x : GH) (f : RH) (w : World) (h : GHok w [] x) (hf : RHok w [] f) (hval : ValG x.n x.S.v x.P.v) (hfr : ∀ a ∈ f.l, 0 ≤ a ∧ a < (x.n : Int)) :
    Calls Tryd.prog 7 #[x.a, .slice f.A f.n f.c] w (RetRw w (rchL x.n x.S.v f.l)) := by
  have hb0 := (Below.refl w.heap.size w).alloc (Nat.le_refl _) (.cells #[.slice x.A x.n x.c, .slice x.S.A x.S.n x.S.c, .slice x.P.A x.P.n x.P.c] 31)
  have HB0 := hid hb0
  have HX0 := hid (h.below hb0)
  have HF0 := hid (hf.below hb0)
  have HG0 := hid (Fb.new w #[.slice x.A x.n x.c, .slice x.S.A x.S.n x.S.c, .slice x.P.A x.P.n x.P.c] 31)
  have HVa := hid (fun (v : World) (h : GHok v [] x) => valid_graph x [] v h)
  rw [validB_iff.2 hval] at HVa
  have HV := hid hval
  have HFr := hid hfr
  have Hfl := hid hf.len
  have hfn := hf.few
  have Hgl := hid (show x.S.l.length = x.n by have := hval.slen; rw [LH.vlen] at this; exact this)
  have Hsn := hid (show x.S.n = x.n by rw [← h.s.len]; exact Hgl.out)
  have hN := hval.few
  have hN1 := hval.some
  clear h hf hval hfr hb0
  unfold GH.a at *
  go_enter Tryd.func7, Tryd.ntmps7
  have c0 := HG0.out.thr.1
  have c1 := HG0.out.thr.2.1
  have c2 := HG0.out.thr.2.2
  have hl := HG0.out.lt
  go_wp2_with fail
  clear c0 c1 c2 hl
  generalize w.alloc (.cells #[.slice x.A x.n x.c, .slice x.S.A x.S.n x.S.c, .slice x.P.A x.P.n x.P.c] 31) = w0 at *
  refine (HVa.out _ HX0.out).mono ?_
  rintro e w1 ⟨rfl, hb1⟩
  have HB1 := hid (below_step HB0.out hb1)
  have HX1 := hid (HX0.out.below hb1)
  have HF1 := hid (HF0.out.below hb1)
  have HG1 := hid (HG0.out.below hb1 HG0.out.lt)
  clear hb1 HB0 HX0 HF0 HG0 HVa
  go_wp2_with fail
  go_loop [6, 16] (fun _ iv => ∃ k : Nat, k ≤ f.n ∧ iv = .int .i64 k) (fun _ iv => f.n - (intOf iv).toNat)
  case atStart => exact ⟨0, by omega, rfl⟩
  case round =>
    obtain ⟨k, hk, rfl⟩ := hrel
    by_cases hlt : k < f.n
    · obtain ⟨a, ha, ham⟩ := get_at Hfl.out hlt
      obtain ⟨ad, hA, had, hc⟩ := HF1.out.cell ha
      rw [hA]
      have har := HFr.out a ham
      have t1 : decide (a < 0) = false := by simp; omega
      have c0 := HG1.out.thr.1
      clear ha ham
      as_aux_lemma =>
        go_wp2_with fail
        go_round
        case rel => exact ⟨k + 1, by omega, by go_num⟩
        case measure => simp [intOf]; omega
    · obtain rfl : k = f.n := by omega
      as_aux_lemma =>
        have hmb := run_mkbools x.n (by omega)
        have c0 := HG1.out.thr.1
        have hgl := HG1.out.lt
        have HS0 := hid (show Rsv w1 (w1.heap.size + 1) (w1.heap.size + 1 + 1) w1.heap.size x.n (fnd x.n []) [] (.slice none 0 0) (((w1.alloc (.cells #[.slice none 0 0] 35)).alloc (.cells (Array.replicate x.n (Value.bool false)) 4)).alloc (.cells #[.slice (some ⟨w1.heap.size + 1, 0, none⟩) x.n x.n] 66)) from by
          have hb : Below w1.heap.size w1 (((w1.alloc (.cells #[.slice none 0 0] 35)).alloc (.cells (Array.replicate x.n (Value.bool false)) 4)).alloc (.cells #[.slice (some ⟨w1.heap.size + 1, 0, none⟩) x.n x.n] 66)) :=
            (((Below.refl _ _).alloc (Nat.le_refl _) _).alloc (by rw [World.size_alloc]; omega) _).alloc (by rw [World.size_alloc, World.size_alloc]; omega) _
          refine ⟨World.ownsRow_nil _ _ _ _, ?_, ?_, ((Fb.new w1 _ _).alloc _).alloc _, fnd_len _ _, hb, by omega, by omega⟩
          · rw [fnd_nil, show ((List.replicate x.n false).map Value.bool).toArray = Array.replicate x.n (Value.bool false) by simp]
            have := (Fb.new (w1.alloc (.cells #[.slice none 0 0] 35)) (Array.replicate x.n (Value.bool false)) 4).alloc (.cells #[.slice (some ⟨w1.heap.size + 1, 0, none⟩) x.n x.n] 66)
            rw [World.size_alloc] at this
            exact this
          · have := Fb.new ((w1.alloc (.cells #[.slice none 0 0] 35)).alloc (.cells (Array.replicate x.n (Value.bool false)) 4)) #[.slice (some ⟨w1.heap.size + 1, 0, none⟩) x.n x.n] 66
            rw [World.size_alloc, World.size_alloc] at this
            exact this)
        go_wp2_with fail
        clear hmb c0 hgl
        have HF0 := HS0.out.lo
        refine (visit_any f x.n (w1.heap.size + 1) (w1.heap.size + 1 + 1) w1.heap.size [] _ w1 _ HF1.out HFr.out List.nodup_nil (by simp) (by omega) HS0.out).mono ?_
        rintro e w5 ⟨rfl, v5, hst⟩
        have H5 := hid hst
        have HR5 := hid (RcG.start (S := x.S.v) HFr.out)
        clear hst HS0 HF0
        generalize w1.heap.size + 1 + 1 = fb at *
        generalize w1.heap.size + 1 = F at *
        generalize hrb : w1.heap.size = rb at *
        have Hrb := hid hrb
        clear hrb
        go_wp2_with fail
        go_loopw [10] (fun iv wr => ∃ (i : Nat) (R : List Int) (v : Value), i ≤ R.length ∧ iv = .int .i64 i ∧ Hid (Rsv w1 F fb rb x.n (fnd x.n R) R v wr) ∧ Hid (RcG x.n x.S.v f.l R i)) (fun iv _ => x.n - (intOf iv).toNat)
        case atStart => exact ⟨0, _, v5, by omega, rfl, H5, HR5⟩
        case round =>
          clear H5 HR5
          obtain ⟨i, R, v, hi, rfl, hS, hC⟩ := hrel
          have hfew := hC.out.few
          obtain ⟨vA, vc, rfl⟩ := own_any_slice hS.out.own
          have hb0 := hS.out.rbx.onec
          have hrl := hS.out.rbx.lt
          have HG2 := hid (HG1.out.below (by have := hS.out.bel; exact this) HG1.out.lt)
          by_cases hlt : i < R.length
          · obtain ⟨a, ha, ham⟩ := get_at (rfl : R.length = R.length) hlt
            have har := hC.out.rng a ham
            obtain ⟨j, rfl⟩ : ∃ j : Nat, a = (j : Int) := ⟨a.toNat, by omega⟩
            have hjN : j < x.n := by omega
            obtain ⟨ad, hA, -, hc⟩ := (EAt.own (ex := []) hS.out.own (by simp)).one (i := i) (u := .int .i64 (j : Int)) (by unfold ints; rw [List.getElem?_map, ha]; rfl)
            subst hA
            obtain ⟨y, hy, hym⟩ := get_at Hgl.out hjN
            obtain ⟨adS, hAS, hadS, hcS⟩ := (HX1.out.below hS.out.bel).s.cell hy
            have Hstep := hid (show RcG x.n x.S.v f.l (visI R y.l) (i + 1) by have := hC.out.step HV.out.ris ha; rw [show ((j : Int)).toNat = j from rfl, LH.rw hy] at this; exact this)
            have Hlen := hid (show i + 1 ≤ (visI R y.l).length by have := (visI_pre (R := R) (l := y.l)).length_le; omega)
            have HVi := hid (fun (v : Value) (wv : World) (h : Rsv w1 F fb rb x.n (fnd x.n R) R v wv) => visit_any y x.n F fb rb R v w1 wv (HX1.out.s.all y hym) (ris_at HV.out.ris (LH.at hy)) hC.out.nd hC.out.rng (by omega) h)
            have HS1 := hid (hS.out.below ((Below.refl wr.heap.size wr).drew))
            have c1 := HG2.out.thr.2.1
            rw [hAS, Hsn.out] at c1
            have hjn : (j : Int) < (x.n : Int) := by omega
            have hir : (i : Int) < (R.length : Int) := by omega
            have hj0 : (0 : Int) ≤ (j : Int) := by omega
            have hi0 : (0 : Int) ≤ (i : Int) := by omega
            clear ha ham har hy hym hAS hadS hS hC
            as_aux_lemma =>
              go_wp2_with fail
              refine wp_region_still_tail 9 (by kernel_rfl) (by kernel_rfl) ?_
              simp only [List.take_succ_cons, List.take_zero, List.drop_succ_cons, List.drop_zero]
              repeat still_step
              try refine wpStill_nil ?_
              change wpList _ _ _ _ _ wr.drew
              go_wp2_with fail
              refine (HVi.out _ _ HS1.out).mono ?_
              rintro e w7 ⟨rfl, v7, hst7⟩
              have H7 := hid hst7
              clear hst7
              go_wp2_with fail
              go_roundw
              case rel => exact ⟨i + 1, _, v7, Hlen.out, by go_num, H7, Hstep⟩
              case measure => simp [intOf]; omega
          · as_aux_lemma =>
              obtain rfl : i = R.length := by omega
              go_wp2_with fail
              refine (sort_own hS.out.own rfl (by omega)).mono ?_
              rintro e w8 ⟨rfl, hown8, hgr8⟩
              have hb8 := (hS.out.rbx.grown hgr8 (fb_ne_own hS.out.rbx hS.out.own (by decide))).onec
              have HO := hid hown8
              have HB8 := hid (below_step HB1.out (hS.out.bel.grown hgr8 hS.out.bel.size (fun k hk => (hS.out.own.lt k hk).1)))
              clear hown8 hgr8
              go_wp2_with fail
              go_ret
              exact ⟨⟨vA, R.length, vc, srtI R⟩, rfl, hC.out.done (Nat.le_refl _) (srtI_perm R) (srtI_sorted R), by show R.length ≤ _; omega, fun ex hex => ⟨EAt.own HO.out (fun g hg hm => by have h1 := (HO.out.lt g hg).1; have h2 := hex g hm; have h3 := HB1.out.size; omega), srtI_len R, by show R.length ≤ _; omega⟩, HB8.out⟩
end Go.Proofs.YtfapgnbnfhpicaaDoor

namespace Go.Proofs.YtfapgnbnfhpicaaDoor
set_option maxRecDepth 100000
set_option linter.unusedVariables false
set_option linter.unusedSimpArgs false
open Go.ChangeShapes Go.WideShapes Go.ChangeAt Go.RowKit

def gxT : ByteArray := ⟨#[102, 117, 110, 99, 32, 109, 59, 32, 98, 108, 111, 99, 107, 32, 98, 59, 32, 99, 97, 108, 108, 32, 102, 59, 32, 99, 97, 108, 108, 32, 102, 59, 32, 114, 101, 116, 117, 114, 110, 59, 32, 98, 108, 111, 99, 107, 32, 99, 59, 32, 103, 111, 116, 111, 32, 99, 59, 32, 101, 110, 100, 59, 32, 102, 117, 110, 99, 32, 102, 59, 32, 98, 108, 111, 99, 107, 32, 98, 59, 32, 114, 101, 116, 117, 114, 110, 59, 32, 101, 110, 100]⟩
def gxP : List Fnc := [⟨⟨#[109]⟩, [⟨⟨#[98]⟩, [⟨3, noB, [], [⟨#[102]⟩]⟩, ⟨3, noB, [], [⟨#[102]⟩]⟩, ⟨9, noB, [], []⟩]⟩, ⟨⟨#[99]⟩, [⟨7, noB, [], [⟨#[99]⟩]⟩]⟩]⟩, ⟨⟨#[102]⟩, [⟨⟨#[98]⟩, [⟨9, noB, [], []⟩]⟩]⟩]
def gxS : List (List Int) := [[1], [8], [3], [8], [5], [7], [6], [], [9], [10], [2, 4]]
def gxR : List Int := [0, 1, 2, 3, 4, 5, 7, 8, 9, 10]
theorem gx_parse : parseS gxT = (gxP, 0, 0, 0) := by kernel_rfl
theorem gx_ok : (checkP gxP).2 = 0 := by kernel_rfl
theorem gx_S : sucL gxP = gxS := by kernel_rfl
theorem gx_N : (listN gxP).length = 11 := by kernel_rfl
theorem gx_P : (revL 11 gxS)[6]? = some [6] := by kernel_rfl
theorem gx_closed : ∀ x ∈ gxR, ∀ y ∈ rw0 gxS x.toNat, y ∈ gxR := by decide
theorem gx_R : rchL 11 gxS [0] = gxR := by
  refine (rchL_of ⟨by decide, by decide⟩ (by decide) (fun a b ha hb => ?_) (fun k hk => ?_)).symm
  · exact gx_closed a ha b (by rw [Int.toNat_natCast]; exact hb)
  · have r0 : Rch gxS [0] 0 := .start (by decide)
    have r1 : Rch gxS [0] 1 := .step r0 (by decide)
    have r8 : Rch gxS [0] 8 := .step r1 (by decide)
    have r9 : Rch gxS [0] 9 := .step r8 (by decide)
    have r10 : Rch gxS [0] 10 := .step r9 (by decide)
    have r2 : Rch gxS [0] 2 := .step r10 (by decide)
    have r4 : Rch gxS [0] 4 := .step r10 (by decide)
    have r3 : Rch gxS [0] 3 := .step r2 (by decide)
    have r5 : Rch gxS [0] 5 := .step r4 (by decide)
    have r7 : Rch gxS [0] 7 := .step r5 (by decide)
    have hk2 : k = 0 ∨ k = 1 ∨ k = 2 ∨ k = 3 ∨ k = 4 ∨ k = 5 ∨ k = 7 ∨ k = 8 ∨ k = 9 ∨ k = 10 := by
      simp [gxR] at hk
      omega
    rcases hk2 with rfl | rfl | rfl | rfl | rfl | rfl | rfl | rfl | rfl | rfl <;> assumption
theorem LH.row_at {x : LH} {S : List (List Int)} {i : Nat} {l : List Int} (h : x.v = S) (hi : S[i]? = some l) : ∃ r : RH, x.l[i]? = some r ∧ r.l = l := by
  subst h
  unfold LH.v at hi
  rw [List.getElem?_map] at hi
  exact Option.map_eq_some_iff.1 hi
set_option maxHeartbeats 6400000 in
theorem lawGxl (w : World) (hsh : Shp w) : Calls Tryd.prog 3 #[] w fun e w' => e = .returned (.bool true) ∧ Below w.heap.size w w' := by
  have hs : gxT.size ≤ maxLen := by have : gxT.size ≤ 100 := by decide
                                    unfold maxLen; omega
  have Hs := hid hs
  have HS := hid hsh
  clear hs hsh
  go_enter Tryd.func3, Tryd.ntmps3
  go_wp2_with fail
  refine (refParse_any gxT _ Hs.out).mono ?_
  rw [← parse_same, gx_parse]
  rintro e w1 ⟨x, rfl, hx, hp, hb⟩
  have ha := (Below.refl w1.heap.size w1).alloc (Nat.le_refl _) (.cells #[.slice x.A x.n x.c] 24)
  have hb2 := below_step hb ha
  have HX := hid (PHok.below (hp [] (by simp)) ha)
  have HB1 := hid hb2
  have HS1 := hid (HS.out.keep (hb2.block 0 HS.out.pos0))
  have HM1 := hid (Fb.new w1 #[.slice x.A x.n x.c] 24)
  have HBd := hid (fun (v : World) (h : PHok v [] x) (hs : Shp v) => build_yes x [] v h hs (by rw [hx]; exact gx_ok))
  have e1 : listN x.p = listN gxP := by rw [hx]
  have e2 : sucL x.p = sucL gxP := by rw [hx]
  have hval := (suc_val gx_ok).1
  rw [gx_S, gx_N] at hval
  rw [e1, e2, gx_S, gx_N] at HBd
  clear hb ha hb2 hp hx e1 e2
  have b0 := HM1.out.onec
  have hl := HM1.out.lt
  simp only
  go_wp2_with fail
  clear b0 hl
  refine (HBd.out _ HX.out HS1.out).mono ?_
  rintro e w2 ⟨y, rfl, hyn, hyS, hyP, hyok, hb⟩
  have ha := (Below.refl w2.heap.size w2).alloc (Nat.le_refl _) (.cells #[.slice y.A y.n y.c, .slice y.S.A y.S.n y.S.c, .slice y.P.A y.P.n y.P.c] 31)
  have HW := hid (show Sw w w2.heap.size y (w2.alloc (.cells #[.slice y.A y.n y.c, .slice y.S.A y.S.n y.S.c, .slice y.P.A y.P.n y.P.c] 31)) from ⟨below_step HB1.out (below_step hb ha), Fb.new _ _ _, (hyok [] (by simp)).below ha⟩)
  have hn3 : y.n = 11 := by rw [← (hyok [] (by simp)).len, hyn]; exact gx_N
  obtain ⟨r, hr, hrl⟩ := LH.row_at (i := 10) (l := [2, 4]) hyS rfl
  obtain ⟨q, hq, hql⟩ := LH.row_at (i := 6) (l := [6]) hyP gx_P
  have hsn : y.S.n = 11 := by rw [← (hyok [] (by simp)).s.len, ← LH.vlen, hyS]; rfl
  have hpn : y.P.n = 11 := by rw [← (hyok [] (by simp)).p.len, ← LH.vlen, hyP]; exact hval.plen
  obtain ⟨adS, hAS, -, -⟩ := (hyok [] (by simp)).s.cell hr
  obtain ⟨adP, hAP, -, -⟩ := (hyok [] (by simp)).p.cell hq
  have hrm := List.mem_of_getElem? hr
  have hqm := List.mem_of_getElem? hq
  have hql2 : q.n = 1 := by rw [← ((hyok [] (by simp)).p.all q hqm).len, hql]; rfl
  have HF := hid (fun (v : World) (h : Sw w w2.heap.size y v) => show ((v.cell? ⟨w2.heap.size, 0, none⟩ = some (.slice y.A 11 y.c) ∧ v.cell? ⟨w2.heap.size, 1, none⟩ = some (.slice (some adS) 11 y.S.c) ∧ v.cell? ⟨w2.heap.size, 2, none⟩ = some (.slice (some adP) 11 y.P.c)) ∧
    (v.cell? ⟨adS.block, adS.off + 10, none⟩ = some (.slice r.A r.n r.c) ∧ v.cell? ⟨adP.block, adP.off + 6, none⟩ = some (.slice q.A 1 q.c))) ∧ (w2.heap.size < v.heap.size ∧ adS.block < v.heap.size ∧ adP.block < v.heap.size) from by
    obtain ⟨c0, c1, c2⟩ := h.box.thr
    rw [hn3] at c0
    rw [hAS, hsn] at c1
    rw [hAP, hpn] at c2
    obtain ⟨d0, e0⟩ := h.g.s.cell_of hAS hr
    obtain ⟨d3, e3⟩ := h.g.p.cell_of hAP hq
    rw [hql2] at d3
    exact ⟨⟨⟨c0, c1, c2⟩, d0, d3⟩, h.box.lt, e0, e3⟩)
  have HR := hid (fun (v : World) (h : Sw w w2.heap.size y v) => h.g.s.all r hrm)
  have hya : y.a = .agg #[.slice y.A 11 y.c, .slice (some adS) 11 y.S.c, .slice (some adP) 11 y.P.c] := by unfold GH.a; rw [hn3, hAS, hsn, hAP, hpn]
  have hvy : ValG y.n y.S.v y.P.v := by rw [hn3, hyS, hyP]; exact hval
  have hre : rchL y.n y.S.v [0] = gxR := by rw [hn3, hyS]; exact gx_R
  have hn0 : (0 : Int) < (y.n : Int) := by rw [hn3]; decide
  have HRe := hid (fun (v : World) (h : Sw w w2.heap.size y v) (A : Option Addr) (n c : Nat) (hf : RHok v [] ⟨A, n, c, [0]⟩) => show Calls Tryd.prog 7 #[.agg #[.slice y.A 11 y.c, .slice (some adS) 11 y.S.c, .slice (some adP) 11 y.P.c], .slice A n c] v (RetRw v gxR) from by
    have h1 := reach_yes y ⟨A, n, c, [0]⟩ v h.g hf hvy (fun a ha => by simp at ha; subst ha; exact ⟨Int.le_refl _, hn0⟩)
    rw [hya] at h1
    simp only at h1
    rwa [hre] at h1)
  have HK := hid (fun (v u : World) (h : Sw w w2.heap.size y v) (hb : Below v.heap.size v u) => h.below hb)
  have HSh := hid (fun (v : World) (h : Sw w w2.heap.size y v) => HS.out.keep (h.bel.block 0 HS.out.pos0))
  have E0 := hid (show eqD r.l [2, 4] = true by rw [hrl]; rfl)
  have HBw := hid (fun (v : World) (h : Sw w w2.heap.size y v) => h.bel)
  unfold GH.a
  rw [hn3, hAS, hsn, hAP, hpn]
  rw [hn3, hAS, hsn, hAP, hpn] at HW
  clear hb ha hyok hyn hyS hyP hr hq HB1 HX HS1 HM1 HBd hrl hql hrm hqm hql2 hAS hAP hn3 hsn hpn hya hvy hre hn0 hval
  simp only
  obtain ⟨⟨⟨c0, c1, c2⟩, d0, d1⟩, g0, g1, g2⟩ := HF.out _ HW.out
  go_wp2_with fail
  clear c0 c1 c2 d0 d1 g0 g1 g2
  refine (refInts_any r ⟨some ⟨w2.heap.size + 1, 0, none⟩, 2, 2, [2, 4]⟩ [] [] _ (HR.out _ (HK.out _ _ HW.out ((Below.refl _ _).alloc (Nat.le_refl _) _))) (lit_row2 _ _ _ _ _ (by rw [World.size_alloc]) rfl rfl (by omega))).mono ?_
  rw [E0.out]
  rintro e w' ⟨rfl, q1, rfl⟩
  have HW1 := hid (HK.out _ _ (HK.out _ _ HW.out ((Below.refl _ _).alloc (Nat.le_refl _) (.cells (ints [2, 4]).toArray 3))) (below_drewN (Below.refl _ _) q1))
  clear HW
  generalize ((w2.alloc (.cells #[.slice y.A 11 y.c, .slice (some adS) 11 y.S.c, .slice (some adP) 11 y.P.c] 31)).alloc (.cells (ints [2, 4]).toArray 3)).drewN q1 = V1 at HW1 ⊢
  obtain ⟨⟨⟨c0, c1, c2⟩, d0, d1⟩, g0, g1, g2⟩ := HF.out _ HW1.out
  go_wp2_with fail
  clear c0 c1 c2 d0 d1 g0 g1 g2
  have hbl := (Below.refl V1.heap.size V1).alloc (Nat.le_refl _) (.cells (ints [0]).toArray 3)
  refine (HRe.out _ (HK.out _ _ HW1.out hbl) (some ⟨V1.heap.size, 0, none⟩) 1 1 (lit_row2 _ _ _ _ _ (by rfl) rfl rfl (by omega))).mono ?_
  rintro e V2 ⟨z, rfl, hzl, hzn, hzok, hb⟩
  have HW2 := hid (HK.out _ _ (HK.out _ _ HW1.out hbl) hb)
  have HZ := hid (fun (u : World) (h : Below V2.heap.size V2 u) => (hzok [] (by simp)).below h)
  have E2 := hid (show eqD z.l gxR = true by rw [hzl]; rfl)
  clear hbl hzl hzok hb HW1
  go_wp2_with fail
  refine (refInts_any z ⟨some ⟨V2.heap.size, 0, none⟩, 10, 10, gxR⟩ [] [] _ (HZ.out _ ((Below.refl _ _).alloc (Nat.le_refl _) _)) (lit_row2 _ _ _ _ _ (by rfl) rfl rfl (by omega))).mono ?_
  rw [E2.out]
  rintro e w' ⟨rfl, q3, rfl⟩
  have HW3 := hid (HK.out _ _ (HK.out _ _ HW2.out ((Below.refl _ _).alloc (Nat.le_refl _) (.cells (ints gxR).toArray 3))) (below_drewN (Below.refl _ _) q3))
  clear HW2
  generalize (V2.alloc (.cells (ints gxR).toArray 3)).drewN q3 = V3 at HW3 ⊢
  go_wp2_with fail
  refine (sane8_any _ (HSh.out _ HW3.out)).mono ?_
  rintro e w' ⟨rfl, hb⟩
  have HB := hid (below_step (HBw.out _ HW3.out) hb)
  go_wp2_with fail
  refine bodyPost_ret (v := .bool true) (by simp [results, Tryd.results3, go_sem]) rfl ?_
  exact ⟨rfl, HB.out⟩
end Go.Proofs.YtfapgnbnfhpicaaDoor

namespace Go.Proofs.YtfapgnbnfhpicaaDoor
set_option maxRecDepth 10000
open Go.ChangeShapes Go.WideShapes Go.ChangeAt Go.RowKit Go.Joins

theorem cells3 : Tryd.prog.cellsOf 3 = 1 := by kernel_rfl
theorem cell_in {w : World} {a : Addr} {v : Value} (h : w.cell? a = some v) : a.block < w.heap.size := by
  rcases Nat.lt_or_ge a.block w.heap.size with hlt | hge
  · exact hlt
  · unfold World.cell? at h; rw [Array.getElem?_eq_none hge] at h; cases h

theorem wf_u64 {z : Int} (h : (Lit.int .u64 z).wf = true) : 0 ≤ z ∧ z ≤ 18446744073709551615 := by
  have m0 : IntKind.u64.min = 0 := by decide
  have m1 : IntKind.u64.max = 18446744073709551615 := by decide
  simp [Lit.wf] at h
  omega
theorem open_list {H : Type} {enc : TypeId × Value → H} {W : World} {b0 base : Nat} {spare : Nat → Bool} {held : Bool} {v : Value} {d : DataW H} {p : List MemPlace}
    (hv : Value.okWide Tryd.prog W .any b0 35 v) (h : DataW.Trod enc Tryd.prog W base spare held 35 v d p) :
    ∃ (A : Option Addr) (n c : Nat) (l : List Int), v = .slice A n c ∧ IArg W A n l ∧ n ≤ maxLen := by
  obtain ⟨A, n, c, rfl⟩ := okWide_slice Tryd.underlying35 hv
  obtain ⟨fuel, hf⟩ := h
  rcases open_ints Tryd.underlying35 Tryd.underlying3 cells3 hf with ⟨hcs, _⟩ | ⟨x, l, c', zs, hcs, _, hl, hm, hz, _, hcell, hwz⟩
  · simp [Value.cells] at hcs
    obtain ⟨rfl, rfl, rfl⟩ := hcs
    exact ⟨none, 0, 0, [], rfl, ⟨.inl rfl, rfl⟩, by simp [maxLen]⟩
  · simp [Value.cells] at hcs
    obtain ⟨rfl, rfl, rfl⟩ := hcs
    have hle : n ≤ zs.length := by rw [hz]; split <;> omega
    refine ⟨some x, n, c, zs.take n, rfl, ⟨?_, by rw [List.length_take]; omega⟩, Nat.le_trans hl hm⟩
    by_cases h0 : n = 0
    · subst h0; exact .inl rfl
    · refine .inr ⟨x, rfl, ?_, fun j u hu => ?_⟩
      · have := cell_in (hcell 0 (by omega)); rwa [add_block] at this
      · unfold ints at hu
        rw [List.getElem?_map] at hu
        have hj : j < n := by
          rcases Nat.lt_or_ge j n with h | h
          · exact h
          · rw [List.getElem?_eq_none (by rw [List.length_take]; omega)] at hu; simp at hu
        rw [List.getElem?_take, if_pos hj, List.getElem?_eq_getElem (by omega)] at hu
        have := hcell j (by omega)
        rw [List.getD_eq_getElem?_getD, List.getElem?_eq_getElem (by omega)] at this
        rw [this]; simpa using hu

end Go.Proofs.YtfapgnbnfhpicaaDoor

namespace Go.Proofs.YtfapgnbnfhpicaaDoor
set_option maxRecDepth 100000
set_option linter.unusedVariables false
open Go.ChangeShapes Go.WideShapes Go.ChangeAt Go.RowKit

theorem own : ownKnob Tryd.prog.godebug = none := by kernel_rfl
theorem laidOut : laidOutB Tryd.prog = true := by kernel_rfl
theorem gShp : Tryd.prog.globalNamed "flowquery/syntax.shapes" = some 0 := by kernel_rfl
theorem gShpType : (Tryd.prog.globals[0]?).map (·.type) = some 144 := by kernel_rfl
theorem undArr : Tryd.prog.underlying 144 = some (.array 10 143) := by kernel_rfl
theorem undShape : ∃ fs : Array Field, Tryd.prog.underlying 143 = some (.struct fs) ∧ (fs.toList.map fun f => (f.type, f.offset)) = [(9, 0), (4, 1), (3, 2), (3, 3), (3, 4)] := by
  have h : (match Tryd.prog.underlying 143 with | some (.struct fs) => some (fs.toList.map fun f => (f.type, f.offset)) | _ => none) = some [(9, 0), (4, 1), (3, 2), (3, 3), (3, 4)] := by kernel_rfl
  split at h
  · next fs e => exact ⟨fs, e, Option.some.inj h⟩
  · cases h
theorem cArr : Tryd.prog.cellsOf 144 = 50 := by kernel_rfl
theorem cShape : Tryd.prog.cellsOf 143 = 5 := by kernel_rfl
theorem cStr : Tryd.prog.cellsOf 9 = 1 := by kernel_rfl
theorem cBool : Tryd.prog.cellsOf 4 = 1 := by kernel_rfl
theorem cInt : Tryd.prog.cellsOf 3 = 1 := by kernel_rfl
abbrev Sh := List UInt8 × Bool × Int × Int × Int
def dataSh (t : Sh) : DataW Unit := .agg [.lit (.string t.1), .lit (.bool t.2.1), .lit (.int .i64 t.2.2.1), .lit (.int .i64 t.2.2.2.1), .lit (.int .i64 t.2.2.2.2)]
def cellsSh (t : Sh) : List Value := [.string ⟨t.1.toArray⟩, .bool t.2.1, .int .i64 t.2.2.1, .int .i64 t.2.2.2.1, .int .i64 t.2.2.2.2]
def shpT : List Sh := [([], false, 0, 0, 0), ([], true, 0, 4, 0), ([117, 115, 101], false, 1, 4, 0), ([99, 97, 108, 108], false, 0, 0, 1), ([115, 111, 117, 114, 99, 101], true, 0, 0, 0), ([115, 105, 110, 107], false, 1, 1, 0), ([115, 97, 110, 105, 116, 105, 122, 101], true, 0, 0, 0), ([103, 111, 116, 111], false, 0, 0, 1), ([98, 114, 97, 110, 99, 104], false, 1, 1, 2), ([114, 101, 116, 117, 114, 110], false, 0, 0, 0)]
theorem shp_data : (Rows.laid_flowquery_syntax_shapes : DataW Unit) = .agg (shpT.map dataSh) := by kernel_rfl
theorem shp_cells : shpCells = shpT.flatMap cellsSh := by rfl
theorem one_of_drop {cs : List Value} {i : Nat} {v : Value} (h : (cs.drop i).take 1 = [v]) : cs[i]? = some v := by
  have := congrArg (·[0]?) h
  simpa [List.getElem?_take, List.getElem?_drop] using this
theorem shape_of {enc : TypeId × Value → Unit} {w : World} {base : Nat} {sp : Nat → Bool} {held : Bool} {fuel : Nat} {cs : List Value} {t : Sh} {p : List MemPlace}
    (h : DataW.trod enc Tryd.prog w base sp held fuel 143 cs = some (dataSh t, p)) : cs = cellsSh t := by
  obtain ⟨fs, hu, hfs⟩ := undShape
  obtain ⟨xs, n, -, hx, hl, hxl, hf⟩ := DataW.trod_struct hu h
  rw [cShape] at hl
  have hxs : xs.map (·.1) = [.lit (.string t.1), .lit (.bool t.2.1), .lit (.int .i64 t.2.2.1), .lit (.int .i64 t.2.2.2.1), .lit (.int .i64 t.2.2.2.2)] := by
    have := congrArg Prod.fst hx
    unfold dataSh at this
    simpa using this.symm
  have key : ∀ (i : Nat) (ty off : Nat), [((9 : Nat), 0), (4, 1), (3, 2), (3, 3), (3, 4)][i]? = some (ty, off) → Tryd.prog.cellsOf ty = 1 → ∀ d, (xs.map (·.1))[i]? = some d →
      ∃ q, DataW.trod enc Tryd.prog w base sp held n ty ((cs.drop off).take 1) = some (d, q) := by
    intro i ty off hi hc d hd
    have h1 := congrArg (·[i]?) hfs
    try simp only at h1
    rw [hi, List.getElem?_map] at h1
    obtain ⟨f, hf1, hf2⟩ := Option.map_eq_some_iff.1 h1
    injection hf2 with e1 e2
    have h2 := hf i f (by simpa using hf1)
    rw [e1, e2, hc] at h2
    rw [List.getElem?_map] at hd
    obtain ⟨x, hx1, hx2⟩ := Option.map_eq_some_iff.1 hd
    rw [hx1] at h2
    subst hx2
    exact ⟨x.2, h2⟩
  obtain ⟨q0, k0⟩ := key 0 9 0 rfl cStr _ (by rw [hxs]; rfl)
  obtain ⟨q1, k1⟩ := key 1 4 1 rfl cBool _ (by rw [hxs]; rfl)
  obtain ⟨q2, k2⟩ := key 2 3 2 rfl cInt _ (by rw [hxs]; rfl)
  obtain ⟨q3, k3⟩ := key 3 3 3 rfl cInt _ (by rw [hxs]; rfl)
  obtain ⟨q4, k4⟩ := key 4 3 4 rfl cInt _ (by rw [hxs]; rfl)
  obtain ⟨s, c0, d0, -⟩ := DataW.trod_string Tryd.underlying9 k0
  obtain ⟨bb, c1, d1⟩ := DataW.trod_bool Tryd.underlying4 k1
  obtain ⟨z2, c2, d2, -⟩ := DataW.trod_int Tryd.underlying3 k2
  obtain ⟨z3, c3, d3, -⟩ := DataW.trod_int Tryd.underlying3 k3
  obtain ⟨z4, c4, d4, -⟩ := DataW.trod_int Tryd.underlying3 k4
  have g0 := one_of_drop c0
  have g1 := one_of_drop c1
  have g2 := one_of_drop c2
  have g3 := one_of_drop c3
  have g4 := one_of_drop c4
  simp only [Prod.mk.injEq, DataW.lit.injEq, Lit.string.injEq, Lit.bool.injEq, Lit.int.injEq, true_and] at d0 d1 d2 d3 d4
  have es : s = ⟨t.1.toArray⟩ := ext_list (by simpa using d0.1.symm)
  have hc : cellsSh t = [.string s, .bool bb, .int .i64 z2, .int .i64 z3, .int .i64 z4] := by
    unfold cellsSh
    rw [es, d1.1, d2.1, d3.1, d4.1]
  rw [hc]
  apply List.ext_getElem?
  intro i
  match i with
  | 0 => exact g0
  | 1 => exact g1
  | 2 => exact g2
  | 3 => exact g3
  | 4 => exact g4
  | i + 5 => rw [List.getElem?_eq_none (by omega), List.getElem?_eq_none (by simp)]
theorem cells_of_shp {enc : TypeId × Value → Unit} {w : World} {base : Nat} {sp : Nat → Bool} {held : Bool} {fuel : Nat} {cs : List Value} {p : List MemPlace}
    (h : DataW.trod enc Tryd.prog w base sp held fuel 144 cs = some (.agg (shpT.map dataSh), p)) : cs = shpT.flatMap cellsSh := by
  cases fuel with
  | zero => simp [DataW.trod] at h
  | succ fuel =>
    unfold DataW.trod at h
    rw [undArr] at h
    try simp only at h
    rw [cShape, cArr] at h
    split at h
    · rename_i hl
      obtain ⟨xs, hm, hx⟩ := Option.map_eq_some_iff.1 h
      have hxs : xs.map (·.1) = shpT.map dataSh := by
        have := congrArg Prod.fst hx
        simpa using this
      have hlen : (shpT.flatMap cellsSh).length = 50 := by rw [flat_len (k := 5) (fun _ => rfl)]; rfl
      apply List.ext_getElem?
      intro j
      by_cases hj : j < 50
      · have hi : j / 5 < 10 := by omega
        obtain ⟨b, hb, hf⟩ := Lib.mapM_at hm (j / 5) (j / 5) (by simp [hi])
        have h1 := congrArg (·[j / 5]?) hxs
        simp only [List.getElem?_map, hb, Option.map_some] at h1
        have hti : shpT[j / 5]? = some (shpT[j / 5]'(by show j / 5 < 10; exact hi)) := List.getElem?_eq_getElem _
        rw [hti] at h1
        simp only [Option.map_some, Option.some.injEq] at h1
        obtain ⟨b1, b2⟩ := b
        try simp only at h1
        subst h1
        have hc := shape_of hf
        have hr : j % 5 < 5 := Nat.mod_lt _ (by omega)
        have h2 : (cellsSh (shpT[j / 5]'(by show j / 5 < 10; exact hi)))[j % 5]? = cs[j]? := by
          rw [← hc, List.getElem?_take, List.getElem?_drop, if_pos hr]
          congr 1
          omega
        cases h3 : cs[j]? with
        | none =>
          rw [List.getElem?_eq_none_iff] at h3
          omega
        | some u =>
          rw [h3] at h2
          have := flat_get (f := cellsSh) (k := 5) (fun _ => rfl) shpT hti h2
          rw [show j / 5 * 5 + j % 5 = j by omega] at this
          exact this.symm
      · rw [List.getElem?_eq_none (by omega), List.getElem?_eq_none (by omega)]
    · cases h

theorem wf_u8 {z : Int} (h : (Lit.int .u8 z).wf = true) : 0 ≤ z ∧ z < 256 := by
  have m0 : IntKind.u8.min = 0 := by decide
  have m1 : IntKind.u8.max = 255 := by decide
  simp [Lit.wf] at h
  omega
/-- The rows' list. -/
def listS1 : List (String × DataW Unit) := Rows.graphExamplesRow.laid
theorem shp_of {W : World} {n1 : String} {d1 : DataW Unit} {rest : List (String × DataW Unit)} (h : laidMet Tryd.prog ((n1, d1) :: rest) W) (hn : n1 = "flowquery/syntax.shapes") (hd : d1 = .agg (shpT.map dataSh)) : Shp W := by
  subst hn; subst hd
  obtain ⟨ps, ⟨g0, t0, cs0, f0, p0, q0, hg0, ht0, hv0, hd0, _, _⟩, _, _⟩ := h
  obtain rfl := Option.some.inj (gShp.symm.trans hg0)
  obtain rfl := Option.some.inj (gShpType.symm.trans ht0)
  have hc := cells_of_shp hd0
  intro j u hu
  rw [shp_cells, ← hc] at hu
  have := World.var?_cell gShp hv0 j
  rw [this]
  simpa using hu
theorem shp1 {W : World} (h : laidMetH Tryd.prog listS1 W) : Shp W := shp_of h rfl shp_data

/-- The heap that the program's own start leaves. -/
noncomputable def door (os : Os) : World := World.doorLaid Tryd.prog 400 os
theorem door_met (os : Os) (args : Array Value) : laidMet Tryd.prog listS1 ((door os).forCall (fun _ _ => 0) ⟨#[], args, []⟩).memory :=
  laidMet_of_run' 8 (by kernel_rfl) (by kernel_rfl)
theorem door_vars (os : Os) (args : Array Value) : ((door os).forCall (fun _ _ => 0) ⟨#[], args, []⟩).variablesRefB Tryd.prog = true := by kernel_rfl
theorem door_rest (os : Os) (args : Array Value) : (((door os).forCall (fun _ _ => 0) ⟨#[], args, []⟩).heap.toList.drop Tryd.prog.globals.size).take ((begin Tryd.prog (fun _ _ => 0) default).world.heap.size - Tryd.prog.globals.size) =
    (begin Tryd.prog (fun _ _ => 0) default).world.heap.toList.drop Tryd.prog.globals.size := by kernel_rfl
end Go.Proofs.YtfapgnbnfhpicaaDoor

namespace Go.Proofs.YtfapgnbnfhpicaaDoor.graphExamples
set_option maxRecDepth 100000
open Go.ChangeShapes Go.WideShapes Go.ChangeAt Go.RowKit
open Go.ChangeMaps (open_string)
set_option linter.unusedVariables false

theorem reads (os : Os) {H : Type} (enc : TypeId × Value → H) : ∃ places, DataW.whole enc Tryd.prog ((door os).forCall (fun _ _ => 0) ⟨#[], #[], []⟩).memory Tryd.f3.params.toList Rows.graphExamplesSpec.vars false (#[] : Array Value).toList 8 = some ([], [], places) :=
  ⟨[], by kernel_rfl⟩

theorem lifted (os : Os) (started : os.Started) (H : Type) (enc : TypeId × Value → H) (F : Stop.Interp) :
    ReturnsInHanded {} Tryd.checked os 3 .any ((OpenSpec.ofChange Rows.graphExamplesSpec).preRow enc Tryd.prog Tryd.f3 Rows.graphExamplesRow.domain false Rows.graphExamplesRow.laid) (((OpenSpec.ofChange Rows.graphExamplesSpec).at F).post enc Tryd.prog Tryd.f3 false true false false) := by
  obtain ⟨places, hx⟩ := reads os enc
  refine returnsInHanded_of_row (C := Tryd.checked) (s := OpenSpec.ofChange Rows.graphExamplesSpec) own started (by kernel_rfl) Tryd.func3
    (witness_row_atRef (enc := enc) (C := Tryd.checked) false (door os) #[] rfl (door_vars os _) (door_rest os _) (by kernel_rfl)
      (OpenSpec.preRow_of_cond 8 hx (by kernel_rfl) (fun k hk => by cases hk) (by kernel_rfl) (door_met os _))) ?_
  intro W base args ds gs before hval0 hW _ _ _ hL hsh _
  have hval : ∀ (j : Nat) t v, Tryd.f3.params[j]? = some t → args[j]? = some v → Value.okWide Tryd.prog W .any base t v := hval0
  have hW' := hW
  obtain ⟨p, q, hA0, hV, rfl, hfz, hnd⟩ := hW
  have hA : DataW.TrodAll enc Tryd.prog W 0 (fun _ => true) true Tryd.f3.params.toList args.toList ds p := hA0
  rw [Tryd.params3] at hA hval
  obtain ⟨hargs, rfl, rfl⟩ := trodAll_nil hA
  obtain rfl : args = #[] := by cases args; simp_all
  obtain ⟨rfl, rfl⟩ := trodVars_none hV
  clear hA0 hval0
  refine (lawGxl W (shp1 hL)).mono fun e W' ⟨he, bel⟩ => ?_
  subst he
  exact ⟨_, rfl, _, _, _, [], _, [], hW', trodAll_mk1 (shut_bool Tryd.underlying4 _), trodAll_mk0, rfl, bel.frame _, fun h => by cases h⟩

theorem said : Rows.GraphExamplesSaid :=
  OpenClaim.holds_of_cond 3 Tryd.f3 rfl rfl rfl rfl rfl rfl rfl ⟨rfl, rfl, rfl, rfl, rfl⟩ rfl rfl rfl rfl rfl (by kernel_rfl) Tryd.func3 (by kernel_rfl)
    (of_decide_eq_true (by kernel_rfl)) (by unfold Func.isWrapper; first | (rw [if_pos (by decide +kernel)]; kernel_rfl) | (rw [if_neg (by decide +kernel)]; exact ⟨rfl, rfl⟩))
    (fun os started H enc _ F => by rw [OpenClaim.pre_eq_preRow]; exact lifted os started H enc F)

theorem plain (f : FuncId) (fn : Func) (hf : Tryd.pinned.checked.prog.funcNamed "flowquery/flqlaw8.GraphExamples" = some f) (hfn : Tryd.pinned.checked.prog.funcs[f]? = some fn) :
    false = Tryd.pinned.checked.prog.looks [] ∧ ∀ (j : Nat) t, fn.params[j]? = some t → Tryd.pinned.checked.prog.wantsStandIn t = false := by
  obtain rfl : f = 3 := Option.some.inj ((show Tryd.prog.funcNamed "flowquery/flqlaw8.GraphExamples" = some 3 by kernel_rfl).symm.trans hf) |>.symm
  obtain rfl : fn = Tryd.f3 := (Option.some.inj (Tryd.func3.symm.trans hfn)).symm
  refine ⟨by kernel_rfl, fun j t ht => ?_⟩
  rw [Tryd.params3] at ht
  have hm : t ∈ ([] : List TypeId) := by simpa using Array.mem_of_getElem? ht
  have hall : (([] : List TypeId).all fun u => !Tryd.prog.wantsStandIn u) = true := by kernel_rfl
  exact (show Tryd.prog.wantsStandIn t = false by simpa using List.all_eq_true.1 hall t hm)

theorem proved : Rows.GraphExamplesCardSaid :=
  Claim7.holds_tied_plain_at .later [] _ _ _ _ said (fun _ h => by cases h) (by kernel_rfl) (fun _ h => by cases h) graphExamples_row_tie rfl ⟨rfl, rfl⟩ (by kernel_rfl) rfl plain (by kernel_rfl)
#print axioms proved
end Go.Proofs.YtfapgnbnfhpicaaDoor.graphExamples
