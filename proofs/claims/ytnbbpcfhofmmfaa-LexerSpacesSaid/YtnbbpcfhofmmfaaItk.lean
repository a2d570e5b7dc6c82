/- Tokens without their positions, over items; texts made anew from tokens. Plain mathematics. -/
import Derived.Test.YtnbbpcfhofmmfaaItp
namespace Go.Proofs.Ytnbbpcfhofmmfaa
set_option maxRecDepth 20000
set_option linter.unusedVariables false
set_option linter.unusedSimpArgs false
open Go.ChangeShapes Go.WideShapes Go.ChangeAt Go.RowKit

abbrev KV := List (Int × ByteArray)
def kv (l : List Tok) : KV := l.map fun t => (t.kind, t.text)
def opk (K : KV) : Bool := match K.getLast? with | none => false | some p => p.1 != 3
theorem opn_kv (l : List Tok) : opn l = opk (kv l) := by
  unfold opn opk kv
  rw [List.getLast?_map]
  cases l.getLast? <;> rfl
def endK (K : KV) : KV := if opk K then K ++ [(3, ByteArray.empty)] else K
theorem kv_endT (line col : Nat) (l : List Tok) : kv (endT line col l) = endK (kv l) := by
  unfold endT endK
  rw [opn_kv]
  split <;> simp [kv]
theorem opk_snoc (K : KV) (p : Int × ByteArray) : opk (K ++ [p]) = (p.1 != 3) := by unfold opk; rw [List.getLast?_concat]
theorem opk_endK (K : KV) : opk (endK K) = false := by
  unfold endK
  split
  · rw [opk_snoc]; rfl
  · next h => simpa using h
theorem endK_no {K : KV} (h : opk K = false) : endK K = K := by unfold endK; rw [if_neg (by simp [h])]
theorem endK_yes {K : KV} (h : opk K = true) : endK K = K ++ [(3, ByteArray.empty)] := by unfold endK; rw [if_pos h]
def kI : Itm → KV → KV
  | .sp _, K => K
  | .wd w, K => K ++ [(1, w)]
  | .eq, K => K ++ [(2, ⟨#[61]⟩)]
  | .nl, K => endK K
  | .sm, K => endK K
  | .cm _, K => endK K
theorem kv_stI (a : Itm) (line col : Nat) (l : List Tok) : kv (stI a (line, col, l)).2.2 = kI a (kv l) := by
  cases a with
  | sp c => rfl
  | wd w => simp [stI, kI, kv]
  | eq => simp [stI, kI, kv]
  | nl => exact kv_endT _ _ _
  | sm => exact kv_endT _ _ _
  | cm w => exact kv_endT _ _ _
def kF (its : List Itm) (K : KV) : KV := its.foldl (fun K i => kI i K) K
theorem kF_app (a b : List Itm) (K : KV) : kF (a ++ b) K = kF b (kF a K) := by unfold kF; rw [List.foldl_append]
theorem kv_folI (its : List Itm) : ∀ s : St, kv (folI its s).2.2 = kF its (kv s.2.2) := by
  induction its with
  | nil => intro s; rfl
  | cons a its ih =>
    intro s
    obtain ⟨line, col, l⟩ := s
    show kv (folI its (stI a (line, col, l))).2.2 = kF its (kI a (kv l))
    rw [ih, kv_stI]
theorem kI_len (a : Itm) (K : KV) : K.length ≤ (kI a K).length := by
  have he : K.length ≤ (endK K).length := by unfold endK; split <;> simp
  cases a <;> simp [kI, he]
theorem kF_len (its : List Itm) : ∀ K : KV, K.length ≤ (kF its K).length := by
  induction its with
  | nil => intro K; exact Nat.le_refl _
  | cons a its ih => intro K; exact Nat.le_trans (kI_len a K) (ih _)

/-- Tokens as a scan gives them. -/
def GoodP (K : KV) (p : Int × ByteArray) : Prop := (p.1 = 1 ∧ WdOk p.2) ∨ (p.1 = 2 ∧ p.2 = ⟨#[61]⟩) ∨ (p.1 = 3 ∧ p.2 = ByteArray.empty ∧ opk K = true)
def GoodK (K : KV) : Prop := ∀ (i : Nat) (p : Int × ByteArray), K[i]? = some p → GoodP (K.take i) p
theorem good_snoc {K : KV} {p : Int × ByteArray} (h : GoodK K) (hp : GoodP K p) : GoodK (K ++ [p]) := by
  intro i q hq
  rcases Nat.lt_or_ge i K.length with hi | hi
  · rw [List.getElem?_append_left hi] at hq
    rw [List.take_append_of_le_length (by omega)]
    exact h i q hq
  · rw [List.getElem?_append_right hi] at hq
    have e : i - K.length = 0 := by
      rcases Nat.eq_zero_or_pos (i - K.length) with h0 | h0
      · exact h0
      · rw [List.getElem?_eq_none (by simp; omega)] at hq; cases hq
    rw [e] at hq
    simp at hq
    subst hq
    obtain rfl : i = K.length := by omega
    rw [List.take_left]
    exact hp
theorem good_end {K : KV} (h : GoodK K) : GoodK (endK K) := by
  unfold endK
  split
  · next ho => exact good_snoc h (.inr (.inr ⟨rfl, rfl, ho⟩))
  · exact h
theorem good_kI {a : Itm} {K : KV} (ha : ItOk a) (h : GoodK K) : GoodK (kI a K) := by
  cases a with
  | sp c => exact h
  | wd w => exact good_snoc h (.inl ⟨rfl, ha⟩)
  | eq => exact good_snoc h (.inr (.inl ⟨rfl, rfl⟩))
  | nl => exact good_end h
  | sm => exact good_end h
  | cm w => exact good_end h
theorem good_kF {its : List Itm} : ∀ {K : KV}, Oks its → GoodK K → GoodK (kF its K) := by
  induction its with
  | nil => intro K _ h; exact h
  | cons a its ih => intro K h hK; exact ih h.2.2 (good_kI h.1 hK)

/-! ### How long the text is that is made anew -/
def wK (p : Int × ByteArray) : Nat := 2 + p.2.data.toList.length + (if p.1 = 3 then 20 else 0)
def WK (K : KV) : Nat := (K.map wK).sum
def wI : Itm → Nat
  | .sp _ => 0
  | .wd w => w.data.toList.length + 2
  | .eq => 3
  | _ => 22
theorem WK_snoc (K : KV) (p : Int × ByteArray) : WK (K ++ [p]) = WK K + wK p := by simp [WK]
theorem WK_end (K : KV) : WK (endK K) ≤ WK K + 22 := by
  unfold endK
  split
  · rw [WK_snoc]; exact Nat.le_refl _
  · omega
theorem WK_kI (a : Itm) (K : KV) : WK (kI a K) ≤ WK K + wI a := by
  cases a with
  | sp c => exact Nat.le_refl _
  | wd w => show WK (K ++ [(1, w)]) ≤ _; rw [WK_snoc]; simp [wK, wI]; omega
  | eq => show WK (K ++ [(2, ⟨#[61]⟩)]) ≤ _; rw [WK_snoc]; exact Nat.le_refl _
  | nl => exact WK_end K
  | sm => exact WK_end K
  | cm w => exact WK_end K
def wS (its : List Itm) : Nat := (its.map wI).sum
theorem WK_kF (its : List Itm) : ∀ K : KV, WK (kF its K) ≤ WK K + wS its := by
  induction its with
  | nil => intro K; exact Nat.le_refl _
  | cons a its ih =>
    intro K
    have h1 := ih (kI a K)
    have h2 := WK_kI a K
    show WK (kF its (kI a K)) ≤ _
    have : wS (a :: its) = wI a + wS its := by simp [wS]
    omega
theorem WK_take (K : KV) (i : Nat) : WK (K.take i) ≤ WK K := by
  have h : WK (K.take i ++ K.drop i) = WK (K.take i) + WK (K.drop i) := by unfold WK; rw [List.map_append, List.sum_append]
  rw [List.take_append_drop] at h
  omega
theorem wS_app (a b : List Itm) : wS (a ++ b) = wS a + wS b := by simp [wS]
theorem wS_flat {α : Type} (f : α → List Itm) (l : List α) (k m : Nat) (hl : l.length ≤ k) (h : ∀ x ∈ l, wS (f x) ≤ m) : wS (l.flatMap f) ≤ k * m := by
  have : wS (l.flatMap f) ≤ l.length * m := by
    induction l with
    | nil => simp [wS]
    | cons x l ih =>
      have h1 := ih (by simp at hl; omega) fun z hz => h z (by simp [hz])
      have h2 := h x (by simp)
      rw [List.flatMap_cons, wS_app, List.length_cons, Nat.succ_mul]; omega
  exact Nat.le_trans this (Nat.mul_le_mul_right _ hl)
theorem wS_words {us : List ByteArray} {k : Nat} (hl : us.length ≤ k) (h : ∀ x ∈ us, x.size ≤ 1) : wS (wordsI us) ≤ k * 3 := by
  refine wS_flat _ us k 3 hl fun x hx => ?_
  have h1 := h x hx
  have h2 := len_list x
  simp [wS, wI]; omega
theorem stm_40 {t : Stm} (hd : t.d.size ≤ 1) (hu : t.us.length ≤ 3) (hus : ∀ x ∈ t.us, x.size ≤ 1) (ht : t.ts.length ≤ 2) (hts : ∀ x ∈ t.ts, x.size ≤ 1) : wS (stmI t ++ [.nl]) ≤ 47 := by
  have h1 := wS_words hu hus
  have h2 := wS_words ht hts
  have h3 := len_list t.d
  rw [wS_app]
  have h4 : wS [Itm.nl] = 22 := rfl
  unfold stmI
  repeat' split
  all_goals (try rw [wS_app])
  all_goals (try rw [wS_app])
  all_goals (simp only [wS, wI, List.map_cons, List.map_nil, List.sum_cons, List.sum_nil, useW, callW, sourceW, sinkW, sanitizeW, gotoW, branchW, returnW] at *)
  all_goals (simp at *)
  all_goals omega
theorem genS_40 {k : Nat} {t : Stm} (h : genS k t) : wS (stmI t ++ [.nl]) ≤ 47 := by
  obtain ⟨op, d, us, ts⟩ := t
  unfold genS at h
  simp only at h
  rcases h with ⟨rfl, rfl, ⟨h1, h2, h3⟩, rfl⟩ | ⟨h0, hd, rfl, rfl⟩ | ⟨rfl, rfl, ⟨x, hx, rfl⟩, rfl⟩ | ⟨rfl, rfl, rfl, i, x, hi, hx, rfl⟩ | ⟨rfl, hd, ⟨h1, h2⟩, rfl⟩
  · exact stm_40 (Nat.zero_le _) (by show us.length ≤ 3; omega) (fun x hx => varsL_small x (h3 x hx)) (by simp) (by simp)
  · exact stm_40 (varsL_small d hd) (by simp) (by simp) (by simp) (by simp)
  · exact stm_40 (Nat.zero_le _) (by simp) (by intro y hy; simp at hy; subst hy; exact varsL_small y hx) (by simp) (by simp)
  · exact stm_40 (Nat.zero_le _) (by simp) (by simp) (by simp) (by intro y hy; simp at hy; subst hy; exact fnsL_small y (List.mem_of_getElem? hx))
  · exact stm_40 (varsL_small d hd) (by show us.length ≤ 3; omega) (fun x hx => varsL_small x (h2 x hx)) (by simp) (by simp)
theorem termS_40 {n : Nat} {t : Stm} (h : termS n t) : wS (stmI t ++ [.nl]) ≤ 47 := by
  obtain ⟨op, d, us, ts⟩ := t
  unfold termS at h
  simp only at h
  rcases h with ⟨rfl, rfl, rfl, rfl⟩ | ⟨rfl, rfl, rfl, i, hi, rfl⟩ | ⟨rfl, rfl, ⟨x, hx, rfl⟩, i, j, hi, hj, rfl⟩
  · exact stm_40 (Nat.zero_le _) (by simp) (by simp) (by simp) (by simp)
  · exact stm_40 (Nat.zero_le _) (by simp) (by simp) (by simp) (by intro y hy; simp at hy; subst hy; exact f2_small _)
  · exact stm_40 (Nat.zero_le _) (by simp) (by intro y hy; simp at hy; subst hy; exact varsL_small y hx) (by simp) (by intro y hy; simp at hy; rcases hy with rfl | rfl <;> exact f2_small _)
theorem blk_190 {N M : Nat} {b : Blk} {j : Nat} (hnm : blsL[j]? = some b.name) (h : genB N M b) : wS (blkI b) ≤ 220 := by
  obtain ⟨body, t, hb, hl, h1, h2⟩ := h
  have hn := blsL_small _ (List.mem_of_getElem? hnm)
  have hs := len_list b.name
  unfold blkI
  rw [hb, wS_app]
  have h3 := wS_flat (fun t => stmI t ++ [.nl]) (body ++ [t]) 4 47 (by simp; omega) (fun x hx => by
    rcases List.mem_append.1 hx with hx | hx
    · exact genS_40 (h1 x hx)
    · simp at hx; subst hx; exact termS_40 h2)
  have h4 : wS [Itm.wd blockK, .sp 32, .wd b.name, .nl] ≤ 32 := by
    simp only [wS, wI, List.map_cons, List.map_nil, List.sum_cons, List.sum_nil, blockK]
    simp only [List.length_cons, List.length_nil]
    omega
  omega
theorem fnc_624 {N : Nat} {f : FH} {i : Nat} (hnm : fnsL[i]? = some f.name) (h : genF N f) : wS (fncI f.f) ≤ 718 := by
  obtain ⟨h1, h2, h3⟩ := h
  have hn := fnsL_small _ (List.mem_of_getElem? hnm)
  have hs := len_list f.name
  unfold fncI
  rw [wS_app, wS_app]
  have h4 := wS_flat blkI f.f.bs 3 220 (by simpa [FH.f] using h2) (fun b hb => by
    obtain ⟨y, hy, rfl⟩ := List.mem_map.1 hb
    obtain ⟨j, hj, he⟩ := List.getElem_of_mem hy
    obtain ⟨g1, g2⟩ := h3 j y (by rw [List.getElem?_eq_getElem hj, he])
    exact blk_190 g1 g2)
  have h5 : wS [Itm.wd funcK, .sp 32, .wd f.f.name, .nl] ≤ 31 := by
    simp only [wS, wI, List.map_cons, List.map_nil, List.sum_cons, List.sum_nil, funcK]
    simp only [List.length_cons, List.length_nil]
    show 4 + 2 + (0 + (f.name.data.toList.length + 2 + (22 + 0))) ≤ 31
    omega
  have h6 : wS [Itm.wd endW, .nl] = 27 := by decide
  omega
theorem prg_1872 {ls : List FH} (h : genP ls) : wS (prgI (ls.map FH.f)) ≤ 2154 := by
  obtain ⟨h1, h2, h3⟩ := h
  exact wS_flat fncI (ls.map FH.f) 3 718 (by simpa using h2) (fun b hb => by
    obtain ⟨y, hy, rfl⟩ := List.mem_map.1 hb
    obtain ⟨j, hj, he⟩ := List.getElem_of_mem hy
    obtain ⟨g1, g2⟩ := h3 j y (by rw [List.getElem?_eq_getElem hj, he])
    exact fnc_624 g1 g2)

/-- The tokens of a generated program's text. -/
theorem print_scan {ls : List FH} (h : genP ls) : ∃ L : List Tok, scanR (printP (ls.map FH.f)) = (L, 0, 0, 0) ∧ GoodK (kv L) ∧ opk (kv L) = false ∧ 0 < L.length ∧ WK (kv L) ≤ 2200 := by
  have hp : printP (ls.map FH.f) = ⟨(txt (prgI (ls.map FH.f))).toArray⟩ := by
    apply ext_list
    have : printP (ls.map FH.f) = printL (linesP (ls.map FH.f)) := by unfold printP; rw [genP_ok h]; rfl
    rw [this, prg_list]
  have hsz := (print_small h).2
  have hok := prg_oks (genP_ok h)
  have hlen : (txt (prgI (ls.map FH.f))).length ≤ 4096 := by
    have h2 := genP_20 h
    have H : (printL (linesP (ls.map FH.f))).data.toList.length ≤ (linesP (ls.map FH.f)).length * 21 := by
      rw [print_list]
      generalize linesP (ls.map FH.f) = L at h2
      have h3 := h2.2
      clear h2
      induction L with
      | nil => simp
      | cons x L ih =>
        have e1 := ih fun y hy => h3 y (by simp [hy])
        have e2 := h3 x (by simp)
        have e3 := len_list x
        rw [List.flatMap_cons, List.length_append, List.length_cons, Nat.succ_mul, List.length_append, List.length_singleton]; omega
    rw [prg_list] at H
    have := h2.1
    omega
  refine ⟨_, by rw [hp]; exact scanR_items hok hlen, ?_, ?_, ?_, ?_⟩
  · rw [kv_endT, kv_folI]
    exact good_end (good_kF hok (fun i p hq => by simp [kv] at hq))
  · rw [kv_endT]; exact opk_endK _
  · obtain ⟨h1, _, _⟩ := h
    have : 0 < (kv (endT (folI (prgI (ls.map FH.f)) (1, 1, [])).1 (folI (prgI (ls.map FH.f)) (1, 1, [])).2.1 (folI (prgI (ls.map FH.f)) (1, 1, [])).2.2)).length := by
      rw [kv_endT, kv_folI]
      have e : (endK (kF (prgI (ls.map FH.f)) (kv []))).length ≥ (kF (prgI (ls.map FH.f)) (kv [])).length := by unfold endK; split <;> simp
      cases ls with
      | nil => simp at h1
      | cons f ls =>
        have e2 : ∃ r, prgI ((f :: ls).map FH.f) = .wd funcK :: r := ⟨_, rfl⟩
        obtain ⟨r, hr⟩ := e2
        rw [hr] at e ⊢
        have e3 := kF_len r (kI (.wd funcK) (kv []))
        have e4 : (kI (.wd funcK) (kv [])).length = 1 := rfl
        have e5 : kF (.wd funcK :: r) (kv []) = kF r (kI (.wd funcK) (kv [])) := rfl
        rw [e5] at e ⊢
        omega
    simpa [kv] using this
  · rw [kv_endT, kv_folI]
    have e1 := WK_end (kF (prgI (ls.map FH.f)) (kv []))
    have e2 := WK_kF (prgI (ls.map FH.f)) (kv [])
    have e3 := prg_1872 h
    have e4 : WK (kv []) = 0 := rfl
    show WK (endK (kF (prgI (ls.map FH.f)) (kv []))) ≤ 2200
    omega

/-! ### The text made anew -/
def spI (r : Nat) : List Itm := if r = 0 then [.sp 32] else if r = 1 then [.sp 9, .sp 32] else [.sp 32, .sp 32]
def cmW : ByteArray := ⟨#[32, 99, 111, 109, 109, 101, 110, 116, 32, 59, 32, 120, 32, 61, 32, 121]⟩
def seI (q : Nat) : List Itm := if q = 0 then [.nl] else if q = 1 then [.sm] else if q = 2 then [.sp 32, .cm cmW, .nl] else if q = 3 then [.sm, .sm, .nl, .nl] else [.nl, .sm, .cm ⟨#[]⟩, .nl]
/-- The text after i tokens. -/
def Spc (K : KV) (x : ByteArray) : Prop :=
  ∃ its : List Itm, x.data.toList = txt its ∧ Oks its ∧ (∀ y, its.getLast? = some y → ∀ w, y ≠ .cm w) ∧ kF its [] = K ∧ x.size ≤ WK K
theorem spc_nil : Spc [] ⟨#[]⟩ := ⟨[], rfl, trivial, by simp, rfl, Nat.zero_le _⟩
theorem fol_sp {y : Itm} (h : ∀ w, y ≠ .cm w) (c : UInt8) (r : List Itm) : Fol y (.sp c :: r) := by
  cases y with
  | cm w => exact absurd rfl (h w)
  | _ => trivial
theorem spI_ok (r : Nat) : Oks (spI r) ∧ (∃ c t, spI r = .sp c :: t) ∧ (∃ c, (spI r).getLast? = some (.sp c)) ∧ (∀ K, kF (spI r) K = K) ∧ (txt (spI r)).length ≤ 2 := by
  unfold spI
  split
  · exact ⟨⟨.inl rfl, trivial, trivial⟩, ⟨_, _, rfl⟩, ⟨_, rfl⟩, fun K => rfl, by decide⟩
  split
  · exact ⟨⟨.inr rfl, trivial, .inl rfl, trivial, trivial⟩, ⟨_, _, rfl⟩, ⟨_, rfl⟩, fun K => rfl, by decide⟩
  · exact ⟨⟨.inl rfl, trivial, .inl rfl, trivial, trivial⟩, ⟨_, _, rfl⟩, ⟨_, rfl⟩, fun K => rfl, by decide⟩
theorem seI_ok (q : Nat) : Oks (seI q) ∧ (∀ y, (seI q).getLast? = some y → ∀ w, y ≠ .cm w) ∧ (∀ K, opk K = true → kF (seI q) K = K ++ [(3, ByteArray.empty)]) ∧ (txt (seI q)).length ≤ 20 := by
  have h2 : ∀ K, opk (endK K) = false := opk_endK
  have e2 : ∀ K, endK (endK K) = endK K := fun K => endK_no (h2 K)
  unfold seI
  split
  · exact ⟨⟨trivial, trivial, trivial⟩, by simp, fun K h => endK_yes h, by decide⟩
  split
  · exact ⟨⟨trivial, trivial, trivial⟩, by simp, fun K h => endK_yes h, by decide⟩
  split
  · refine ⟨⟨.inl rfl, trivial, by show ∀ c ∈ cmW.data.toList, c ≠ 10; decide, trivial, trivial, trivial, trivial⟩, by simp, fun K h => ?_, by decide⟩
    show endK (endK K) = _
    rw [e2, endK_yes h]
  split
  · refine ⟨⟨trivial, trivial, trivial, trivial, trivial, trivial, trivial, trivial, trivial⟩, by simp, fun K h => ?_, by decide⟩
    show endK (endK (endK (endK K))) = _
    rw [e2, e2, e2, endK_yes h]
  · refine ⟨⟨trivial, trivial, trivial, trivial, by show ∀ c ∈ (⟨#[]⟩ : ByteArray).data.toList, c ≠ 10; decide, trivial, trivial, trivial, trivial⟩, by simp, fun K h => ?_, by decide⟩
    show endK (endK (endK (endK K))) = _
    rw [e2, e2, e2, endK_yes h]
theorem seI_ne (q : Nat) : seI q ≠ [] := by
  unfold seI
  split
  · simp
  split
  · simp
  split
  · simp
  split <;> simp
/-- A token that ends no line. -/
theorem spc_word {K : KV} {p : Int × ByteArray} {x z : ByteArray} {r : Nat} (h : Spc K x) (hp : GoodP K p) (h3 : p.1 ≠ 3) (hz : z.data.toList = txt (spI r)) : Spc (K ++ [p]) (x ++ (z ++ p.2)) := by
  obtain ⟨its, h1, h2, h4, h5, h6⟩ := h
  obtain ⟨s1, ⟨c, t, s2⟩, ⟨c2, s3⟩, s4, s5⟩ := spI_ok r
  have hzl := len_list z
  have hpl := len_list p.2
  rw [hz] at hzl
  have hsize : (x ++ (z ++ p.2)).size ≤ WK (K ++ [p]) := by
    rw [WK_snoc, ByteArray.size_append, ByteArray.size_append]
    unfold wK; omega
  have ho : ∀ a : Itm, ItOk a → Oks (its ++ (spI r ++ [a])) := fun a ha =>
    oks_app h2 (oks_app s1 ⟨ha, by cases a <;> trivial, trivial⟩ (fun y hy => by rw [s3] at hy; cases hy; trivial)) (fun y hy => by rw [s2]; exact fol_sp (h4 y hy) _ _)
  rcases hp with ⟨e1, e2⟩ | ⟨e1, e2⟩ | ⟨e1, _⟩
  · obtain ⟨k, w⟩ := p
    simp only at e1 e2
    subst e1
    refine ⟨its ++ (spI r ++ [.wd w]), ?_, ho (.wd w) e2, by simp, ?_, hsize⟩
    · rw [cat_list, cat_list, h1, hz, txt_app, txt_app]; simp [txt, ren]
    · rw [kF_app, kF_app, h5, s4]; rfl
  · obtain ⟨k, w⟩ := p
    simp only at e1 e2
    subst e1; subst e2
    refine ⟨its ++ (spI r ++ [.eq]), ?_, ho .eq trivial, by simp, ?_, hsize⟩
    · rw [cat_list, cat_list, h1, hz, txt_app, txt_app]; simp [txt, ren]
    · rw [kF_app, kF_app, h5, s4]; rfl
  · exact absurd e1 h3
/-- A token that ends a line. -/
theorem spc_end {K : KV} {p : Int × ByteArray} {x z y : ByteArray} {r q : Nat} (h : Spc K x) (hp : GoodP K p) (h3 : p.1 = 3) (hz : z.data.toList = txt (spI r)) (hy : y.data.toList = txt (seI q)) : Spc (K ++ [p]) ((x ++ (z ++ p.2)) ++ y) := by
  obtain ⟨its, h1, h2, h4, h5, h6⟩ := h
  obtain ⟨s1, ⟨c, t, s2⟩, ⟨c2, s3⟩, s4, s5⟩ := spI_ok r
  obtain ⟨q1, q2, q3, q4⟩ := seI_ok q
  have hzl := len_list z
  have hyl := len_list y
  rw [hz] at hzl
  rw [hy] at hyl
  rcases hp with ⟨e1, _⟩ | ⟨e1, _⟩ | ⟨e1, e2, e3⟩
  · rw [h3] at e1; cases e1
  · rw [h3] at e1; cases e1
  · obtain ⟨k, w⟩ := p
    simp only at e1 e2
    subst e1; subst e2
    refine ⟨its ++ (spI r ++ seI q), ?_, oks_app h2 (oks_app s1 q1 (fun y hy => by rw [s3] at hy; cases hy; cases seI q <;> trivial)) (fun y hy => by rw [s2]; exact fol_sp (h4 y hy) _ _), ?_, ?_, ?_⟩
    · rw [cat_list, cat_list, cat_list, h1, hz, hy, txt_app, txt_app]
      show txt its ++ (txt (spI r) ++ []) ++ txt (seI q) = _
      simp
    · intro y hy
      have : seI q ≠ [] := seI_ne q
      rw [List.getLast?_append, List.getLast?_append] at hy
      cases hs : (seI q).getLast? with
      | none => rw [List.getLast?_eq_none_iff] at hs; exact absurd hs this
      | some y' => rw [hs] at hy; simp at hy; subst hy; exact q2 _ hs
    · rw [kF_app, kF_app, h5, s4, q3 K e3]
    · rw [WK_snoc, ByteArray.size_append, ByteArray.size_append, ByteArray.size_append]
      have e5 : (ByteArray.empty : ByteArray).size = 0 := rfl
      have e6 : wK (3, ByteArray.empty) = 22 := rfl
      rw [e5, e6]; omega
/-- The scan of the text made anew. -/
theorem spc_scan {L : List Tok} {x : ByteArray} (h : Spc (kv L) x) (ho : opk (kv L) = false) (hw : WK (kv L) ≤ 2200) : ∃ M : List Tok, scanR x = (M, 0, 0, 0) ∧ kv M = kv L := by
  obtain ⟨its, h1, h2, h4, h5, h6⟩ := h
  have hx : x = ⟨(txt its).toArray⟩ := ext_list h1
  have hl := len_list x
  rw [h1] at hl
  refine ⟨_, by rw [hx]; exact scanR_items h2 (by omega), ?_⟩
  rw [kv_endT, kv_folI]
  show endK (kF its []) = _
  rw [h5, endK_no ho]
end Go.Proofs.Ytnbbpcfhofmmfaa
