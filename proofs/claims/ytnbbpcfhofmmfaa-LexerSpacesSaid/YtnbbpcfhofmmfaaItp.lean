/- The items of a program's text, and what their tokens are. Plain mathematics. -/
import Derived.Test.YtnbbpcfhofmmfaaItm
import Derived.Test.YtnbbpcfhofmmfaaGnp
namespace Go.Proofs.Ytnbbpcfhofmmfaa
set_option maxRecDepth 20000
set_option linter.unusedVariables false
set_option linter.unusedSimpArgs false
open Go.ChangeShapes Go.WideShapes Go.ChangeAt Go.RowKit

theorem fol_app {x : Itm} {a b : List Itm} (h : Fol x a) (hb : a = [] → Fol x b) : Fol x (a ++ b) := by
  cases a with
  | nil => exact hb rfl
  | cons y a => cases x <;> cases y <;> first | exact trivial | exact h
theorem oks_app {a b : List Itm} (ha : Oks a) (hb : Oks b) (hj : ∀ x, a.getLast? = some x → Fol x b) : Oks (a ++ b) := by
  induction a with
  | nil => exact hb
  | cons x a ih =>
    refine ⟨ha.1, fol_app ha.2.1 (fun e => by subst e; exact hj x rfl), ih ha.2.2 fun y hy => hj y ?_⟩
    cases a with
    | nil => cases hy
    | cons z a => rw [List.getLast?_cons_cons]; exact hy
theorem folI_app (a b : List Itm) (s : St) : folI (a ++ b) s = folI b (folI a s) := by unfold folI; rw [List.foldl_append]
theorem txt_app (a b : List Itm) : txt (a ++ b) = txt a ++ txt b := by unfold txt; rw [List.flatMap_append]
theorem cat_list (a b : ByteArray) : (a ++ b).data.toList = a.data.toList ++ b.data.toList := by simp
/-- Blocks of items, each of which ends in a line feed. -/
theorem oks_flat {α : Type} (f : α → List Itm) (l : List α) (h : ∀ x ∈ l, Oks (f x) ∧ (f x).getLast? = some .nl) : Oks (l.flatMap f) ∧ (l = [] ∨ (l.flatMap f).getLast? = some .nl) := by
  induction l with
  | nil => exact ⟨trivial, .inl rfl⟩
  | cons x l ih =>
    obtain ⟨h1, h2⟩ := h x (by simp)
    obtain ⟨h3, h4⟩ := ih fun y hy => h y (by simp [hy])
    rw [List.flatMap_cons]
    refine ⟨oks_app h1 h3 fun y hy => by rw [h2] at hy; cases hy; trivial, .inr ?_⟩
    rcases h4 with rfl | h4
    · simpa using h2
    · rw [List.getLast?_append, h4]; rfl
theorem name_wd {x : ByteArray} (h : nameB x = true) : WdOk x := by
  unfold nameB at h
  simp only [Bool.and_eq_true, decide_eq_true_eq] at h
  obtain ⟨⟨⟨⟨h1, h2⟩, h3⟩, h4⟩, h5⟩ := h
  have hl := len_list x
  refine ⟨by omega, by omega, fun c hc => ?_, fun c hc => ?_⟩
  · obtain ⟨i, hi, he⟩ := List.getElem_of_mem hc
    have := runL_mem wrdB x 0 i (by omega)
    rw [Nat.zero_add] at this
    unfold byt at this
    rw [List.getD_eq_getElem?_getD, List.getElem?_eq_getElem hi, he] at this
    exact this
  · have e : byt x 0 = bt c := by
      unfold byt bt
      rw [List.getD_eq_getElem?_getD, ← List.head?_eq_getElem?, hc]; rfl
    rw [e] at h2
    unfold letB at h2
    unfold digB
    simp at h2 ⊢
    omega

def wordsI (us : List ByteArray) : List Itm := us.flatMap fun u => [.sp 32, .wd u]
def useW : ByteArray := ⟨#[117, 115, 101]⟩
def callW : ByteArray := ⟨#[99, 97, 108, 108]⟩
def sourceW : ByteArray := ⟨#[115, 111, 117, 114, 99, 101]⟩
def sinkW : ByteArray := ⟨#[115, 105, 110, 107]⟩
def sanitizeW : ByteArray := ⟨#[115, 97, 110, 105, 116, 105, 122, 101]⟩
def gotoW : ByteArray := ⟨#[103, 111, 116, 111]⟩
def branchW : ByteArray := ⟨#[98, 114, 97, 110, 99, 104]⟩
def returnW : ByteArray := ⟨#[114, 101, 116, 117, 114, 110]⟩
def funcK : ByteArray := ⟨#[102, 117, 110, 99]⟩
def blockK : ByteArray := ⟨#[98, 108, 111, 99, 107]⟩
def stmI (t : Stm) : List Itm :=
  if t.op = 1 then [.wd t.d, .sp 32, .eq] ++ wordsI t.us
  else if t.op = 2 then [.wd useW] ++ wordsI t.us
  else if t.op = 3 then [.wd callW] ++ wordsI t.ts
  else if t.op = 4 then [.wd sourceW, .sp 32, .wd t.d]
  else if t.op = 5 then [.wd sinkW] ++ wordsI t.us
  else if t.op = 6 then [.wd sanitizeW, .sp 32, .wd t.d]
  else if t.op = 7 then [.wd gotoW] ++ wordsI t.ts
  else if t.op = 8 then ([.wd branchW] ++ wordsI t.us) ++ wordsI t.ts
  else [.wd returnW]
def blkI (b : Blk) : List Itm := [.wd blockK, .sp 32, .wd b.name, .nl] ++ b.ss.flatMap fun t => stmI t ++ [.nl]
def fncI (f : Fnc) : List Itm := ([.wd funcK, .sp 32, .wd f.name, .nl] ++ f.bs.flatMap blkI) ++ [.wd endW, .nl]
def prgI (p : List Fnc) : List Itm := p.flatMap fncI

theorem kw_wd : ∀ x ∈ [useW, callW, sourceW, sinkW, sanitizeW, gotoW, branchW, returnW, funcK, blockK, endW], WdOk x := by
  intro x hx
  have h : (decide (0 < x.data.toList.length) && decide (x.data.toList.length ≤ 16) && x.data.toList.all (fun c => wrdB (bt c)) && (match x.data.toList.head? with | none => true | some c => !digB (bt c))) = true := by
    revert x; decide +kernel
  simp only [Bool.and_eq_true, decide_eq_true_eq, List.all_eq_true] at h
  exact ⟨h.1.1.1, h.1.1.2, h.1.2, fun c hc => by have := h.2; rw [hc] at this; simpa using this⟩
theorem words_list (us : List ByteArray) : (wordsP us).data.toList = txt (wordsI us) := by
  have H : ∀ (us : List ByteArray) (s : ByteArray), (us.foldl (fun s x => s ++ (⟨#[32]⟩ ++ x)) s).data.toList = s.data.toList ++ txt (wordsI us) := by
    intro us
    induction us with
    | nil => intro s; simp [wordsI, txt]
    | cons u us ih =>
      intro s
      rw [List.foldl_cons, ih, cat_list, cat_list]
      simp [wordsI, txt, ren]
  have := H us ⟨#[]⟩
  simpa [wordsP] using this
theorem line_list (t : Stm) : (lineP t).data.toList = txt (stmI t) := by
  unfold lineP stmI
  repeat' split
  all_goals (simp only [cat_list, txt_app, words_list])
  all_goals (simp [txt, ren, useW, callW, sourceW, sinkW, sanitizeW, gotoW, branchW, returnW])
theorem print_list (L : List ByteArray) : (printL L).data.toList = L.flatMap fun x => x.data.toList ++ [10] := by
  have H : ∀ (L : List ByteArray) (s : ByteArray), (L.foldl (fun s x => s ++ (x ++ ⟨#[10]⟩)) s).data.toList = s.data.toList ++ L.flatMap fun x => x.data.toList ++ [10] := by
    intro L
    induction L with
    | nil => intro s; simp
    | cons x L ih =>
      intro s
      rw [List.foldl_cons, ih, cat_list, cat_list]
      simp
  have := H L ⟨#[]⟩
  simpa [printL] using this
theorem flat_list {α : Type} (f : α → List ByteArray) (g : α → List Itm) (l : List α) (h : ∀ x ∈ l, ((f x).flatMap fun y => y.data.toList ++ [10]) = txt (g x)) : ((l.flatMap f).flatMap fun y => y.data.toList ++ [10]) = txt (l.flatMap g) := by
  induction l with
  | nil => rfl
  | cons x l ih =>
    rw [List.flatMap_cons, List.flatMap_cons, List.flatMap_append, txt_app, h x (by simp), ih fun y hy => h y (by simp [hy])]
theorem blk_list (b : Blk) : ((blkL b).flatMap fun y => y.data.toList ++ [10]) = txt (blkI b) := by
  have h1 : (blockW ++ b.name).data.toList ++ [10] = txt [.wd blockK, .sp 32, .wd b.name, .nl] := by
    rw [cat_list]; simp [txt, ren, blockW, blockK]
  have h2 := flat_list (fun t => [lineP t]) (fun t => stmI t ++ [.nl]) b.ss (fun t _ => by rw [txt_app, ← line_list]; simp [txt, ren])
  have h3 : b.ss.flatMap (fun t => [lineP t]) = b.ss.map lineP := by
    induction b.ss with
    | nil => rfl
    | cons x l ih => rw [List.flatMap_cons, ih]; rfl
  rw [h3] at h2
  unfold blkL blkI
  rw [List.flatMap_cons, txt_app, h1, h2]
theorem fnc_list (f : Fnc) : ((fncL f).flatMap fun y => y.data.toList ++ [10]) = txt (fncI f) := by
  have h1 : (funcW ++ f.name).data.toList ++ [10] = txt [.wd funcK, .sp 32, .wd f.name, .nl] := by
    rw [cat_list]; simp [txt, ren, funcW, funcK]
  have h2 : ([endW].flatMap fun y => y.data.toList ++ [10]) = txt [.wd endW, .nl] := by simp [txt, ren]
  unfold fncL fncI
  rw [List.flatMap_cons, List.flatMap_append, h1, h2, flat_list blkL blkI f.bs (fun b _ => blk_list b), txt_app, txt_app, List.append_assoc]
theorem prg_list (p : List Fnc) : (printL (linesP p)).data.toList = txt (prgI p) := by
  rw [print_list]
  exact flat_list fncL fncI p (fun f _ => fnc_list f)

theorem oks_words {us : List ByteArray} (h : ∀ x ∈ us, WdOk x) (tl : List Itm) (ht : Oks tl) (hf : ∀ w, Fol (.wd w) tl) : Oks (wordsI us ++ tl) ∧ ((wordsI us ++ tl = tl) ∨ ∃ r, wordsI us ++ tl = .sp 32 :: r) := by
  induction us with
  | nil => exact ⟨ht, .inl rfl⟩
  | cons u us ih =>
    obtain ⟨h1, h2⟩ := ih fun x hx => h x (by simp [hx])
    have e : wordsI (u :: us) ++ tl = .sp 32 :: .wd u :: (wordsI us ++ tl) := rfl
    rw [e]
    refine ⟨⟨.inl rfl, trivial, h u (by simp), ?_, h1⟩, .inr ⟨_, rfl⟩⟩
    rcases h2 with h2 | ⟨r, h2⟩
    · rw [h2]; exact hf u
    · rw [h2]; trivial
theorem stm_oks {t : Stm} (h : stmB t = true) : Oks (stmI t ++ [.nl]) := by
  have hk := fun x hx => kw_wd x hx
  unfold stmB at h
  simp only [Bool.and_eq_true] at h
  obtain ⟨⟨hu, ht⟩, ho⟩ := h
  have hus : ∀ x ∈ t.us, WdOk x := fun x hx => by
    unfold namesB at hu
    simp only [Bool.and_eq_true, List.all_eq_true] at hu
    exact name_wd (hu.1 x hx)
  have hts : ∀ x ∈ t.ts, WdOk x := fun x hx => by
    unfold namesB at ht
    simp only [Bool.and_eq_true, List.all_eq_true] at ht
    exact name_wd (ht.1 x hx)
  have hnl : Oks [Itm.nl] := ⟨trivial, trivial, trivial⟩
  have w1 := oks_words hus [.nl] hnl (fun w => trivial)
  have w2 := oks_words hts [.nl] hnl (fun w => trivial)
  have w3 := oks_words hus (wordsI t.ts ++ [.nl]) w2.1 (fun w => by rcases w2.2 with e | ⟨r, e⟩ <;> rw [e] <;> trivial)
  have one : ∀ (k : ByteArray) (r : List Itm), WdOk k → Oks r → (r = [.nl] ∨ ∃ q, r = .sp 32 :: q) → Oks (.wd k :: r) := fun k r hk hr hf => ⟨hk, by rcases hf with rfl | ⟨q, rfl⟩ <;> trivial, hr⟩
  have hd : (t.op = 1 ∨ t.op = 4 ∨ t.op = 6) → WdOk t.d := fun he => by
    unfold okP at ho
    refine name_wd ?_
    rcases he with e | e | e <;> rw [e] at ho <;> simp at ho <;> exact ho.1
  unfold stmI
  split
  · next e => exact ⟨hd (.inl e), trivial, .inl rfl, trivial, trivial, by rcases w1.2 with e | ⟨r, e⟩ <;> trivial, w1.1⟩
  split
  · exact one _ _ (hk _ (by simp)) w1.1 w1.2
  split
  · exact one _ _ (hk _ (by simp)) w2.1 w2.2
  split
  · next e => exact ⟨hk _ (by simp), trivial, .inl rfl, trivial, hd (.inr (.inl e)), trivial, hnl⟩
  split
  · exact one _ _ (hk _ (by simp)) w1.1 w1.2
  split
  · next e => exact ⟨hk _ (by simp), trivial, .inl rfl, trivial, hd (.inr (.inr e)), trivial, hnl⟩
  split
  · exact one _ _ (hk _ (by simp)) w2.1 w2.2
  split
  · rw [List.append_assoc, List.append_assoc]
    refine one _ _ (hk _ (by simp)) w3.1 ?_
    rcases w3.2 with e | ⟨r, e⟩
    · rw [e]; exact w2.2
    · exact .inr ⟨r, e⟩
  · exact ⟨hk _ (by simp), trivial, hnl⟩
theorem blk_oks {b : Blk} (h : blkB b = true) : Oks (blkI b) ∧ (blkI b).getLast? = some .nl := by
  unfold blkB at h
  simp only [Bool.and_eq_true, decide_eq_true_eq, List.all_eq_true] at h
  obtain ⟨⟨⟨h1, h2⟩, h3⟩, h4⟩ := h
  have hf := oks_flat (fun t => stmI t ++ [.nl]) b.ss (fun t ht => ⟨stm_oks (h4 t ht), by simp⟩)
  have hh : Oks [Itm.wd blockK, .sp 32, .wd b.name, .nl] := ⟨kw_wd _ (by simp), trivial, .inl rfl, trivial, name_wd h1, trivial, trivial, trivial, trivial⟩
  refine ⟨oks_app hh hf.1 (fun x hx => by simp at hx; subst hx; trivial), ?_⟩
  unfold blkI
  rcases hf.2 with e | e
  · rw [e] at h2; simp at h2
  · rw [List.getLast?_append, e]; rfl
theorem fnc_oks {f : Fnc} (h : fncB f = true) : Oks (fncI f) ∧ (fncI f).getLast? = some .nl := by
  unfold fncB at h
  simp only [Bool.and_eq_true, decide_eq_true_eq, List.all_eq_true] at h
  obtain ⟨⟨⟨h1, h2⟩, h3⟩, h4⟩ := h
  have hf := oks_flat blkI f.bs (fun b hb => blk_oks (h4 b hb))
  have hh : Oks [Itm.wd funcK, .sp 32, .wd f.name, .nl] := ⟨kw_wd _ (by simp), trivial, .inl rfl, trivial, name_wd h1, trivial, trivial, trivial, trivial⟩
  have he : Oks [Itm.wd endW, .nl] := ⟨kw_wd _ (by simp), trivial, trivial, trivial, trivial⟩
  have h12 := oks_app hh hf.1 (fun x hx => by simp at hx; subst hx; trivial)
  refine ⟨oks_app h12 he (fun x hx => ?_), by unfold fncI; rw [List.getLast?_append]; rfl⟩
  rcases hf.2 with e | e
  · rw [e] at h2; simp at h2
  · rw [List.getLast?_append, e] at hx
    simp at hx; subst hx; trivial
theorem prg_oks {p : List Fnc} (h : prgB p = true) : Oks (prgI p) := by
  unfold prgB at h
  simp only [Bool.and_eq_true, decide_eq_true_eq, List.all_eq_true] at h
  exact (oks_flat fncI p (fun f hf => fnc_oks (h.2 f hf))).1
end Go.Proofs.Ytnbbpcfhofmmfaa
