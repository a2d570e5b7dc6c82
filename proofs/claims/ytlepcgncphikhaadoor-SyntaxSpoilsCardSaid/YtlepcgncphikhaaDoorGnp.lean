/- What the generator's programs are: well formed, and small. -/
import Derived.Test.YtlepcgncphikhaaDoorPg2
import Derived.Test.YtlepcgncphikhaaDoorPnt
namespace Go.Proofs.YtlepcgncphikhaaDoor
set_option maxRecDepth 20000
set_option linter.unusedVariables false
set_option linter.unusedSimpArgs false
open Go.ChangeShapes Go.WideShapes Go.ChangeAt Go.RowKit

theorem vars_name : ∀ x ∈ varsL, nameB x = true := by
  intro x hx
  rw [nameD_eq]
  revert x
  decide +kernel
theorem fns_name : ∀ x ∈ fnsL, nameB x = true := by
  intro x hx
  rw [nameD_eq]
  revert x
  decide +kernel
theorem bls_name : ∀ x ∈ blsL, nameB x = true := by
  intro x hx
  rw [nameD_eq]
  revert x
  decide +kernel
theorem f2_name {i : Nat} (h : i < 3) : nameB (f2 i) = true := bls_name _ (List.mem_of_getElem? (f2_get h))
theorem namesB_of {l : List ByteArray} {b : Int} (h : ∀ x ∈ l, nameB x = true) (hb : (l.length : Int) ≤ b) : namesB l 0 b = true := by
  unfold namesB
  rw [List.all_eq_true.2 h]
  simp
  exact hb
theorem genS_ok {k : Nat} {t : Stm} (hk : k ≤ 3) (h : genS k t) : stmB t = true := by
  obtain ⟨op, d, us, ts⟩ := t
  unfold genS at h
  simp only at h
  rcases h with ⟨rfl, rfl, ⟨h1, h2, h3⟩, rfl⟩ | ⟨h0, hd, rfl, rfl⟩ | ⟨rfl, rfl, ⟨x, hx, rfl⟩, rfl⟩ | ⟨rfl, rfl, rfl, i, x, hi, hx, rfl⟩ | ⟨rfl, hd, ⟨h1, h2⟩, rfl⟩
  · unfold stmB
    rw [namesB_of (fun x hx => vars_name x (h3 x hx)) (by show (us.length : Int) ≤ 4; omega), namesB_of (l := []) (by simp) (by simp)]
    simp [okP]
    omega
  · unfold stmB
    rw [namesB_of (l := []) (by simp) (by simp), namesB_of (l := []) (by simp) (by simp)]
    rcases h0 with rfl | rfl <;> simp [okP, vars_name d hd]
  · unfold stmB
    rw [namesB_of (l := [x]) (by intro y hy; simp at hy; subst hy; exact vars_name y hx) (by simp), namesB_of (l := []) (by simp) (by simp)]
    simp [okP]
  · unfold stmB
    rw [namesB_of (l := []) (by simp) (by simp), namesB_of (l := [x]) (by intro y hy; simp at hy; subst hy; exact fns_name y (List.mem_of_getElem? hx)) (by simp)]
    simp [okP]
  · unfold stmB
    rw [namesB_of (fun x hx => vars_name x (h2 x hx)) (by show (us.length : Int) ≤ 4; omega), namesB_of (l := []) (by simp) (by simp)]
    simp [okP, vars_name d hd]
theorem termS_ok {n : Nat} {t : Stm} (hn : n ≤ 3) (h : termS n t) : stmB t = true := by
  obtain ⟨op, d, us, ts⟩ := t
  unfold termS at h
  simp only at h
  rcases h with ⟨rfl, rfl, rfl, rfl⟩ | ⟨rfl, rfl, rfl, i, hi, rfl⟩ | ⟨rfl, rfl, ⟨x, hx, rfl⟩, i, j, hi, hj, rfl⟩
  · unfold stmB
    rw [namesB_of (l := []) (by simp) (by simp), namesB_of (l := []) (by simp) (by simp)]
    simp [okP]
  · unfold stmB
    rw [namesB_of (l := []) (by simp) (by simp), namesB_of (l := [f2 i]) (by intro y hy; simp at hy; subst hy; exact f2_name (by omega)) (by simp)]
    simp [okP]
  · unfold stmB
    rw [namesB_of (l := [x]) (by intro y hy; simp at hy; subst hy; exact vars_name y hx) (by simp), namesB_of (l := [f2 i, f2 j]) (by intro y hy; simp at hy; rcases hy with rfl | rfl <;> exact f2_name (by omega)) (by simp)]
    simp [okP]
theorem genB_ok {N M : Nat} {b : Blk} {j : Nat} (hN : N ≤ 3) (hM : M ≤ 3) (hnm : blsL[j]? = some b.name) (h : genB N M b) : blkB b = true := by
  obtain ⟨body, t, hb, hl, h1, h2⟩ := h
  unfold blkB
  rw [hb, bls_name _ (List.mem_of_getElem? hnm), List.all_append, List.all_eq_true.2 fun x hx => genS_ok hN (h1 x hx)]
  simp [termS_ok hM h2]
  omega
theorem genF_ok {N : Nat} {f : FH} {i : Nat} (hN : N ≤ 3) (hnm : fnsL[i]? = some f.name) (h : genF N f) : fncB f.f = true := by
  obtain ⟨h1, h2, h3⟩ := h
  unfold fncB
  have hall : f.f.bs.all blkB = true := by
    rw [List.all_eq_true]
    intro b hb
    obtain ⟨y, hy, rfl⟩ := List.mem_map.1 hb
    obtain ⟨j, hj, he⟩ := List.getElem_of_mem hy
    obtain ⟨g1, g2⟩ := h3 j y (by rw [List.getElem?_eq_getElem hj, he])
    exact genB_ok hN h2 g1 g2
  have hlen : f.f.bs.length = f.l.length := by simp [FH.f]
  rw [hall, hlen, show f.f.name = f.name from rfl, fns_name _ (List.mem_of_getElem? hnm)]
  simp
  omega
theorem genP_ok {ls : List FH} (h : genP ls) : prgB (ls.map FH.f) = true := by
  obtain ⟨h1, h2, h3⟩ := h
  unfold prgB
  have hall : (ls.map FH.f).all fncB = true := by
    rw [List.all_eq_true]
    intro b hb
    obtain ⟨y, hy, rfl⟩ := List.mem_map.1 hb
    obtain ⟨j, hj, he⟩ := List.getElem_of_mem hy
    obtain ⟨g1, g2⟩ := h3 j y (by rw [List.getElem?_eq_getElem hj, he])
    exact genF_ok h2 g1 g2
  rw [hall]
  simp
  omega

/-! ### Sizes -/
theorem vars_len {l : List ByteArray} {k : Nat} (hl : l.length ≤ k) (h : ∀ x ∈ l, x.size ≤ 1) : (wordsP l).size ≤ k * 2 := by
  have h1 := wordsP_size l l.length 1 (Nat.le_refl _) h
  rw [List.take_length] at h1
  have : l.length * (1 + 1) ≤ k * 2 := Nat.mul_le_mul_right _ hl
  omega
theorem line_20 {t : Stm} (hd : t.d.size ≤ 1) (hu : t.us.length ≤ 3) (hus : ∀ x ∈ t.us, x.size ≤ 1) (ht : t.ts.length ≤ 2) (hts : ∀ x ∈ t.ts, x.size ≤ 1) : (lineP t).size ≤ 20 := by
  have h1 := vars_len hu hus
  have h2 := vars_len ht hts
  unfold lineP
  repeat' split
  all_goals (try simp only [ByteArray.size_append])
  · show t.d.size + 2 + _ ≤ _; omega
  · show 3 + _ ≤ _; omega
  · show 4 + _ ≤ _; omega
  · show 7 + _ ≤ _; omega
  · show 4 + _ ≤ _; omega
  · show 9 + _ ≤ _; omega
  · show 4 + _ ≤ _; omega
  · show 6 + _ + _ ≤ _; omega
  · show 6 ≤ _; omega
theorem genS_20 {k : Nat} {t : Stm} (hk : k ≤ 3) (h : genS k t) : (lineP t).size ≤ 20 := by
  obtain ⟨op, d, us, ts⟩ := t
  unfold genS at h
  simp only at h
  rcases h with ⟨rfl, rfl, ⟨h1, h2, h3⟩, rfl⟩ | ⟨h0, hd, rfl, rfl⟩ | ⟨rfl, rfl, ⟨x, hx, rfl⟩, rfl⟩ | ⟨rfl, rfl, rfl, i, x, hi, hx, rfl⟩ | ⟨rfl, hd, ⟨h1, h2⟩, rfl⟩
  · exact line_20 (Nat.zero_le _) (by show us.length ≤ 3; omega) (fun x hx => varsL_small x (h3 x hx)) (by simp) (by simp)
  · exact line_20 (varsL_small d hd) (by simp) (by simp) (by simp) (by simp)
  · exact line_20 (Nat.zero_le _) (by simp) (by intro y hy; simp at hy; subst hy; exact varsL_small y hx) (by simp) (by simp)
  · exact line_20 (Nat.zero_le _) (by simp) (by simp) (by simp) (by intro y hy; simp at hy; subst hy; exact fnsL_small y (List.mem_of_getElem? hx))
  · exact line_20 (varsL_small d hd) (by show us.length ≤ 3; omega) (fun x hx => varsL_small x (h2 x hx)) (by simp) (by simp)
theorem termS_20 {n : Nat} {t : Stm} (h : termS n t) : (lineP t).size ≤ 20 := by
  obtain ⟨op, d, us, ts⟩ := t
  unfold termS at h
  simp only at h
  rcases h with ⟨rfl, rfl, rfl, rfl⟩ | ⟨rfl, rfl, rfl, i, hi, rfl⟩ | ⟨rfl, rfl, ⟨x, hx, rfl⟩, i, j, hi, hj, rfl⟩
  · exact line_20 (Nat.zero_le _) (by simp) (by simp) (by simp) (by simp)
  · exact line_20 (Nat.zero_le _) (by simp) (by simp) (by simp) (by intro y hy; simp at hy; subst hy; exact f2_small _)
  · exact line_20 (Nat.zero_le _) (by simp) (by intro y hy; simp at hy; subst hy; exact varsL_small y hx) (by simp) (by intro y hy; simp at hy; rcases hy with rfl | rfl <;> exact f2_small _)
theorem genB_20 {N M : Nat} {b : Blk} {j : Nat} (hN : N ≤ 3) (hnm : blsL[j]? = some b.name) (h : genB N M b) : (blkL b).length ≤ 5 ∧ ∀ x ∈ blkL b, x.size ≤ 20 := by
  obtain ⟨body, t, hb, hl, h1, h2⟩ := h
  unfold blkL
  rw [hb]
  refine ⟨by simp; omega, fun x hx => ?_⟩
  simp only [List.mem_cons, List.map_append, List.mem_append, List.mem_map, List.map_cons, List.map_nil, List.not_mem_nil, or_false] at hx
  rcases hx with rfl | ⟨y, hy, rfl⟩ | rfl
  · have := blsL_small _ (List.mem_of_getElem? hnm)
    rw [ByteArray.size_append]; show 6 + _ ≤ _; omega
  · exact genS_20 hN (h1 y hy)
  · exact termS_20 h2
theorem flat_20 {α : Type} (f : α → List ByteArray) (l : List α) (k m : Nat) (hl : l.length ≤ k) (h : ∀ x ∈ l, (f x).length ≤ m ∧ ∀ y ∈ f x, y.size ≤ 20) : (l.flatMap f).length ≤ k * m ∧ ∀ y ∈ l.flatMap f, y.size ≤ 20 := by
  refine ⟨?_, fun y hy => by obtain ⟨x, hx, hy⟩ := List.mem_flatMap.1 hy; exact (h x hx).2 y hy⟩
  have : (l.flatMap f).length ≤ l.length * m := by
    induction l with
    | nil => simp
    | cons x l ih =>
      have h1 := ih (by simp at hl; omega) fun z hz => h z (by simp [hz])
      have h2 := (h x (by simp)).1
      rw [List.flatMap_cons, List.length_append, List.length_cons, Nat.succ_mul]; omega
  exact Nat.le_trans this (Nat.mul_le_mul_right _ hl)
theorem genF_20 {N : Nat} {f : FH} {i : Nat} (hN : N ≤ 3) (hnm : fnsL[i]? = some f.name) (h : genF N f) : (fncL f.f).length ≤ 17 ∧ ∀ x ∈ fncL f.f, x.size ≤ 20 := by
  obtain ⟨h1, h2, h3⟩ := h
  have hb := flat_20 blkL f.f.bs 3 5 (by simpa [FH.f] using h2) (fun b hb => by
    obtain ⟨y, hy, rfl⟩ := List.mem_map.1 hb
    obtain ⟨j, hj, he⟩ := List.getElem_of_mem hy
    obtain ⟨g1, g2⟩ := h3 j y (by rw [List.getElem?_eq_getElem hj, he])
    exact genB_20 hN g1 g2)
  unfold fncL
  refine ⟨by simp only [List.length_cons, List.length_append, List.length_nil]; omega, fun x hx => ?_⟩
  simp only [List.mem_cons, List.mem_append, List.not_mem_nil, or_false] at hx
  rcases hx with rfl | hx | rfl
  · have := fnsL_small _ (List.mem_of_getElem? hnm)
    rw [ByteArray.size_append]; show 5 + f.name.size ≤ _; omega
  · exact hb.2 x hx
  · decide
theorem genP_20 {ls : List FH} (h : genP ls) : (linesP (ls.map FH.f)).length ≤ 51 ∧ ∀ x ∈ linesP (ls.map FH.f), x.size ≤ 20 := by
  obtain ⟨h1, h2, h3⟩ := h
  exact flat_20 fncL (ls.map FH.f) 3 17 (by simpa using h2) (fun b hb => by
    obtain ⟨y, hy, rfl⟩ := List.mem_map.1 hb
    obtain ⟨j, hj, he⟩ := List.getElem_of_mem hy
    obtain ⟨g1, g2⟩ := h3 j y (by rw [List.getElem?_eq_getElem hj, he])
    exact genF_20 h2 g1 g2)
theorem lines_pos {ls : List FH} (h : genP ls) : ∃ x L, linesP (ls.map FH.f) = (funcW ++ x) :: L := by
  obtain ⟨h1, h2, h3⟩ := h
  cases ls with
  | nil => simp at h1
  | cons f ls => exact ⟨f.name, _, rfl⟩
theorem printL_20 (L : List ByteArray) (h : ∀ x ∈ L, x.size ≤ 100000) : (printL L).size ≤ L.length * 100001 := printL_size L h
/-- The texts are not empty, and not long. -/
theorem print_small {ls : List FH} (h : genP ls) : 0 < (printP (ls.map FH.f)).size ∧ (printP (ls.map FH.f)).size ≤ 100000 := by
  obtain ⟨x, L, he⟩ := lines_pos h
  have h2 := genP_20 h
  have H : ∀ (L : List ByteArray) (s : ByteArray), (∀ x ∈ L, x.size ≤ 20) → s.size ≤ (L.foldl (fun s x => s ++ (x ++ ⟨#[10]⟩)) s).size ∧ (L.foldl (fun s x => s ++ (x ++ ⟨#[10]⟩)) s).size ≤ s.size + L.length * 21 := by
    intro L
    induction L with
    | nil => intro s _; simp
    | cons x L ih =>
      intro s h
      have h1 := ih (s ++ (x ++ ⟨#[10]⟩)) fun y hy => h y (by simp [hy])
      have h2 := h x (by simp)
      rw [List.foldl_cons, List.length_cons, Nat.succ_mul]
      have e : (s ++ (x ++ (⟨#[10]⟩ : ByteArray))).size = s.size + (x.size + 1) := by rw [ByteArray.size_append, ByteArray.size_append]; rfl
      omega
  have hp : printP (ls.map FH.f) = printL (linesP (ls.map FH.f)) := by unfold printP; rw [genP_ok h]; rfl
  rw [hp]
  have h3 := H (linesP (ls.map FH.f)) ⟨#[]⟩ h2.2
  have e0 : (⟨#[]⟩ : ByteArray).size = 0 := rfl
  refine ⟨?_, by unfold printL; omega⟩
  rw [he]
  have h4 := (H L (⟨#[]⟩ ++ ((funcW ++ x) ++ ⟨#[10]⟩)) fun y hy => h2.2 y (by rw [he]; simp [hy])).1
  have e1 : ((⟨#[]⟩ : ByteArray) ++ ((funcW ++ x) ++ ⟨#[10]⟩)).size = 0 + (5 + x.size + 1) := by
    rw [ByteArray.size_append, ByteArray.size_append, ByteArray.size_append]; rfl
  show 0 < (List.foldl (fun s x => s ++ (x ++ ⟨#[10]⟩)) (⟨#[]⟩ ++ ((funcW ++ x) ++ ⟨#[10]⟩)) L).size
  omega
theorem inline_small {ls : List FH} (h : genP ls) : 0 < (inlineP (ls.map FH.f)).size ∧ (inlineP (ls.map FH.f)).size ≤ 100000 := by
  obtain ⟨x, L, he⟩ := lines_pos h
  have h2 := genP_20 h
  have H : ∀ (L : List ByteArray) (s : ByteArray), (∀ x ∈ L, x.size ≤ 20) → s.size ≤ (sepL L s).size ∧ (sepL L s).size ≤ s.size + L.length * 22 := by
    intro L
    induction L with
    | nil => intro s _; simp [sepL]
    | cons x L ih =>
      intro s h
      have h1 := ih ((s ++ ⟨#[59, 32]⟩) ++ x) fun y hy => h y (by simp [hy])
      have h2 := h x (by simp)
      have e0 : sepL (x :: L) s = sepL L ((s ++ ⟨#[59, 32]⟩) ++ x) := rfl
      rw [e0, List.length_cons, Nat.succ_mul]
      have e : ((s ++ (⟨#[59, 32]⟩ : ByteArray)) ++ x).size = s.size + 2 + x.size := by rw [ByteArray.size_append, ByteArray.size_append]; rfl
      omega
  have hp : inlineP (ls.map FH.f) = inlineL (linesP (ls.map FH.f)) := by unfold inlineP; rw [genP_ok h]; rfl
  have hl := h2.1
  rw [hp, he]
  rw [he, List.length_cons] at hl
  have hx : (funcW ++ x).size ≤ 20 := h2.2 _ (by rw [he]; simp)
  have h3 := H L (⟨#[]⟩ ++ (funcW ++ x)) fun y hy => h2.2 y (by rw [he]; simp [hy])
  have e1 : ((⟨#[]⟩ : ByteArray) ++ (funcW ++ x)).size = 0 + (funcW ++ x).size := by rw [ByteArray.size_append]; rfl
  have e2 : (funcW ++ x).size = 5 + x.size := by rw [ByteArray.size_append]; rfl
  show 0 < (sepL L (⟨#[]⟩ ++ (funcW ++ x))).size ∧ (sepL L (⟨#[]⟩ ++ (funcW ++ x))).size ≤ _
  omega
end Go.Proofs.YtlepcgncphikhaaDoor
