/- The reference's table: a function by its values. -/
import Derived.Test.YtadkjnjibefocaaTap
import Derived.Test.YtadkjnjibefocaaMembers
import Derived.Deep.RegionLaw
import Derived.Deep.DeepMust
namespace Go.Proofs.Ytadkjnjibefocaa
set_option maxRecDepth 20000
open Go.ChangeShapes Go.WideShapes Go.ChangeAt Go.RowKit

/-- The cells of a row of sets. -/
def setCells (W : Int) (l : List (Option Addr × Nat × Nat)) : List Value := l.flatMap fun p => [.int .i64 W, .slice p.1 p.2.1 p.2.2]
theorem setCells_snoc (W : Int) (l : List (Option Addr × Nat × Nat)) (p : Option Addr × Nat × Nat) : setCells W (l ++ [p]) = setCells W l ++ [.int .i64 W, .slice p.1 p.2.1 p.2.2] := by
  simp [setCells]
/-- A row of its own that holds n sets. -/
def Ones (w : World) (base B0 : Nat) (W : Int) (v : Value) (one : Nat → List Nat) (n : Nat) : Prop :=
  ∃ l : List (Option Addr × Nat × Nat), l.length = n ∧ w.ownsRow base 47 2 v n (setCells W l) ∧ ∀ i p, l[i]? = some p → From w B0 p.1 (one i) ∧ p.2.1 = (one i).length
section
variable {w w' : World} {base B0 : Nat} {W : Int} {v : Value} {one : Nat → List Nat} {n : Nat}
theorem Ones.nil (w : World) (base B0 : Nat) (W : Int) (one : Nat → List Nat) : Ones w base B0 W (.slice none 0 0) one 0 :=
  ⟨[], rfl, World.ownsRow_nil _ _ _ _, fun i p h => by simp at h⟩
theorem Ones.below (h : Ones w base B0 W v one n) (hb : Below w.heap.size w w') (hB : B0 ≤ w.heap.size) : Ones w' base B0 W v one n := by
  obtain ⟨l, h1, h2, h3⟩ := h
  exact ⟨l, h1, own_below h2 hb, fun i p hp => ⟨(h3 i p hp).1.below hb hB, (h3 i p hp).2⟩⟩
theorem own_not_row {ty : TypeId} (hty : ty ≠ 72) {xs : List Value} {k : Nat} (h : w.ownsRow base ty k v n xs) {g : Nat} {zs : List Nat} (hr : Row w g zs) : some g ≠ v.ownBlock := by
  rcases h.2 with ⟨rfl, _⟩ | ⟨g', cap, cur, rfl, _, hg, _⟩
  · simp [Value.ownBlock]
  · intro e
    simp only [Value.ownBlock, Option.some.injEq] at e
    subst e
    unfold Row at hr
    rw [hr] at hg
    injection hg with hg
    injection hg with _ hg
    exact hty hg.symm
theorem own_base {ty : TypeId} {k : Nat} {xs : List Value} (h : w.ownsRow base ty k v n xs) : ∀ g, v.ownBlock = some g → base ≤ g := by
  intro g hg
  rcases h.2 with ⟨rfl, _⟩ | ⟨g', cap, cur, rfl, hb, _⟩
  · simp [Value.ownBlock] at hg
  · simp only [Value.ownBlock, Option.some.injEq] at hg; omega
theorem Ones.grow {l : List (Option Addr × Nat × Nat)} {v' : Value} {A : Option Addr} {m c : Nat} (o : Obj) (h1 : l.length = n) (h2 : w.ownsRow base 47 2 v n (setCells W l)) (h3 : ∀ i p, l[i]? = some p → From w B0 p.1 (one i) ∧ p.2.1 = (one i).length)
    (hB : B0 ≤ w.heap.size) (hbase : B0 ≤ base) (hA : From w B0 A (one n)) (hm : m = (one n).length)
    (ho : w'.ownsRow base 47 2 v' (n + 1) (setCells W l ++ [.int .i64 W, .slice A m c])) (hg : (w.alloc o).grownBy w' v.ownBlock) : Ones w' base B0 W v' one (n + 1) := by
  have h2' := h2.alloc o
  have key : ∀ A zs, From w B0 A zs → From w' B0 A zs := fun A zs hf =>
    (hf.below ((Below.refl _ _).alloc (Nat.le_refl _) o) hB).grown hg (by simp only [World.size_alloc]; omega) (fun k hk => by have := own_base h2 k hk; omega) (fun g hr => own_not_row (by decide) h2' hr)
  refine ⟨l ++ [(A, m, c)], by simp [h1], by rw [setCells_snoc]; exact ho, fun i p hp => ?_⟩
  rcases Nat.lt_or_ge i n with hi | hi
  · rw [List.getElem?_append_left (by omega)] at hp
    exact ⟨key _ _ (h3 i p hp).1, (h3 i p hp).2⟩
  · rw [List.getElem?_append_right (by omega)] at hp
    have hi0 : i = n := by
      rcases Nat.eq_zero_or_pos (i - l.length) with h0 | h0
      · omega
      · rw [List.getElem?_eq_none (by simp; omega)] at hp; cases hp
    subst hi0
    rw [h1, Nat.sub_self] at hp
    simp only [List.getElem?_cons_zero, Option.some.injEq] at hp
    subst hp
    exact ⟨key _ _ hA, hm⟩
end

theorem setCell_grown (w : World) (p : Addr) (u : Value) : w.grownBy (w.setCell p u) (some p.block) :=
  ⟨rfl, rfl, rfl, by simp [World.setCell], fun k _ hk => Below.heap_setCell w p u k (by rintro rfl; exact hk rfl)⟩
theorem Fb.set {w : World} {g t : Nat} {cs : Array Value} (h : Fb w g cs t) (j : Nat) (u : Value) : Fb (w.setCell ⟨g, j, none⟩ u) g (cs.setIfInBounds j u) t := by
  unfold Fb at h ⊢
  simp [World.setCell, Array.getElem?_modify, h]
theorem Fb.row_ne {w : World} {g t : Nat} {cs : Array Value} (h : Fb w g cs t) (ht : t ≠ 72) {k : Nat} {zs : List Nat} (hr : Row w k zs) : k ≠ g := by
  rintro rfl
  unfold Fb at h; unfold Row at hr
  rw [h] at hr
  injection hr with hr
  injection hr with _ hr
  exact ht hr
theorem Ones.store {w : World} {base B0 : Nat} {W : Int} {v : Value} {one : Nat → List Nat} {n g t : Nat} {cs : Array Value} (h : Ones w base B0 W v one n) (hf : Fb w g cs t) (ht : t ≠ 72) (hg : B0 ≤ g) (hb : g < base) (hB : B0 ≤ w.heap.size) (j : Nat) (u : Value) :
    Ones (w.setCell ⟨g, j, none⟩ u) base B0 W v one n := by
  obtain ⟨l, h1, h2, h3⟩ := h
  have hgr := setCell_grown w ⟨g, j, none⟩ u
  refine ⟨l, h1, h2.kept hgr ?_, fun i p hp => ⟨(h3 i p hp).1.grown hgr hB (fun k hk => by simp only [Option.some.injEq] at hk; omega) (fun k hr => by have := hf.row_ne ht hr; simpa using this), (h3 i p hp).2⟩⟩
  cases hv : v.ownBlock with
  | none => exact .inl rfl
  | some k => exact .inr (by have := own_base h2 k hv; simp only [ne_eq, Option.some.injEq]; omega)
theorem Ones.slice {w : World} {base B0 : Nat} {W : Int} {v : Value} {one : Nat → List Nat} {n : Nat} (h : Ones w base B0 W v one n) : ∃ (A : Option Addr) (c : Nat), v = .slice A n c := by
  obtain ⟨l, h1, h2, h3⟩ := h
  rcases h2.2 with ⟨rfl, rfl⟩ | ⟨g, cap, cur, rfl, _⟩
  · exact ⟨none, 0, rfl⟩
  · exact ⟨_, cap, rfl⟩

/-- append onto a row of the call's own, as a step of a region. -/
theorem step_appv {P : Program} {ops : Array Oper} {o : Oper} {a : Act} {w : World} {K : Act → World → Prop} {Q : Exit → Act → World → Prop} {E : Prop} (hgd : o.guard = none) (s x : Operand) (t : TypeId)
    (ho : o.op = .call { callee := .builtin .append, args := #[s, x], argTypes := #[t, t] })
    (base : Nat) (e : TypeId) (i : TypeInfo) (z : Value) (size bytes : Nat) (ht : P.underlying t = some (.slice e)) (hi : P.info? e = some i) (hz : i.zero = some z)
    (hsize : i.size = size) (hby : i.bytes = bytes) (hzs : z.cells.size = size) (hsz : 0 < size)
    (v : Value) (n : Nat) (xs : List Value) (hs : a.eval s = v) (hown : w.ownsRow base e size v n xs)
    (ad : Addr) (m c : Nat) (news : List Value) (hx : a.eval x = .slice (some ad) m c) (hl : news.length = m * size) (hnews : ∀ j u, news[j]? = some u → w.cell? (ad.add j) = some u) (h1 : ∀ u ∈ news, u.oneCell' = true)
    (h63 : n + m ≤ maxLen) (hbytes : (n + m) * bytes ≤ 140737488355328) (hbase : base ≤ w.heap.size)
    (h : ∀ v' w', w'.ownsRow base e size v' (n + m) (xs ++ news) → w.grownBy w' v.ownBlock → (v' = .slice none 0 0 ↔ v = .slice none 0 0 ∧ m = 0) → K (a.put o.dst v') w') :
    if Region.wanted o (yielded ops a.tmps) = true then Oper.wp P o a w K Q else E := by
  have hw : Region.wanted o (yielded ops a.tmps) = true := by simp [Region.wanted, hgd]
  rw [if_pos hw]
  exact wp_append_own w s x t ho base e i z size bytes ht hi hz hsize hby hzs hsz v n xs hs hown ad m c news hx hl hnews h1 h63 hbytes hbase h

/-- The value for one bit. -/
def oneR (gs : List Nat) (f : Int → Int → Bool) (W b : Nat) : List Nat := Bs.ofP W (fun i => Bs.bit gs i || f b i) W
theorem fit_oneR (gs : List Nat) (f : Int → Int → Bool) (W b : Nat) : Bs.Fit W (oneR gs f W b) := Bs.fit_ofP _ _ _ (Nat.le_refl _)
theorem any_one (p : Nat → Bool) {W b : Nat} (hb : b < W) : (List.range W).any (fun x => decide (x = b) && p x) = p b := by
  rw [Bool.eq_iff_iff]
  simp only [List.any_eq_true, List.mem_range, Bool.and_eq_true, decide_eq_true_eq]
  exact ⟨fun ⟨x, _, e, h⟩ => by rw [← e]; exact h, fun h => ⟨b, hb, rfl, h⟩⟩
theorem valR_one (gs : List Nat) (f : Int → Int → Bool) {W b : Nat} (hb : b < W) : valR gs (Bs.put (Bs.emp W) b) f W = oneR gs f W b := by
  unfold valR oneR
  refine Bs.ofP_congr fun i _ => ?_
  have e : ∀ x, Bs.bit (Bs.put (Bs.emp W) b) x = decide (x = b) := fun x => by
    rw [Bs.bit_put _ _ _ (by rw [len_emp]; exact Bs.lt_nw hb), Bs.bit_emp]; simp
  simp only [e]
  rw [any_one (fun x => f x i) hb]

theorem info24 : (Try.prog.info? 47).map (fun i => (i.zero, i.size, i.bytes)) = some (some (.agg #[.int .i64 0, .slice none 0 0]), 2, 32) := by kernel_rfl
theorem two_new (w : World) (a b : Value) (ty : TypeId) : ∀ j u, [a, b][j]? = some u → (w.alloc (.cells #[a, b] ty)).cell? ((⟨w.heap.size, 0, none⟩ : Addr).add j) = some u := by
  intro j u h
  rw [add_of]
  match j, h with
  | 0, h => simp at h; subst h; rw [World.cell?_alloc_at _ _ _ _ rfl]; rfl
  | 1, h => simp at h; subst h; rw [World.cell?_alloc_at _ _ _ _ rfl]; rfl
  | j + 2, h => simp at h

theorem Fb.three {w : World} {g t : Nat} {a b c : Value} (h : Fb w g #[a, b, c] t) :
    w.cell? ⟨g, 0, none⟩ = some a ∧ w.cell? ⟨g, 1, none⟩ = some b ∧ w.cell? ⟨g, 2, none⟩ = some c := ⟨h.cell 0, h.cell 1, h.cell 2⟩

end Go.Proofs.Ytadkjnjibefocaa
