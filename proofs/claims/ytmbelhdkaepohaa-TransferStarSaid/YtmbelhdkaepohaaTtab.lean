/- The reference's table: a function by its values. -/
import Derived.Test.YtmbelhdkaepohaaTap
import Derived.Test.YtmbelhdkaepohaaMembers
import Derived.Deep.RegionLaw
import Derived.Deep.DeepMust
namespace Go.Proofs.Ytmbelhdkaepohaa
set_option maxRecDepth 20000
open Go.ChangeShapes Go.WideShapes Go.ChangeAt Go.RowKit

/-- The cells of a row of sets. -/
def setCells (W : Int) (l : List (Option Addr × Nat × Nat)) : List Value := l.flatMap fun p => [.int .i64 W, .slice p.1 p.2.1 p.2.2]
theorem setCells_snoc (W : Int) (l : List (Option Addr × Nat × Nat)) (p : Option Addr × Nat × Nat) : setCells W (l ++ [p]) = setCells W l ++ [.int .i64 W, .slice p.1 p.2.1 p.2.2] := by
  simp [setCells]
/-- A row of its own that holds n sets. -/
def Ones (w : World) (base B0 : Nat) (W : Int) (v : Value) (one : Nat → List Nat) (n : Nat) : Prop :=
  ∃ l : List (Option Addr × Nat × Nat), l.length = n ∧ w.ownsRow base 25 2 v n (setCells W l) ∧ ∀ i p, l[i]? = some p → From w B0 p.1 (one i) ∧ p.2.1 = (one i).length
section
variable {w w' : World} {base B0 : Nat} {W : Int} {v : Value} {one : Nat → List Nat} {n : Nat}
theorem Ones.nil (w : World) (base B0 : Nat) (W : Int) (one : Nat → List Nat) : Ones w base B0 W (.slice none 0 0) one 0 :=
  ⟨[], rfl, World.ownsRow_nil _ _ _ _, fun i p h => by simp at h⟩
theorem Ones.below (h : Ones w base B0 W v one n) (hb : Below w.heap.size w w') (hB : B0 ≤ w.heap.size) : Ones w' base B0 W v one n := by
  obtain ⟨l, h1, h2, h3⟩ := h
  exact ⟨l, h1, own_below h2 hb, fun i p hp => ⟨(h3 i p hp).1.below hb hB, (h3 i p hp).2⟩⟩
theorem own_not_row {ty : TypeId} (hty : ty ≠ 66) {xs : List Value} {k : Nat} (h : w.ownsRow base ty k v n xs) {g : Nat} {zs : List Nat} (hr : Row w g zs) : some g ≠ v.ownBlock := by
  rcases h.2 with ⟨rfl, _⟩ | ⟨g', cap, cur, rfl, _, hg, _⟩
  · simp [Value.ownBlock]
  · intro e
    simp only [Value.ownBlock, Option.some.injEq] at e
    subst e
    unfold Row at hr
    rw [hr] at hg
    injection hg with hg
    injection hg with _ hg
    exact hty hg.symm
theorem own_base {ty : TypeId} {k : Nat} {xs : List Value} (h : w.ownsRow base ty k v n xs) : ∀ g, v.ownBlock = some g → base ≤ g := by
  intro g hg
  rcases h.2 with ⟨rfl, _⟩ | ⟨g', cap, cur, rfl, hb, _⟩
  · simp [Value.ownBlock] at hg
  · simp only [Value.ownBlock, Option.some.injEq] at hg; omega
theorem Ones.grow {l : List (Option Addr × Nat × Nat)} {v' : Value} {A : Option Addr} {m c : Nat} (o : Obj) (h1 : l.length = n) (h2 : w.ownsRow base 25 2 v n (setCells W l)) (h3 : ∀ i p, l[i]? = some p → From w B0 p.1 (one i) ∧ p.2.1 = (one i).length)
    (hB : B0 ≤ w.heap.size) (hbase : B0 ≤ base) (hA : From w B0 A (one n)) (hm : m = (one n).length)
    (ho : w'.ownsRow base 25 2 v' (n + 1) (setCells W l ++ [.int .i64 W, .slice A m c])) (hg : (w.alloc o).grownBy w' v.ownBlock) : Ones w' base B0 W v' one (n + 1) := by
  have h2' := h2.alloc o
  have key : ∀ A zs, From w B0 A zs → From w' B0 A zs := fun A zs hf =>
    (hf.below ((Below.refl _ _).alloc (Nat.le_refl _) o) hB).grown hg (by simp only [World.size_alloc]; omega) (fun k hk => by have := own_base h2 k hk; omega) (fun g hr => own_not_row (by decide) h2' hr)
  refine ⟨l ++ [(A, m, c)], by simp [h1], by rw [setCells_snoc]; exact ho, fun i p hp => ?_⟩
  rcases Nat.lt_or_ge i n with hi | hi
  · rw [List.getElem?_append_left (by omega)] at hp
    exact ⟨key _ _ (h3 i p hp).1, (h3 i p hp).2⟩
  · rw [List.getElem?_append_right (by omega)] at hp
    have hi0 : i = n := by
      rcases Nat.eq_zero_or_pos (i - l.length) with h0 | h0
      · omega
      · rw [List.getElem?_eq_none (by simp; omega)] at hp; cases hp
    subst hi0
    rw [h1, Nat.sub_self] at hp
    simp only [List.getElem?_cons_zero, Option.some.injEq] at hp
    subst hp
    exact ⟨key _ _ hA, hm⟩
end

theorem setCell_grown (w : World) (p : Addr) (u : Value) : w.grownBy (w.setCell p u) (some p.block) :=
  ⟨rfl, rfl, rfl, by simp [World.setCell], fun k _ hk => Below.heap_setCell w p u k (by rintro rfl; exact hk rfl)⟩
theorem Fb.set {w : World} {g t : Nat} {cs : Array Value} (h : Fb w g cs t) (j : Nat) (u : Value) : Fb (w.setCell ⟨g, j, none⟩ u) g (cs.setIfInBounds j u) t := by
  unfold Fb at h ⊢
  simp [World.setCell, Array.getElem?_modify, h]
theorem Fb.row_ne {w : World} {g t : Nat} {cs : Array Value} (h : Fb w g cs t) (ht : t ≠ 66) {k : Nat} {zs : List Nat} (hr : Row w k zs) : k ≠ g := by
  rintro rfl
  unfold Fb at h; unfold Row at hr
  rw [h] at hr
  injection hr with hr
  injection hr with _ hr
  exact ht hr
theorem Ones.store {w : World} {base B0 : Nat} {W : Int} {v : Value} {one : Nat → List Nat} {n g t : Nat} {cs : Array Value} (h : Ones w base B0 W v one n) (hf : Fb w g cs t) (ht : t ≠ 66) (hg : B0 ≤ g) (hb : g < base) (hB : B0 ≤ w.heap.size) (j : Nat) (u : Value) :
    Ones (w.setCell ⟨g, j, none⟩ u) base B0 W v one n := by
  obtain ⟨l, h1, h2, h3⟩ := h
  have hgr := setCell_grown w ⟨g, j, none⟩ u
  refine ⟨l, h1, h2.kept hgr ?_, fun i p hp => ⟨(h3 i p hp).1.grown hgr hB (fun k hk => by simp only [Option.some.injEq] at hk; omega) (fun k hr => by have := hf.row_ne ht hr; simpa using this), (h3 i p hp).2⟩⟩
  cases hv : v.ownBlock with
  | none => exact .inl rfl
  | some k => exact .inr (by have := own_base h2 k hv; simp only [ne_eq, Option.some.injEq]; omega)
theorem Ones.slice {w : World} {base B0 : Nat} {W : Int} {v : Value} {one : Nat → List Nat} {n : Nat} (h : Ones w base B0 W v one n) : ∃ (A : Option Addr) (c : Nat), v = .slice A n c := by
  obtain ⟨l, h1, h2, h3⟩ := h
  rcases h2.2 with ⟨rfl, rfl⟩ | ⟨g, cap, cur, rfl, _⟩
  · exact ⟨none, 0, rfl⟩
  · exact ⟨_, cap, rfl⟩

/-- append onto a row of the call's own, as a step of a region. -/
theorem step_appv {P : Program} {ops : Array Oper} {o : Oper} {a : Act} {w : World} {K : Act → World → Prop} {Q : Exit → Act → World → Prop} {E : Prop} (hgd : o.guard = none) (s x : Operand) (t : TypeId)
    (ho : o.op = .call { callee := .builtin .append, args := #[s, x], argTypes := #[t, t] })
    (base : Nat) (e : TypeId) (i : TypeInfo) (z : Value) (size bytes : Nat) (ht : P.underlying t = some (.slice e)) (hi : P.info? e = some i) (hz : i.zero = some z)
    (hsize : i.size = size) (hby : i.bytes = bytes) (hzs : z.cells.size = size) (hsz : 0 < size)
    (v : Value) (n : Nat) (xs : List Value) (hs : a.eval s = v) (hown : w.ownsRow base e size v n xs)
    (ad : Addr) (m c : Nat) (news : List Value) (hx : a.eval x = .slice (some ad) m c) (hl : news.length = m * size) (hnews : ∀ j u, news[j]? = some u → w.cell? (ad.add j) = some u) (h1 : ∀ u ∈ news, u.oneCell' = true)
    (h63 : n + m ≤ maxLen) (hbytes : (n + m) * bytes ≤ 140737488355328) (hbase : base ≤ w.heap.size)
    (h : ∀ v' w', w'.ownsRow base e size v' (n + m) (xs ++ news) → w.grownBy w' v.ownBlock → (v' = .slice none 0 0 ↔ v = .slice none 0 0 ∧ m = 0) → K (a.put o.dst v') w') :
    if Region.wanted o (yielded ops a.tmps) = true then Oper.wp P o a w K Q else E := by
  have hw : Region.wanted o (yielded ops a.tmps) = true := by simp [Region.wanted, hgd]
  rw [if_pos hw]
  exact wp_append_own w s x t ho base e i z size bytes ht hi hz hsize hby hzs hsz v n xs hs hown ad m c news hx hl hnews h1 h63 hbytes hbase h

/-- The value for one bit. -/
def oneR (gs : List Nat) (f : Int → Int → Bool) (W b : Nat) : List Nat := Bs.ofP W (fun i => Bs.bit gs i || f b i) W
theorem fit_oneR (gs : List Nat) (f : Int → Int → Bool) (W b : Nat) : Bs.Fit W (oneR gs f W b) := Bs.fit_ofP _ _ _ (Nat.le_refl _)
theorem any_one (p : Nat → Bool) {W b : Nat} (hb : b < W) : (List.range W).any (fun x => decide (x = b) && p x) = p b := by
  rw [Bool.eq_iff_iff]
  simp only [List.any_eq_true, List.mem_range, Bool.and_eq_true, decide_eq_true_eq]
  exact ⟨fun ⟨x, _, e, h⟩ => by rw [← e]; exact h, fun h => ⟨b, hb, rfl, h⟩⟩
theorem valR_one (gs : List Nat) (f : Int → Int → Bool) {W b : Nat} (hb : b < W) : valR gs (Bs.put (Bs.emp W) b) f W = oneR gs f W b := by
  unfold valR oneR
  refine Bs.ofP_congr fun i _ => ?_
  have e : ∀ x, Bs.bit (Bs.put (Bs.emp W) b) x = decide (x = b) := fun x => by
    rw [Bs.bit_put _ _ _ (by rw [len_emp]; exact Bs.lt_nw hb), Bs.bit_emp]; simp
  simp only [e]
  rw [any_one (fun x => f x i) hb]

theorem info24 : (Try.prog.info? 25).map (fun i => (i.zero, i.size, i.bytes)) = some (some (.agg #[.int .i64 0, .slice none 0 0]), 2, 32) := by kernel_rfl
theorem two_new (w : World) (a b : Value) (ty : TypeId) : ∀ j u, [a, b][j]? = some u → (w.alloc (.cells #[a, b] ty)).cell? ((⟨w.heap.size, 0, none⟩ : Addr).add j) = some u := by
  intro j u h
  rw [add_of]
  match j, h with
  | 0, h => simp at h; subst h; rw [World.cell?_alloc_at _ _ _ _ rfl]; rfl
  | 1, h => simp at h; subst h; rw [World.cell?_alloc_at _ _ _ _ rfl]; rfl
  | j + 2, h => simp at h

/-- While a table is made. -/
def Tabling (w : World) (B0 W : Nat) (A B C : Option Addr) (n c m d k q : Nat) (v : Value) (one : Nat → List Nat) (b : Nat) (wr : World) : Prop :=
  Fb wr w.heap.size #[.int .i64 W, .slice A n c, .int .i64 W, .slice B m d, .slice C k q] 28 ∧ Fb wr (w.heap.size + 1) #[.int .i64 0, .slice none 0 0, .slice none 0 0] 53 ∧
    Fb wr (w.heap.size + 1 + 1) #[.int .i64 W, .slice A n c, v] 53 ∧ Ones wr (w.heap.size + 1 + 1 + 1) B0 W v one b ∧ Below w.heap.size w wr ∧ B0 ≤ w.heap.size
theorem Tabling.below {w wr w' : World} {B0 W : Nat} {A B C : Option Addr} {n c m d k q : Nat} {v : Value} {one : Nat → List Nat} {b : Nat} (h : Tabling w B0 W A B C n c m d k q v one b wr) (hb : Below wr.heap.size wr w') : Tabling w B0 W A B C n c m d k q v one b w' :=
  ⟨h.1.below hb h.1.lt, h.2.1.below hb h.2.1.lt, h.2.2.1.below hb h.2.2.1.lt, h.2.2.2.1.below hb (Nat.le_trans h.2.2.2.2.2 h.2.2.2.2.1.size), h.2.2.2.2.1.trans (hb.mono h.2.2.2.2.1.size), h.2.2.2.2.2⟩
theorem Tabling.push {w w8 w9 : World} {B0 W : Nat} {A B C : Option Addr} {n c m d k q : Nat} {v v' : Value} {one : Nat → List Nat} {b : Nat} {A8 : Option Addr} {n8 c8 : Nat} {l : List (Option Addr × Nat × Nat)} (o : Obj)
    (h : Tabling w B0 W A B C n c m d k q v one b w8) (h1 : l.length = b) (h2 : w8.ownsRow (w.heap.size + 1 + 1 + 1) 25 2 v b (setCells W l)) (h3 : ∀ i p, l[i]? = some p → From w8 B0 p.1 (one i) ∧ p.2.1 = (one i).length)
    (hA : From w8 B0 A8 (one b)) (hm : n8 = (one b).length) (ho : w9.ownsRow (w.heap.size + 1 + 1 + 1) 25 2 v' (b + 1) (setCells W l ++ [.int .i64 W, .slice A8 n8 c8])) (hg : (w8.alloc o).grownBy w9 v.ownBlock) :
    (w9.cell? ⟨w.heap.size + 1 + 1, 2, none⟩ = some v ∧ w9.frozen? ⟨w.heap.size + 1 + 1, 2, none⟩ = false) ∧ Tabling w B0 W A B C n c m d k q v' one (b + 1) (w9.setCell ⟨w.heap.size + 1 + 1, 2, none⟩ v') := by
  obtain ⟨f1, f2, f3, f4, f5, f6⟩ := h
  have e1 := (f1.alloc o).grown hg (own_row h2 (by omega))
  have e2 := (f2.alloc o).grown hg (own_row h2 (by omega))
  have e3 := (f3.alloc o).grown hg (own_row h2 (by omega))
  have hz := f5.size
  have e4 := Ones.grow o h1 h2 h3 (by omega) (by omega) hA hm ho hg
  have e5 : Below w.heap.size w w9 := (f5.alloc hz o).grown hg (by simp only [World.size_alloc]; omega) (fun k hk => by have := own_base h2 k hk; omega)
  have hz9 := e5.size
  exact ⟨⟨e3.cell 2, e3.frozen 2⟩, e1.far (by simp; omega) _, e2.far (by simp) _, e3.set 2 v', e4.store e3 (by decide) (by omega) (by omega) (by omega) 2 v', e5.setCell (by simp; omega) _, f6⟩
theorem Fb.three {w : World} {g t : Nat} {a b c : Value} (h : Fb w g #[a, b, c] t) :
    w.cell? ⟨g, 0, none⟩ = some a ∧ w.cell? ⟨g, 1, none⟩ = some b ∧ w.cell? ⟨g, 2, none⟩ = some c := ⟨h.cell 0, h.cell 1, h.cell 2⟩

set_option maxHeartbeats 1600000 in
theorem refTable0_any (B0 W : Nat) (A B C : Option Addr) (n c m d k q : Nat) (gs ks : List Nat) (cs : List (Int × Int)) (w : World)
    (hA : Arg w A n gs) (hB : Arg w B m ks) (hC : ArgC w C k cs) (hk : k ≤ maxLen) (hW : W ≤ 256) (hg : Bs.Fit W gs) (hB0 : B0 ≤ w.heap.size) (hA0 : At w B0 A (words gs)) :
    Calls Try.prog 21 #[.agg #[.int .i64 W, .slice A n c, .int .i64 W, .slice B m d, .slice C k q]] w
      fun e w' => ∃ v : Value, e = .returned (.agg #[.int .i64 W, .slice A n c, v]) ∧ Ones w' (w.heap.size + 1 + 1 + 1) B0 W v (oneR gs (folB W ks cs) W) W ∧ Below w.heap.size w w' := by
  obtain ⟨i0, hi, hz0, hz1, hz2⟩ := info_parts info24
  have HA := hid hA; have HB := hid hB; have HC := hid hC; have HK := hid hk; have HG := hid hg; have HA0 := hid hA0; have Hi := hid hi; have Hz0 := hid hz0; have Hz1 := hid hz1; have Hz2 := hid hz2
  clear hA hB hC hk hg hi hz0 hz1 hz2 hA0
  have h0 : Tabling w B0 W A B C n c m d k q (.slice none 0 0) (oneR gs (folB W ks cs) W) 0 (((w.alloc (.cells #[.int .i64 W, .slice A n c, .int .i64 W, .slice B m d, .slice C k q] 28)).alloc (.cells #[.int .i64 0, .slice none 0 0, .slice none 0 0] 53)).alloc (.cells #[.int .i64 W, .slice A n c, .slice none 0 0] 53)) := by
    have hS := (Fb.new (w.alloc (.cells #[.int .i64 W, .slice A n c, .int .i64 W, .slice B m d, .slice C k q] 28)) #[.int .i64 0, .slice none 0 0, .slice none 0 0] 53).alloc (.cells #[.int .i64 W, .slice A n c, .slice none 0 0] 53)
    have hR := Fb.new ((w.alloc (.cells #[.int .i64 W, .slice A n c, .int .i64 W, .slice B m d, .slice C k q] 28)).alloc (.cells #[.int .i64 0, .slice none 0 0, .slice none 0 0] 53)) #[.int .i64 W, .slice A n c, .slice none 0 0] 53
    simp only [World.size_alloc] at hS hR
    exact ⟨((Fb.new w _ 28).alloc _).alloc _, hS, hR, Ones.nil _ _ _ _ _, below3 w _ _ _, hB0⟩
  have H0 := hid h0
  clear h0
  go_enter Try.func21, Try.ntmps21
  go_wp2_with fail
  go_loopw [4] (fun i wr => ∃ (b : Nat) (v : Value), b ≤ W ∧ i = .int .i64 b ∧ Hid (Tabling w B0 W A B C n c m d k q v (oneR gs (folB W ks cs) W) b wr)) (fun i _ => W - (intOf i).toNat)
  case atStart => exact ⟨0, _, by omega, rfl, H0⟩
  case round =>
    obtain ⟨b, v, hb, rfl, hT⟩ := hrel
    obtain ⟨t0, t1, t2, t3, t4⟩ := hT.out.1.five
    obtain ⟨x0, x1, x2⟩ := hT.out.2.2.1.three
    by_cases hlt : b < W
    · have H1 := hid (hT.out.below (below_drewN (Below.refl _ _) 1))
      change Hid (Tabling w B0 W A B C n c m d k q v (oneR gs (folB W ks cs) W) b wr.drew) at H1
      have HV := hid (valR_one gs (folB W ks cs) hlt)
      go_wp2_with fail
      go_region_law (first
        | ((refine step_appv (by rfl) _ _ 51 (by rfl) (w.heap.size + 1 + 1 + 1) 25 i0 _ 2 32 Try.underlying51 Hi.out Hz0.out Hz1.out Hz2.out (by rfl) (by decide) v b (setCells W l) (by rfl) (by exact hl2.out.alloc _)
              ⟨w8.heap.size, 0, none⟩ 1 1 [.int .i64 (W : Int), .slice A8 n8 c8] (by rfl) rfl (by exact two_new _ _ _ _) (by intro u hu; simp at hu; rcases hu with rfl | rfl <;> rfl) (by unfold maxLen; omega) (by omega) (by simp only [World.size_alloc]; omega) ?_)
           intro v' w9 hown9 hgr9 hnil9
           obtain ⟨⟨y0, y1⟩, hT9⟩ := Tabling.push _ H8.out hl1 hl2.out hl3.out hA8.out hn8.out hown9 hgr9
           have H9 := hid hT9
           obtain ⟨A9, c9, rfl⟩ := H9.out.2.2.2.1.slice
           clear hown9 hgr9 hnil9 hT9)
        | (go_simp
           go_at_call 17
           go_must (
           refine (refEmpty_any W _ (by omega)).mono ?_
           rintro e w5 ⟨g5, rfl, hg5, hr5, hb5⟩
           rw [len_emp]
           have H5 := hid (H1.out.below hb5)
           have hr5' := hid hr5
           obtain ⟨t0, t1, t2, t3, t4⟩ := H5.out.1.five
           obtain ⟨x0, x1, x2⟩ := H5.out.2.2.1.three
           clear hb5 hr5))
        | (go_simp
           go_at_call 18
           go_must (
           refine (refPut_any W _ _ _ (Bs.emp W) b _ ⟨(hr5'.out.arg (Bs.fit_emp W).ok).lies, len_emp W, (Bs.fit_emp W).ok⟩ (by omega) (len_emp W) hlt).mono ?_
           rintro e w6 ⟨g6, rfl, hg6, hr6, hb6⟩
           rw [Bs.length_put, len_emp]
           have H6 := hid (H5.out.below hb6)
           have hr6' := hid hr6
           obtain ⟨t0, t1, t2, t3, t4⟩ := H6.out.1.five
           obtain ⟨x0, x1, x2⟩ := H6.out.2.2.1.three
           clear hb6 hr6))
        | (go_simp
           go_at_call 45
           go_must (
           refine (refValue_any B0 W A B C (some ⟨g6, 0, none⟩) n c m d k q (Bs.nw W) (Bs.nw W) gs ks (Bs.put (Bs.emp W) b) cs _ (HA.out.below H6.out.2.2.2.2.1) (HB.out.below H6.out.2.2.2.2.1) (HC.out.below H6.out.2.2.2.2.1) ⟨(hr6'.out.arg (Bs.fit_put (Bs.fit_emp W) hlt).ok).lies, (Bs.fit_put (Bs.fit_emp W) hlt).len, (Bs.fit_put (Bs.fit_emp W) hlt).ok⟩ HK.out hW HG.out (Bs.fit_put (Bs.fit_emp W) hlt) (Nat.le_trans H6.out.2.2.2.2.2 H6.out.2.2.2.2.1.size) (HA0.out.below (H6.out.2.2.2.2.1.mono H6.out.2.2.2.2.2) (Nat.le_refl _))).mono ?_
           rw [HV.out]
           rintro e w8 ⟨A8, n8, c8, rfl, ha8, hf8, hb8⟩
           have H8 := hid (H6.out.below hb8)
           have hA8 := hid hf8
           have hn8 := hid ha8.len.symm
           have hz8 := hb8.size
           have hz6 := H6.out.2.2.1.lt
           have hlt8 := H8.out.2.2.1.lt
           have hlt80 := H8.out.1.lt
           obtain ⟨l, hl1, hl2, hl3⟩ := H8.out.2.2.2.1
           have hl2 := hid hl2
           have hl3 := hid hl3
           obtain ⟨t0, t1, t2, t3, t4⟩ := H8.out.1.five
           obtain ⟨x0, x1, x2⟩ := H8.out.2.2.1.three
           clear hb8 hf8 ha8)))
      all_goals
        clear t0 t1 t2 t3 t4 x0 x1 x2 y0 y1
        go_wp2_with fail
        go_roundw
        case rel => exact ⟨b + 1, _, by omega, by go_num, H9⟩
        case measure => simp [intOf]; omega
    · have hbW : b = W := by omega
      subst hbW
      obtain ⟨r0, r1, r2⟩ := hT.out.2.1.three
      have f0 := hT.out.2.1.frozen 0
      have f1 := hT.out.2.1.frozen 1
      have f2 := hT.out.2.1.frozen 2
      obtain ⟨Av, cv, rfl⟩ := hT.out.2.2.2.1.slice
      have hF := hT.out.2.1
      have hO := hT.out.2.2.2.1
      have hB0 := hT.out.2.2.2.2.2
      have hS := Nat.le_trans hB0 hT.out.2.2.2.2.1.size
      have Fin := hid (((hO.store hF (by decide) (by omega) (by omega) hS 0 (.int .i64 b)).store (hF.set 0 (.int .i64 b)) (by decide) (by omega) (by omega) (by simpa [World.setCell] using hS) 1 (.slice A n c)).store ((hF.set 0 (.int .i64 b)).set 1 (.slice A n c)) (by decide) (by omega) (by omega) (by simpa [World.setCell] using hS) 2 (.slice Av b cv))
      have FinB := hid (((hT.out.2.2.2.2.1.setCell (p := ⟨w.heap.size + 1, 0, none⟩) (by simp) (.int .i64 b)).setCell (p := ⟨w.heap.size + 1, 1, none⟩) (by simp) (.slice A n c)).setCell (p := ⟨w.heap.size + 1, 2, none⟩) (by simp) (.slice Av b cv))
      clear hF hO hS hB0
      go_wp2_with fail
      exact bodyPost_ret (v := .agg #[.int .i64 b, .slice A n c, .slice Av b cv]) (by simp [results, Try.results21, go_sem, r0, r1, r2]) rfl ⟨_, rfl, Fin.out, FinB.out⟩
theorem refTable_any (W : Nat) (A B C : Option Addr) (n c m d k q : Nat) (gs ks : List Nat) (cs : List (Int × Int)) (w : World)
    (hA : Arg w A n gs) (hB : Arg w B m ks) (hC : ArgC w C k cs) (hk : k ≤ maxLen) (hW : W ≤ 256) (hg : Bs.Fit W gs) :
    Calls Try.prog 21 #[.agg #[.int .i64 W, .slice A n c, .int .i64 W, .slice B m d, .slice C k q]] w
      fun e w' => ∃ v : Value, e = .returned (.agg #[.int .i64 W, .slice A n c, v]) ∧ Ones w' (w.heap.size + 1 + 1 + 1) w.heap.size W v (oneR gs (folB W ks cs) W) W ∧ Below w.heap.size w w' :=
  refTable0_any w.heap.size W A B C n c m d k q gs ks cs w hA hB hC hk hW hg (Nat.le_refl _) hA.lies
end Go.Proofs.Ytmbelhdkaepohaa
