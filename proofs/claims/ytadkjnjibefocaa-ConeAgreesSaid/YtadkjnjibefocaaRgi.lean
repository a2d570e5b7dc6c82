/- A region that draws its order, by facts: each operation leaves a fact about its own slot that later ones keep; then every order ends alike. -/
import Derived.Test.YtadkjnjibefocaaProg
import Derived.Orders
import Derived.RegionTactic
namespace Go.Proofs.Ytadkjnjibefocaa
set_option linter.unusedVariables false
set_option linter.unusedSimpArgs false

/-- The slots ds of a frame hold these values. -/
def putL : List (Option Tmp) → (Nat → Value) → Nat → Act → Act
  | [], _, _, a => a
  | d :: ds, f, k, a => putL ds f (k + 1) (a.put d (f k))
def updV (f : Nat → Value) (i : Nat) (v : Value) : Nat → Value := fun j => if j = i then v else f j
theorem updV_self (f : Nat → Value) (i : Nat) (v : Value) : updV f i v i = v := by simp [updV]
theorem updV_ne (f : Nat → Value) {i j : Nat} (v : Value) (h : j ≠ i) : updV f i v j = f j := by simp [updV, h]
theorem putL_congr : ∀ (ds : List (Option Tmp)) (f g : Nat → Value) (k : Nat) (a : Act), (∀ j, k ≤ j → f j = g j) → putL ds f k a = putL ds g k a := by
  intro ds
  induction ds with
  | nil => intro f g k a _; rfl
  | cons d ds ih => intro f g k a h; rw [putL, putL, h k (Nat.le_refl _)]; exact ih f g (k + 1) _ fun j hj => h j (by omega)
theorem put_put (a : Act) (d : Option Tmp) (u v : Value) : (a.put d u).put d v = a.put d v := by
  cases d with
  | none => rfl
  | some d => simp [Act.put]
theorem putL_put : ∀ (ds : List (Option Tmp)) (f : Nat → Value) (k : Nat) (a : Act) (d : Option Tmp) (v : Value), (∀ x ∈ ds, ∀ y, x = some y → d ≠ some y) → (putL ds f k a).put d v = putL ds f k (a.put d v) := by
  intro ds
  induction ds with
  | nil => intro f k a d v _; rfl
  | cons x ds ih =>
    intro f k a d v h
    rw [putL, putL, ih f (k + 1) _ d v fun y hy => h y (by simp [hy])]
    congr 1
    exact Act.put_comm a _ _ fun y hy => h x (by simp) y hy
theorem putL_upd : ∀ (l1 : List (Option Tmp)) (d : Option Tmp) (l2 : List (Option Tmp)) (f : Nat → Value) (k : Nat) (a : Act) (v : Value), (∀ x ∈ l2, ∀ y, x = some y → d ≠ some y) →
    (putL (l1 ++ d :: l2) f k a).put d v = putL (l1 ++ d :: l2) (updV f (k + l1.length) v) k a := by
  intro l1
  induction l1 with
  | nil =>
    intro d l2 f k a v h
    simp only [List.nil_append, putL, List.length_nil, Nat.add_zero]
    rw [putL_put l2 f (k + 1) _ d v h, put_put, updV_self]
    exact putL_congr l2 _ _ (k + 1) _ fun j hj => (updV_ne f v (by omega)).symm
  | cons x l1 ih =>
    intro d l2 f k a v h
    rw [List.cons_append, putL, putL, ih d l2 f (k + 1) _ v h, updV_ne f v (by rw [List.length_cons]; omega), List.length_cons, show k + 1 + l1.length = k + (l1.length + 1) by omega]
def slotV (a : Act) : Option Tmp → Value
  | some d => a.eval (.tmp d)
  | none => undef
theorem put_self (a : Act) (d : Option Tmp) : a.put d (slotV a d) = a := by
  cases d with
  | none => rfl
  | some d =>
    unfold Act.put slotV Act.eval
    obtain ⟨t, ds⟩ := a
    simp only
    congr 1
    apply Array.ext
    · simp
    · intro i h1 h2
      rw [Array.getElem_setIfInBounds]
      split
      · next e => subst e; simp [Array.getD, h2]
      · rfl
theorem putL_self : ∀ (ds : List (Option Tmp)) (k : Nat) (a : Act), putL ds (fun j => slotV a ((ds[j - k]?).getD none)) k a = a := by
  intro ds
  induction ds with
  | nil => intro k a; rfl
  | cons d ds ih =>
    intro k a
    rw [putL]
    simp only [Nat.sub_self, List.getElem?_cons_zero, Option.getD_some]
    rw [put_self]
    refine Eq.trans (putL_congr ds _ _ (k + 1) a fun j hj => ?_) (ih (k + 1) a)
    rw [show j - k = (j - (k + 1)) + 1 by omega, List.getElem?_cons_succ]
/-- No two operations have one slot. -/
def distB : List (Option Tmp) → Bool
  | [] => true
  | d :: ds => (ds.all fun x => x.isNone || x != d) && distB ds
theorem dist_split : ∀ (l1 : List (Option Tmp)) (d : Option Tmp) (l2 : List (Option Tmp)), distB (l1 ++ d :: l2) = true → ∀ x ∈ l2, ∀ y, x = some y → d ≠ some y := by
  intro l1
  induction l1 with
  | nil =>
    intro d l2 h x hx y hy
    simp only [List.nil_append, distB, Bool.and_eq_true, List.all_eq_true] at h
    have := h.1 x hx
    subst hy
    simp at this
    exact fun e => this e.symm
  | cons z l1 ih =>
    intro d l2 h
    simp only [List.cons_append, distB, Bool.and_eq_true] at h
    exact ih d l2 h.2
theorem putL_at {ds : List (Option Tmp)} (hd : distB ds = true) {i : Nat} {d : Option Tmp} (hi : ds[i]? = some d) (f : Nat → Value) (a : Act) (v : Value) : (putL ds f 0 a).put d v = putL ds (updV f i v) 0 a := by
  obtain ⟨h1, rfl⟩ := List.getElem?_eq_some_iff.1 hi
  have e : ds = ds.take i ++ ds[i] :: ds.drop (i + 1) := by rw [← List.drop_eq_getElem_cons h1, List.take_append_drop]
  have := putL_upd (ds.take i) ds[i] (ds.drop (i + 1)) f 0 a v (dist_split _ _ _ (by rw [← e]; exact hd))
  rw [← e, List.length_take, Nat.min_eq_left (by omega), Nat.zero_add] at this
  exact this
/-- Each operation waits for earlier ones only. -/
def backB (ops : Array Oper) : Bool := (List.range ops.size).all fun i => match ops[i]? with | some o => o.after.all fun e => !Region.binds .any e || decide (e.on < i) | none => true
/-- The operations from m on wait for all before. -/
def tailB (ops : Array Oper) (m : Nat) : Bool := (List.range ops.size).all fun i => decide (i < m) || match ops[i]? with | some o => (List.range m).all fun j => o.after.any fun e => Region.binds .any e && decide (e.on = j) | none => true
theorem backB_spec {ops : Array Oper} (h : backB ops = true) {i : Nat} {o : Oper} (ho : ops[i]? = some o) : ∀ e ∈ o.after, Region.binds .any e = true → e.on < i := by
  intro e he hb
  have := List.all_eq_true.1 h i (List.mem_range.2 (Array.getElem?_eq_some_iff.1 ho).1)
  rw [ho] at this
  simp only [Array.all_eq_true_iff_forall_mem] at this
  have := this e he
  rw [hb] at this
  simpa using this
theorem tailB_spec {ops : Array Oper} {m : Nat} (h : tailB ops m = true) {i : Nat} {o : Oper} (ho : ops[i]? = some o) (hm : m ≤ i) : ∀ j, j < m → ∃ e ∈ o.after, Region.binds .any e = true ∧ e.on = j := by
  intro j hj
  have := List.all_eq_true.1 h i (List.mem_range.2 (Array.getElem?_eq_some_iff.1 ho).1)
  rw [ho] at this
  have hn : decide (i < m) = false := by simp; omega
  rw [hn, Bool.false_or] at this
  simp only [List.all_eq_true, List.mem_range] at this
  have := this j hj
  rw [Array.any_eq_true] at this
  obtain ⟨k, hk, h2⟩ := this
  simp only [Bool.and_eq_true, decide_eq_true_eq] at h2
  exact ⟨o.after[k], Array.getElem_mem _, h2.1, h2.2⟩
theorem getD_lt {a : Array Bool} {i : Nat} (d : Bool) (h : i < a.size) : a.getD i d = a[i] := by simp [Array.getD, h]
theorem count_set : ∀ (l : List Bool) (i : Nat), l[i]? = some false → (l.set i true).count false + 1 = l.count false := by
  intro l
  induction l with
  | nil => intro i h; simp at h
  | cons b l ih =>
    intro i h
    cases i with
    | zero => simp at h; subst h; simp
    | succ i =>
      have := ih i (by simpa using h)
      rw [List.set_cons_succ, List.count_cons, List.count_cons]
      omega
section
variable {P : Program} {ops : Array Oper} {Q : Exit → Act → World → Prop}
def tailArr (n m : Nat) : Array Bool := (List.replicate m true ++ List.replicate (n - m) false).toArray
theorem tail_count (n m : Nat) : (tailArr n m).toList.count false = n - m := by simp [tailArr, List.count_append, List.count_replicate]
theorem wpAny_facts (F : Nat → Value → World → Prop) (B : World → Prop) (use : Nat → Option Nat) (R : Nat → World → World → Prop) (m : Nat) (ds : List (Option Tmp)) (a0 : Act) (hds : ops.toList.map (·.dst) = ds) (hd : distB ds = true) (hb : backB ops = true) (ht : tailB ops m = true) (hm : m ≤ ops.size)
    (hst : ∀ j w w' i v, R j w w' → i ≠ j → use i ≠ some j → F i v w → F i v w')
    (hstep : ∀ (i : Nat) (o : Oper) (f : Nat → Value) (w : World), ops[i]? = some o → i < m → B w → (∀ e ∈ o.after, Region.binds .any e = true → use e.on = none ∨ use e.on = some i → F e.on (f e.on) w) → ∀ K : Act → World → Prop, (∀ v w', B w' → R i w w' → F i v w' → K ((putL ds f 0 a0).put o.dst v) w') → wpOp P ops Q i K (putL ds f 0 a0) w)
    (hend : ∀ (f : Nat → Value) (w : World), B w → (∀ i, i < m → use i = none → F i (f i) w) → wpAny P .any ops Q (ops.size - m) (tailArr ops.size m) (putL ds f 0 a0) w) :
    ∀ (fuel : Nat) (listed : Array Bool) (f : Nat → Value) (w : World), listed.size = ops.size → (∀ i, m ≤ i → i < ops.size → listed.getD i true = false) → B w → (∀ i, listed.getD i false = true → (∀ c, use i = some c → listed.getD c false = false) → F i (f i) w) → listed.toList.count false = fuel →
      wpAny P .any ops Q fuel listed (putL ds f 0 a0) w := by
  intro fuel
  induction fuel with
  | zero =>
    intro listed f w hs htl hB hF hc
    have hall : ∀ i, i < m → listed.getD i false = true := by
      intro i hi
      have h1 : i < listed.size := by omega
      rw [getD_lt _ h1]
      cases hv : listed[i] with
      | true => rfl
      | false => exact absurd (List.count_pos_iff.2 (Array.mem_toList_iff.2 (hv ▸ Array.getElem_mem h1))) (by omega)
    have e : listed = tailArr ops.size m := by
      apply Array.ext
      · simp [tailArr]; omega
      · intro i h1 h2
        by_cases him : i < m
        · have := hall i him
          rw [getD_lt _ h1] at this
          rw [this]
          simp [tailArr, List.getElem_append, him]
        · have := htl i (by omega) (by omega)
          rw [getD_lt _ h1] at this
          rw [this]
          simp [tailArr, List.getElem_append, him]
    have hn : ops.size - m = 0 := by
      rw [e, tail_count] at hc
      exact hc
    have := hend f w hB fun i hi hu => hF i (hall i hi) (fun c hc => by rw [hu] at hc; cases hc)
    rw [hn] at this
    rw [e]; exact this
  | succ fuel ih =>
    intro listed f w hs htl hB hF hc
    by_cases hall : ∀ i, i < m → listed.getD i false = true
    · have e : listed = tailArr ops.size m := by
        apply Array.ext
        · simp [tailArr]; omega
        · intro i h1 h2
          by_cases him : i < m
          · have := hall i him
            rw [getD_lt _ h1] at this
            rw [this]
            simp [tailArr, List.getElem_append, him]
          · have := htl i (by omega) (by omega)
            rw [getD_lt _ h1] at this
            rw [this]
            simp [tailArr, List.getElem_append, him]
      have hn : ops.size - m = fuel + 1 := by
        rw [e, tail_count] at hc
        exact hc
      have := hend f w hB fun i hi hu => hF i (hall i hi) (fun c hc => by rw [hu] at hc; cases hc)
      rw [hn] at this
      rw [e]; exact this
    · have hun : ∃ i, i < m ∧ listed.getD i false = false := by
        refine Classical.byContradiction fun hno => hall fun i hi => ?_
        cases hv : listed.getD i false with
        | true => rfl
        | false => exact absurd ⟨i, hi, hv⟩ hno
      -- the first that has not come up may come up
      have hmin : ∀ n i, i ≤ n → i < m → listed.getD i false = false → ∃ j, j < m ∧ listed.getD j false = false ∧ ∀ k, k < j → listed.getD k false = true := by
        intro n
        induction n with
        | zero => intro i hi him hv; exact ⟨i, him, hv, fun k hk => by omega⟩
        | succ n ihn =>
          intro i hi him hv
          by_cases hex : ∃ k, k < i ∧ listed.getD k false = false
          · obtain ⟨k, hk, hkv⟩ := hex
            exact ihn k (by omega) (by omega) hkv
          · refine ⟨i, him, hv, fun k hk => ?_⟩
            cases hkv : listed.getD k false with
            | true => rfl
            | false => exact absurd ⟨k, hk, hkv⟩ hex
      obtain ⟨i0, hi0, hv0⟩ := hun
      obtain ⟨j0, hj0, hj1, hj2⟩ := hmin i0 i0 (Nat.le_refl _) hi0 hv0
      have hgd : ∀ i, i < ops.size → listed.getD i true = listed.getD i false := by
        intro i hi
        rw [getD_lt true (show i < listed.size by omega), getD_lt false (show i < listed.size by omega)]
      obtain ⟨oj, hoj⟩ : ∃ o, ops[j0]? = some o := ⟨_, Array.getElem?_eq_getElem (by omega)⟩
      have hrj : j0 ∈ Region.ready .any ops listed := mem_ready.2 ⟨by rw [hgd j0 (by omega)]; exact hj1, oj, hoj, fun e he hbe => hj2 _ (backB_spec hb hoj e he hbe)⟩
      refine ⟨fun h => (by rw [h] at hrj; cases hrj), fun i hi => ?_⟩
      obtain ⟨hiu, o, ho, hafter⟩ := mem_ready.1 hi
      have hin : i < ops.size := (Array.getElem?_eq_some_iff.1 ho).1
      have him : i < m := by
        rcases Nat.lt_or_ge i m with h | h
        · exact h
        · exfalso
          obtain ⟨e, he, hbe, heo⟩ := tailB_spec ht ho h j0 hj0
          have := hafter e he hbe
          rw [heo, hj1] at this
          cases this
      refine hstep i o f w ho him hB (fun e he hbe hu => hF e.on (hafter e he hbe) (fun c hc => by
        rcases hu with hu | hu
        · rw [hu] at hc; cases hc
        · rw [hu] at hc; obtain rfl := Option.some.inj hc; rw [← hgd i hin]; exact hiu)) _ fun v w' hB' hR hFi => ?_
      have hdi : ds[i]? = some o.dst := by
        rw [← hds, List.getElem?_map, Array.getElem?_toList, ho]; rfl
      rw [putL_at hd hdi]
      have hlf : listed.toList[i]? = some false := by
        rw [Array.getElem?_toList, Array.getElem?_eq_getElem (by omega)]
        rw [getD_lt _ (by omega)] at hiu
        exact congrArg some hiu
      refine ih _ _ _ (by simp [hs]) (fun k hk hk2 => ?_) hB' (fun k hk hku => ?_) ?_
      · have hk3 : k < (listed.setIfInBounds i true).size := by rw [Array.size_setIfInBounds]; omega
        rw [getD_lt _ hk3, Array.getElem_setIfInBounds, if_neg (by omega)]
        have := htl k hk hk2
        rw [getD_lt _ (by omega)] at this
        exact this
      · by_cases e : k = i
        · subst e; rw [updV_self]; exact hFi
        · rw [updV_ne f v e]
          have hki : use k ≠ some i := fun h => by
            have := hku i h
            rw [getD_lt _ (by rw [Array.size_setIfInBounds]; omega), Array.getElem_setIfInBounds_self] at this
            cases this
          refine hst i w w' k _ hR e hki (hF k ?_ fun c hc => ?_)
          · rw [getD_set_ne false (by omega)] at hk
            exact hk
          · have := hku c hc
            rw [getD_set_ne false (by intro h; exact hki (h ▸ hc))] at this
            exact this
      · have := count_set listed.toList i hlf
        rw [Array.toList_setIfInBounds]
        omega
/-- The rule. -/
theorem wp_region_facts {id : Nat} {a0 : Act} {w : World} (F : Nat → Value → World → Prop) (B : World → Prop) (use : Nat → Option Nat) (R : Nat → World → World → Prop) (K0 : Act → World → Prop) (hK0 : ∀ a w, K0 a w → Q .normal a w) (n m : Nat) (ds : List (Option Tmp)) (hn : ops.size = n) (hmix : P.follows .mixedOrders = true) (hds : ops.toList.map (·.dst) = ds) (hd : distB ds = true) (hb : backB ops = true) (ht : tailB ops m = true) (hm : m ≤ n)
    (hst : ∀ j w w' i v, R j w w' → i ≠ j → use i ≠ some j → F i v w → F i v w') (hB : B w.drew)
    (hstep : ∀ (i : Nat) (o : Oper) (f : Nat → Value) (w : World), ops[i]? = some o → i < m → B w → (∀ e ∈ o.after, Region.binds .any e = true → use e.on = none ∨ use e.on = some i → F e.on (f e.on) w) → ∀ K : Act → World → Prop, (∀ v w', B w' → R i w w' → F i v w' → K ((putL ds f 0 a0).put o.dst v) w') → wpOp P ops Q i K (putL ds f 0 a0) w)
    (hend : ∀ (Q2 : Exit → Act → World → Prop), (∀ a w, K0 a w → Q2 .normal a w) → ∀ (f : Nat → Value) (w : World), B w → (∀ i, i < m → use i = none → F i (f i) w) → wpAny P .any ops Q2 (n - m) (tailArr n m) (putL ds f 0 a0) w) :
    (Code.region id ops true).wp P Q a0 w := by
  subst hn
  refine wp_region_any hmix ?_
  have := wpAny_facts F B use R m ds a0 hds hd hb ht hm hst hstep (hend Q hK0) ops.size (Array.replicate ops.size false) (fun j => slotV a0 ((ds[j - 0]?).getD none)) w.drew (by simp)
    (fun i _ hi => by simp [Array.getD, hi]) hB (fun i hi _ => by simp [Array.getD] at hi) (by simp)
  rw [putL_self] at this
  exact this
/-- The last operation. -/
theorem tail_one {n m i : Nat} {o : Oper} {a : Act} {w : World} (hr : Region.ready .any ops (tailArr n m) = [i]) (hr2 : Region.ready .any ops ((tailArr n m).setIfInBounds i true) = []) (ho : ops[i]? = some o) {K0 : Act → World → Prop} (hq : ∀ a w, K0 a w → Q .normal a w)
    (h : ∀ K' : Act → World → Prop, (∀ a w, K0 a w → K' a w) → if Region.wanted o (yielded ops a.tmps) = true then Oper.wp P o a w K' Q else K' (a.put o.dst undef) w) : wpAny P .any ops Q 1 (tailArr n m) a w := by
  refine ⟨fun h0 => (by rw [hr] at h0; cases h0), fun j hj => ?_⟩
  rw [hr] at hj
  obtain rfl : j = i := by simpa using hj
  exact wpOp_step ho fun K' hK => h K' fun a w hk => hK a w ⟨hr2, hq a w hk⟩
theorem wpOp_of {i : Nat} {o : Oper} {K : Act → World → Prop} {a : Act} {w : World} (ho : ops[i]? = some o) (h : if Region.wanted o (yielded ops a.tmps) = true then Oper.wp P o a w K Q else K (a.put o.dst undef) w) : wpOp P ops Q i K a w := by
  unfold wpOp
  rw [ho]
  show if Region.wanted o (yielded ops a.tmps) = true then _ else _
  split
  · rename_i hw; rw [if_pos hw] at h; exact .inl h
  · rename_i hw; rw [if_neg hw] at h; exact h
/-- The last two. -/
theorem tail_two {n m i j : Nat} {o1 o2 : Oper} {a : Act} {w : World} (hr : Region.ready .any ops (tailArr n m) = [i]) (hr2 : Region.ready .any ops ((tailArr n m).setIfInBounds i true) = [j]) (hr3 : Region.ready .any ops (((tailArr n m).setIfInBounds i true).setIfInBounds j true) = [])
    (ho : ops[i]? = some o1) (ho2 : ops[j]? = some o2) {K0 : Act → World → Prop} (hq : ∀ a w, K0 a w → Q .normal a w)
    (h : if Region.wanted o1 (yielded ops a.tmps) = true then Oper.wp P o1 a w (fun a w => if Region.wanted o2 (yielded ops a.tmps) = true then Oper.wp P o2 a w K0 Q else K0 (a.put o2.dst undef) w) Q
      else (if Region.wanted o2 (yielded ops (a.put o1.dst undef).tmps) = true then Oper.wp P o2 (a.put o1.dst undef) w K0 Q else K0 ((a.put o1.dst undef).put o2.dst undef) w)) : wpAny P .any ops Q 2 (tailArr n m) a w := by
  refine ⟨fun h0 => (by rw [hr] at h0; cases h0), fun k hk => ?_⟩
  rw [hr] at hk
  obtain rfl : k = i := by simpa using hk
  refine wpOp_mono (fun a w h2 => ?_) (wpOp_of (K := fun a w => if Region.wanted o2 (yielded ops a.tmps) = true then Oper.wp P o2 a w K0 Q else K0 (a.put o2.dst undef) w) ho h)
  refine ⟨fun h0 => (by rw [hr2] at h0; cases h0), fun k hk => ?_⟩
  rw [hr2] at hk
  obtain rfl : k = j := by simpa using hk
  exact wpOp_mono (fun a w hk => ⟨hr3, hq a w hk⟩) (wpOp_of ho2 h2)
end
end Go.Proofs.Ytadkjnjibefocaa
