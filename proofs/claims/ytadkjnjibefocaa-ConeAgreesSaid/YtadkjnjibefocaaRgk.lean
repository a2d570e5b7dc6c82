/- A region that draws its order, by facts: a fact may speak of all slots, and need not be kept by operations that it waited for. -/
import Derived.Test.YtadkjnjibefocaaRgg
namespace Go.Proofs.Ytadkjnjibefocaa
set_option linter.unusedVariables false
set_option linter.unusedSimpArgs false
section
variable {P : Program} {ops : Array Oper} {Q : Exit → Act → World → Prop}
theorem wpAny_factsI (G : Nat → World → Prop) (F : Nat → (Nat → Value) → World → Prop) (B : World → Prop) (use : Nat → Option Nat) (R : Nat → World → World → Prop) (m : Nat) (ds : List (Option Tmp)) (a0 : Act) (hds : ops.toList.map (·.dst) = ds) (hd : distB ds = true) (hb : backB ops = true) (ht : tailB2 ops m = true) (hm : m ≤ ops.size)
    (hst : ∀ j v w w' i f, R j w w' → i ≠ j → use i ≠ some j → (reachL ops 5 i).contains j = false → F i f w → F i (updV f j v) w')
    (hstG : ∀ j w w' c, R j w w' → c ≠ j → (reachL ops 5 j).contains c = false → G c w → G c w')
    (hstep : ∀ (i : Nat) (o : Oper) (f : Nat → Value) (w : World), ops[i]? = some o → i < m → B w → G i w → (∀ e ∈ o.after, Region.binds .any e = true → use e.on = none ∨ use e.on = some i → F e.on f w) → ∀ K : Act → World → Prop, (∀ v w', B w' → R i w w' → F i (updV f i v) w' → K ((putL ds f 0 a0).put o.dst v) w') → wpOp P ops Q i K (putL ds f 0 a0) w)
    (hend : ∀ (f : Nat → Value) (w : World), B w → (∀ i, i < m → use i = none → F i f w) → wpAny P .any ops Q (ops.size - m) (tailArr ops.size m) (putL ds f 0 a0) w) :
    ∀ (fuel : Nat) (listed : Array Bool) (f : Nat → Value) (w : World), listed.size = ops.size → (∀ i, m ≤ i → i < ops.size → listed.getD i true = false) → ClosedL ops listed → B w → (∀ c, listed.getD c false = false → G c w) → (∀ i, listed.getD i false = true → (∀ c, use i = some c → listed.getD c false = false) → F i f w) → listed.toList.count false = fuel →
      wpAny P .any ops Q fuel listed (putL ds f 0 a0) w := by
  intro fuel
  induction fuel with
  | zero =>
    intro listed f w hs htl hcl hB hGc hF hc
    have hall : ∀ i, i < m → listed.getD i false = true := by
      intro i hi
      have h1 : i < listed.size := by omega
      rw [getD_lt _ h1]
      cases hv : listed[i] with
      | true => rfl
      | false => exact absurd (List.count_pos_iff.2 (Array.mem_toList_iff.2 (hv ▸ Array.getElem_mem h1))) (by omega)
    have e : listed = tailArr ops.size m := by
      apply Array.ext
      · simp [tailArr]; omega
      · intro i h1 h2
        by_cases him : i < m
        · have := hall i him
          rw [getD_lt _ h1] at this
          rw [this]
          simp [tailArr, List.getElem_append, him]
        · have := htl i (by omega) (by omega)
          rw [getD_lt _ h1] at this
          rw [this]
          simp [tailArr, List.getElem_append, him]
    have hn : ops.size - m = 0 := by
      rw [e, tail_count] at hc
      exact hc
    have := hend f w hB fun i hi hu => hF i (hall i hi) (fun c hc => by rw [hu] at hc; cases hc)
    rw [hn] at this
    rw [e]; exact this
  | succ fuel ih =>
    intro listed f w hs htl hcl hB hGc hF hc
    by_cases hall : ∀ i, i < m → listed.getD i false = true
    · have e : listed = tailArr ops.size m := by
        apply Array.ext
        · simp [tailArr]; omega
        · intro i h1 h2
          by_cases him : i < m
          · have := hall i him
            rw [getD_lt _ h1] at this
            rw [this]
            simp [tailArr, List.getElem_append, him]
          · have := htl i (by omega) (by omega)
            rw [getD_lt _ h1] at this
            rw [this]
            simp [tailArr, List.getElem_append, him]
      have hn : ops.size - m = fuel + 1 := by
        rw [e, tail_count] at hc
        exact hc
      have := hend f w hB fun i hi hu => hF i (hall i hi) (fun c hc => by rw [hu] at hc; cases hc)
      rw [hn] at this
      rw [e]; exact this
    · have hun : ∃ i, i < m ∧ listed.getD i false = false := by
        refine Classical.byContradiction fun hno => hall fun i hi => ?_
        cases hv : listed.getD i false with
        | true => rfl
        | false => exact absurd ⟨i, hi, hv⟩ hno
      -- the first that has not come up may come up
      have hmin : ∀ n i, i ≤ n → i < m → listed.getD i false = false → ∃ j, j < m ∧ listed.getD j false = false ∧ ∀ k, k < j → listed.getD k false = true := by
        intro n
        induction n with
        | zero => intro i hi him hv; exact ⟨i, him, hv, fun k hk => by omega⟩
        | succ n ihn =>
          intro i hi him hv
          by_cases hex : ∃ k, k < i ∧ listed.getD k false = false
          · obtain ⟨k, hk, hkv⟩ := hex
            exact ihn k (by omega) (by omega) hkv
          · refine ⟨i, him, hv, fun k hk => ?_⟩
            cases hkv : listed.getD k false with
            | true => rfl
            | false => exact absurd ⟨k, hk, hkv⟩ hex
      obtain ⟨i0, hi0, hv0⟩ := hun
      obtain ⟨j0, hj0, hj1, hj2⟩ := hmin i0 i0 (Nat.le_refl _) hi0 hv0
      have hgd : ∀ i, i < ops.size → listed.getD i true = listed.getD i false := by
        intro i hi
        rw [getD_lt true (show i < listed.size by omega), getD_lt false (show i < listed.size by omega)]
      obtain ⟨oj, hoj⟩ : ∃ o, ops[j0]? = some o := ⟨_, Array.getElem?_eq_getElem (by omega)⟩
      have hrj : j0 ∈ Region.ready .any ops listed := mem_ready.2 ⟨by rw [hgd j0 (by omega)]; exact hj1, oj, hoj, fun e he hbe => hj2 _ (backB_spec hb hoj e he hbe)⟩
      refine ⟨fun h => (by rw [h] at hrj; cases hrj), fun i hi => ?_⟩
      obtain ⟨hiu, o, ho, hafter⟩ := mem_ready.1 hi
      have hin : i < ops.size := (Array.getElem?_eq_some_iff.1 ho).1
      have him : i < m := by
        rcases Nat.lt_or_ge i m with h | h
        · exact h
        · exfalso
          have := tailB2_spec ht ho h hcl hafter j0 hj0
          rw [hj1] at this
          cases this
      have hil : listed.getD i false = false := by rw [← hgd i hin]; exact hiu
      refine hstep i o f w ho him hB (hGc i hil) (fun e he hbe hu => hF e.on (hafter e he hbe) (fun c hc => by
        rcases hu with hu | hu
        · rw [hu] at hc; cases hc
        · rw [hu] at hc; obtain rfl := Option.some.inj hc; rw [← hgd i hin]; exact hiu)) _ fun v w' hB' hR hFi => ?_
      have hdi : ds[i]? = some o.dst := by
        rw [← hds, List.getElem?_map, Array.getElem?_toList, ho]; rfl
      rw [putL_at hd hdi]
      have hlf : listed.toList[i]? = some false := by
        rw [Array.getElem?_toList, Array.getElem?_eq_getElem (by omega)]
        rw [getD_lt _ (by omega)] at hiu
        exact congrArg some hiu
      refine ih _ _ _ (by simp [hs]) (fun k hk hk2 => ?_) (fun k ok hok hk e he hbe => ?_) hB' (fun k hk => ?_) (fun k hk hku => ?_) ?_
      · have hk3 : k < (listed.setIfInBounds i true).size := by rw [Array.size_setIfInBounds]; omega
        rw [getD_lt _ hk3, Array.getElem_setIfInBounds, if_neg (by omega)]
        have := htl k hk hk2
        rw [getD_lt _ (by omega)] at this
        exact this
      · have hdep : listed.getD e.on false = true := by
          by_cases hki : k = i
          · subst hki
            rw [ho] at hok
            obtain rfl := Option.some.inj hok
            exact hafter e he hbe
          · rw [getD_set_ne false (fun h => hki h.symm)] at hk
            exact hcl k ok hok hk e he hbe
        by_cases hei : e.on = i
        · rw [hei, getD_lt _ (by rw [Array.size_setIfInBounds]; omega), Array.getElem_setIfInBounds_self]
        · rw [getD_set_ne false (fun h => hei h.symm)]; exact hdep
      · by_cases e : k = i
        · subst e
          rw [getD_lt _ (by rw [Array.size_setIfInBounds]; omega), Array.getElem_setIfInBounds_self] at hk
          cases hk
        · rw [getD_set_ne false (by omega)] at hk
          refine hstG i w w' k hR e ?_ (hGc k hk)
          cases hc : (reachL ops 5 i).contains k with
          | false => rfl
          | true =>
            have h1 := reach_listed hcl 5 i (fun x hx => by
              unfold depsOf at hx
              rw [ho] at hx
              obtain ⟨e, he, rfl⟩ := List.mem_map.1 hx
              obtain ⟨he1, he2⟩ := List.mem_filter.1 he
              exact hafter e (Array.mem_toList_iff.1 he1) he2) k (List.contains_iff_mem.1 hc)
            rw [hk] at h1
            cases h1
      · by_cases e : k = i
        · subst e; exact hFi
        · have hki : use k ≠ some i := fun h => by
            have := hku i h
            rw [getD_lt _ (by rw [Array.size_setIfInBounds]; omega), Array.getElem_setIfInBounds_self] at this
            cases this
          rw [getD_set_ne false (by omega)] at hk
          refine hst i v w w' k f hR e hki ?_ (hF k hk fun c hc => ?_)
          · cases hc : (reachL ops 5 k).contains i with
            | false => rfl
            | true =>
              have h1 := reach_listed hcl 5 k (fun x hx => by
                unfold depsOf at hx
                split at hx
                · next ok hok =>
                  obtain ⟨e, he, rfl⟩ := List.mem_map.1 hx
                  obtain ⟨he1, he2⟩ := List.mem_filter.1 he
                  exact hcl k ok hok hk e (Array.mem_toList_iff.1 he1) he2
                · cases hx) i (List.contains_iff_mem.1 hc)
              rw [hil] at h1
              cases h1
          · have := hku c hc
            rw [getD_set_ne false (by intro h; exact hki (h ▸ hc))] at this
            exact this
      · have := count_set listed.toList i hlf
        rw [Array.toList_setIfInBounds]
        omega
/-- The rule. -/
theorem wp_region_factsI {id : Nat} {a0 : Act} {w : World} (G : Nat → World → Prop) (F : Nat → (Nat → Value) → World → Prop) (B : World → Prop) (use : Nat → Option Nat) (R : Nat → World → World → Prop) (K0 : Act → World → Prop) (hK0 : ∀ a w, K0 a w → Q .normal a w) (n m : Nat) (ds : List (Option Tmp)) (hn : ops.size = n) (hmix : P.follows .mixedOrders = true) (hds : ops.toList.map (·.dst) = ds) (hd : distB ds = true) (hb : backB ops = true) (ht : tailB2 ops m = true) (hm : m ≤ n)
    (hst : ∀ j v w w' i f, R j w w' → i ≠ j → use i ≠ some j → (reachL ops 5 i).contains j = false → F i f w → F i (updV f j v) w') (hB : B w.drew) (hG : ∀ c, G c w.drew) (hstG : ∀ j w w' c, R j w w' → c ≠ j → (reachL ops 5 j).contains c = false → G c w → G c w')
    (hstep : ∀ (i : Nat) (o : Oper) (f : Nat → Value) (w : World), ops[i]? = some o → i < m → B w → G i w → (∀ e ∈ o.after, Region.binds .any e = true → use e.on = none ∨ use e.on = some i → F e.on f w) → ∀ K : Act → World → Prop, (∀ v w', B w' → R i w w' → F i (updV f i v) w' → K ((putL ds f 0 a0).put o.dst v) w') → wpOp P ops Q i K (putL ds f 0 a0) w)
    (hend : ∀ (Q2 : Exit → Act → World → Prop), (∀ a w, K0 a w → Q2 .normal a w) → ∀ (f : Nat → Value) (w : World), B w → (∀ i, i < m → use i = none → F i f w) → wpAny P .any ops Q2 (n - m) (tailArr n m) (putL ds f 0 a0) w) :
    (Code.region id ops true).wp P Q a0 w := by
  subst hn
  refine wp_region_any hmix ?_
  have := wpAny_factsI G F B use R m ds a0 hds hd hb ht hm hst hstG hstep (hend Q hK0) ops.size (Array.replicate ops.size false) (fun j => slotV a0 ((ds[j - 0]?).getD none)) w.drew (by simp)
    (fun i _ hi => by simp [Array.getD, hi]) (fun k _ _ hk => by simp [Array.getD] at hk) hB (fun c _ => hG c) (fun i hi _ => by simp [Array.getD] at hi) (by simp)
  rw [putL_self] at this
  exact this
end
end Go.Proofs.Ytadkjnjibefocaa
