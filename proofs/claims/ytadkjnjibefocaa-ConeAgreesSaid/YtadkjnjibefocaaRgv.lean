/- A region that draws its order, by an invariant of which operations have come up. -/
import Derived.Test.YtadkjnjibefocaaRgi
namespace Go.Proofs.Ytadkjnjibefocaa
set_option linter.unusedVariables false
set_option linter.unusedSimpArgs false

def updL (L : Nat → Bool) (i : Nat) : Nat → Bool := fun j => if j = i then true else L j
theorem updL_self (L : Nat → Bool) (i : Nat) : updL L i i = true := by simp [updL]
theorem updL_ne (L : Nat → Bool) {i j : Nat} (h : j ≠ i) : updL L i j = L j := by simp [updL, h]
section
variable {P : Program} {ops : Array Oper} {Q : Exit → Act → World → Prop}
theorem wpAny_inv (Inv : (Nat → Bool) → (Nat → Value) → World → Prop) (ds : List (Option Tmp)) (a0 : Act) (hds : ops.toList.map (·.dst) = ds) (hd : distB ds = true) (hb : backB ops = true)
    (hstep : ∀ (i : Nat) (o : Oper) (L : Nat → Bool) (f : Nat → Value) (w : World), ops[i]? = some o → L i = false → (∀ e ∈ o.after, Region.binds .any e = true → L e.on = true) → Inv L f w → ∀ K : Act → World → Prop, (∀ v w', Inv (updL L i) (updV f i v) w' → K ((putL ds f 0 a0).put o.dst v) w') → wpOp P ops Q i K (putL ds f 0 a0) w)
    (hend : ∀ (L : Nat → Bool) (f : Nat → Value) (w : World), (∀ i, i < ops.size → L i = true) → Inv L f w → Q .normal (putL ds f 0 a0) w) :
    ∀ (fuel : Nat) (listed : Array Bool) (f : Nat → Value) (w : World), listed.size = ops.size → Inv (fun i => listed.getD i false) f w → listed.toList.count false = fuel →
      wpAny P .any ops Q fuel listed (putL ds f 0 a0) w := by
  intro fuel
  induction fuel with
  | zero =>
    intro listed f w hs hI hc
    have hall : ∀ i, i < ops.size → listed.getD i false = true := by
      intro i hi
      have h1 : i < listed.size := by omega
      rw [getD_lt _ h1]
      cases hv : listed[i] with
      | true => rfl
      | false => exact absurd (List.count_pos_iff.2 (Array.mem_toList_iff.2 (hv ▸ Array.getElem_mem h1))) (by omega)
    refine wpAny_done (List.eq_nil_iff_forall_not_mem.2 fun i hi => ?_) (hend _ f w hall hI) 0
    obtain ⟨hiu, o, ho, _⟩ := mem_ready.1 hi
    have hin : i < ops.size := (Array.getElem?_eq_some_iff.1 ho).1
    have h1 := hall i hin
    rw [getD_lt _ (by omega)] at h1 hiu
    rw [h1] at hiu; cases hiu
  | succ fuel ih =>
    intro listed f w hs hI hc
    have hun : ∃ i, i < ops.size ∧ listed.getD i false = false := by
      refine Classical.byContradiction fun hno => ?_
      have hmem : false ∈ listed.toList := List.count_pos_iff.1 (by omega)
      obtain ⟨i, hi, he⟩ := List.getElem_of_mem hmem
      have hi' : i < listed.size := by simpa using hi
      refine hno ⟨i, by omega, ?_⟩
      rw [getD_lt _ hi']
      simpa using he
    have hmin : ∀ n i, i ≤ n → i < ops.size → listed.getD i false = false → ∃ j, j < ops.size ∧ listed.getD j false = false ∧ ∀ k, k < j → listed.getD k false = true := by
      intro n
      induction n with
      | zero => intro i hi him hv; exact ⟨i, him, hv, fun k hk => by omega⟩
      | succ n ihn =>
        intro i hi him hv
        by_cases hex : ∃ k, k < i ∧ listed.getD k false = false
        · obtain ⟨k, hk, hkv⟩ := hex
          exact ihn k (by omega) (by omega) hkv
        · refine ⟨i, him, hv, fun k hk => ?_⟩
          cases hkv : listed.getD k false with
          | true => rfl
          | false => exact absurd ⟨k, hk, hkv⟩ hex
    obtain ⟨i0, hi0, hv0⟩ := hun
    obtain ⟨j0, hj0, hj1, hj2⟩ := hmin i0 i0 (Nat.le_refl _) hi0 hv0
    have hgd : ∀ i, i < ops.size → listed.getD i true = listed.getD i false := by
      intro i hi
      rw [getD_lt true (show i < listed.size by omega), getD_lt false (show i < listed.size by omega)]
    obtain ⟨oj, hoj⟩ : ∃ o, ops[j0]? = some o := ⟨_, Array.getElem?_eq_getElem hj0⟩
    have hrj : j0 ∈ Region.ready .any ops listed := mem_ready.2 ⟨by rw [hgd j0 hj0]; exact hj1, oj, hoj, fun e he hbe => hj2 _ (backB_spec hb hoj e he hbe)⟩
    refine ⟨fun h => (by rw [h] at hrj; cases hrj), fun i hi => ?_⟩
    obtain ⟨hiu, o, ho, hafter⟩ := mem_ready.1 hi
    have hin : i < ops.size := (Array.getElem?_eq_some_iff.1 ho).1
    refine hstep i o _ f w ho (by rw [← hgd i hin]; exact hiu) (fun e he hbe => hafter e he hbe) hI _ fun v w' hI' => ?_
    have hdi : ds[i]? = some o.dst := by
      rw [← hds, List.getElem?_map, Array.getElem?_toList, ho]; rfl
    rw [putL_at hd hdi]
    have hlf : listed.toList[i]? = some false := by
      rw [Array.getElem?_toList, Array.getElem?_eq_getElem (by omega)]
      rw [getD_lt _ (by omega)] at hiu
      exact congrArg some hiu
    refine ih _ _ _ (by simp [hs]) ?_ ?_
    · have e : updL (fun i => listed.getD i false) i = fun j => (listed.setIfInBounds i true).getD j false := by
        funext k
        by_cases e : k = i
        · subst e
          rw [updL_self, getD_lt _ (by rw [Array.size_setIfInBounds]; omega), Array.getElem_setIfInBounds_self]
        · rw [updL_ne _ e, getD_set_ne false (fun h => e h.symm)]
      rw [← e]; exact hI'
    · have := count_set listed.toList i hlf
      rw [Array.toList_setIfInBounds]
      omega
/-- The rule. -/
theorem wp_region_inv {id : Nat} {a0 : Act} {w : World} (Inv : (Nat → Bool) → (Nat → Value) → World → Prop) (K0 : Act → World → Prop) (hK0 : ∀ a w, K0 a w → Q .normal a w) (n : Nat) (ds : List (Option Tmp)) (hn : ops.size = n) (hmix : P.follows .mixedOrders = true) (hds : ops.toList.map (·.dst) = ds) (hd : distB ds = true) (hb : backB ops = true)
    (h0 : ∀ f, Inv (fun _ => false) f w.drew)
    (hstep : ∀ (i : Nat) (o : Oper) (L : Nat → Bool) (f : Nat → Value) (w : World), ops[i]? = some o → L i = false → (∀ e ∈ o.after, Region.binds .any e = true → L e.on = true) → Inv L f w → ∀ K : Act → World → Prop, (∀ v w', Inv (updL L i) (updV f i v) w' → K ((putL ds f 0 a0).put o.dst v) w') → wpOp P ops Q i K (putL ds f 0 a0) w)
    (hend : ∀ (L : Nat → Bool) (f : Nat → Value) (w : World), (∀ i, i < n → L i = true) → Inv L f w → K0 (putL ds f 0 a0) w) :
    (Code.region id ops true).wp P Q a0 w := by
  subst hn
  refine wp_region_any hmix ?_
  have hl0 : (fun i => (Array.replicate ops.size false).getD i false) = fun _ => false := by
    funext i; simp [Array.getD]
  have := wpAny_inv (P := P) (Q := Q) Inv ds a0 hds hd hb hstep (fun L f w h1 h2 => hK0 _ _ (hend L f w h1 h2)) ops.size (Array.replicate ops.size false) (fun j => slotV a0 ((ds[j - 0]?).getD none)) w.drew (by simp)
    (by rw [hl0]; exact h0 _) (by simp)
  rw [putL_self] at this
  exact this
end
end Go.Proofs.Ytadkjnjibefocaa
