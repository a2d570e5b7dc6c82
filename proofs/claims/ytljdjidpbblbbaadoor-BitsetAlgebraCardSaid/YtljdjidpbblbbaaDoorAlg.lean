/- Sets given by predicates: what mix, inclusion and counting make of them. -/
import Derived.Test.YtljdjidpbblbbaaDoorDevB
import Derived.Test.YtljdjidpbblbbaaDoorText
namespace Go.Proofs.YtljdjidpbblbbaaDoor
set_option maxRecDepth 10000

/-- The set of width v of the bits that p tells. -/
def St (v : Nat) (p : Nat → Bool) : List Nat := Bs.ofP v p v
theorem st_fit (v : Nat) (p : Nat → Bool) : Bs.Fit v (St v p) := Bs.fit_ofP v p v (Nat.le_refl _)
theorem st_bit (v : Nat) (p : Nat → Bool) {i : Nat} (h : i < v) : Bs.bit (St v p) i = p i := by unfold St; rw [Bs.bit_ofP v p v (Nat.le_refl _)]; simp [h]
theorem st_congr {v : Nat} {p q : Nat → Bool} (h : ∀ i, i < v → p i = q i) : St v p = St v q := Bs.ofP_congr h
theorem st_of {v : Nat} {ws : List Nat} (h : Bs.Fit v ws) : ∃ p, ws = St v p := ⟨Bs.bit ws, (Bs.ofP_bit h).symm⟩
theorem st_valid {v : Nat} (hv : v ≤ 256) (p : Nat → Bool) : Bs.validB (v : Int) (St v p) = true := Bs.valid_of_fit (st_fit v p) hv
theorem mix_st {v : Nat} (hv : v ≤ 256) (f : Bool → Bool → Bool) (p q : Nat → Bool) : mixR f (v : Int) (St v p) (v : Int) (St v q) = ((v : Int), St v (fun i => f (p i) (q i)), 0) := by
  unfold mixR
  rw [if_neg (by simp [st_valid hv]), if_neg (by simp), Int.toNat_natCast]
  have : Bs.ofP v (fun i => f (Bs.bit (St v p) i) (Bs.bit (St v q) i)) v = St v (fun i => f (p i) (q i)) :=
    Bs.ofP_congr fun i hi => by rw [st_bit v p hi, st_bit v q hi]
  rw [this]
theorem full_st {v : Nat} (hv : v ≤ 256) : fullR (v : Int) = ((v : Int), St v (fun _ => true), 0) := by
  unfold fullR; rw [if_neg (by omega), Int.toNat_natCast]; rfl
theorem equal_st {v : Nat} (hv : v ≤ 256) {p q : Nat → Bool} (h : ∀ i, p i = q i) : equalB (v : Int) (St v p) (v : Int) (St v q) = true := by
  have e : St v p = St v q := st_congr fun i _ => h i
  unfold equalB; rw [e, st_valid hv, sameB_self]; rfl

open Go.ChangeShapes Go.WideShapes Go.ChangeAt Go.RowKit in
theorem bothOf_any {v : Nat} (hv : v ≤ 256) (A B : Option Addr) (n c m d : Nat) (p q : Nat → Bool) (w : World) (hA : Arg w A n (St v p)) (hB : Arg w B m (St v q)) :
    Calls Tryd.prog 38 #[.agg #[.int .i64 v, .slice A n c], .agg #[.int .i64 v, .slice B m d]] w (RetSet w v (St v (fun i => flag false false true (p i) (q i)))) := by
  obtain ⟨hx1, hx2, hx3⟩ := box3 w v v A B n c m d
  have hx4 := below3 w (.cells #[.int .i64 v, .slice A n c] 25) (.cells #[.int .i64 v, .slice B m d] 25) (.cells #[.int .i64 0, .slice none 0 0] 25)
  have Hx3 := hid hx3; have Hx4 := hid hx4
  have HA := hid hA; have HB := hid hB
  clear hx1 hx2 hx3 hx4 hA hB
  go_enter Tryd.func38, Tryd.ntmps38
  go_wp2_with fail
  refine (devInter_any v v A B n c m d _ _ _ (HA.out.below Hx4.out) (HB.out.below Hx4.out)).mono ?_
  rw [mix_st hv]
  rintro e w1 ⟨A1, n1, c1, rfl, ha, hb⟩
  simp only [] at ha
  have hl := hb.size
  simp only [World.size_alloc] at hl
  have hz : w.heap.size + 1 + 1 < w1.heap.size := by omega
  have hq := Hx3.out.below hb (by simp)
  have q0 := hq.c0
  have q1 := hq.c1
  have f0 := hq.f 0
  have f1 := hq.f 1
  have Ha := hid ha
  have Hq := hid hq
  have Hb := hid (Hx4.out.trans (hb.mono (by simp only [World.size_alloc]; omega)))
  have hs : w.heap.size ≤ ((w1.setCell ⟨w.heap.size + 1 + 1, 0, none⟩ (.int .i64 v)).setCell ⟨w.heap.size + 1 + 1, 1, none⟩ (.slice A1 n1 c1)).heap.size := by simp [World.setCell]; omega
  clear ha hb hq
  simp only []
  go_wp2_with fail
  exact bodyPost_ret (v := .agg #[.int .i64 v, .slice A1 n1 c1]) (by simp [results, Tryd.results38, go_sem, q0, q1, hz]) rfl ⟨A1, n1, c1, rfl, (Hq.out.store Ha.out _ _).alloc _, ((Hb.out.setCell (by simp; omega) _).setCell (by simp; omega) _).alloc hs _⟩

/-- How many bits below k p tells. -/
def cnt (p : Nat → Bool) : Nat → Nat
  | 0 => 0
  | k + 1 => cnt p k + if p k then 1 else 0
theorem cnt_congr {p q : Nat → Bool} {k : Nat} (h : ∀ i, i < k → p i = q i) : cnt p k = cnt q k := by
  induction k with
  | zero => rfl
  | succ k ih => unfold cnt; rw [h k (by omega), ih fun i hi => h i (by omega)]
theorem cnt_false (k : Nat) : cnt (fun _ => false) k = 0 := by
  induction k with
  | zero => rfl
  | succ k ih => unfold cnt; rw [ih]; rfl
theorem cnt_both (p q : Nat → Bool) (k : Nat) : cnt (fun i => p i || q i) k + cnt (fun i => p i && q i) k = cnt p k + cnt q k := by
  induction k with
  | zero => rfl
  | succ k ih =>
    simp only [cnt]
    by_cases hp : p k = true <;> by_cases hq : q k = true <;> simp [hp, hq] <;> omega
theorem cnt_le (p : Nat → Bool) (k : Nat) : cnt p k ≤ k := by
  induction k with
  | zero => exact Nat.le_refl _
  | succ k ih => unfold cnt; split <;> omega
theorem memsTo_cnt (ws : List Nat) (k : Nat) : (memsTo ws k).length = cnt (Bs.bit ws) k := by
  induction k with
  | zero => rfl
  | succ k ih =>
    unfold memsTo cnt
    split
    · rw [List.length_append, ih]; rfl
    · rw [ih]; rfl
theorem count_st {v : Nat} (hv : v ≤ 256) (p : Nat → Bool) : (memsB (v : Int) (St v p)).length = cnt p v := by
  unfold memsB
  rw [if_pos (st_valid hv p), Int.toNat_natCast, memsTo_cnt]
  exact cnt_congr fun i hi => st_bit v p hi
theorem subset_st {v : Nat} (hv : v ≤ 256) {p q : Nat → Bool} (h : ∀ i, p i = true → q i = true) : subsetB (v : Int) (St v p) (v : Int) (St v q) = true := by
  unfold subsetB
  rw [mix_st hv]
  simp only []
  rw [count_st hv, cnt_congr (q := fun _ => false) (fun i _ => by
    have := h i
    cases hp : p i <;> cases hq : q i <;> simp_all [flag]), cnt_false]
  rfl
end Go.Proofs.YtljdjidpbblbbaaDoor
