/- The reference's Equal and Subset: two valid sets are equal; all members of one are members of the other. -/
import Derived.Test.YtopkmeceakjocaaOf
namespace Go.Proofs.Ytopkmeceakjocaa
open Go.ChangeShapes Go.WideShapes Go.ChangeAt Go.RowKit

def equalB (W : Int) (ws : List Nat) (V : Int) (xs : List Nat) : Bool := Bs.validB W ws && Bs.validB V xs && sameB W ws V xs

theorem box2 (w : World) (W V : Int) (A B : Option Addr) (n c m d : Nat) :
    Box ((w.alloc (.cells #[.int .i64 W, .slice A n c] 50)).alloc (.cells #[.int .i64 V, .slice B m d] 50)) w.heap.size W A n c ∧
    Box ((w.alloc (.cells #[.int .i64 W, .slice A n c] 50)).alloc (.cells #[.int .i64 V, .slice B m d] 50)) (w.heap.size + 1) V B m d := by
  refine ⟨(Box.new w _ _ _ _).alloc _, ?_⟩
  have h := Box.new (w.alloc (.cells #[.int .i64 W, .slice A n c] 50)) V B m d
  rw [World.size_alloc] at h; exact h
theorem below2 (w : World) (a b : Obj) : Below w.heap.size w ((w.alloc a).alloc b) := ((Below.refl _ _).alloc (Nat.le_refl _) _).alloc (by simp) _

def subsetB (W : Int) (ws : List Nat) (V : Int) (xs : List Nat) : Bool :=
  decide ((mixR (flag true false false) W ws V xs).2.2 = 0) && decide ((memsB (mixR (flag true false false) W ws V xs).1 (mixR (flag true false false) W ws V xs).2.1).length = 0)

theorem refSubset_any (W V : Int) (A B : Option Addr) (n c m d : Nat) (ws xs : List Nat) (w : World) (hA : Arg w A n ws) (hB : Arg w B m xs) :
    Calls Try.prog 82 #[.agg #[.int .i64 W, .slice A n c], .agg #[.int .i64 V, .slice B m d]] w fun e w' => e = .returned (.bool (subsetB W ws V xs)) ∧ Below w.heap.size w w' := by
  have hx4 := below2 w (.cells #[.int .i64 W, .slice A n c] 50) (.cells #[.int .i64 V, .slice B m d] 50)
  have Hx4 := hid hx4
  have HA := hid hA; have HB := hid hB
  clear hx4 hA hB
  unfold subsetB
  generalize hr : mixR (flag true false false) W ws V xs = r
  have Hr := hid hr
  clear hr
  obtain ⟨R, zs, er⟩ := r
  by_cases h0 : er = 0
  · have t : ((er : Int) == 0) = true := by simp [h0]
    have H0 := hid h0
    clear h0
    go_enter Try.func82, Try.ntmps82
    go_wp2_with fail
    refine (refDiff_any W V A B n c m d ws xs _ (HA.out.below Hx4.out) (HB.out.below Hx4.out)).mono ?_
    rw [Hr.out]
    rintro e w1 ⟨A1, n1, c1, rfl, ha, hb⟩
    have Ha := hid ha
    have Hb := hid (Hx4.out.trans (hb.mono (by simp only [World.size_alloc]; omega)))
    have hz := hb.size
    simp only [World.size_alloc] at hz
    clear ha hb
    simp only []
    go_wp2_with fail
    refine (refMembers_any R A1 n1 c1 zs _ (Ha.out.alloc _)).mono ?_
    rintro e w2 ⟨A2, n2, c2, rfl, ha2, hb2⟩
    have hlen := ha2.len
    have Hlen := hid hlen
    have Hb2 := hid ((Hb.out.alloc (by omega) _).trans (hb2.mono (by simp only [World.size_alloc]; omega)))
    clear ha2 hb2 hlen
    by_cases hz2 : n2 = 0
    · have t2 : ((n2 : Int) == 0) = true := by simp [hz2]
      have Hz2 := hid hz2
      clear hz2
      go_wp2_with fail
      go_ret
      exact ⟨ret_bool (by rw [Hlen.out, H0.out, Hz2.out]; rfl), Hb2.out⟩
    · have t2 : ((n2 : Int) == 0) = false := by simp [hz2]
      have Hz2 := hid hz2
      clear hz2
      go_wp2_with fail
      go_ret
      exact ⟨ret_bool (by rw [Hlen.out, H0.out]; simp [Hz2.out]), Hb2.out⟩
  · have t : ((er : Int) == 0) = false := by simp [h0]
    have H0 := hid h0
    clear h0
    go_enter Try.func82, Try.ntmps82
    go_wp2_with fail
    refine (refDiff_any W V A B n c m d ws xs _ (HA.out.below Hx4.out) (HB.out.below Hx4.out)).mono ?_
    rw [Hr.out]
    rintro e w1 ⟨A1, n1, c1, rfl, ha, hb⟩
    have Ha := hid ha
    have Hb := hid (Hx4.out.trans (hb.mono (by simp only [World.size_alloc]; omega)))
    have hz := hb.size
    simp only [World.size_alloc] at hz
    clear ha hb
    simp only []
    go_wp2_with fail
    go_ret
    exact ⟨ret_bool (by simp [H0.out]), Hb.out.alloc (by omega) _⟩
end Go.Proofs.Ytopkmeceakjocaa
