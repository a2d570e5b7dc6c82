/- The package's compare and inside: the order of copies, and which bits are of a function's width. -/
import Derived.Test.YtadkjnjibefocaaTv
namespace Go.Proofs.Ytadkjnjibefocaa
set_option maxRecDepth 20000
set_option linter.unusedSimpArgs false
open Go.ChangeShapes Go.WideShapes Go.ChangeAt Go.RowKit

def cmpI (a b : Int) : Int := if a < b then -1 else if b < a then 1 else 0
def orI (a b : Int) : Int := if a ≠ 0 then a else b
def cmpC (p q : Int × Int) : Int := orI (cmpI p.1 q.1) (cmpI p.2 q.2)

theorem isNaN_any (a : Int) (w : World) : Calls Try.prog 54 #[.int .i64 a] w fun e w' => e = .returned (.bool false) ∧ w = w' := by
  go_enter Try.func54, Try.ntmps54
  go_wp2
  go_ret
  exact ⟨rfl, rfl⟩

theorem cmpI_any (a b : Int) (w : World) : Calls Try.prog 53 #[.int .i64 a, .int .i64 b] w fun e w' => e = .returned (.int .i64 (cmpI a b)) ∧ w = w' := by
  unfold cmpI
  by_cases h1 : a < b
  · go_enter Try.func53, Try.ntmps53
    go_wp2_with (go_at_call 54; refine (isNaN_any _ _).mono ?_; rintro e w' ⟨rfl, rfl⟩)
    go_ret
    exact ⟨ret_int (by simp [h1]), rfl⟩
  · by_cases h2 : b < a
    · go_enter Try.func53, Try.ntmps53
      go_wp2_with (go_at_call 54; refine (isNaN_any _ _).mono ?_; rintro e w' ⟨rfl, rfl⟩)
      go_ret
      exact ⟨ret_int (by simp [h1, h2]), rfl⟩
    · go_enter Try.func53, Try.ntmps53
      go_wp2_with (go_at_call 54; refine (isNaN_any _ _).mono ?_; rintro e w' ⟨rfl, rfl⟩)
      go_ret
      exact ⟨ret_int (by simp [h1, h2]), rfl⟩

theorem orI_any (a b : Int) (g c : Nat) (w : World) (h0 : w.cell? ⟨g, 0, none⟩ = some (.int .i64 a)) (h1 : w.cell? ⟨g, 1, none⟩ = some (.int .i64 b)) :
    Calls Try.prog 52 #[.slice (some ⟨g, 0, none⟩) 2 c] w fun e w' => e = .returned (.int .i64 (orI a b)) ∧ w = w' := by
  unfold orI
  by_cases ha : a = 0
  · subst ha
    by_cases hb : b = 0
    · subst hb
      go_enter Try.func52, Try.ntmps52
      go_wp2
      go_loopw [8] (fun i wr => ∃ k : Nat, k ≤ 2 ∧ i = .int .i64 k ∧ wr = w) (fun i _ => 2 - (intOf i).toNat)
      case atStart => exact ⟨0, by omega, rfl, rfl⟩
      case round =>
        obtain ⟨k, hk, rfl, hw⟩ := hrel
        subst wr
        rcases (by omega : k = 0 ∨ k = 1 ∨ k = 2) with rfl | rfl | rfl
        · go_wp2
          go_roundw
          case rel => exact ⟨1, by omega, rfl, by trivial⟩
          case measure => simp [intOf]
        · go_wp2
          go_roundw
          case rel => exact ⟨2, by omega, rfl, by trivial⟩
          case measure => simp [intOf]
        · go_wp2
          go_ret
          exact ⟨rfl, rfl⟩
    · go_enter Try.func52, Try.ntmps52
      go_wp2
      go_loopw [8] (fun i wr => ∃ k : Nat, k ≤ 1 ∧ i = .int .i64 k ∧ wr = w) (fun i _ => 2 - (intOf i).toNat)
      case atStart => exact ⟨0, by omega, rfl, rfl⟩
      case round =>
        obtain ⟨k, hk, rfl, hw⟩ := hrel
        subst wr
        rcases (by omega : k = 0 ∨ k = 1) with rfl | rfl
        · go_wp2
          go_roundw
          case rel => exact ⟨1, by omega, rfl, by trivial⟩
          case measure => simp [intOf]
        · go_wp2
          go_ret
          exact ⟨rfl, rfl⟩
  · go_enter Try.func52, Try.ntmps52
    go_wp2
    go_loopw [8] (fun i wr => i = .int .i64 0 ∧ wr = w) (fun i _ => 2 - (intOf i).toNat)
    case atStart => exact ⟨rfl, rfl⟩
    case round =>
      obtain ⟨rfl, hw⟩ := hrel
      subst wr
      go_wp2
      go_ret
      exact ⟨ret_int (by simp [ha]), rfl⟩

theorem compare_any (p1 p2 q1 q2 : Int) (w : World) :
    Calls Try.prog 51 #[.agg #[.int .i64 p1, .int .i64 p2], .agg #[.int .i64 q1, .int .i64 q2]] w fun e w' => e = .returned (.int .i64 (cmpC (p1, p2) (q1, q2))) ∧ (∃ n a b c, w' = (((w.alloc a).alloc b).drewN n).alloc c) ∧ Below w.heap.size w w' := by
  have e0 : cmpC (p1, p2) (q1, q2) = orI (cmpI p1 q1) (cmpI p2 q2) := rfl
  rw [e0]
  have h2 : ∀ j u, (#[Value.int .i64 q1, .int .i64 q2] : Array Value)[j]? = some u → ((w.alloc (.cells #[.int .i64 p1, .int .i64 p2] 62)).alloc (.cells #[.int .i64 q1, .int .i64 q2] 62)).cell? ⟨w.heap.size + 1, j, none⟩ = some u := fun j u h => by
    have := (Fb.new (w.alloc (.cells #[.int .i64 p1, .int .i64 p2] 62)) #[.int .i64 q1, .int .i64 q2] 62).cell j
    rw [World.size_alloc] at this
    rw [this, h]
  have h1 : ∀ j u, (#[Value.int .i64 p1, .int .i64 p2] : Array Value)[j]? = some u → ((w.alloc (.cells #[.int .i64 p1, .int .i64 p2] 62)).alloc (.cells #[.int .i64 q1, .int .i64 q2] 62)).cell? ⟨w.heap.size, j, none⟩ = some u := fun j u h => by
    have := ((Fb.new w #[.int .i64 p1, .int .i64 p2] 62).alloc (.cells #[.int .i64 q1, .int .i64 q2] 62)).cell j
    rw [this, h]
  have a0 := h1 0 (.int .i64 p1) rfl
  have a1 := h1 1 (.int .i64 p2) rfl
  have b0 := h2 0 (.int .i64 q1) rfl
  have b1 := h2 1 (.int .i64 q2) rfl
  have Hb := hid (((Below.refl w.heap.size w).alloc (Nat.le_refl _) (.cells #[.int .i64 p1, .int .i64 p2] 62)).alloc (by simp) (.cells #[.int .i64 q1, .int .i64 q2] 62))
  have He := hid (show ((w.alloc (.cells #[.int .i64 p1, .int .i64 p2] 62)).alloc (.cells #[.int .i64 q1, .int .i64 q2] 62)) = (w.alloc (.cells #[.int .i64 p1, .int .i64 p2] 62)).alloc (.cells #[.int .i64 q1, .int .i64 q2] 62) from rfl)
  clear h1 h2
  go_enter Try.func51, Try.ntmps51
  go_wp2_with fail
  generalize hv : ((w.alloc (.cells #[.int .i64 p1, .int .i64 p2] 62)).alloc (.cells #[.int .i64 q1, .int .i64 q2] 62)) = v at a0 a1 b0 b1 Hb ⊢
  have Hv := hid hv
  clear hv
  refine wp_region_still_tail 10 (by kernel_rfl) (by kernel_rfl) ?_
  simp only [List.take_succ_cons, List.take_zero, List.drop_succ_cons, List.drop_zero]
  repeat still_step
  still_call ((cmpI_any _ _ _).mono (fun _ _ h => ⟨h.1, h.2.symm⟩))
  repeat still_step
  still_call ((cmpI_any _ _ _).mono (fun _ _ h => ⟨h.1, h.2.symm⟩))
  repeat still_step
  try refine wpStill_nil ?_
  change wpList _ _ _ _ _ v.drew
  have Hb2 := hid (below_drewN Hb.out 1)
  change Hid (Below w.heap.size w v.drew) at Hb2
  have Hv2 := hid (show v.drew = (((w.alloc (.cells #[.int .i64 p1, .int .i64 p2] 62)).alloc (.cells #[.int .i64 q1, .int .i64 q2] 62)).drewN 1) by rw [Hv.out]; rfl)
  clear a0 a1 b0 b1 Hb He Hv
  generalize v.drew = u at *
  go_wp2_with fail
  refine (orI_any _ _ _ _ _ (((Fb.new _ _ _).cell 0).trans rfl) (((Fb.new _ _ _).cell 1).trans rfl)).mono ?_
  rintro e w' ⟨rfl, rfl⟩
  go_wp2
  go_ret
  exact ⟨rfl, ⟨1, _, _, _, by rw [← Hv2.out]⟩, Hb2.out.alloc Hb2.out.size _⟩

def inB (W b : Int) : Bool := decide (0 ≤ b) && decide (b < W)
theorem tin_any (W V : Int) (A B C : Option Addr) (n c m d k q : Nat) (b : Int) (w : World) :
    Calls Try.prog 50 #[.agg #[.int .i64 W, .slice A n c, .int .i64 V, .slice B m d, .slice C k q], .int .i64 b] w fun e w' => e = .returned (.bool (inB W b)) ∧ Below w.heap.size w w' := by
  have hx := (Below.refl w.heap.size w).alloc (Nat.le_refl _) (.cells #[.int .i64 W, .slice A n c, .int .i64 V, .slice B m d, .slice C k q] 51)
  have Hx := hid hx
  clear hx
  unfold inB
  by_cases h1 : 0 ≤ b
  · by_cases h2 : b < W
    · go_enter Try.func50, Try.ntmps50
      go_wp2
      go_ret
      exact ⟨ret_bool (by simp; omega), Hx.out⟩
    · go_enter Try.func50, Try.ntmps50
      go_wp2
      go_ret
      exact ⟨ret_bool (by simp; omega), Hx.out⟩
  · go_enter Try.func50, Try.ntmps50
    go_wp2
    go_ret
    exact ⟨ret_bool (by simp; omega), Hx.out⟩
end Go.Proofs.Ytadkjnjibefocaa
