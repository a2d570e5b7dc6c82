/- The reference's Ints returns whether two lists of numbers are equal. -/
import Derived.Test.YtadkjnjibefocaaMembers
namespace Go.Proofs.Ytadkjnjibefocaa
open Go.ChangeShapes Go.WideShapes Go.ChangeAt Go.RowKit

theorem refInts_any (A B : Option Addr) (n c m d : Nat) (xs ys : List Int) (w : World) (hA : IArg w A n xs) (hB : IArg w B m ys) (hn : n ≤ maxLen) :
    Calls Try.prog 23 #[.slice A n c, .slice B m d] w fun e w' => e = .returned (.bool (decide (xs = ys))) ∧ Below w.heap.size w w' := by
  unfold maxLen at hn
  by_cases h : n = m
  · subst h
    have HA := hid hA; have HB := hid hB
    have t2 : ((n : Int) != (n : Int)) = false := by simp
    clear hA hB
    go_enter Try.func23, Try.ntmps23
    go_wp2
    clear t2
    go_loopw [5] (fun i wr => ∃ k : Nat, k ≤ n ∧ i = .int .i64 k ∧ Hid (∀ j, j < k → xs.getD j 0 = ys.getD j 0) ∧ ∃ q : Nat, wr = w.drewN q) (fun i _ => n - (intOf i).toNat)
    case atStart => exact ⟨0, by omega, rfl, fun j h => by omega, 0, rfl⟩
    case round =>
      obtain ⟨k, hk, rfl, hb, q, rfl⟩ := hrel
      by_cases hlt : k < n
      · obtain ⟨ad, rfl, had, hcA⟩ := HA.out.lies.cell (ints_get (i := k) (by rw [HA.out.len]; exact hlt))
        obtain ⟨bd, rfl, hbd, hcB⟩ := HB.out.lies.cell (ints_get (i := k) (by rw [HB.out.len]; exact hlt))
        generalize hx : xs.getD k 0 = x at hcA
        generalize hy : ys.getD k 0 = y at hcB
        have Hx := hid hx; have Hy := hid hy
        clear hx hy
        have hk0 : (0 : Int) ≤ k := by omega
        have hkn : (k : Int).toNat = k := by omega
        have hk1 : (k : Int) < n := by omega
        by_cases hxy : x = y
        · have t : (x != y) = false := by simp [hxy]
          have Hxy := hid hxy
          clear hxy
          go_wp2_with fail
          go_quiet (fail)
          go_wp2
          go_roundw
          case rel =>
            refine ⟨k + 1, by omega, by go_num, fun j hj => ?_, _, rfl⟩
            by_cases e : j = k
            · rw [e, Hx.out, Hy.out]; exact Hxy.out
            · exact hb.out j (by omega)
          case measure => simp [intOf]; omega
        · have t : (x != y) = true := by simp [hxy]
          have Hxy := hid hxy
          clear hxy
          go_wp2_with fail
          go_quiet (fail)
          go_wp2
          go_ret
          refine ⟨ret_bool ?_, below_drewN (below_drewN (Below.refl _ _) _) _⟩
          have : xs ≠ ys := by rintro rfl; exact Hxy.out (Hx.out.symm.trans Hy.out)
          simp [this]
      · go_wp2
        go_ret
        refine ⟨ret_bool ?_, below_drewN (Below.refl _ _) _⟩
        have e : xs = ys := by
          refine List.ext_getElem (HA.out.len.trans HB.out.len.symm) fun j h1 h2 => ?_
          have := hb.out j (by have := HA.out.len; omega)
          simpa [List.getD_eq_getElem?_getD, List.getElem?_eq_getElem h1, List.getElem?_eq_getElem h2] using this
        simp [e]
  · have hne : decide (xs = ys) = false := by
      have : xs ≠ ys := by rintro rfl; exact h (hA.len.symm.trans hB.len)
      simp [this]
    have Hne := hid hne
    have t2 : ((n : Int) != (m : Int)) = true := by simp; omega
    have t3 : (n != m) = true := by simp; omega
    clear h hne hA hB
    go_enter Try.func23, Try.ntmps23
    go_wp2
    go_ret
    exact ⟨ret_bool Hne.out.symm, Below.refl _ _⟩
end Go.Proofs.Ytadkjnjibefocaa
