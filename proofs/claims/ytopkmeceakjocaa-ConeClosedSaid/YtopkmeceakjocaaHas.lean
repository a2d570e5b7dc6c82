/- The reference's Has returns whether a bit is in a valid set; Same whether two sets have the same width and the same words. -/
import Derived.Test.YtopkmeceakjocaaValid
import Derived.Deep.QuietTactic
import Derived.BigQuiet
namespace Go.Proofs.Ytopkmeceakjocaa
open Go.ChangeShapes Go.WideShapes Go.ChangeAt Go.RowKit

theorem refHas_any (W : Int) (A : Option Addr) (n c : Nat) (ws : List Nat) (b : Int) (w : World) (hA : Arg w A n ws) :
    Calls Try.prog 95 #[.agg #[.int .i64 W, .slice A n c], .int .i64 b] w fun e w' => e = .returned (.bool (Bs.hasB W ws b)) ∧ Below w.heap.size w w' := by
  have HA := hid hA
  clear hA
  have fin : ∀ (w1 : World), Below (w.alloc (Obj.cells #[Value.int IntKind.i64 W, Value.slice A n c] 50)).heap.size (w.alloc (Obj.cells #[Value.int IntKind.i64 W, Value.slice A n c] 50)) w1 → Below w.heap.size w w1 :=
    fun w1 h => ((Below.refl _ _).alloc (Nat.le_refl _) _).trans (h.mono (by simp))
  have Fin := hid fin
  clear fin
  cases hv : Bs.validB W ws with
  | false =>
    have hres : Bs.hasB W ws b = false := by unfold Bs.hasB; rw [hv]; rfl
    have Hres := hid hres; have Hv := hid hv
    clear hres hv
    go_enter Try.func95, Try.ntmps95
    go_wp2_with (go_at_call 62; refine (refValid_any W A n c ws _ (HA.out.alloc _).lies HA.out.ok HA.out.len).mono ?_; rw [Hv.out]; rintro e w1 ⟨rfl, hbl⟩; have Hbl := hid hbl; clear hbl)
    go_ret
    exact ⟨ret_bool Hres.out.symm, Fin.out _ Hbl.out⟩
  | true =>
    by_cases h1 : 0 ≤ b
    · by_cases h2 : b < W
      · obtain ⟨k, rfl⟩ := Int.eq_ofNat_of_zero_le h1
        have hf := Bs.fit_of_valid hv HA.out.ok
        have hk : k / 64 < n := by rw [← HA.out.len, hf.len]; exact Bs.lt_nw (by omega)
        obtain ⟨ad, rfl, had, hcell⟩ := HA.out.lies.cell (words_get (i := k / 64) (by rw [HA.out.len]; exact hk))
        have h3 : W ≤ 256 := (Bs.validB_iff.1 hv).2.1
        have hbit := test_bit_of HA.out.ok k
        have hres : Bs.hasB W ws (k : Int) = Bs.bit ws k := by unfold Bs.hasB; rw [hv]; simp [h2]
        have Hres := hid hres; have Hv := hid hv
        clear hres hv hf
        generalize hx : Bs.wd ws (k / 64) = x at hcell hbit
        clear hx
        generalize Bs.bit ws k = r at hbit Hres
        go_enter Try.func95, Try.ntmps95
        go_wp2_with (go_at_call 62; refine (refValid_any W _ n c ws _ (HA.out.alloc _).lies HA.out.ok HA.out.len).mono ?_; rw [Hv.out]; rintro e w1 ⟨rfl, hbl⟩; obtain ⟨hc, hf⟩ := bcell hbl; have hcell1 : w1.cell? (ad.add (k / 64)) = some (.int .u64 x) := (hbl.cell (by rw [add_block]; simp; omega)).trans ((World.cell?_alloc_lt _ _ _ (by rw [add_block]; exact had)).trans hcell); have Hbl := hid hbl; clear hbl)
        go_ret
        exact ⟨ret_bool (by rw [Hres.out]), Fin.out _ Hbl.out⟩
      · have hres : Bs.hasB W ws b = false := by unfold Bs.hasB; rw [hv]; simp [h2]
        have Hres := hid hres; have Hv := hid hv
        clear hres hv
        go_enter Try.func95, Try.ntmps95
        go_wp2_with (go_at_call 62; refine (refValid_any W A n c ws _ (HA.out.alloc _).lies HA.out.ok HA.out.len).mono ?_; rw [Hv.out]; rintro e w1 ⟨rfl, hbl⟩; obtain ⟨hc, hf⟩ := bcell hbl; have Hbl := hid hbl; clear hbl)
        go_ret
        exact ⟨ret_bool Hres.out.symm, Fin.out _ Hbl.out⟩
    · have hres : Bs.hasB W ws b = false := by unfold Bs.hasB; rw [hv]; simp [h1]
      have Hres := hid hres; have Hv := hid hv
      clear hres hv
      go_enter Try.func95, Try.ntmps95
      go_wp2_with (go_at_call 62; refine (refValid_any W A n c ws _ (HA.out.alloc _).lies HA.out.ok HA.out.len).mono ?_; rw [Hv.out]; rintro e w1 ⟨rfl, hbl⟩; have Hbl := hid hbl; clear hbl)
      go_ret
      exact ⟨ret_bool Hres.out.symm, Fin.out _ Hbl.out⟩
end Go.Proofs.Ytopkmeceakjocaa
