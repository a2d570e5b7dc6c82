/- The package equations: copiedSet. -/
import Derived.Test.YtopkmeceakjocaaEq3
import Derived.Test.YtopkmeceakjocaaTtab
namespace Go.Proofs.Ytopkmeceakjocaa
set_option maxRecDepth 20000
set_option linter.unusedVariables false
set_option linter.unusedSimpArgs false
open Go.ChangeShapes Go.WideShapes Go.ChangeAt Go.RowKit

/-- A set came back, its words in a block of the call's own. -/
def RetZ (w : World) (W : Int) (n : Nat) (ws : List Nat) (e : Ending) (w' : World) : Prop :=
  ∃ (A' : Option Addr) (c' : Nat), e = .returned (.agg #[.int .i64 W, .slice A' n c']) ∧ NewAt w w' A' (words ws) ∧ Below w.heap.size w w'
theorem NewAt.set {w0 w w' : World} {A : Option Addr} {xs : List Value} (h : NewAt w w' A xs) {b : Nat} (hb : b < w.heap.size) (hz : w0.heap.size ≤ w.heap.size) (j i : Nat) (u v : Value) :
    NewAt w0 ((w'.setCell ⟨b, j, none⟩ u).setCell ⟨b, i, none⟩ v) A xs := fun ex hex => by
  have h1 := h (some b :: ex) (fun k hk => by
    rcases List.mem_cons.1 hk with e | hk
    · have := Option.some.inj e; omega
    · have := hex k hk; omega)
  have h2 := h1.go (Go2.same (setCell_grown w' ⟨b, j, none⟩ u) (.inr (List.mem_cons_self)))
  have h3 := h2.go (Go2.same (setCell_grown _ ⟨b, i, none⟩ v) (.inr (List.mem_cons_self)))
  exact h3.go (Go2.less _ fun k hk => List.mem_cons_of_mem _ hk)
theorem copiedSet_any (W : Int) (A : Option Addr) (n c : Nat) (ws : List Nat) (w : World) (hA : Arg w A n ws) (hn : n ≤ 100) :
    Calls Try.prog 88 #[.agg #[.int .i64 W, .slice A n c]] w (RetZ w W n ws) := by
  obtain ⟨hx1, hx2⟩ := boxB w W A n c
  have hx4 := below2 w (.cells #[.int .i64 W, .slice A n c] 50) (.cells #[.int .i64 0, .slice none 0 0] 50)
  have hz : (((w.alloc (.cells #[.int .i64 W, .slice A n c] 50)).alloc (.cells #[.int .i64 0, .slice none 0 0] 50))).heap.size = w.heap.size + 2 := by simp
  have Hx1 := hid hx1; have Hx2 := hid hx2; have Hb0 := hid hx4; have Hz := hid hz
  have HA := hid hA
  clear hx1 hx2 hx4 hA hz
  go_enter Try.func88, Try.ntmps88
  go_wp2_with fail
  generalize (w.alloc (.cells #[.int .i64 W, .slice A n c] 50)).alloc (.cells #[.int .i64 0, .slice none 0 0] 50) = w5 at *
  have Hall := hid (show Box w5.drew w.heap.size W A n c ∧ Box w5.drew (w.heap.size + 1) 0 none 0 0 ∧ Arg w5.drew A n ws ∧ Below w.heap.size w w5.drew ∧ w5.drew.heap.size = w.heap.size + 2 from ⟨Hx1.out, Hx2.out, (HA.out.below Hb0.out.drew), Hb0.out.drew, Hz.out⟩)
  have p0 := Hall.out.1.c0
  have p1 := Hall.out.1.c1
  go_region_with (first
    | (go_at_call 108
       go_must (
       refine (cloneW_any A n c ws _ Hall.out.2.2.1 hn).mono ?_
       rintro e w6 ⟨A6, c6, rfl, ho, hb6⟩
       have hp6 := Hall.out.1.below hb6 Hall.out.1.lt
       have p60 := hp6.c0
       have hq6 := Hall.out.2.1.below hb6 Hall.out.2.1.lt
       have q60 := hq6.c0
       have q61 := hq6.c1
       have f60 := hq6.f 0
       have f61 := hq6.f 1
       have Hown := hid ho
       have Hb6 := hid (Hall.out.2.2.2.1.trans (hb6.mono Hall.out.2.2.2.1.size))
       clear hp6 hq6 ho hb6)))
  all_goals
    go_wp2_with fail
    exact bodyPost_ret (v := .agg #[.int .i64 W, .slice A6 n c6]) (by simp [results, Try.results88, go_sem, q60, q61]) rfl ⟨A6, c6, rfl, Hown.out.set (by rw [Hall.out.2.2.2.2]; omega) (by rw [Hall.out.2.2.2.2]; omega) _ _ _ _, (Hb6.out.setCell (by simp) _).setCell (by simp) _⟩
end Go.Proofs.Ytopkmeceakjocaa
