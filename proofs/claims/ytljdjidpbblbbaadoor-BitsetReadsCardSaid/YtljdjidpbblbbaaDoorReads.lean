/- The statement's comparison of the functions that read a set with the reference returns true for every set and every number. -/
import Derived.Test.YtljdjidpbblbbaaDoorLawCombines
namespace Go.Proofs.YtljdjidpbblbbaaDoor
set_option maxRecDepth 10000
open Go.ChangeShapes Go.WideShapes Go.ChangeAt Go.RowKit

theorem eql_str (l : List UInt8) (w : World) : (binOp BinOp.eql 9 (str l) (str l)).run Tryd.prog w = .ok (.bool true) w := by
  unfold str
  simp [go_sem]

theorem guard_str (l : List UInt8) (x y : Operand) (w : World) : (eqGuard BinOp.eql 9 x y (str l) (str l)).run Tryd.prog w = .ok () w := by
  unfold str
  simp [go_sem]

theorem Tab.grown {w w' : World} {T : Nat} (h : Tab w) (hg : w.grownBy w' (some T)) (hT : T ≠ 3) : Tab w' := by
  have hb := hg.block 3 h.lt (some_ne (Ne.symm hT))
  unfold Tab Lib.TabIs World.var? at h ⊢
  simp only [gTab, Option.bind_some] at h ⊢
  rw [hb]
  exact h

set_option maxHeartbeats 6400000 in
theorem reads_any (W : Int) (A : Option Addr) (n c : Nat) (ws : List Nat) (b : Int) (w : World) (hA : Arg w A n ws) (hT : Tab w) :
    Calls Tryd.prog 11 #[.agg #[.int .i64 W, .slice A n c], .int .i64 b] w fun e w' => e = .returned (.bool true) ∧ Below w.heap.size w w' := by
  have G := hid (hA.alloc (.cells #[.int .i64 W, .slice A n c] 25))
  have hx := Box.new w W A n c
  have Gb := hid ((Below.refl w.heap.size w).alloc (Nat.le_refl _) (.cells #[.int .i64 W, .slice A n c] 25))
  have HT := hid (hT.step Gb.out)
  clear hA hT
  have hml := memsB_len W ws
  generalize hr1 : Bs.validB W ws = r1
  generalize hr2 : Bs.hasB W ws b = r2
  generalize hr3 : memsB W ws = lm at hml
  generalize hr4 : textB W ws = tx
  have t1 : (r1 == r1) = true := by simp
  have t2 : (r2 == r2) = true := by simp
  have t4 := eql_str tx
  have t5 := guard_str tx
  have R1 := hid hr1; have R2 := hid hr2; have R3 := hid hr3; have R4 := hid hr4
  have vm : lm.length ≤ maxLen := by unfold maxLen; omega
  clear hr1 hr2 hr3 hr4
  go_enter Tryd.func11, Tryd.ntmps11
  go_upto_region 1 with fail
  generalize w.alloc (.cells #[.int .i64 W, .slice A n c] 25) = W8 at *
  generalize hk : w.heap.size = kb at *
  have Hk := hid hk
  have hK : ∀ w', Below W8.heap.size W8 w' → ((fun w' => Below W8.heap.size W8 w' ∧ (w'.cell? ⟨kb, 0, none⟩ = some (.int .i64 W) ∧ w'.cell? ⟨kb, 1, none⟩ = some (.slice A n c))) w') := fun w' h => ⟨h, hx.keep h⟩
  have HK := hid hK
  clear hK hx hk
  go_region_held3 (fun w' => Below W8.heap.size W8 w' ∧ (w'.cell? ⟨kb, 0, none⟩ = some (.int .i64 W) ∧ w'.cell? ⟨kb, 1, none⟩ = some (.slice A n c)))
    (first | exact HK.out _ (Below.refl _ _).drew | assumption)
    (first
      | (go_at_call 39
         go_must (
         go_split_ands
         refine (devValid_any W A n c ws _ (by exact G.out.below (by assumption))).mono ?_
         rw [R1.out]
         rintro e wn ⟨rfl, hbk⟩
         have hcur := below_step (W := W8) (by assumption) hbk
         have hS := HK.out _ hcur
         clear hbk))
      | (go_at_call 21
         go_must (
         go_split_ands
         refine (refValid_any W A n c ws _ (by exact Arg.lies (G.out.below (by assumption))) G.out.ok G.out.len).mono ?_
         rw [R1.out]
         rintro e wn ⟨rfl, hbk⟩
         have hcur := below_step (W := W8) (by assumption) hbk
         have hS := HK.out _ hcur
         clear hbk))
      | (go_at_call 40
         go_must (
         go_split_ands
         refine (devHas_any W A n c ws b _ (by exact G.out.below (by assumption))).mono ?_
         rw [R2.out]
         rintro e wn ⟨rfl, hbk⟩
         have hcur := below_step (W := W8) (by assumption) hbk
         have hS := HK.out _ hcur
         clear hbk))
      | (go_at_call 41
         go_must (
         go_split_ands
         refine (refHas_any W A n c ws b _ (by exact G.out.below (by assumption))).mono ?_
         rw [R2.out]
         rintro e wn ⟨rfl, hbk⟩
         have hcur := below_step (W := W8) (by assumption) hbk
         have hS := HK.out _ hcur
         clear hbk))
      | (go_at_call 43
         go_must (
         go_split_ands
         refine (devMembers_any W A n c ws _ (by exact G.out.below (by assumption))).mono ?_
         rw [R3.out]
         rintro e wn ⟨A7, n7, c7, rfl, ha7', hbk⟩
         obtain rfl := ha7'.len
         have ha7 := hid ha7'
         clear ha7'
         have hcur := below_step (W := W8) (by assumption) hbk
         have hS := HK.out _ hcur
         clear hbk))
      | (go_at_call 44
         go_must (
         go_split_ands
         refine (refMembers_any W A n c ws _ (by exact G.out.below (by assumption))).mono ?_
         rw [R3.out]
         rintro e wn ⟨A6, n6, c6, rfl, ha6', hbk⟩
         obtain rfl := ha6'.len
         first | have ha7 := hid (ha7.out.below hbk) | skip
         have ha6 := hid ha6'
         clear ha6'
         have hcur := below_step (W := W8) (by assumption) hbk
         have hS := HK.out _ hcur
         clear hbk))
      | (go_at_call 42
         go_must (
         go_split_ands
         refine (refInts_any A7 A6 lm.length c7 lm.length c6 lm lm _ ha7.out ha6.out vm).mono ?_
         rw [show decide (lm = lm) = true from by simp]
         rintro e wn ⟨rfl, hbk⟩
         have hcur := below_step (W := W8) (by assumption) hbk
         have hS := HK.out _ hcur
         clear hbk))
      | (go_at_call 37
         go_must (
         go_split_ands
         refine (devCount_any W A n c ws _ (by exact G.out.below (by assumption))).mono ?_
         rw [R3.out]
         rintro e wn ⟨rfl, hbk⟩
         have hcur := below_step (W := W8) (by assumption) hbk
         have hS := HK.out _ hcur
         clear hbk))
      | (go_at_call 27
         go_must (
         go_split_ands
         refine (devText_any W A n c ws _ (by exact G.out.below (by assumption)) (by exact .inr (HT.out.step (by assumption)))).mono ?_
         rw [R4.out]
         rintro e wn ⟨rfl, hbk⟩
         have hcur := below_step (W := W8) (by assumption) hbk
         have hS := HK.out _ hcur
         clear hbk))
      | (go_at_call 30
         go_must (
         go_split_ands
         refine (refText_any W A n c ws _ (by exact G.out.below (by assumption))).mono ?_
         rw [R4.out]
         rintro e wn ⟨rfl, hbk⟩
         have hcur := below_step (W := W8) (by assumption) hbk
         have hS := HK.out _ hcur
         clear hbk))
    )
  go_wp2_with fail
  go_ret
  refine ⟨ret_bool (by simp), ?_⟩
  rw [Hk.out]
  exact Gb.out.trans (hcur.mono (Hk.out ▸ Gb.out.size))
end Go.Proofs.YtljdjidpbblbbaaDoor
