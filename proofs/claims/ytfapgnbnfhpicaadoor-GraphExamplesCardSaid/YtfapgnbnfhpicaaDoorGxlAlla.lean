/- Part 1 of the texts that YtfapgnbnfhpicaaDoorGxlAll leans on. -/
import Derived.Test.YtfapgnbnfhpicaaDoorVdv
import Derived.Test.YtfapgnbnfhpicaaDoorPg1
import Derived.Deep.AppendLies
import Derived.Test.YtfapgnbnfhpicaaDoorMst
import Derived.Test.YtfapgnbnfhpicaaDoorLns
import Derived.Test.YtfapgnbnfhpicaaDoorChb
import Derived.Deep.QuietTactic
import Derived.BigQuiet
import Derived.Deep.DeepMust
import Derived.Deep.RegionHeld3
import Derived.Deep.DeepCutAuto
import Derived.Deep.RegionLaw
import Derived.Lib.LazyBuf
import Derived.Test.YtfapgnbnfhpicaaDoorShl
import Derived.DeepKeys4
import Derived.Maps.Own
import Derived.Maps.Keyed
import Derived.Maps.OwnSet
import Derived.Deep.DrawnRows
import Derived.StillTailTactics
namespace Go.Proofs.YtfapgnbnfhpicaaDoor
set_option maxRecDepth 20000
set_option linter.unusedVariables false
set_option linter.unusedSimpArgs false
open Go.ChangeShapes Go.WideShapes Go.ChangeAt Go.RowKit

theorem ret_b {a b : Bool} (h : a = b) : Ending.returned (.bool b) = Ending.returned (.bool a) := by rw [h]
theorem wi_nat (n h : Nat) : wiB (n : Int) 1 (h : Int) = (decide (1 ≤ n) && decide (n ≤ h)) := by
  unfold wiB
  rw [decide_eq_decide.2 (show (1 : Int) ≤ (n : Int) ↔ 1 ≤ n by omega), decide_eq_decide.2 (show (n : Int) ≤ (h : Int) ↔ n ≤ h by omega)]
theorem stm_off {o : Int} (h : ¬ (1 ≤ o ∧ o ≤ 9)) (d : ByteArray) (us ts : List ByteArray) : stmB ⟨o, d, us, ts⟩ = false := by
  unfold stmB okP
  simp only
  rw [if_neg (by omega), if_neg (by omega), if_neg (by omega), if_neg (by omega), if_neg (by omega), if_neg (by omega), if_neg (by omega)]
  simp
set_option maxHeartbeats 1600000 in
theorem validStmt_any (x : SH) (ex : List (Option Nat)) (w : World) (h : SHok w ex x) (hs : Shp w) :
    Calls Tryd.prog 96 #[.agg #[.int .i64 x.t.op, .string x.t.d, .slice x.A x.n x.c, .slice x.B x.m x.c2]] w fun e w' => e = .returned (.bool (stmB x.t)) ∧ Below w.heap.size w w' := by
  obtain ⟨A, n, c, B, m, c2, ⟨o, d, us, ts⟩⟩ := x
  have ha := h.arg
  simp only at ha
  by_cases h1 : 1 ≤ o ∧ o ≤ 9
  · rcases (show o = 1 ∨ o = 2 ∨ o = 3 ∨ o = 4 ∨ o = 5 ∨ o = 6 ∨ o = 7 ∨ o = 8 ∨ o = 9 by omega) with rfl | rfl | rfl | rfl | rfl | rfl | rfl | rfl | rfl
    · exact validStmt_1 d A n c B m c2 us ts w ha hs
    · exact validStmt_2 d A n c B m c2 us ts w ha hs
    · exact validStmt_3 d A n c B m c2 us ts w ha hs
    · exact validStmt_4 d A n c B m c2 us ts w ha hs
    · exact validStmt_5 d A n c B m c2 us ts w ha hs
    · exact validStmt_6 d A n c B m c2 us ts w ha hs
    · exact validStmt_7 d A n c B m c2 us ts w ha hs
    · exact validStmt_8 d A n c B m c2 us ts w ha hs
    · exact validStmt_9 d A n c B m c2 us ts w ha hs
  · have Hr := hid (stm_off h1 d us ts)
    have hw : wiB o 1 9 = false := by unfold wiB; rw [Bool.and_eq_false_iff]; simp; omega
    have HB := hid ((Below.refl w.heap.size w).alloc (Nat.le_refl _) (.cells #[.int .i64 o, .string d, .slice A n c, .slice B m c2] 79))
    clear h ha h1
    go_enter Tryd.func96, Tryd.ntmps96
    go_wp2_with fail
    refine (within_any _ _ _ _).mono ?_
    rintro e w2 ⟨rfl, rfl⟩
    go_wp2_with fail
    go_ret
    exact ⟨ret_b Hr.out, HB.out⟩
theorem allS_any_t {l : List SH} {k : Nat} {y : SH} (h : (l.take k).all (fun y => stmB y.t) = true) (hy : l[k]? = some y) (hp : stmB y.t = true) : (l.take (k + 1)).all (fun y => stmB y.t) = true := take_all (p := fun y : SH => stmB y.t) h hy hp
theorem allS_any_n {l : List SH} {k : Nat} {y : SH} (hy : l[k]? = some y) (hp : stmB y.t = false) : l.all (fun y => stmB y.t) = false := all_no (p := fun y : SH => stmB y.t) hy hp
set_option maxHeartbeats 1600000 in
theorem allS_any (x : BH) (ex : List (Option Nat)) (w : World) (h : BHok w ex x) (hs : Shp w) :
    Calls Tryd.prog 95 #[.slice x.A x.n x.c, .func (Fn.func 96) #[] #[]] w fun e w' => e = .returned (.bool (x.l.all fun y => stmB y.t)) ∧ Below w.heap.size w w' := by
  have HX := hid h
  have Hs := hid hs
  have hn := h.few
  have HL := hid h.len
  have hpos := hs.pos0
  clear h hs
  obtain ⟨nm, A, n, c, l⟩ := x
  simp only at hn HL
  go_enter Tryd.func95, Tryd.ntmps95
  go_wp2_with fail
  go_loopw [6, 9] (fun _ iv wr => ∃ k : Nat, k ≤ n ∧ iv = .int .i64 k ∧ Hid ((l.take k).all (fun y => stmB y.t) = true) ∧ Hid (Below w.heap.size w wr)) (fun _ iv _ => n - (intOf iv).toNat)
  case atStart => exact ⟨0, by omega, rfl, hid rfl, Below.refl _ _⟩
  case round =>
    obtain ⟨k, hk, rfl, hX, hB⟩ := hrel
    by_cases hlt : k < n
    · obtain ⟨y, hy, hym⟩ := get_at HL.out hlt
      have HPr := hid (HX.out.go (Go2.below hB.out))
      obtain ⟨ad, hA, had, hcs⟩ := SH.cells HPr.out.lies hy
      have Hy := hid (HPr.out.all y hym)
      have Hget := hid hy
      simp only at hA
      subst hA
      have hz := hB.out.size
      have hb2 := (Below.refl wr.heap.size wr).alloc (Nat.le_refl _) (.cells #[.int .i64 y.t.op, .string y.t.d, .slice y.A y.n y.c, .slice y.B y.m y.c2] 79)
      have Hy2 := hid (Hy.out.go (Go2.below hb2))
      have Hs2 := hid ((Hs.out.keep (hB.out.block 0 hpos)).keep (hb2.block 0 (by omega)))
      have HB2 := hid (below_step hB.out hb2)
      clear hy hym HPr hb2 Hy
      obtain ⟨hc1, hc2, hc3, hc4⟩ := hcs
      go_wp2_with fail
      refine (validStmt_any y ex _ Hy2.out Hs2.out).mono ?_
      rintro e w2 ⟨rfl, hb2⟩
      have HB3 := hid (below_step HB2.out hb2)
      clear hb2 Hy2 Hs2 HB2 hc1 hc2 hc3 hc4 had hz
      cases hv : (stmB y.t) with
      | false =>
        as_aux_lemma =>
          have Hr := hid (allS_any_n Hget.out hv)
          clear hv
          go_wp2_with fail
          go_ret
          exact ⟨ret_b Hr.out, HB3.out⟩
      | true =>
        as_aux_lemma =>
          have Hr := hid (allS_any_t hX.out Hget.out hv)
          clear hv
          go_wp2_with fail
          go_roundw
          case rel => exact ⟨k + 1, by omega, by go_num, Hr, HB3⟩
          case measure => simp [intOf]; omega
    · as_aux_lemma =>
        obtain rfl : k = n := by omega
        have Hr := hid (show (l.all fun y => stmB y.t) = true by rw [← List.take_length (l := l), HL.out]; exact hX.out)
        go_wp2_with fail
        go_ret
        exact ⟨ret_b Hr.out, hB.out⟩
set_option maxHeartbeats 1600000 in
theorem validBlock_any (x : BH) (ex : List (Option Nat)) (w : World) (h : BHok w ex x) (hs : Shp w) :
    Calls Tryd.prog 73 #[.agg #[.string x.name, .slice x.A x.n x.c]] w fun e w' => e = .returned (.bool (blkB x.b)) ∧ Below w.heap.size w w' := by
  obtain ⟨nm, A, n, c, l⟩ := x
  have hb2 := (Below.refl w.heap.size w).alloc (Nat.le_refl _) (.cells #[.string nm, .slice A n c] 73)
  have HX := hid (h.go (Go2.below hb2))
  have Hs := hid (hs.keep (hb2.block 0 hs.pos0))
  have Hf := hid (Fb.new w #[.string nm, .slice A n c] 73)
  have HB := hid hb2
  have Hnm := hid (show nm.size ≤ maxLen by have := h.small; simp only at this; unfold maxLen; omega)
  have Hl := hid (show l.length = n from h.len)
  have Hp := hid (show blkB (BH.b ⟨nm, A, n, c, l⟩) = (nameB nm && wiB n 1 32 && l.all fun y => stmB y.t) by
    rw [show wiB (n : Int) 1 32 = (decide (1 ≤ n) && decide (n ≤ 32)) from wi_nat n 32]; unfold blkB; simp [BH.b, Hl.out, List.all_map, Function.comp_def, Bool.and_assoc])
  have hn := h.few
  simp only at hn
  clear hb2 h hs
  go_enter Tryd.func73, Tryd.ntmps73
  go_wp2_with fail
  refine (devIsName_any nm _ Hnm.out).mono ?_
  rintro e w2 ⟨rfl, rfl⟩
  cases hv : nameB nm with
  | false =>
    as_aux_lemma =>
      have Hr := hid (Hp.out.trans (show (nameB nm && wiB n 1 32 && l.all fun y => stmB y.t) = false by rw [hv]; rfl))
      clear hv
      go_wp2_with fail
      go_ret
      exact ⟨ret_b Hr.out, HB.out⟩
  | true =>
    have Hv := hid hv
    clear hv
    obtain ⟨a0, a1⟩ := Hf.out.twoc
    go_wp2_with fail
    refine (within_any _ _ _ _).mono ?_
    rintro e w3 ⟨rfl, rfl⟩
    cases hx : wiB n 1 32 with
    | false =>
      as_aux_lemma =>
        have Hr := hid (Hp.out.trans (by rw [hx]; simp : _ = false))
        clear hx
        go_wp2_with fail
        go_ret
        exact ⟨ret_b Hr.out, HB.out⟩
    | true =>
      have Hr := hid (Hp.out.trans (by rw [hx, Hv.out]; rfl : _ = l.all fun y => stmB y.t))
      clear hx
      go_wp2_with fail
      refine (allS_any ⟨nm, A, n, c, l⟩ ex _ HX.out Hs.out).mono ?_
      rintro e w4 ⟨rfl, hb4⟩
      have HB4 := hid (below_step HB.out hb4)
      clear hb4
      cases hy : (l.all fun y => stmB y.t) with
      | false =>
        as_aux_lemma =>
          rw [hy] at Hr
          clear hy
          go_wp2_with fail
          go_ret
          exact ⟨ret_b Hr.out, HB4.out⟩
      | true =>
        as_aux_lemma =>
          rw [hy] at Hr
          clear hy
          go_wp2_with fail
          go_ret
          exact ⟨ret_b Hr.out, HB4.out⟩
theorem allB_any_t {l : List BH} {k : Nat} {y : BH} (h : (l.take k).all (fun y => blkB y.b) = true) (hy : l[k]? = some y) (hp : blkB y.b = true) : (l.take (k + 1)).all (fun y => blkB y.b) = true := take_all (p := fun y : BH => blkB y.b) h hy hp
theorem allB_any_n {l : List BH} {k : Nat} {y : BH} (hy : l[k]? = some y) (hp : blkB y.b = false) : l.all (fun y => blkB y.b) = false := all_no (p := fun y : BH => blkB y.b) hy hp
set_option maxHeartbeats 1600000 in
theorem allB_any (x : FH) (ex : List (Option Nat)) (w : World) (h : FHok w ex x) (hs : Shp w) :
    Calls Tryd.prog 72 #[.slice x.A x.n x.c, .func (Fn.func 73) #[] #[]] w fun e w' => e = .returned (.bool (x.l.all fun y => blkB y.b)) ∧ Below w.heap.size w w' := by
  have HX := hid h
  have Hs := hid hs
  have hn := h.few
  have HL := hid h.len
  have hpos := hs.pos0
  clear h hs
  obtain ⟨nm, A, n, c, l⟩ := x
  simp only at hn HL
  go_enter Tryd.func72, Tryd.ntmps72
  go_wp2_with fail
  go_loopw [6, 9] (fun _ iv wr => ∃ k : Nat, k ≤ n ∧ iv = .int .i64 k ∧ Hid ((l.take k).all (fun y => blkB y.b) = true) ∧ Hid (Below w.heap.size w wr)) (fun _ iv _ => n - (intOf iv).toNat)
  case atStart => exact ⟨0, by omega, rfl, hid rfl, Below.refl _ _⟩
  case round =>
    obtain ⟨k, hk, rfl, hX, hB⟩ := hrel
    by_cases hlt : k < n
    · obtain ⟨y, hy, hym⟩ := get_at HL.out hlt
      have HPr := hid (HX.out.go (Go2.below hB.out))
      obtain ⟨ad, hA, had, hcs⟩ := BH.cells HPr.out.lies hy
      have Hy := hid (HPr.out.all y hym)
      have Hget := hid hy
      simp only at hA
      subst hA
      have hz := hB.out.size
      have hb2 := (Below.refl wr.heap.size wr).alloc (Nat.le_refl _) (.cells #[.string y.name, .slice y.A y.n y.c] 73)
      have Hy2 := hid (Hy.out.go (Go2.below hb2))
      have Hs2 := hid ((Hs.out.keep (hB.out.block 0 hpos)).keep (hb2.block 0 (by omega)))
      have HB2 := hid (below_step hB.out hb2)
      clear hy hym HPr hb2 Hy
      obtain ⟨hc1, hc2⟩ := hcs
      go_wp2_with fail
      refine (validBlock_any y ex _ Hy2.out Hs2.out).mono ?_
      rintro e w2 ⟨rfl, hb2⟩
      have HB3 := hid (below_step HB2.out hb2)
      clear hb2 Hy2 Hs2 HB2 hc1 hc2 had hz
      cases hv : (blkB y.b) with
      | false =>
        as_aux_lemma =>
          have Hr := hid (allB_any_n Hget.out hv)
          clear hv
          go_wp2_with fail
          go_ret
          exact ⟨ret_b Hr.out, HB3.out⟩
      | true =>
        as_aux_lemma =>
          have Hr := hid (allB_any_t hX.out Hget.out hv)
          clear hv
          go_wp2_with fail
          go_roundw
          case rel => exact ⟨k + 1, by omega, by go_num, Hr, HB3⟩
          case measure => simp [intOf]; omega
    · as_aux_lemma =>
        obtain rfl : k = n := by omega
        have Hr := hid (show (l.all fun y => blkB y.b) = true by rw [← List.take_length (l := l), HL.out]; exact hX.out)
        go_wp2_with fail
        go_ret
        exact ⟨ret_b Hr.out, hB.out⟩
set_option maxHeartbeats 1600000 in
theorem validFunc_any (x : FH) (ex : List (Option Nat)) (w : World) (h : FHok w ex x) (hs : Shp w) :
    Calls Tryd.prog 47 #[.agg #[.string x.name, .slice x.A x.n x.c]] w fun e w' => e = .returned (.bool (fncB x.f)) ∧ Below w.heap.size w w' := by
  obtain ⟨nm, A, n, c, l⟩ := x
  have hb2 := (Below.refl w.heap.size w).alloc (Nat.le_refl _) (.cells #[.string nm, .slice A n c] 48)
  have HX := hid (h.go (Go2.below hb2))
  have Hs := hid (hs.keep (hb2.block 0 hs.pos0))
  have Hf := hid (Fb.new w #[.string nm, .slice A n c] 48)
  have HB := hid hb2
  have Hnm := hid (show nm.size ≤ maxLen by have := h.small; simp only at this; unfold maxLen; omega)
  have Hl := hid (show l.length = n from h.len)
  have Hp := hid (show fncB (FH.f ⟨nm, A, n, c, l⟩) = (nameB nm && wiB n 1 16 && l.all fun y => blkB y.b) by
    rw [show wiB (n : Int) 1 16 = (decide (1 ≤ n) && decide (n ≤ 16)) from wi_nat n 16]; unfold fncB; simp [FH.f, Hl.out, List.all_map, Function.comp_def, Bool.and_assoc])
  have hn := h.few
  simp only at hn
  clear hb2 h hs
  go_enter Tryd.func47, Tryd.ntmps47
  go_wp2_with fail
  refine (devIsName_any nm _ Hnm.out).mono ?_
  rintro e w2 ⟨rfl, rfl⟩
  cases hv : nameB nm with
  | false =>
    as_aux_lemma =>
      have Hr := hid (Hp.out.trans (show (nameB nm && wiB n 1 16 && l.all fun y => blkB y.b) = false by rw [hv]; rfl))
      clear hv
      go_wp2_with fail
      go_ret
      exact ⟨ret_b Hr.out, HB.out⟩
  | true =>
    have Hv := hid hv
    clear hv
    obtain ⟨a0, a1⟩ := Hf.out.twoc
    go_wp2_with fail
    refine (within_any _ _ _ _).mono ?_
    rintro e w3 ⟨rfl, rfl⟩
    cases hx : wiB n 1 16 with
    | false =>
      as_aux_lemma =>
        have Hr := hid (Hp.out.trans (by rw [hx]; simp : _ = false))
        clear hx
        go_wp2_with fail
        go_ret
        exact ⟨ret_b Hr.out, HB.out⟩
    | true =>
      have Hr := hid (Hp.out.trans (by rw [hx, Hv.out]; rfl : _ = l.all fun y => blkB y.b))
      clear hx
      go_wp2_with fail
      refine (allB_any ⟨nm, A, n, c, l⟩ ex _ HX.out Hs.out).mono ?_
      rintro e w4 ⟨rfl, hb4⟩
      have HB4 := hid (below_step HB.out hb4)
      clear hb4
      cases hy : (l.all fun y => blkB y.b) with
      | false =>
        as_aux_lemma =>
          rw [hy] at Hr
          clear hy
          go_wp2_with fail
          go_ret
          exact ⟨ret_b Hr.out, HB4.out⟩
      | true =>
        as_aux_lemma =>
          rw [hy] at Hr
          clear hy
          go_wp2_with fail
          go_ret
          exact ⟨ret_b Hr.out, HB4.out⟩
theorem allF_any_t {l : List FH} {k : Nat} {y : FH} (h : (l.take k).all (fun y => fncB y.f) = true) (hy : l[k]? = some y) (hp : fncB y.f = true) : (l.take (k + 1)).all (fun y => fncB y.f) = true := take_all (p := fun y : FH => fncB y.f) h hy hp
theorem allF_any_n {l : List FH} {k : Nat} {y : FH} (hy : l[k]? = some y) (hp : fncB y.f = false) : l.all (fun y => fncB y.f) = false := all_no (p := fun y : FH => fncB y.f) hy hp
set_option maxHeartbeats 1600000 in
theorem allF_any (x : PH) (ex : List (Option Nat)) (w : World) (h : PHok w ex x) (hs : Shp w) :
    Calls Tryd.prog 46 #[.slice x.A x.n x.c, .func (Fn.func 47) #[] #[]] w fun e w' => e = .returned (.bool (x.l.all fun y => fncB y.f)) ∧ Below w.heap.size w w' := by
  have HX := hid h
  have Hs := hid hs
  have hn := h.few
  have HL := hid h.len
  have hpos := hs.pos0
  clear h hs
  obtain ⟨A, n, c, l⟩ := x
  simp only at hn HL
  go_enter Tryd.func46, Tryd.ntmps46
  go_wp2_with fail
  go_loopw [6, 9] (fun _ iv wr => ∃ k : Nat, k ≤ n ∧ iv = .int .i64 k ∧ Hid ((l.take k).all (fun y => fncB y.f) = true) ∧ Hid (Below w.heap.size w wr)) (fun _ iv _ => n - (intOf iv).toNat)
  case atStart => exact ⟨0, by omega, rfl, hid rfl, Below.refl _ _⟩
  case round =>
    obtain ⟨k, hk, rfl, hX, hB⟩ := hrel
    by_cases hlt : k < n
    · obtain ⟨y, hy, hym⟩ := get_at HL.out hlt
      have HPr := hid (HX.out.go (Go2.below hB.out))
      obtain ⟨ad, hA, had, hcs⟩ := FH.cells HPr.out.lies hy
      have Hy := hid (HPr.out.all y hym)
      have Hget := hid hy
      simp only at hA
      subst hA
      have hz := hB.out.size
      have hb2 := (Below.refl wr.heap.size wr).alloc (Nat.le_refl _) (.cells #[.string y.name, .slice y.A y.n y.c] 48)
      have Hy2 := hid (Hy.out.go (Go2.below hb2))
      have Hs2 := hid ((Hs.out.keep (hB.out.block 0 hpos)).keep (hb2.block 0 (by omega)))
      have HB2 := hid (below_step hB.out hb2)
      clear hy hym HPr hb2 Hy
      obtain ⟨hc1, hc2⟩ := hcs
      go_wp2_with fail
      refine (validFunc_any y ex _ Hy2.out Hs2.out).mono ?_
      rintro e w2 ⟨rfl, hb2⟩
      have HB3 := hid (below_step HB2.out hb2)
      clear hb2 Hy2 Hs2 HB2 hc1 hc2 had hz
      cases hv : (fncB y.f) with
      | false =>
        as_aux_lemma =>
          have Hr := hid (allF_any_n Hget.out hv)
          clear hv
          go_wp2_with fail
          go_ret
          exact ⟨ret_b Hr.out, HB3.out⟩
      | true =>
        as_aux_lemma =>
          have Hr := hid (allF_any_t hX.out Hget.out hv)
          clear hv
          go_wp2_with fail
          go_roundw
          case rel => exact ⟨k + 1, by omega, by go_num, Hr, HB3⟩
          case measure => simp [intOf]; omega
    · as_aux_lemma =>
        obtain rfl : k = n := by omega
        have Hr := hid (show (l.all fun y => fncB y.f) = true by rw [← List.take_length (l := l), HL.out]; exact hX.out)
        go_wp2_with fail
        go_ret
        exact ⟨ret_b Hr.out, hB.out⟩
set_option maxHeartbeats 1600000 in
theorem devValid_any (x : PH) (ex : List (Option Nat)) (w : World) (h : PHok w ex x) (hs : Shp w) :
    Calls Tryd.prog 29 #[.agg #[.slice x.A x.n x.c]] w fun e w' => e = .returned (.bool (prgB x.p)) ∧ Below w.heap.size w w' := by
  obtain ⟨A, n, c, l⟩ := x
  have hb2 := (Below.refl w.heap.size w).alloc (Nat.le_refl _) (.cells #[.slice A n c] 24)
  have HX := hid (h.go (Go2.below hb2))
  have Hs := hid (hs.keep (hb2.block 0 hs.pos0))
  have Hf := hid (Fb.new w #[.slice A n c] 24)
  have HB := hid hb2
  have Hl := hid (show l.length = n from h.len)
  have Hp := hid (show prgB (PH.p ⟨A, n, c, l⟩) = (wiB n 1 8 && l.all fun y => fncB y.f) by
    rw [show wiB (n : Int) 1 8 = (decide (1 ≤ n) && decide (n ≤ 8)) from wi_nat n 8]; unfold prgB; simp [PH.p, Hl.out, List.all_map, Function.comp_def])
  have hn := h.few
  simp only at hn
  clear hb2 h hs
  go_enter Tryd.func29, Tryd.ntmps29
  go_wp2_with fail
  refine (within_any _ _ _ _).mono ?_
  rintro e w3 ⟨rfl, rfl⟩
  have a0 := Hf.out.onec
  cases hx : wiB n 1 8 with
  | false =>
    as_aux_lemma =>
      have Hr := hid (Hp.out.trans (by rw [hx]; simp : _ = false))
      clear hx
      go_wp2_with fail
      go_ret
      exact ⟨ret_b Hr.out, HB.out⟩
  | true =>
    have Hr := hid (Hp.out.trans (by rw [hx]; rfl : _ = l.all fun y => fncB y.f))
    clear hx
    go_wp2_with fail
    refine (allF_any ⟨A, n, c, l⟩ ex _ HX.out Hs.out).mono ?_
    rintro e w4 ⟨rfl, hb4⟩
    have HB4 := hid (below_step HB.out hb4)
    clear hb4
    cases hy : (l.all fun y => fncB y.f) with
    | false =>
      as_aux_lemma =>
        rw [hy] at Hr
        clear hy
        go_wp2_with fail
        go_ret
        exact ⟨ret_b Hr.out, HB4.out⟩
    | true =>
      as_aux_lemma =>
        rw [hy] at Hr
        clear hy
        go_wp2_with fail
        go_ret
        exact ⟨ret_b Hr.out, HB4.out⟩
end Go.Proofs.YtfapgnbnfhpicaaDoor

namespace Go.Proofs.YtfapgnbnfhpicaaDoor
set_option maxRecDepth 20000
set_option linter.unusedVariables false
set_option linter.unusedSimpArgs false
open Go.ChangeShapes Go.WideShapes Go.ChangeAt Go.RowKit

def fncS (f : Fnc) : List Stm := f.bs.flatMap Blk.ss
def stmtsP (p : List Fnc) : List Stm := if prgB p then p.flatMap fncS else []
theorem blk_parts {b : Blk} (h : blkB b = true) : 1 ≤ b.ss.length ∧ b.ss.length ≤ 32 ∧ ∀ s ∈ b.ss, stmB s = true := by
  unfold blkB at h
  simp only [Bool.and_eq_true, decide_eq_true_eq] at h
  exact ⟨h.1.1.2, h.1.2, fun s hs => List.all_eq_true.1 h.2 s hs⟩
theorem fnc_parts {f : Fnc} (h : fncB f = true) : 1 ≤ f.bs.length ∧ f.bs.length ≤ 16 ∧ ∀ b ∈ f.bs, blkB b = true := by
  unfold fncB at h
  simp only [Bool.and_eq_true, decide_eq_true_eq] at h
  exact ⟨h.1.1.2, h.1.2, fun s hs => List.all_eq_true.1 h.2 s hs⟩
theorem prg_parts {p : List Fnc} (h : prgB p = true) : 1 ≤ p.length ∧ p.length ≤ 8 ∧ ∀ f ∈ p, fncB f = true := by
  unfold prgB at h
  simp only [Bool.and_eq_true, decide_eq_true_eq] at h
  exact ⟨h.1.1, h.1.2, fun s hs => List.all_eq_true.1 h.2 s hs⟩
theorem flat_mem {α β : Type} {f : α → List β} {l : List α} {P : β → Prop} (h : ∀ a ∈ l, ∀ b ∈ f a, P b) : ∀ b ∈ l.flatMap f, P b := by
  intro b hb
  obtain ⟨a, ha, hb⟩ := List.mem_flatMap.1 hb
  exact h a ha b hb
theorem stmts_ok {p : List Fnc} : ∀ s ∈ stmtsP p, stmB s = true := by
  unfold stmtsP
  split
  · next h => exact flat_mem fun f hf => flat_mem fun b hb => (blk_parts ((fnc_parts ((prg_parts h).2.2 f hf)).2.2 b hb)).2.2
  · simp
theorem one_shc2 (l : List SH) : ∀ u ∈ l.flatMap shc, u.oneCell' = true := flat_mem fun x _ => by
  intro u hu
  simp [shc] at hu
  rcases hu with rfl | rfl | rfl | rfl <;> rfl
/-- The statements' list came back. -/
def RetSt (w0 w : World) (p : List Fnc) (e : Ending) (w' : World) : Prop :=
  ∃ (A : Option Addr) (c : Nat) (l : List SH), e = .returned (.slice A l.length c) ∧ l.map SH.t = stmtsP p ∧ l.length ≤ 4096 ∧ (∀ ex : List (Option Nat), (∀ k, some k ∈ ex → k < w.heap.size) → EAt w' ex A (l.flatMap shc)) ∧ (∀ y ∈ l, SHok w0 [] y) ∧ Below w.heap.size w w'
/-- The list of statements that is built, beside what it is built of. -/
structure Stg (w0 w : World) (v : Value) (m : Nat) (L : List SH) (wr : World) : Prop where
  own : wr.ownsRow (w.heap.size + 1) 79 4 v m (L.flatMap shc)
  len : m = L.length
  all : ∀ y ∈ L, SHok w0 [] y
  bel : Below w.heap.size w wr
  siz : w.heap.size + 1 ≤ wr.heap.size
theorem Stg.below {w0 w wr w' : World} {v : Value} {m : Nat} {L : List SH} (h : Stg w0 w v m L wr) (hb : Below wr.heap.size wr w') : Stg w0 w v m L w' :=
  ⟨own_below h.own hb, h.len, h.all, below_step h.bel hb, Nat.le_trans h.siz hb.size⟩
theorem Stg.push {w0 w wr w' : World} {v : Value} {m n g cap : Nat} {L l : List SH} (h : Stg w0 w v m L wr) (hall : ∀ y ∈ l, SHok w0 [] y) (hn : l.length = n)
    (hown : w'.ownsRow (w.heap.size + 1) 79 4 (.slice (some ⟨g, 0, none⟩) (m + n) cap) (m + n) (L.flatMap shc ++ l.flatMap shc)) (hg : wr.grownBy w' v.ownBlock) : Stg w0 w (.slice (some ⟨g, 0, none⟩) (m + n) cap) (m + n) (L ++ l) w' := by
  refine ⟨by rw [List.flatMap_append]; exact hown, by rw [List.length_append, h.len, hn], fun y hy => (List.mem_append.1 hy).elim (h.all y) (hall y), ?_, Nat.le_trans h.siz hg.size⟩
  exact h.bel.grown hg h.bel.size (fun k hk => by have := (h.own.lt k hk).1; omega)
theorem info46 : (Tryd.prog.info? 79).map (fun i => (i.zero, i.size, i.bytes)) = some (some (.agg #[.int .i64 0, .string ⟨#[]⟩, .slice none 0 0, .slice none 0 0]), 4, 72) := by kernel_rfl
set_option maxHeartbeats 6400000 in
theorem statements_any (x : PH) (ex : List (Option Nat)) (wz w : World) (h : PHok wz ex x) (hwz : Below wz.heap.size wz w) (hs : Shp w) :
    Calls Tryd.prog 77 #[.agg #[.slice x.A x.n x.c]] w (RetSt wz w x.p) := by
  obtain ⟨i1, hi, hz0, hz1, hz2⟩ := info_parts info46
  have Hi := hid hi; have Hz0 := hid hz0; have Hz1 := hid hz1; have Hz2 := hid hz2
  clear hi hz0 hz1 hz2
  have hx0 : PHok wz [] x := h.go (Go2.less wz (by simp))
  have Hwz := hid hwz
  have hb0 := (Below.refl w.heap.size w).alloc (Nat.le_refl _) (.cells #[.slice x.A x.n x.c] 24)
  have HX := hid hx0
  have HB0 := hid hb0
  have HG0 := hid (Fb.new w #[.slice x.A x.n x.c] 24)
  have HV := hid (devValid_any x [] _ (PHok.below (PHok.below hx0 hwz) hb0) (hs.keep (hb0.block 0 hs.pos0)))
  have hsz0 := hid (show (w.alloc (.cells #[.slice x.A x.n x.c] 24)).heap.size = w.heap.size + 1 by rw [World.size_alloc])
  have hn := h.few
  have HL := hid h.len
  clear h hb0 hx0 hs hwz
  obtain ⟨A, n, c, l⟩ := x
  simp only at *
  go_enter Tryd.func77, Tryd.ntmps77
  go_wp2_with fail
  generalize w.alloc (.cells #[.slice A n c] 24) = w0 at *
  refine HV.out.mono ?_
  rintro e w1 ⟨rfl, hb1⟩
  have HB1 := hid (below_step HB0.out hb1)
  have HG1 := hid (HG0.out.below hb1 HG0.out.lt)
  have HS1 := hid (show w.heap.size + 1 ≤ w1.heap.size by have := hb1.size; have := hsz0.out; omega)
  clear hb1 HB0 HG0 HV hsz0
  cases hv : prgB (PH.p ⟨A, n, c, l⟩) with
  | false =>
    as_aux_lemma =>
      have Hr := hid (show stmtsP (PH.p ⟨A, n, c, l⟩) = [] by unfold stmtsP; rw [hv]; rfl)
      clear hv
      go_wp2_with fail
      go_ret
      exact ⟨none, 0, [], rfl, by rw [Hr.out]; rfl, by simp, fun _ _ => EAt.nil _ _ _, by simp, HB1.out⟩
  | true =>
    have Hr := hid (show stmtsP (PH.p ⟨A, n, c, l⟩) = l.flatMap (fun y => fncS y.f) by unfold stmtsP PH.p; rw [show prgB (l.map FH.f) = true from hv, if_pos rfl, List.flatMap_map])
    have HP := hid (prg_parts hv)
    have hn8 : n ≤ 8 := by have := HP.out.2.1; have := HL.out; simp [PH.p] at *; omega
    have Hf := hid (fun (y : FH) (hy : y ∈ l) => fnc_parts (HP.out.2.2 y.f (List.mem_map_of_mem hy)))
    clear hv
    have HO := hid (show Stg wz w (.slice none 0 0) 0 [] w1 from ⟨World.ownsRow_nil _ _ _ _, rfl, by simp, HB1.out, HS1.out⟩)
    obtain g0 := HG1.out.onec
    clear HB1 HS1 HP
    go_wp2_with fail
    clear g0 HG1
    go_loopw [3, 5, 7, 14] (fun sv _ _ iv wr => ∃ (k m : Nat) (v : Value) (L : List SH), k ≤ n ∧ iv = .int .i64 k ∧ sv = v ∧ m ≤ k * 512 ∧ Hid (L.map SH.t = (l.take k).flatMap (fun y => fncS y.f)) ∧ Hid (Stg wz w v m L wr)) (fun _ _ _ iv _ => n - (intOf iv).toNat)
    case atStart => exact ⟨0, 0, _, [], by omega, rfl, rfl, by omega, hid rfl, HO.out⟩
    case round =>
      clear HO
      obtain ⟨k, m, v, L, hk, rfl, rfl, hm, hE, hO⟩ := hrel
      by_cases hlt : k < n
      · obtain ⟨y, hy, hym⟩ := get_at HL.out hlt
        have HPr := hid (HX.out.go (Go2.below (below_step Hwz.out hO.out.bel)))
        obtain ⟨ad, hA, had, hc1, hc2⟩ := FH.cells HPr.out.lies hy
        simp only at hA
        subst hA
        have hb2 := (Below.refl wr.heap.size wr).alloc (Nat.le_refl _) (.cells #[.string y.name, .slice y.A y.n y.c] 48)
        have HO2 := hid (hO.out.below hb2)
        have HG2 := hid (Fb.new wr #[.string y.name, .slice y.A y.n y.c] 48)
        have Hy := hid (HX.out.all y hym)
        have Hyl := hid (show y.l.length = y.n from (HX.out.all y hym).len)
        have hyn : y.n ≤ 16 := by have := (Hf.out y hym).2.1; have := Hyl.out; simp [FH.f] at *; omega
        have Hyb := hid (fun (z : BH) (hz : z ∈ y.l) => blk_parts ((Hf.out y hym).2.2 z.b (List.mem_map_of_mem hz)))
        have Hstep := hid (show (l.take (k + 1)).flatMap (fun y => fncS y.f) = (l.take k).flatMap (fun y => fncS y.f) ++ fncS y.f by rw [List.take_add_one, hy, List.flatMap_append]; simp)
        have Hfs := hid (show fncS y.f = y.l.flatMap (fun z => z.b.ss) by unfold fncS FH.f; rw [List.flatMap_map])
        clear hy hym HPr hb2 hO
        obtain ⟨g0, g1⟩ := HG2.out.twoc
        obtain ⟨ynm, yA, yn, yc, yl⟩ := y
        simp only at *
        go_wp2_with fail
        clear g0 g1 hc1 hc2 had HG2
        go_loopw [3, 7, 21] (fun sv _ iv wr => ∃ (j m2 : Nat) (v : Value) (L2 : List SH), j ≤ yn ∧ iv = .int .i64 j ∧ sv = v ∧ m2 ≤ k * 512 + j * 32 ∧ Hid (L2.map SH.t = (l.take k).flatMap (fun y => fncS y.f) ++ (yl.take j).flatMap (fun z => z.b.ss)) ∧ Hid (Stg wz w v m2 L2 wr)) (fun _ _ iv _ => yn - (intOf iv).toNat)
        case atStart => exact ⟨0, m, _, L, by omega, rfl, rfl, by omega, hid (by rw [hE.out]; simp), HO2.out⟩
        case round =>
          clear HO2
          obtain ⟨j, m2, v2, L2, hj, rfl, rfl, hm2, hE2, hO⟩ := hrel
          by_cases hlt2 : j < yn
          · obtain ⟨z, hz, hzm⟩ := get_at Hyl.out hlt2
            have HPr := hid (Hy.out.go (Go2.below (below_step Hwz.out hO.out.bel)))
            obtain ⟨ad2, hA, had, hc1, hc2⟩ := BH.cells HPr.out.lies hz
            simp only at hA
            subst hA
            have hb2 := (Below.refl wr.heap.size wr).alloc (Nat.le_refl _) (.cells #[.string z.name, .slice z.A z.n z.c] 73)
            have HO2 := hid (hO.out.below hb2)
            have HG2 := hid (Fb.new wr #[.string z.name, .slice z.A z.n z.c] 73)
            have HZ := hid ((HPr.out.all z hzm).lies.go (Go2.below hb2))
            have Hza := hid (Hy.out.all z hzm).all
            have Hzl := hid (show z.l.length = z.n from (HPr.out.all z hzm).len)
            have hzn : 1 ≤ z.n ∧ z.n ≤ 32 := by have h1 := (Hyb.out z hzm).1; have h2 := (Hyb.out z hzm).2.1; have := Hzl.out; simp [BH.b] at *; omega
            have Hstep2 := hid (show (yl.take (j + 1)).flatMap (fun z => z.b.ss) = (yl.take j).flatMap (fun z => z.b.ss) ++ z.l.map SH.t by rw [List.take_add_one, hz, List.flatMap_append]; simp [BH.b])
            clear hz hzm HPr hb2 hO
            obtain ⟨g0, g1⟩ := HG2.out.twoc
            obtain ⟨znm, zA, zn, zc, zl⟩ := z
            simp only at *
            obtain ⟨za, rfl, hzs, hzc⟩ : ∃ ad, zA = some ad ∧ Safe _ [] ad.block ∧ ∀ j u, (zl.flatMap shc)[j]? = some u → World.cell? _ (ad.add j) = some u := by
              rcases HZ.out with h | h
              · have := flat_len shc_len zl; rw [h] at this; simp at this; have := Hzl.out; omega
              · exact h
            have Hzc := hid hzc
            have Hnl := hid (show (zl.flatMap shc).length = zn * 4 by rw [flat_len shc_len, Hzl.out])
            clear hzc hzs
            go_wp2_with ((
              at_builtin
              refine wpList_append_lies _ rfl _ _ 71 rfl (w.heap.size + 1) 79 i1 _ 4 72 Tryd.underlying71 Hi.out Hz0.out Hz1.out Hz2.out rfl (by decide) _ m2 (L2.flatMap shc) rfl HO2.out.own za zn zc (zl.flatMap shc) rfl Hnl.out Hzc.out (one_shc2 zl) (by omega) (by unfold maxLen; omega) (by omega) HO2.out.siz _ rfl ?_
              intro g5 cap5 w5 hown5 hgr5 hat5 hlt5
              have H5 := hid (Stg.push HO2.out Hza.out Hzl.out hown5 hgr5)
              clear hown5 hgr5 hat5 hlt5))
            clear g0 g1 hc1 hc2 had HG2 HO2 HZ Hzc
            go_roundw
            case rel => exact ⟨j + 1, m2 + zn, _, L2 ++ zl, by omega, by go_num, rfl, by omega, hid (by rw [List.map_append, hE2.out, Hstep2.out, List.append_assoc]), H5⟩
            case measure => simp [intOf]; omega
          · as_aux_lemma =>
              obtain rfl : j = yn := by omega
              have Hd := hid (show L2.map SH.t = (l.take (k + 1)).flatMap (fun y => fncS y.f) by rw [hE2.out, Hstep.out, Hfs.out, ← Hyl.out, List.take_length])
              go_wp2_with fail
              go_roundw
              case rel => exact ⟨k + 1, m2, _, L2, by omega, by go_num, rfl, by omega, Hd, hO⟩
              case measure => simp [intOf]; omega
      · as_aux_lemma =>
          obtain rfl : k = n := by omega
          have Hd := hid (show L.map SH.t = stmtsP (PH.p ⟨A, k, c, l⟩) by rw [hE.out, Hr.out, ← HL.out, List.take_length])
          obtain ⟨B, cc, hvv⟩ := own_any_slice hO.out.own
          subst hvv
          have hml := hO.out.len
          go_wp2_with fail
          go_ret
          subst hml
          exact ⟨B, cc, L, rfl, Hd.out, by omega, fun ex hex => EAt.own hO.out.own (fun g hg hm => by have := (hO.out.own.lt g hg).1; have := hex g hm; omega), hO.out.all, hO.out.bel⟩
end Go.Proofs.YtfapgnbnfhpicaaDoor

namespace Go.Proofs.YtfapgnbnfhpicaaDoor
set_option maxRecDepth 20000
set_option linter.unusedVariables false
set_option linter.unusedSimpArgs false
open Go.ChangeShapes Go.WideShapes Go.ChangeAt Go.RowKit

def nodO (o : Int) : Nat := if o == 3 then 2 else 1
def edgO (o : Int) : Nat := if o == 3 then 3 else if o == 8 then 2 else 1
theorem nod_any (o : Int) (w : World) : Calls Tryd.prog 78 #[.int .i64 o] w fun e w' => e = .returned (.int .i64 (nodO o : Nat)) ∧ w = w' := by
  unfold nodO
  cases h1 : (o == 3) with
  | true =>
    go_enter Tryd.func78, Tryd.ntmps78
    go_wp2
    go_ret
    exact ⟨rfl, rfl⟩
  | false =>
    go_enter Tryd.func78, Tryd.ntmps78
    go_wp2
    go_ret
    exact ⟨rfl, rfl⟩
theorem edg_any (o : Int) (w : World) : Calls Tryd.prog 79 #[.int .i64 o] w fun e w' => e = .returned (.int .i64 (edgO o : Nat)) ∧ w = w' := by
  unfold edgO
  cases h1 : (o == 3) with
  | true =>
    go_enter Tryd.func79, Tryd.ntmps79
    go_wp2
    go_ret
    exact ⟨rfl, rfl⟩
  | false =>
    cases h2 : (o == 8) with
    | true =>
      go_enter Tryd.func79, Tryd.ntmps79
      go_wp2
      go_ret
      exact ⟨rfl, rfl⟩
    | false =>
      go_enter Tryd.func79, Tryd.ntmps79
      go_wp2
      go_ret
      exact ⟨rfl, rfl⟩
theorem nod_le (o : Int) : nodO o ≤ 2 := by unfold nodO; split <;> omega
theorem edg_le (o : Int) : edgO o ≤ 3 := by unfold edgO; split; omega; split <;> omega
def sumP (f : Int → Nat) (l : List Stm) : Nat := (l.map fun t => f t.op).sum
theorem sum_take {f : Int → Nat} {l : List Stm} {k : Nat} {t : Stm} (h : l[k]? = some t) : sumP f (l.take (k + 1)) = sumP f (l.take k) + f t.op := by
  unfold sumP; rw [List.take_add_one, h]; simp
theorem sumP_le {f : Int → Nat} {b : Nat} (hf : ∀ o, f o ≤ b) (l : List Stm) : sumP f l ≤ l.length * b := by
  unfold sumP
  induction l with
  | nil => simp
  | cons t l ih => simp only [List.map_cons, List.sum_cons, List.length_cons, Nat.succ_mul]; have := hf t.op; omega
/-- How many nodes and edges. -/
def sizesP (p : List Fnc) : Nat × Nat := if (stmtsP p).length = 0 then (0, 0) else (2 * p.length + sumP nodO (stmtsP p), p.length + sumP edgO (stmtsP p))
def RetSz (w : World) (r : Nat × Nat) (e : Ending) (w' : World) : Prop := e = .returned (.tuple #[.int .i64 (r.1 : Nat), .int .i64 (r.2 : Nat)]) ∧ Below w.heap.size w w'
theorem retSz_mk {w w' : World} {r : Nat × Nat} {a b : Nat} {x y : Int} (h : r = (a, b)) (hx : x = a) (hy : y = b) (hb : Below w.heap.size w w') : RetSz w r (.returned (.tuple #[.int .i64 x, .int .i64 y])) w' := by subst h; subst hx; subst hy; exact ⟨rfl, hb⟩
theorem sizes_none {p : List Fnc} (h : (stmtsP p).length = 0) : sizesP p = (0, 0) := by unfold sizesP; rw [if_pos h]
theorem sizes_some {p : List Fnc} {n a b : Nat} (h : (stmtsP p).length ≠ 0) (hn : p.length = n) (ha : sumP nodO (stmtsP p) = a) (hb : sumP edgO (stmtsP p) = b) : sizesP p = (2 * n + a, n + b) := by unfold sizesP; rw [if_neg h, hn, ha, hb]
set_option maxHeartbeats 3200000 in
theorem sizes_any (x : PH) (ex : List (Option Nat)) (w : World) (h : PHok w ex x) (hs : Shp w) :
    Calls Tryd.prog 51 #[.agg #[.slice x.A x.n x.c]] w (RetSz w (sizesP x.p)) := by
  have hb0 := (Below.refl w.heap.size w).alloc (Nat.le_refl _) (.cells #[.slice x.A x.n x.c] 24)
  have HB0 := hid hb0
  have HG0 := hid (Fb.new w #[.slice x.A x.n x.c] 24)
  have HS := hid (statements_any x ex _ _ (PHok.below h hb0) (Below.refl _ _) (hs.keep (hb0.block 0 hs.pos0)))
  have Hpl := hid (show x.p.length = x.n by unfold PH.p; rw [List.length_map]; exact h.len)
  have hn := h.few
  clear h hb0 hs
  obtain ⟨A, n, c, l⟩ := x
  simp only at *
  generalize PH.p ⟨A, n, c, l⟩ = p at *
  go_enter Tryd.func51, Tryd.ntmps51
  go_wp2_with fail
  generalize w.alloc (.cells #[.slice A n c] 24) = w0 at *
  refine HS.out.mono ?_
  rintro e w1 ⟨B, d, L, rfl, hL, hL4, hE, hall, hb1⟩
  have HB1 := hid (below_step HB0.out hb1)
  have HG1 := hid (HG0.out.below hb1 HG0.out.lt)
  have HL := hid hL
  have HE := hid (hE [] (by simp))
  have Hln := hid (show (stmtsP p).length = L.length by rw [← hL, List.length_map])
  clear hb1 HB0 HG0 HS hL hE hall
  by_cases h0 : L.length = 0
  · as_aux_lemma =>
      have Hr := hid (sizes_none (p := p) (by rw [Hln.out]; exact h0))
      have t0 : ((L.length : Int) == 0) = true := by simp [h0]
      have Hh := hid h0
      clear h0
      go_wp2_with fail
      go_ret2
      exact retSz_mk Hr.out rfl rfl HB1.out
  · have t0 : ((L.length : Int) == 0) = false := by simpa using h0
    have Hh := hid h0
    have hpos : 0 < L.length := by omega
    obtain g0 := HG1.out.onec
    have hm1 : IntKind.i64.wrap (2 * (n : Int)) = 2 * (n : Int) := IntWalk.i64_in _ (by omega)
    clear h0
    go_wp2_with fail
    go_quiet (fail)
    go_wp2_with fail
    clear g0 HG1 hm1 t0
    have HB2 := hid (fun q => below_drewN HB1.out q)
    have HW2 := hid (fun q => below_drewN (Below.refl w1.heap.size w1) q)
    go_loopw [5, 6, 8, 23] (fun a b _ iv wr => ∃ (k : Nat) (za zb : Int), k ≤ L.length ∧ iv = .int .i64 k ∧ a = .int .i64 za ∧ b = .int .i64 zb ∧ 0 ≤ za ∧ za ≤ 80 + 2 * k ∧ 0 ≤ zb ∧ zb ≤ 40 + 3 * k ∧ Hid (za = ((2 * n + sumP nodO ((L.map SH.t).take k) : Nat) : Int)) ∧ Hid (zb = ((n + sumP edgO ((L.map SH.t).take k) : Nat) : Int)) ∧ Hid (Below w.heap.size w wr) ∧ Hid (Below w1.heap.size w1 wr)) (fun _ _ _ iv _ => L.length - (intOf iv).toNat)
    case atStart => exact ⟨0, _, _, by omega, rfl, rfl, rfl, by omega, by omega, by omega, by omega, hid (by show (2 * (n : Int)) = ((2 * n + 0 : Nat) : Int); simp), hid (by show (n : Int) = ((n + 0 : Nat) : Int); simp), hid (HB2.out _), hid (HW2.out _)⟩
    case round =>
      clear HB2 HW2
      obtain ⟨k, za, zb, hk, rfl, rfl, rfl, hz0, hz1, hz2, hz3, hza, hzb, hB, hW⟩ := hrel
      by_cases hlt : k < L.length
      · obtain ⟨y, hy, hym⟩ := get_at (rfl : L.length = L.length) hlt
        obtain ⟨ad, hA, had, hc1, hc2, hc3, hc4⟩ := SH.cells (HE.out.go (Go2.below hW.out)) hy
        subst hA
        have hb2 := (Below.refl wr.heap.size wr).alloc (Nat.le_refl _) (.cells #[.int .i64 y.t.op, .string y.t.d, .slice y.A y.n y.c, .slice y.B y.m y.c2] 79)
        have HB2 := hid (below_step hB.out hb2)
        have HW2 := hid (below_step hW.out hb2)
        have HG2 := hid (Fb.new wr #[.int .i64 y.t.op, .string y.t.d, .slice y.A y.n y.c, .slice y.B y.m y.c2] 79)
        have Hget := hid (show (L.map SH.t)[k]? = some y.t by rw [List.getElem?_map, hy]; rfl)
        have hq1 := nod_le y.t.op
        have hq2 := edg_le y.t.op
        have Hq1 := hid (sum_take (f := nodO) Hget.out)
        have Hq2 := hid (sum_take (f := edgO) Hget.out)
        have H1 := hid (nod_any y.t.op)
        have H2 := hid (edg_any y.t.op)
        generalize nodO y.t.op = q1 at *
        generalize edgO y.t.op = q2 at *
        clear hy hym hb2 hB hW
        obtain ⟨g0, g1, g2, g3⟩ := Fb.four HG2.out
        have hL2 := hL4
        go_wp2_with fail
        refine (H1.out _).mono ?_
        rintro e w3 ⟨rfl, rfl⟩
        go_wp2_with fail
        refine (H2.out _).mono ?_
        rintro e w3 ⟨rfl, rfl⟩
        as_aux_lemma =>
          clear g0 g1 g2 g3 H1 H2
          go_wp2_with fail
          go_roundw
          case rel => exact ⟨k + 1, za + q1, zb + q2, by omega, by go_num, by go_num, by go_num, by omega, by omega, by omega, by omega, hid (by rw [hza.out, Hq1.out]; simp only [Int.natCast_add]; omega), hid (by rw [hzb.out, Hq2.out]; simp only [Int.natCast_add]; omega), HB2, HW2⟩
          case measure => simp [intOf]; omega
      · as_aux_lemma =>
          obtain rfl : k = L.length := by omega
          have Hr := hid (sizes_some (p := p) (by rw [Hln.out]; exact Hh.out) Hpl.out rfl rfl)
          have Ha := hid (show za = ((2 * n + sumP nodO (stmtsP p) : Nat) : Int) by rw [← HL.out, hza.out, List.take_of_length_le (by simp)])
          have Hb := hid (show zb = ((n + sumP edgO (stmtsP p) : Nat) : Int) by rw [← HL.out, hzb.out, List.take_of_length_le (by simp)])
          go_wp2_with fail
          go_ret2
          exact retSz_mk Hr.out Ha.out Hb.out hB.out
end Go.Proofs.YtfapgnbnfhpicaaDoor

namespace Go.Proofs.YtfapgnbnfhpicaaDoor
set_option maxRecDepth 20000
set_option linter.unusedVariables false
set_option linter.unusedSimpArgs false
open Go.ChangeShapes Go.WideShapes Go.ChangeAt Go.RowKit

def defB (o : Int) : Bool := o == 1 || (o == 4 || o == 6)
set_option maxHeartbeats 1600000 in
theorem defines_any (o : Int) (d : ByteArray) (A : Option Addr) (n c : Nat) (B : Option Addr) (m c2 : Nat) (w : World) :
    Calls Tryd.prog 98 #[.agg #[.int .i64 o, .string d, .slice A n c, .slice B m c2]] w fun e w' => e = .returned (.bool (defB o)) ∧ Below w.heap.size w w' := by
  have HB := hid ((Below.refl w.heap.size w).alloc (Nat.le_refl _) (.cells #[.int .i64 o, .string d, .slice A n c, .slice B m c2] 79))
  unfold defB
  cases h1 : (o == 1) with
  | true =>
    go_enter Tryd.func98, Tryd.ntmps98
    go_wp2
    go_ret
    exact ⟨rfl, HB.out⟩
  | false =>
    cases h2 : (o == 4) with
    | true =>
      go_enter Tryd.func98, Tryd.ntmps98
      go_wp2
      go_ret
      exact ⟨rfl, HB.out⟩
    | false =>
      cases h3 : (o == 6) with
      | true =>
        go_enter Tryd.func98, Tryd.ntmps98
        go_wp2
        go_ret
        exact ⟨rfl, HB.out⟩
      | false =>
        go_enter Tryd.func98, Tryd.ntmps98
        go_wp2
        go_ret
        exact ⟨rfl, HB.out⟩
/-- The variables of a statement in the order of its text. -/
def occP (t : Stm) : List ByteArray := if defB t.op then t.d :: t.us else t.us
def RetO (w : World) (ex : List (Option Nat)) (L : List ByteArray) (e : Ending) (w' : World) : Prop :=
  ∃ (A : Option Addr) (n c : Nat), e = .returned (.slice A n c) ∧ SSafe w' ex A n L ∧ Below w.heap.size w w'
theorem one_strs (l : List ByteArray) : ∀ u ∈ l.map Value.string, u.oneCell' = true := by
  intro u hu
  obtain ⟨x, _, rfl⟩ := List.mem_map.1 hu
  rfl
set_option maxHeartbeats 3200000 in
theorem occ_any (x : SH) (ex : List (Option Nat)) (w : World) (h : SHok w ex x) (hn4 : x.n ≤ 4) (hex : ∀ k, some k ∈ ex → k < w.heap.size) :
    Calls Tryd.prog 80 #[.agg #[.int .i64 x.t.op, .string x.t.d, .slice x.A x.n x.c, .slice x.B x.m x.c2]] w (RetO w ex (occP x.t)) := by
  obtain ⟨A, n, c, B, m, c2, ⟨o, d, us, ts⟩⟩ := x
  obtain ⟨i0, hi, hz0, hz1, hz2⟩ := info_parts info9
  have Hi := hid hi; have Hz0 := hid hz0; have Hz1 := hid hz1; have Hz2 := hid hz2
  clear hi hz0 hz1 hz2
  have hb0 := (Below.refl w.heap.size w).alloc (Nat.le_refl _) (.cells #[.int .i64 o, .string d, .slice A n c, .slice B m c2] 79)
  have HS := hid (h.uses.go (Go2.below hb0))
  have HB0 := hid hb0
  have HG0 := hid (Fb.new w #[.int .i64 o, .string d, .slice A n c, .slice B m c2] 79)
  have Hd := hid (show d.size ≤ 1000 from h.small)
  have Hsz := hid (show w.heap.size ≤ (w.alloc (.cells #[.int .i64 o, .string d, .slice A n c, .slice B m c2] 79)).heap.size by rw [World.size_alloc]; omega)
  have Hex := hid hex
  simp only at hn4
  clear hb0 h hex
  go_enter Tryd.func80, Tryd.ntmps80
  go_wp2_with fail
  generalize w.alloc (.cells #[.int .i64 o, .string d, .slice A n c, .slice B m c2] 79) = w0 at *
  refine (defines_any o d A n c B m c2 _).mono ?_
  rintro e w1 ⟨rfl, hb1⟩
  have HS1 := hid (HS.out.go (Go2.below hb1))
  have HB1 := hid (below_step HB0.out hb1)
  have HG1 := hid (HG0.out.below hb1 HG0.out.lt)
  have Hsz1 := hid (Nat.le_trans Hsz.out hb1.size)
  clear hb1 HS HB0 HG0 Hsz
  obtain ⟨g0, g1, g2, g3⟩ := Fb.four HG1.out
  cases ho : defB o with
  | false =>
    as_aux_lemma =>
      have Hr := hid (show occP ⟨o, d, us, ts⟩ = us by unfold occP; simp only [ho]; rfl)
      clear ho
      go_wp2_with fail
      go_ret
      rw [Hr.out]
      exact ⟨A, n, c, rfl, HS1.out, HB1.out⟩
  | true =>
    have Hr := hid (show occP ⟨o, d, us, ts⟩ = d :: us by unfold occP; simp only [ho]; rfl)
    clear ho
    have hb2 := (Below.refl w1.heap.size w1).alloc (Nat.le_refl _) (.cells #[.string d] 9)
    have HB2 := hid (below_step HB1.out hb2)
    have HS2 := hid (HS1.out.go (Go2.below hb2))
    have HF2 := hid (Fb.new w1 #[.string d] 9)
    have HO2 := hid (World.ownsRow_lit (base := w1.heap.size) (e := 9) (size := 1) w1 #[.string d] 1 (Nat.le_refl _) (by unfold maxLen; omega) rfl)
    have hlt := HG1.out.lt
    clear hb2
    by_cases h0 : n = 0
    · subst h0
      have Hus := hid (show us = [] from List.length_eq_zero_iff.1 HS1.out.len)
      rcases A with _ | a0
      all_goals
        go_wp2_with fail
        go_ret
        rw [Hr.out, Hus.out]
        refine ⟨_, 1, _, rfl, ⟨EAt.fb HF2.out (fun hm => by have := Hex.out _ hm; have := Hsz1.out; omega) (fun j u hu => by simpa using hu), rfl, by omega, ?_⟩, HB2.out⟩
        intro y hy
        simp at hy
        subst hy
        exact Hd.out
    · obtain ⟨ad, rfl, hs2, hc2⟩ : ∃ ad, A = some ad ∧ Safe (w1.alloc (.cells #[.string d] 9)) ex ad.block ∧ ∀ j u, (us.map Value.string)[j]? = some u → (w1.alloc (.cells #[.string d] 9)).cell? (ad.add j) = some u := by
        rcases HS2.out.lies with h | h
        · have := congrArg List.length h; have h2 := HS2.out.len; simp at this; subst this; simp at h2; omega
        · exact h
      have Hc2 := hid hc2
      have Hul := hid (show (us.map Value.string).length = n * 1 by rw [List.length_map, HS2.out.len]; omega)
      have hpos : 0 < n := by omega
      clear hs2 hc2
      go_wp2_with ((
        at_builtin
        go_must (refine wpList_append_lies _ rfl _ _ 77 rfl w1.heap.size 9 i0 _ 1 16 Tryd.underlying77 Hi.out Hz0.out Hz1.out Hz2.out rfl (by decide) _ 1 [.string d] rfl HO2.out ad n c (us.map Value.string) rfl Hul.out Hc2.out (one_strs us) hpos (by unfold maxLen; omega) (by omega) (by rw [World.size_alloc]; omega) _ rfl ?_)
        intro g5 cap5 w5 hown5 hgr5 hat5 hlt5))
      as_aux_lemma =>
        have hz := Hsz1.out
        have HB5 := hid (HB2.out.grown hgr5 HB2.out.size (fun k hk => by have := (HO2.out.lt k hk).1; omega))
        have HE := hid (EAt.own (ex := ex) hown5 (fun g hg hm => by have := (hown5.lt g hg).1; have := Hex.out _ hm; omega))
        clear hown5 hgr5 hat5 hlt5
        go_wp2_with fail
        go_ret
        rw [Hr.out]
        refine ⟨_, 1 + n, _, rfl, ⟨HE.out, by rw [List.length_cons, HS2.out.len]; omega, by omega, ?_⟩, HB5.out⟩
        intro y hy
        rcases List.mem_cons.1 hy with rfl | hy
        · exact Hd.out
        · exact HS2.out.small y hy
/-- The variables, each where it occurs first. -/
def addV (V : List ByteArray) (x : ByteArray) : List ByteArray := if inB x V then V else V ++ [x]
def varsP (p : List Fnc) : List ByteArray := ((stmtsP p).flatMap occP).foldl addV []
theorem go2_new {w wr : World} {ex : List (Option Nat)} (hb : Below w.heap.size w wr) (hex : ∀ k, some k ∈ ex → w.heap.size ≤ k) : Go2 w [] wr ex :=
  fun k hk => ⟨hb.block k hk.1, Nat.lt_of_lt_of_le hk.1 hb.size, fun h => by have := hex k h; have := hk.1; omega⟩
def exV (b : Nat) (v : Value) : List (Option Nat) := match v.ownBlock with | none => [some b] | some g => [some b, some g]
theorem exV_own {b : Nat} {v : Value} : v.ownBlock = none ∨ v.ownBlock ∈ exV b v := by
  unfold exV; cases v.ownBlock <;> simp
theorem exV_b {b : Nat} {v : Value} : some b ∈ exV b v := by unfold exV; cases v.ownBlock <;> simp
theorem exV_mem {b k : Nat} {v : Value} (h : some k ∈ exV b v) : k = b ∨ v.ownBlock = some k := by
  unfold exV at h
  cases hv : v.ownBlock with
  | none => rw [hv] at h; simp at h; exact .inl h
  | some g => rw [hv] at h; simp at h; rcases h with h | h; exact .inl h; exact .inr (by rw [h])
/-- The set and the list of the variables that were found, beside what is read. -/
structure Vst (w : World) (b : Nat) (v : Value) (m : Nat) (V : List ByteArray) (wr : World) : Prop where
  own : wr.ownsRow (w.heap.size + 2) 9 1 v m (V.map Value.string)
  len : m = V.length
  set : NS wr b V
  bel : Below w.heap.size w wr
  siz : w.heap.size + 2 ≤ wr.heap.size
  isb : b = w.heap.size + 1
  small : ∀ x ∈ V, x.size ≤ 1000
theorem Vst.ex {w wr : World} {b m : Nat} {v : Value} {V : List ByteArray} (h : Vst w b v m V wr) : (∀ k, some k ∈ exV b v → k < wr.heap.size) ∧ (∀ k, some k ∈ exV b v → w.heap.size ≤ k) := by
  constructor
  · intro k hk
    rcases exV_mem hk with rfl | hk
    · exact h.set.lt
    · exact (h.own.lt k hk).2
  · intro k hk
    rcases exV_mem hk with rfl | hk
    · have := h.isb; omega
    · have := (h.own.lt k hk).1; omega
theorem Vst.below {w wr w' : World} {b m : Nat} {v : Value} {V : List ByteArray} (h : Vst w b v m V wr) (hb : Below wr.heap.size wr w') : Vst w b v m V w' :=
  ⟨own_below h.own hb, h.len, h.set.below hb, below_step h.bel hb, Nat.le_trans h.siz hb.size, h.isb, h.small⟩
theorem below_row {w wr w' : World} {row : Option Nat} (h : Below w.heap.size w wr) (hg : wr.grownBy w' row) (hr : ∀ k, row = some k → w.heap.size ≤ k) : Below w.heap.size w w' := h.grown hg h.size hr
/-- What was put into the set but not into the list yet. -/
structure Vmid (w : World) (b : Nat) (v : Value) (m : Nat) (V : List ByteArray) (x : ByteArray) (wr : World) : Prop where
  own : wr.ownsRow (w.heap.size + 2) 9 1 v m (V.map Value.string)
  len : m = V.length
  set : NS wr b (x :: V)
  bel : Below w.heap.size w wr
  siz : w.heap.size + 2 ≤ wr.heap.size
  isb : b = w.heap.size + 1
  small : ∀ x ∈ V, x.size ≤ 1000
theorem Vst.put {w wr w' : World} {b m : Nat} {v : Value} {V : List ByteArray} {x : ByteArray} (h : Vst w b v m V wr) (hn : NS w' b (x :: V)) (hg : wr.grownBy w' (some b)) :
    Vmid w b v m V x w' ∧ Go2 wr (exV b v) w' (exV b v) := by
  have hb := h.isb
  refine ⟨⟨h.own.kept hg (.inr (fun e => by have := (h.own.lt b e).1; omega)), h.len, hn, below_row h.bel hg (fun k hk => by injection hk with hk; omega), Nat.le_trans h.siz hg.size, hb, h.small⟩, Go2.same hg (.inr exV_b)⟩
theorem Vmid.alloc {w wr : World} {b m : Nat} {v : Value} {V : List ByteArray} {x : ByteArray} (h : Vmid w b v m V x wr) (o : Obj) : Vmid w b v m V x (wr.alloc o) := by
  have hb := (Below.refl wr.heap.size wr).alloc (Nat.le_refl _) o
  exact ⟨own_below h.own hb, h.len, h.set.below hb, below_step h.bel hb, Nat.le_trans h.siz hb.size, h.isb, h.small⟩
theorem Vmid.push {w wr w' : World} {b m g cap : Nat} {v : Value} {V : List ByteArray} {x : ByteArray} (h : Vmid w b v m V x wr) (hx : x.size ≤ 1000)
    (hown : w'.ownsRow (w.heap.size + 2) 9 1 (.slice (some ⟨g, 0, none⟩) (m + 1) cap) (m + 1) (V.map Value.string ++ [.string x])) (hg : wr.grownBy w' v.ownBlock) (hat : v.ownBlock = some g ∨ g = wr.heap.size) :
    Vst w b (.slice (some ⟨g, 0, none⟩) (m + 1) cap) (m + 1) (V ++ [x]) w' ∧ Go2 wr (exV b v) w' (exV b (.slice (some ⟨g, 0, none⟩) (m + 1) cap)) := by
  have hb := h.isb
  refine ⟨⟨by rw [List.map_append]; exact hown, by rw [List.length_append, h.len]; rfl, (h.set.kept hg (fun e => by have := (h.own.lt b e.symm).1; omega)).congr (by simp) (fun k => by simp [or_comm]), below_row h.bel hg (fun k hk => by have := (h.own.lt k hk).1; omega), Nat.le_trans h.siz hg.size, hb, fun y hy => (List.mem_append.1 hy).elim (h.small y) (fun hy => by simp at hy; subst hy; exact hx)⟩, ?_⟩
  refine Go2.grown hg exV_own fun k hk hm => ?_
  rcases exV_mem hm with rfl | hm
  · exact exV_b
  · have e : g = k := by simpa [Value.ownBlock] using hm
    subst e
    rcases hat with h1 | h1
    · rcases exV_own (b := b) (v := v) with h2 | h2
      · rw [h2] at h1; cases h1
      · rw [← h1]; exact h2
    · omega
/-- The variables came back, in new memory. -/
def RetV2 (w : World) (V : List ByteArray) (e : Ending) (w' : World) : Prop :=
  ∃ (A : Option Addr) (c : Nat), e = .returned (.slice A V.length c) ∧ SArg w' A V.length V ∧ Below w.heap.size w w' ∧ ∀ ex : List (Option Nat), (∀ k, some k ∈ ex → k < w.heap.size) → EAt w' ex A (V.map Value.string)
def RetV (w : World) (V : List ByteArray) (e : Ending) (w' : World) : Prop :=
  ∃ (A : Option Addr) (c : Nat), e = .returned (.slice A V.length c) ∧ SArg w' A V.length V ∧ Below w.heap.size w w'
theorem add_no {V : List ByteArray} {x : ByteArray} (h : inB x V = true) : addV V x = V := by unfold addV; rw [h]; rfl
theorem add_yes {V : List ByteArray} {x : ByteArray} (h : inB x V = false) : addV V x = V ++ [x] := by unfold addV; rw [h]; rfl
theorem fold_take {l : List ByteArray} {k : Nat} {x : ByteArray} {V0 : List ByteArray} (h : l[k]? = some x) : (l.take (k + 1)).foldl addV V0 = addV ((l.take k).foldl addV V0) x := by
  rw [List.take_add_one, h, List.foldl_append]; rfl
theorem fold_stm {l : List Stm} {k : Nat} {t : Stm} (h : l[k]? = some t) : ((l.take (k + 1)).flatMap occP).foldl addV [] = (occP t).foldl addV (((l.take k).flatMap occP).foldl addV []) := by
  rw [List.take_add_one, h, List.flatMap_append, List.foldl_append]; simp
theorem us_4 {t : Stm} (h : stmB t = true) : t.us.length ≤ 4 := by
  unfold stmB namesB at h
  simp only [Bool.and_eq_true, decide_eq_true_eq] at h
  omega
set_option maxHeartbeats 6400000 in
theorem variables2_any (x : PH) (ex : List (Option Nat)) (w : World) (h : PHok w ex x) (hs : Shp w) :
    Calls Tryd.prog 52 #[.agg #[.slice x.A x.n x.c]] w (RetV2 w (varsP x.p)) := by
  obtain ⟨i0, hi, hz0, hz1, hz2⟩ := info_parts info9
  have Hi := hid hi; have Hz0 := hid hz0; have Hz1 := hid hz1; have Hz2 := hid hz2
  clear hi hz0 hz1 hz2
  have hb0 := (Below.refl w.heap.size w).alloc (Nat.le_refl _) (.cells #[.slice x.A x.n x.c] 24)
  have hb1 : Below w.heap.size w ((w.alloc (.cells #[.slice x.A x.n x.c] 24)).alloc (.map #[] 0)) := hb0.alloc hb0.size _
  have HB1 := hid hb1
  have HS := hid (statements_any x ex w _ h hb1 (hs.keep (hb1.block 0 hs.pos0)))
  have HG := hid ((Fb.new w #[.slice x.A x.n x.c] 24).alloc (.map #[] 0))
  have HN := hid (show NS ((w.alloc (.cells #[.slice x.A x.n x.c] 24)).alloc (.map #[] 0)) (w.heap.size + 1) [] by have := NS.made (w.alloc (.cells #[.slice x.A x.n x.c] 24)); rwa [World.size_alloc] at this)
  have Hsz := hid (show ((w.alloc (.cells #[.slice x.A x.n x.c] 24)).alloc (.map #[] 0)).heap.size = w.heap.size + 2 by rw [World.size_alloc, World.size_alloc])
  clear h hb0 hb1 hs
  obtain ⟨A, n, c, l⟩ := x
  simp only at *
  generalize PH.p ⟨A, n, c, l⟩ = p at *
  have hmm := @run_makeMap Tryd.prog
  go_enter Tryd.func52, Tryd.ntmps52
  go_wp2_with fail
  clear hmm
  generalize (w.alloc (.cells #[.slice A n c] 24)).alloc (.map #[] 0) = w0 at *
  refine HS.out.mono ?_
  rintro e w1 ⟨B, d, L, rfl, hL, hL4, hE, hall, hb1⟩
  have HV := hid (show Vst w (w.heap.size + 1) (.slice none 0 0) 0 [] w1 from ⟨World.ownsRow_nil _ _ _ _, rfl, HN.out.below hb1, below_step HB1.out hb1, by have := Hsz.out; have := hb1.size; omega, rfl, by simp⟩)
  have HE := hid (show EAt w1 (exV (w.heap.size + 1) (.slice none 0 0)) B (L.flatMap shc) from hE _ (fun k hk => by rcases exV_mem hk with rfl | hk; have := Hsz.out; omega; cases hk))
  have Hall := hid hall
  have HL := hid hL
  clear hb1 HS hL hE hall HG HN HB1 Hsz
  go_wp2_with fail
  obtain ⟨b, hb⟩ : ∃ b, w.heap.size + 1 = b := ⟨_, rfl⟩
  rw [hb] at HV HE
  rw [hb]
  clear hb
  go_loopw [3, 6, 8, 13] (fun sv _ _ iv wr => ∃ (k m : Nat) (v : Value) (V : List ByteArray), k ≤ L.length ∧ iv = .int .i64 k ∧ sv = v ∧ m ≤ k * 5 ∧ Hid (V = (((L.map SH.t).take k).flatMap occP).foldl addV []) ∧ Hid (Vst w b v m V wr) ∧ Hid (EAt wr (exV b v) B (L.flatMap shc))) (fun _ _ _ iv _ => L.length - (intOf iv).toNat)
  case atStart => exact ⟨0, 0, _, [], by omega, rfl, rfl, by omega, hid rfl, HV.out, HE.out⟩
  case round =>
    clear HV HE
    obtain ⟨k, m, v, V, hk, rfl, rfl, hm, hVe, hV, hE⟩ := hrel
    by_cases hlt : k < L.length
    · obtain ⟨y, hy, hym⟩ := get_at (rfl : L.length = L.length) hlt
      obtain ⟨ad, hA, had, hc1, hc2, hc3, hc4⟩ := SH.cells hE.out hy
      subst hA
      have hb2 := (Below.refl wr.heap.size wr).alloc (Nat.le_refl _) (.cells #[.int .i64 y.t.op, .string y.t.d, .slice y.A y.n y.c, .slice y.B y.m y.c2] 79)
      have HV2 := hid (hV.out.below hb2)
      have HE2 := hid (hE.out.go (Go2.below hb2))
      have HG2 := hid (Fb.new wr #[.int .i64 y.t.op, .string y.t.d, .slice y.A y.n y.c, .slice y.B y.m y.c2] 79)
      have HY2 := hid ((Hall.out y hym).go (go2_new HV2.out.bel HV2.out.ex.2))
      have Hget := hid (show (L.map SH.t)[k]? = some y.t by rw [List.getElem?_map, hy]; rfl)
      have hyn : y.n ≤ 4 := by
        have h1 : y.t.us.length = y.n := HY2.out.uses.len
        have h2 := us_4 (stmts_ok y.t (by rw [← HL.out]; exact List.mem_map_of_mem hym))
        omega
      have Hfo := hid (fold_stm Hget.out)
      clear hy hym hb2 hV hE
      obtain ⟨g0, g1, g2, g3⟩ := Fb.four HG2.out
      go_wp2_with fail
      refine (occ_any y _ _ HY2.out hyn HV2.out.ex.1).mono ?_
      rintro e w3 ⟨OA, on, oc, rfl, hso, hb3⟩
      have HV3 := hid (HV2.out.below hb3)
      have HE3 := hid (HE2.out.go (Go2.below hb3))
      have HO3 := hid hso
      have HOl := hid hso.len
      have hon : on ≤ 5 := by have h1 := hso.len; have h2 : (occP y.t).length ≤ y.t.us.length + 1 := by { unfold occP; split <;> simp }; have h3 : y.t.us.length = y.n := HY2.out.uses.len; omega
      clear hb3 hso HV2 HE2 HG2 HY2 g0 g1 g2 g3 hc1 hc2 hc3 hc4 had
      generalize occP y.t = O at *
      go_wp2_with fail
      go_loopw [3, 8, 20] (fun sv _ iv wr => ∃ (j m2 : Nat) (v : Value) (V2 : List ByteArray), j ≤ on ∧ iv = .int .i64 j ∧ sv = v ∧ m2 ≤ k * 5 + j ∧ Hid (V2 = (O.take j).foldl addV V) ∧ Hid (Vst w b v m2 V2 wr) ∧ Hid (EAt wr (exV b v) (some ad) (L.flatMap shc)) ∧ Hid (SSafe wr (exV b v) OA on O)) (fun _ _ iv _ => on - (intOf iv).toNat)
      case atStart => exact ⟨0, m, _, V, by omega, rfl, rfl, by omega, hid rfl, HV3.out, HE3.out, HO3.out⟩
      case round =>
        clear HV3 HE3 HO3
        obtain ⟨j, m2, v2, V2, hj, rfl, rfl, hm2, hVe2, hV, hE, hO⟩ := hrel
        by_cases hlt2 : j < on
        · obtain ⟨od, rfl, hod, hoc, hos⟩ := hO.out.arg.cell hlt2
          have Hgo := hid (show O[j]? = some (O.getD j ByteArray.empty) by rw [List.getD_eq_getElem?_getD, List.getElem?_eq_getElem (by have := HOl.out; omega)]; rfl)
          have Hosm := hid (hO.out.small _ (List.mem_of_getElem? Hgo.out))
          generalize O.getD j ByteArray.empty = z at *
          have Hft := hid (fold_take (V0 := V) Hgo.out)
          have hlook := NS.look hV.out.set (show z.size ≤ maxLen by unfold maxLen; omega)
          cases hv : inB z V2 with
          | true =>
            as_aux_lemma =>
              rw [hv] at hlook
              have Hr := hid (show V2 = (O.take (j + 1)).foldl addV V by rw [Hft.out, ← hVe2.out, add_no hv])
              clear hv
              go_wp2_with fail
              go_roundw
              case rel => exact ⟨j + 1, m2, _, V2, by omega, by go_num, rfl, by omega, Hr, hV, hE, hO⟩
              case measure => simp [intOf]; omega
          | false =>
            rw [hv] at hlook
            have Hr := hid (show V2 ++ [z] = (O.take (j + 1)).foldl addV V by rw [Hft.out, ← hVe2.out, add_yes hv])
            have Hvl := hid (show V2.length < maxLen by have := hV.out.len; unfold maxLen; omega)
            clear hv
            as_aux_lemma =>
              go_wp2_with (
                first
                | (at_mapUpdate; go_loud (
                   go_must (refine wp_put rfl _ _ _ rfl b _ rfl hV.out.set Hvl.out z (by unfold maxLen; omega) rfl rfl ?_)
                   intro w5 hn5 hg5
                   have H5 := hid (hV.out.put hn5 hg5)
                   have H6 := hid (H5.out.1.alloc (.cells #[.string z] 9))
                   have HE5 := hid ((hE.out.go H5.out.2).go (Go2.below ((Below.refl w5.heap.size w5).alloc (Nat.le_refl _) (.cells #[.string z] 9))))
                   have HO5 := hid ((hO.out.go H5.out.2).go (Go2.below ((Below.refl w5.heap.size w5).alloc (Nat.le_refl _) (.cells #[.string z] 9))))
                   clear hn5 hg5 hlook))
                | (at_builtin
                   go_must (refine wpList_append_lies _ rfl _ _ 77 rfl (w.heap.size + 2) 9 i0 _ 1 16 Tryd.underlying77 Hi.out Hz0.out Hz1.out Hz2.out rfl (by decide) _ m2 (V2.map Value.string) rfl H6.out.own ⟨w5.heap.size, 0, none⟩ 1 1 [.string z] rfl rfl (one_str _ _ _) (one_strc _) (by omega) (by unfold maxLen; omega) (by omega) H6.out.siz _ rfl ?_)
                   intro g7 cap7 w7 hown7 hgr7 hat7 hlt7
                   have H7 := hid (Vmid.push H6.out Hosm.out hown7 hgr7 hat7)
                   have HE7 := hid (HE5.out.go H7.out.2)
                   have HO7 := hid (HO5.out.go H7.out.2)
                   clear hown7 hgr7 hat7 hlt7))
              go_roundw
              case rel => exact ⟨j + 1, m2 + 1, _, V2 ++ [z], by omega, by go_num, rfl, by omega, Hr, hid H7.out.1, HE7, HO7⟩
              case measure => simp [intOf]; omega
        · as_aux_lemma =>
            obtain rfl : j = on := by omega
            have Hr := hid (show V2 = (((L.map SH.t).take (k + 1)).flatMap occP).foldl addV [] by rw [Hfo.out, ← hVe.out, hVe2.out, List.take_of_length_le (by have := HOl.out; omega)])
            go_wp2_with fail
            go_roundw
            case rel => exact ⟨k + 1, m2, _, V2, by omega, by go_num, rfl, by omega, Hr, hV, hE⟩
            case measure => simp [intOf]; omega
    · as_aux_lemma =>
        obtain rfl : k = L.length := by omega
        have Hr := hid (show V = varsP p by unfold varsP; rw [hVe.out, HL.out, List.take_of_length_le (by rw [← HL.out]; simp)])
        obtain ⟨A2, cc, hvv⟩ := own_any_slice hV.out.own
        subst hvv
        have hml := hV.out.len
        go_wp2_with fail
        go_ret
        rw [← Hr.out]
        subst hml
        exact ⟨A2, cc, rfl, ⟨own_at hV.out.own, rfl, by omega, fun y hy => by have := hV.out.small y hy; omega⟩, hV.out.bel, fun ex hex => EAt.own hV.out.own fun g hg hm => by have := (hV.out.own.lt g hg).1; have := hex g hm; omega⟩
theorem variables_any (x : PH) (ex : List (Option Nat)) (w : World) (h : PHok w ex x) (hs : Shp w) :
    Calls Tryd.prog 52 #[.agg #[.slice x.A x.n x.c]] w (RetV w (varsP x.p)) :=
  (variables2_any x ex w h hs).mono fun _ _ ⟨A, c, h1, h2, h3, _⟩ => ⟨A, c, h1, h2, h3⟩
end Go.Proofs.YtfapgnbnfhpicaaDoor

namespace Go.Proofs.YtfapgnbnfhpicaaDoor
set_option maxRecDepth 20000
set_option linter.unusedVariables false
set_option linter.unusedSimpArgs false
open Go.ChangeShapes Go.WideShapes Go.ChangeAt Go.RowKit

def fitB (p : List Fnc) : Bool := decide ((varsP p).length ≤ 64) && (decide ((sizesP p).1 ≤ 256) && decide ((sizesP p).2 ≤ 1024))
set_option maxHeartbeats 3200000 in
theorem fits_any (x : PH) (ex : List (Option Nat)) (w : World) (h : PHok w ex x) (hs : Shp w) :
    Calls Tryd.prog 31 #[.agg #[.slice x.A x.n x.c]] w fun e w' => e = .returned (.bool (fitB x.p)) ∧ Below w.heap.size w w' := by
  have hb0 := (Below.refl w.heap.size w).alloc (Nat.le_refl _) (.cells #[.slice x.A x.n x.c] 24)
  have HB0 := hid hb0
  have HG0 := hid (Fb.new w #[.slice x.A x.n x.c] 24)
  have HX0 := hid (PHok.below h hb0)
  have HS0 := hid (hs.keep (hb0.block 0 hs.pos0))
  have Hfit := hid (show fitB x.p = (decide ((varsP x.p).length ≤ 64) && (decide ((sizesP x.p).1 ≤ 256) && decide ((sizesP x.p).2 ≤ 1024))) from rfl)
  generalize fitB x.p = fb at *
  clear h hb0 hs
  go_enter Tryd.func31, Tryd.ntmps31
  go_wp2_with fail
  generalize w.alloc (.cells #[.slice x.A x.n x.c] 24) = w0 at *
  refine (sizes_any x ex _ HX0.out HS0.out).mono ?_
  generalize sizesP x.p = sz at *
  obtain ⟨n1, n2⟩ := sz
  rintro e w1 ⟨rfl, hb1⟩
  have HB1 := hid (below_step HB0.out hb1)
  have HG1 := hid (HG0.out.below hb1 HG0.out.lt)
  have HX1 := hid (PHok.below HX0.out hb1)
  have HS1 := hid (HS0.out.keep (hb1.block 0 HS0.out.pos0))
  clear hb1 HB0 HG0 HX0 HS0
  have g0 := HG1.out.onec
  simp only
  go_wp2_with fail
  refine (variables_any x ex _ HX1.out HS1.out).mono ?_
  generalize varsP x.p = V at *
  rintro e w2 ⟨A, c, rfl, ha, hb2⟩
  have HB2 := hid (below_step HB1.out hb2)
  clear hb2 ha g0 HX1 HS1 HG1
  cases h1 : decide (V.length ≤ 64) with
  | false =>
    as_aux_lemma =>
      have Hr := hid (show fb = false by rw [Hfit.out, h1]; rfl)
      have t1 : decide ((V.length : Int) ≤ 64) = false := by simp at h1 ⊢; omega
      clear h1
      go_wp2_with fail
      go_ret
      exact ⟨ret_b Hr.out, HB2.out⟩
  | true =>
    have t1 : decide ((V.length : Int) ≤ 64) = true := by simp at h1 ⊢; omega
    have Hfit2 := hid (show fb = (decide (n1 ≤ 256) && decide (n2 ≤ 1024)) by rw [Hfit.out, h1]; rfl)
    clear h1
    cases h2 : decide (n1 ≤ 256) with
    | false =>
      as_aux_lemma =>
        have Hr := hid (show fb = false by rw [Hfit2.out, h2]; rfl)
        have t2 : decide ((n1 : Int) ≤ 256) = false := by simp at h2 ⊢; omega
        clear h2
        go_wp2_with fail
        go_ret
        exact ⟨ret_b Hr.out, HB2.out⟩
    | true =>
      have t2 : decide ((n1 : Int) ≤ 256) = true := by simp at h2 ⊢; omega
      have Hfit3 := hid (show fb = decide (n2 ≤ 1024) by rw [Hfit2.out, h2]; rfl)
      clear h2
      cases h3 : decide (n2 ≤ 1024) with
      | false =>
        as_aux_lemma =>
          have Hr := hid (show fb = false by rw [Hfit3.out, h3])
          have t3 : decide ((n2 : Int) ≤ 1024) = false := by simp at h3 ⊢; omega
          clear h3
          go_wp2_with fail
          go_ret
          exact ⟨ret_b Hr.out, HB2.out⟩
      | true =>
        as_aux_lemma =>
          have Hr := hid (show fb = true by rw [Hfit3.out, h3])
          have t3 : decide ((n2 : Int) ≤ 1024) = true := by simp at h3 ⊢; omega
          clear h3
          go_wp2_with fail
          go_ret
          exact ⟨ret_b Hr.out, HB2.out⟩
/-- P6.1. -/
def checkP (p : List Fnc) : (Int × Int × Int × Int) × Int :=
  if prgB p then (if (funcsE p).2 == 0 then (if fitB p then ((0, 0, 0, 0), 0) else ((0, 0, 0, 0), 7)) else funcsE p) else ((0, 0, 0, 0), 1)
theorem chk_bad {p : List Fnc} (h : prgB p = false) : checkP p = ((0, 0, 0, 0), 1) := by unfold checkP; rw [h]; rfl
theorem chk_err {p : List Fnc} {r : (Int × Int × Int × Int) × Int} (h : prgB p = true) (hr : funcsE p = r) (h0 : (r.2 == 0) = false) : checkP p = r := by unfold checkP; rw [h, hr]; simp only [h0]; rfl
theorem chk_full {p : List Fnc} {r : (Int × Int × Int × Int) × Int} (h : prgB p = true) (hr : funcsE p = r) (h0 : (r.2 == 0) = true) (hf : fitB p = false) : checkP p = ((0, 0, 0, 0), 7) := by unfold checkP; rw [h, hr, hf]; simp only [h0]; rfl
theorem chk_fine {p : List Fnc} {r : (Int × Int × Int × Int) × Int} (h : prgB p = true) (hr : funcsE p = r) (h0 : (r.2 == 0) = true) (hf : fitB p = true) : checkP p = ((0, 0, 0, 0), 0) := by unfold checkP; rw [h, hr, hf]; simp only [h0]; rfl
set_option maxHeartbeats 3200000 in
theorem check_any (x : PH) (ex : List (Option Nat)) (w : World) (h : PHok w ex x) (hs : Shp w) :
    Calls Tryd.prog 13 #[.agg #[.slice x.A x.n x.c]] w (RetNd w (checkP x.p)) := by
  have hb0 : Below w.heap.size w ((w.alloc (.cells #[.slice x.A x.n x.c] 24)).alloc (.cells #[.int .i64 0, .int .i64 0, .int .i64 0, .int .i64 0] 53)) := ((Below.refl w.heap.size w).alloc (Nat.le_refl _) _).alloc (by rw [World.size_alloc]; omega) _
  have HB0 := hid hb0
  have HG0 := hid ((Fb.new w #[.slice x.A x.n x.c] 24).alloc (.cells #[.int .i64 0, .int .i64 0, .int .i64 0, .int .i64 0] 53))
  have HN0 := hid (show Fb ((w.alloc (.cells #[.slice x.A x.n x.c] 24)).alloc (.cells #[.int .i64 0, .int .i64 0, .int .i64 0, .int .i64 0] 53)) (w.heap.size + 1) #[.int .i64 0, .int .i64 0, .int .i64 0, .int .i64 0] 53 by have := Fb.new (w.alloc (.cells #[.slice x.A x.n x.c] 24)) #[.int .i64 0, .int .i64 0, .int .i64 0, .int .i64 0] 53; rwa [World.size_alloc] at this)
  have HX0 := hid (PHok.below h hb0)
  have HS0 := hid (hs.keep (hb0.block 0 hs.pos0))
  clear h hb0 hs
  go_enter Tryd.func13, Tryd.ntmps13
  have HQ : Hid (∀ {v : World} (h : Below w.heap.size w v) (a b c d : Value), Below w.heap.size w ((((v.setCell ⟨w.heap.size + 1, 0, none⟩ a).setCell ⟨w.heap.size + 1, 1, none⟩ b).setCell ⟨w.heap.size + 1, 2, none⟩ c).setCell ⟨w.heap.size + 1, 3, none⟩ d)) :=
    hid (fun h a b c d => (((h.setCell (p := ⟨w.heap.size + 1, 0, none⟩) (Nat.le_succ _) a).setCell (p := ⟨w.heap.size + 1, 1, none⟩) (Nat.le_succ _) b).setCell (p := ⟨w.heap.size + 1, 2, none⟩) (Nat.le_succ _) c).setCell (p := ⟨w.heap.size + 1, 3, none⟩) (Nat.le_succ _) d)
  go_wp2_with fail
  generalize (w.alloc (.cells #[.slice x.A x.n x.c] 24)).alloc (.cells #[.int .i64 0, .int .i64 0, .int .i64 0, .int .i64 0] 53) = w0 at *
  refine (devValid_any x ex _ HX0.out HS0.out).mono ?_
  rintro e w1 ⟨rfl, hb1⟩
  have HB1 := hid (below_step HB0.out hb1)
  have HG1 := hid (HG0.out.below hb1 HG0.out.lt)
  have HN1 := hid (HN0.out.below hb1 HN0.out.lt)
  have HX1 := hid (PHok.below HX0.out hb1)
  have HS1 := hid (HS0.out.keep (hb1.block 0 HS0.out.pos0))
  clear hb1 HB0 HG0 HX0 HS0 HN0
  have g0 := HG1.out.onec
  cases hv : prgB x.p with
  | false =>
    as_aux_lemma =>
      have Hr := hid (chk_bad hv)
      obtain ⟨c0, c1, c2, c3⟩ := Fb.four HN1.out
      have z0 := HN1.out.frozen 0
      have z1 := HN1.out.frozen 1
      have z2 := HN1.out.frozen 2
      have z3 := HN1.out.frozen 3
      have hlt1 := HN1.out.lt
      clear hv
      go_wp2_with fail
      refine bodyPost_ret (v := .tuple #[.agg #[.int .i64 0, .int .i64 0, .int .i64 0, .int .i64 0], .int .i64 1]) (by simp [results, Tryd.results13, go_sem, c0, c1, c2, c3, z0, z1, z2, z3, hlt1]) rfl ?_
      exact retNd_mk Hr.out (HQ.out HB1.out _ _ _ _)
  | true =>
    have Hv := hid hv
    clear hv
    go_wp2_with fail
    refine (checkFuncs_any x ex _ HX1.out).mono ?_
    have hq : ∃ q, funcsE x.p = q := ⟨_, rfl⟩
    obtain ⟨⟨⟨qa, qb, qc, qd⟩, qe⟩, hq⟩ := hq
    rw [hq]
    have Hq := hid hq
    clear hq
    rintro e w2 ⟨rfl, hb2⟩
    have ha2 := (Below.refl w2.heap.size w2).alloc (Nat.le_refl _) (.cells #[.int .i64 qa, .int .i64 qb, .int .i64 qc, .int .i64 qd] 53)
    have hb3 := below_step hb2 ha2
    have HB3 := hid (below_step HB1.out hb3)
    have HG3 := hid (HG1.out.below hb3 HG1.out.lt)
    have HN3 := hid (HN1.out.below hb3 HN1.out.lt)
    have HX3 := hid (PHok.below HX1.out hb3)
    have HS3 := hid (HS1.out.keep (hb3.block 0 HS1.out.pos0))
    have HM3 := hid (Fb.new w2 #[.int .i64 qa, .int .i64 qb, .int .i64 qc, .int .i64 qd] 53)
    clear hb2 ha2 hb3 HB1 HG1 HN1 HX1 HS1 g0
    simp only
    cases h0 : (qe == 0) with
    | false =>
      as_aux_lemma =>
        have h1 : (qe != 0) = true := by show (!(qe == 0)) = true; rw [h0]; rfl
        have Hr := hid (chk_err Hv.out Hq.out h0)
        obtain ⟨c0, c1, c2, c3⟩ := Fb.four HN3.out
        obtain ⟨m0, m1, m2, m3⟩ := Fb.four HM3.out
        have z0 := HN3.out.frozen 0
        have z1 := HN3.out.frozen 1
        have z2 := HN3.out.frozen 2
        have z3 := HN3.out.frozen 3
        have hlt1 := HN3.out.lt
        go_wp2_with fail
        refine bodyPost_ret (v := .tuple #[.agg #[.int .i64 qa, .int .i64 qb, .int .i64 qc, .int .i64 qd], .int .i64 qe]) (by simp [results, Tryd.results13, go_sem, c0, c1, c2, c3, z0, z1, z2, z3, hlt1]) rfl ?_
        exact retNd_mk Hr.out (HQ.out HB3.out _ _ _ _)
    | true =>
      have h1 : (qe != 0) = false := by show (!(qe == 0)) = false; rw [h0]; rfl
      have Hh := hid h0
      have g0 := HG3.out.onec
      clear h0
      go_wp2_with fail
      refine (fits_any x ex _ HX3.out HS3.out).mono ?_
      rintro e w4 ⟨rfl, hb4⟩
      have HB4 := hid (below_step HB3.out hb4)
      have HN4 := hid (HN3.out.below hb4 HN3.out.lt)
      clear hb4 g0 HX3 HS3 HG3 HM3 HB3 HN3
      obtain ⟨c0, c1, c2, c3⟩ := Fb.four HN4.out
      have z0 := HN4.out.frozen 0
      have z1 := HN4.out.frozen 1
      have z2 := HN4.out.frozen 2
      have z3 := HN4.out.frozen 3
      have hlt1 := HN4.out.lt
      cases hf : fitB x.p with
      | false =>
        as_aux_lemma =>
          have Hr := hid (chk_full Hv.out Hq.out Hh.out hf)
          clear hf
          go_wp2_with fail
          refine bodyPost_ret (v := .tuple #[.agg #[.int .i64 0, .int .i64 0, .int .i64 0, .int .i64 0], .int .i64 7]) (by simp [results, Tryd.results13, go_sem, c0, c1, c2, c3, z0, z1, z2, z3, hlt1]) rfl ?_
          exact retNd_mk Hr.out (HQ.out HB4.out _ _ _ _)
      | true =>
        as_aux_lemma =>
          have Hr := hid (chk_fine Hv.out Hq.out Hh.out hf)
          clear hf
          go_wp2_with fail
          refine bodyPost_ret (v := .tuple #[.agg #[.int .i64 0, .int .i64 0, .int .i64 0, .int .i64 0], .int .i64 0]) (by simp [results, Tryd.results13, go_sem, c0, c1, c2, c3, z0, z1, z2, z3, hlt1]) rfl ?_
          exact retNd_mk Hr.out (HQ.out HB4.out _ _ _ _)
end Go.Proofs.YtfapgnbnfhpicaaDoor

namespace Go.Proofs.YtfapgnbnfhpicaaDoor
set_option maxRecDepth 20000
set_option linter.unusedVariables false
set_option linter.unusedSimpArgs false
open Go.ChangeShapes Go.WideShapes Go.ChangeAt Go.RowKit

/-- A node: kind, function, block, statement. -/
structure Nd where
  kd : Int
  fn : Int
  bk : Int
  st : Int
deriving DecidableEq
def ndc (x : Nd) : List Value := [.int .i64 x.kd, .int .i64 x.fn, .int .i64 x.bk, .int .i64 x.st]
theorem ndc_len (x : Nd) : (ndc x).length = 4 := rfl
def ndS (f b j : Nat) (t : Stm) : List Nd := if t.op == 3 then [⟨3, f, b, j⟩, ⟨4, f, b, j⟩] else [⟨3, f, b, j⟩]
def ndSs (f b : Nat) (ss : List Stm) (j : Nat) : List Nd := match ss[j]? with | some t => ndS f b j t | none => []
def ndB (f b : Nat) (x : Blk) : List Nd := (List.range x.ss.length).flatMap (ndSs f b x.ss)
def ndBs (f : Nat) (bs : List Blk) (b : Nat) : List Nd := match bs[b]? with | some x => ndB f b x | none => []
def ndF (f : Nat) (x : Fnc) : List Nd := ⟨1, f, -1, -1⟩ :: (List.range x.bs.length).flatMap (ndBs f x.bs) ++ [⟨2, f, -1, -1⟩]
def ndFs (fs : List Fnc) (f : Nat) : List Nd := match fs[f]? with | some x => ndF f x | none => []
/-- P7.1. -/
def listN (p : List Fnc) : List Nd := if (checkP p).2 == 0 then (List.range p.length).flatMap (ndFs p) else []
theorem range_flat {f : Nat → List Nd} {k : Nat} : (List.range (k + 1)).flatMap f = (List.range k).flatMap f ++ f k := by rw [List.range_succ, List.flatMap_append]; simp
theorem ndSs_at {f b : Nat} {ss : List Stm} {j : Nat} {t : Stm} (h : ss[j]? = some t) : ndSs f b ss j = ndS f b j t := by unfold ndSs; rw [h]
theorem ndBs_at {f : Nat} {bs : List Blk} {b : Nat} {x : Blk} (h : bs[b]? = some x) : ndBs f bs b = ndB f b x := by unfold ndBs; rw [h]
theorem ndFs_at {fs : List Fnc} {f : Nat} {x : Fnc} (h : fs[f]? = some x) : ndFs fs f = ndF f x := by unfold ndFs; rw [h]
/-- The list of nodes came back: it lies in a block of its own. -/
def RetLn (w : World) (L : List Nd) (e : Ending) (w' : World) : Prop :=
  ∃ (A : Option Addr) (c : Nat), e = .returned (.slice A L.length c) ∧ (∀ ex : List (Option Nat), (∀ k, some k ∈ ex → k < w.heap.size) → EAt w' ex A (L.flatMap ndc)) ∧ L.length ≤ 200000 ∧ Below w.heap.size w w'
/-- The list that is built. -/
structure Ng (w : World) (v : Value) (m : Nat) (L : List Nd) (wr : World) : Prop where
  own : wr.ownsRow (w.heap.size + 1) 53 4 v m (L.flatMap ndc)
  len : m = L.length
  bel : Below w.heap.size w wr
  siz : w.heap.size + 1 ≤ wr.heap.size
theorem Ng.below {w wr w' : World} {v : Value} {m : Nat} {L : List Nd} (h : Ng w v m L wr) (hb : Below wr.heap.size wr w') : Ng w v m L w' :=
  ⟨own_below h.own hb, h.len, below_step h.bel hb, Nat.le_trans h.siz hb.size⟩
theorem Ng.alloc {w wr : World} {v : Value} {m : Nat} {L : List Nd} (h : Ng w v m L wr) (o : Obj) : Ng w v m L (wr.alloc o) := h.below ((Below.refl _ _).alloc (Nat.le_refl _) o)
theorem Ng.push {w wr w' : World} {v : Value} {m g cap : Nat} {L : List Nd} {x : Nd} (h : Ng w v m L wr)
    (hown : w'.ownsRow (w.heap.size + 1) 53 4 (.slice (some ⟨g, 0, none⟩) (m + 1) cap) (m + 1) (L.flatMap ndc ++ ndc x)) (hg : wr.grownBy w' v.ownBlock) : Ng w (.slice (some ⟨g, 0, none⟩) (m + 1) cap) (m + 1) (L ++ [x]) w' := by
  refine ⟨by rw [List.flatMap_append]; simpa using hown, by rw [List.length_append, h.len]; rfl, ?_, Nat.le_trans h.siz hg.size⟩
  exact h.bel.grown hg h.bel.size (fun k hk => by have := (h.own.lt k hk).1; omega)
/-- A block of one's own stays while the list grows. -/
theorem Ng.keep {w wr w' : World} {v : Value} {m g t : Nat} {L : List Nd} {cs : Array Value} (h : Ng w v m L wr) (hf : Fb wr g cs t) (ht : t ≠ 53) (hg : wr.grownBy w' v.ownBlock) : Fb w' g cs t := hf.grown hg (fb_ne_own hf h.own ht)
theorem one_ndc (x : Nd) : ∀ u ∈ ndc x, u.oneCell' = true := by
  intro u hu
  simp [ndc] at hu
  rcases hu with rfl | rfl | rfl | rfl <;> rfl
theorem nd_new (w : World) (x : Nd) : ∀ j u, (ndc x)[j]? = some u → (w.alloc (.cells #[.int .i64 x.kd, .int .i64 x.fn, .int .i64 x.bk, .int .i64 x.st] 53)).cell? ((⟨w.heap.size, 0, none⟩ : Addr).add j) = some u := by
  intro j u h
  have hb := Fb.new w #[.int .i64 x.kd, .int .i64 x.fn, .int .i64 x.bk, .int .i64 x.st] 53
  rw [add_of, hb.cell]
  simpa [ndc] using h
set_option maxHeartbeats 16000000 in
theorem list_any (x : PH) (ex : List (Option Nat)) (w : World) (h : PHok w ex x) (hs : Shp w) :
    Calls Tryd.prog 14 #[.agg #[.slice x.A x.n x.c]] w (RetLn w (listN x.p)) := by
  obtain ⟨i1, hi, hz0, hz1, hz2⟩ := info_parts info51
  have Hi := hid hi; have Hz0 := hid hz0; have Hz1 := hid hz1; have Hz2 := hid hz2
  clear hi hz0 hz1 hz2
  have hx0 : PHok w [] x := h.go (Go2.less w (by simp))
  have hb0 := (Below.refl w.heap.size w).alloc (Nat.le_refl _) (.cells #[.slice x.A x.n x.c] 24)
  have HX := hid hx0
  have HB0 := hid hb0
  have HG0 := hid (Fb.new w #[.slice x.A x.n x.c] 24)
  have HC := hid (check_any x [] _ (PHok.below hx0 hb0) (hs.keep (hb0.block 0 hs.pos0)))
  have hsz0 := hid (show (w.alloc (.cells #[.slice x.A x.n x.c] 24)).heap.size = w.heap.size + 1 by rw [World.size_alloc])
  have hn := h.few
  have HL := hid h.len
  have Hpl := hid (show x.p.length = x.l.length by simp [PH.p])
  have Hpa := hid (fun (k : Nat) (y : FH) (hy : x.l[k]? = some y) => show x.p[k]? = some y.f by unfold PH.p; rw [List.getElem?_map, hy]; rfl)
  clear h hb0 hx0 hs
  obtain ⟨A, n, c, l⟩ := x
  simp only at *
  generalize hp : PH.p ⟨A, n, c, l⟩ = p at *
  have hq : ∃ q, checkP p = q := ⟨_, rfl⟩
  obtain ⟨⟨⟨qa, qb, qc, qd⟩, qe⟩, hq⟩ := hq
  have Hq := hid (show listN p = if qe == 0 then (List.range p.length).flatMap (ndFs p) else [] by unfold listN; rw [hq])
  rw [hq] at HC
  clear hq hp
  go_enter Tryd.func14, Tryd.ntmps14
  go_wp2_with fail
  generalize w.alloc (.cells #[.slice A n c] 24) = w0 at *
  refine HC.out.mono ?_
  rintro e w1 ⟨rfl, hb1⟩
  have ha1 := (Below.refl w1.heap.size w1).alloc (Nat.le_refl _) (.cells #[.int .i64 qa, .int .i64 qb, .int .i64 qc, .int .i64 qd] 53)
  have hb2 := below_step hb1 ha1
  have HB2 := hid (below_step HB0.out hb2)
  have HG2 := hid (HG0.out.below hb2 HG0.out.lt)
  have HS2 := hid (show w.heap.size + 1 ≤ (w1.alloc (.cells #[.int .i64 qa, .int .i64 qb, .int .i64 qc, .int .i64 qd] 53)).heap.size by have := hb2.size; have := hsz0.out; omega)
  clear hb1 ha1 hb2 HB0 HG0 HC hsz0
  simp only
  cases h0 : (qe == 0) with
  | false =>
    as_aux_lemma =>
      have h1 : (qe != 0) = true := by show (!(qe == 0)) = true; rw [h0]; rfl
      have Hr := hid (show listN p = [] by rw [Hq.out, h0]; rfl)
      clear h0
      go_wp2_with fail
      go_ret
      rw [Hr.out]
      exact ⟨none, 0, rfl, fun _ _ => EAt.nil _ _ _, by simp, HB2.out⟩
  | true =>
    have h1 : (qe != 0) = false := by show (!(qe == 0)) = false; rw [h0]; rfl
    have Hr := hid (show listN p = (List.range p.length).flatMap (ndFs p) by rw [Hq.out, h0]; rfl)
    clear h0
    have HO := hid (show Ng w (.slice none 0 0) 0 [] (w1.alloc (.cells #[.int .i64 qa, .int .i64 qb, .int .i64 qc, .int .i64 qd] 53)) from ⟨World.ownsRow_nil _ _ _ _, rfl, HB2.out, HS2.out⟩)
    obtain g0 := HG2.out.onec
    clear HB2 HS2 Hq
    go_wp2_with fail
    clear g0 HG2 h1
    generalize w1.alloc (.cells #[.int .i64 qa, .int .i64 qb, .int .i64 qc, .int .i64 qd] 53) = w2 at HO ⊢
    go_loopw [5, 6, 7, 8, 9, 10, 11, 22] (fun sv _ _ _ _ _ _ iv wr => ∃ (k m : Nat) (v : Value) (L : List Nd), k ≤ n ∧ iv = .int .i64 k ∧ sv = v ∧ m ≤ k * 3202 ∧ Hid (L = (List.range k).flatMap (ndFs p)) ∧ Hid (Ng w v m L wr)) (fun _ _ _ _ _ _ _ iv _ => n - (intOf iv).toNat)
    case atStart => exact ⟨0, 0, _, [], by omega, rfl, rfl, by omega, hid rfl, HO.out⟩
    case round =>
      clear HO
      obtain ⟨k, m, v, L, hk, rfl, rfl, hm, hE, hO⟩ := hrel
      by_cases hlt : k < n
      · obtain ⟨y, hy, hym⟩ := get_at HL.out hlt
        have HPr := hid (HX.out.go (Go2.below hO.out.bel))
        obtain ⟨ad, hA, had, hc1, hc2⟩ := FH.cells HPr.out.lies hy
        simp only at hA
        subst hA
        have Hya := hid (fun (v : World) (h : Below w.heap.size w v) => (HX.out.go (Go2.below h)).all y hym)
        have Hget := hid (Hpa.out k y hy)
        have hyn : y.n ≤ 40 := (HPr.out.all y hym).few
        have Hyl := hid (show y.l.length = y.n from (HPr.out.all y hym).len)
        have Hyb := hid (show y.f.bs.length = y.n by show (y.l.map BH.b).length = y.n; rw [List.length_map]; exact (HPr.out.all y hym).len)
        have Hyg := hid (fun (j : Nat) (z : BH) (hz : y.l[j]? = some z) => show y.f.bs[j]? = some z.b by show (y.l.map BH.b)[j]? = _; rw [List.getElem?_map, hz]; rfl)
        have H1 := hid (hO.out.alloc (.cells #[.string y.name, .slice y.A y.n y.c] 48))
        have HG1 := hid ((Fb.new wr #[.string y.name, .slice y.A y.n y.c] 48).alloc (Obj.cells #[Value.int .i64 1, Value.int .i64 (k : Int), Value.int .i64 (-1), Value.int .i64 (-1)] 53))
        have H2 := hid (H1.out.alloc (Obj.cells #[Value.int .i64 1, Value.int .i64 (k : Int), Value.int .i64 (-1), Value.int .i64 (-1)] 53))
        have HN1 := hid (show ∀ j u, (ndc (⟨1, k, -1, -1⟩ : Nd))[j]? = some u → ((wr.alloc (.cells #[.string y.name, .slice y.A y.n y.c] 48)).alloc (Obj.cells #[Value.int .i64 1, Value.int .i64 (k : Int), Value.int .i64 (-1), Value.int .i64 (-1)] 53)).cell? ((⟨wr.heap.size + 1, 0, none⟩ : Addr).add j) = some u by have := nd_new (wr.alloc (.cells #[.string y.name, .slice y.A y.n y.c] 48)) (⟨1, k, -1, -1⟩ : Nd); rw [World.size_alloc] at this; exact this)
        clear hy hym HPr H1
        generalize y.f = ff at *
        obtain ⟨ynm, yA, yn, yc, yl⟩ := y
        simp only at *
        go_wp2_with ((
          at_builtin
          go_must (refine wpList_append_lies _ rfl _ _ 28 rfl (w.heap.size + 1) 53 i1 _ 4 32 Tryd.underlying28 Hi.out Hz0.out Hz1.out Hz2.out rfl (by decide) _ m (L.flatMap ndc) rfl H2.out.own ⟨wr.heap.size + 1, 0, none⟩ 1 1 (ndc (⟨1, k, -1, -1⟩ : Nd)) rfl rfl HN1.out (one_ndc _) (by omega) (by unfold maxLen; omega) (by omega) H2.out.siz _ rfl ?_)
          intro g5 cap5 w5 hown5 hgr5 hat5 hlt5
          have H5 := hid (Ng.push H2.out hown5 hgr5)
          obtain ⟨y0, y1⟩ := Fb.twoc (Ng.keep H2.out HG1.out (by decide) hgr5)
          clear hown5 hgr5 hat5 hlt5))
        clear y0 y1 hc1 hc2 had HG1 H2 HN1 hO
        go_loopw [5, 8, 9, 10, 11, 35] (fun sv _ _ _ _ iv wr => ∃ (j m2 : Nat) (v : Value) (L2 : List Nd), j ≤ yn ∧ iv = .int .i64 j ∧ sv = v ∧ m2 ≤ k * 3202 + 1 + j * 80 ∧ Hid (L2 = (L ++ [(⟨1, k, -1, -1⟩ : Nd)]) ++ (List.range j).flatMap (ndBs k ff.bs)) ∧ Hid (Ng w v m2 L2 wr)) (fun _ _ _ _ _ iv _ => yn - (intOf iv).toNat)
        case atStart => exact ⟨0, m + 1, _, L ++ [(⟨1, k, -1, -1⟩ : Nd)], by omega, rfl, rfl, by omega, hid (by simp), H5.out⟩
        case round =>
          clear H5
          obtain ⟨j, m2, v2, L2, hj, rfl, rfl, hm2, hE2, hO⟩ := hrel
          by_cases hlt2 : j < yn
          · obtain ⟨z, hz, hzm⟩ := get_at Hyl.out hlt2
            have HPr := hid (Hya.out _ hO.out.bel)
            obtain ⟨ad2, hA, had, hc1, hc2⟩ := BH.cells HPr.out.lies hz
            simp only at hA
            subst hA
            have Hza := hid (fun (v : World) (h : Below w.heap.size w v) => (Hya.out v h).all z hzm)
            have Hgz := hid (Hyg.out j z hz)
            have hzn : z.n ≤ 40 := (HPr.out.all z hzm).few
            have Hzl := hid (show z.l.length = z.n from (HPr.out.all z hzm).len)
            have Hzb := hid (show z.b.ss.length = z.n by show (z.l.map SH.t).length = z.n; rw [List.length_map]; exact (HPr.out.all z hzm).len)
            have Hzg := hid (fun (i : Nat) (s : SH) (hs : z.l[i]? = some s) => show z.b.ss[i]? = some s.t by show (z.l.map SH.t)[i]? = _; rw [List.getElem?_map, hs]; rfl)
            have H1 := hid (hO.out.alloc (.cells #[.string z.name, .slice z.A z.n z.c] 73))
            have HG1 := hid (Fb.new wr #[.string z.name, .slice z.A z.n z.c] 73)
            clear hz hzm HPr
            generalize z.b = bb at *
            obtain ⟨znm, zA, zn, zc, zl⟩ := z
            simp only at *
            obtain ⟨y0, y1⟩ := HG1.out.twoc
            go_wp2_with fail
            clear y0 y1 hc1 hc2 had HG1 hO
            go_loopw [5, 10, 11, 43] (fun sv _ _ iv wr => ∃ (i m3 : Nat) (v : Value) (L3 : List Nd), i ≤ zn ∧ iv = .int .i64 i ∧ sv = v ∧ m3 ≤ m2 + i * 2 ∧ Hid (L3 = L2 ++ (List.range i).flatMap (ndSs k j bb.ss)) ∧ Hid (Ng w v m3 L3 wr)) (fun _ _ _ iv _ => zn - (intOf iv).toNat)
            case atStart => exact ⟨0, m2, _, L2, by omega, rfl, rfl, by omega, hid (by simp), H1.out⟩
            case round =>
              clear H1
              obtain ⟨i, m3, v3, L3, hi, rfl, rfl, hm3, hE3, hO⟩ := hrel
              by_cases hlt3 : i < zn
              · obtain ⟨s, hs, hsm⟩ := get_at Hzl.out hlt3
                have HPr := hid (Hza.out _ hO.out.bel)
                obtain ⟨ad3, hA, had, hc1, hc2, hc3, hc4⟩ := SH.cells HPr.out.lies hs
                simp only at hA
                subst hA
                have Hgs := hid (ndSs_at (f := k) (b := j) (Hzg.out i s hs))
                have H1 := hid (hO.out.alloc (.cells #[.int .i64 s.t.op, .string s.t.d, .slice s.A s.n s.c, .slice s.B s.m s.c2] 79))
                have HG1 := hid ((Fb.new wr #[.int .i64 s.t.op, .string s.t.d, .slice s.A s.n s.c, .slice s.B s.m s.c2] 79).alloc (Obj.cells #[Value.int .i64 3, Value.int .i64 (k : Int), Value.int .i64 (j : Int), Value.int .i64 (i : Int)] 53))
                have H2 := hid (H1.out.alloc (Obj.cells #[Value.int .i64 3, Value.int .i64 (k : Int), Value.int .i64 (j : Int), Value.int .i64 (i : Int)] 53))
                have HN1 := hid (show ∀ j_1 u, (ndc (⟨3, k, j, i⟩ : Nd))[j_1]? = some u → ((wr.alloc (.cells #[.int .i64 s.t.op, .string s.t.d, .slice s.A s.n s.c, .slice s.B s.m s.c2] 79)).alloc (Obj.cells #[Value.int .i64 3, Value.int .i64 (k : Int), Value.int .i64 (j : Int), Value.int .i64 (i : Int)] 53)).cell? ((⟨wr.heap.size + 1, 0, none⟩ : Addr).add j_1) = some u by have := nd_new (wr.alloc (.cells #[.int .i64 s.t.op, .string s.t.d, .slice s.A s.n s.c, .slice s.B s.m s.c2] 79)) (⟨3, k, j, i⟩ : Nd); rw [World.size_alloc] at this; exact this)
                clear hs hsm HPr H1
                cases ho : (s.t.op == 3) with
                | false =>
                  have Hst := hid (show ndSs k j bb.ss i = [(⟨3, k, j, i⟩ : Nd)] by rw [Hgs.out]; unfold ndS; rw [ho]; rfl)
                  go_wp2_with ((
                    at_builtin
                    go_must (refine wpList_append_lies _ rfl _ _ 28 rfl (w.heap.size + 1) 53 i1 _ 4 32 Tryd.underlying28 Hi.out Hz0.out Hz1.out Hz2.out rfl (by decide) _ m3 (L3.flatMap ndc) rfl H2.out.own ⟨wr.heap.size + 1, 0, none⟩ 1 1 (ndc (⟨3, k, j, i⟩ : Nd)) rfl rfl HN1.out (one_ndc _) (by omega) (by unfold maxLen; omega) (by omega) H2.out.siz _ rfl ?_)
                    intro g5 cap5 w5 hown5 hgr5 hat5 hlt5
                    have H5 := hid (Ng.push H2.out hown5 hgr5)
                    obtain ⟨y0, y1, y2, y3⟩ := Fb.four (Ng.keep H2.out HG1.out (by decide) hgr5)
                    clear hown5 hgr5 hat5 hlt5))
                  as_aux_lemma =>
                    go_roundw
                    case rel => exact ⟨i + 1, m3 + 1, _, L3 ++ [(⟨3, k, j, i⟩ : Nd)], by omega, by go_num, rfl, by omega, hid (by rw [hE3.out, range_flat, Hst.out, List.append_assoc]), H5⟩
                    case measure => simp [intOf]; omega
                | true =>
                  have Hst := hid (show ndSs k j bb.ss i = [(⟨3, k, j, i⟩ : Nd), (⟨4, k, j, i⟩ : Nd)] by rw [Hgs.out]; unfold ndS; rw [ho]; rfl)
                  go_wp2_with (
                    first
                    | (
                     at_builtin
                     refine wpList_append_lies _ rfl _ _ 28 rfl (w.heap.size + 1) 53 i1 _ 4 32 Tryd.underlying28 Hi.out Hz0.out Hz1.out Hz2.out rfl (by decide) _ m3 (L3.flatMap ndc) rfl H2.out.own ⟨wr.heap.size + 1, 0, none⟩ 1 1 (ndc (⟨3, k, j, i⟩ : Nd)) rfl rfl HN1.out (one_ndc _) (by omega) (by unfold maxLen; omega) (by omega) H2.out.siz _ rfl ?_
                     intro g5 cap5 w5 hown5 hgr5 hat5 hlt5
                     have H5 := hid (Ng.push H2.out hown5 hgr5)
                     obtain ⟨y0, y1, y2, y3⟩ := Fb.four (Ng.keep H2.out HG1.out (by decide) hgr5)
                     have H6 := hid (H5.out.alloc (Obj.cells #[Value.int .i64 4, Value.int .i64 (k : Int), Value.int .i64 (j : Int), Value.int .i64 (i : Int)] 53))
                     have HN4 := hid (nd_new w5 (⟨4, k, j, i⟩ : Nd))
                     clear H2
                     clear hown5 hgr5 hat5 hlt5)
                    | (
                     at_builtin
                     go_must (refine wpList_append_lies _ rfl _ _ 28 rfl (w.heap.size + 1) 53 i1 _ 4 32 Tryd.underlying28 Hi.out Hz0.out Hz1.out Hz2.out rfl (by decide) _ (m3 + 1) ((L3 ++ [(⟨3, k, j, i⟩ : Nd)]).flatMap ndc) rfl H6.out.own ⟨w5.heap.size, 0, none⟩ 1 1 (ndc (⟨4, k, j, i⟩ : Nd)) rfl rfl HN4.out (one_ndc _) (by omega) (by unfold maxLen; omega) (by omega) H6.out.siz _ rfl ?_)
                     intro g7 cap7 w7 hown7 hgr7 hat7 hlt7
                     have H7 := hid (Ng.push H6.out hown7 hgr7)
                     clear hown7 hgr7 hat7 hlt7))
                  as_aux_lemma =>
                    go_roundw
                    case rel => exact ⟨i + 1, m3 + 1 + 1, _, (L3 ++ [(⟨3, k, j, i⟩ : Nd)]) ++ [(⟨4, k, j, i⟩ : Nd)], by omega, by go_num, rfl, by omega, hid (by rw [hE3.out, range_flat, Hst.out]; simp), H7⟩
                    case measure => simp [intOf]; omega
              · as_aux_lemma =>
                  obtain rfl : i = zn := by omega
                  have Hd := hid (show L3 = (L ++ [(⟨1, k, -1, -1⟩ : Nd)]) ++ (List.range (j + 1)).flatMap (ndBs k ff.bs) by rw [hE3.out, hE2.out, range_flat, ndBs_at Hgz.out, List.append_assoc]; unfold ndB; rw [Hzb.out])
                  go_wp2_with fail
                  go_roundw
                  case rel => exact ⟨j + 1, m3, _, L3, by omega, by go_num, rfl, by omega, Hd, hO⟩
                  case measure => simp [intOf]; omega
          · obtain rfl : j = yn := by omega
            have H2 := hid (hO.out.alloc (Obj.cells #[Value.int .i64 2, Value.int .i64 (k : Int), Value.int .i64 (-1), Value.int .i64 (-1)] 53))
            have HN1 := hid (nd_new wr (⟨2, k, -1, -1⟩ : Nd))
            have Hd := hid (show L2 ++ [(⟨2, k, -1, -1⟩ : Nd)] = (List.range (k + 1)).flatMap (ndFs p) by rw [hE2.out, range_flat, ← hE.out, ndFs_at Hget.out]; unfold ndF; rw [Hyb.out]; simp)
            as_aux_lemma =>
              go_wp2_with ((
                at_builtin
                go_must (refine wpList_append_lies _ rfl _ _ 28 rfl (w.heap.size + 1) 53 i1 _ 4 32 Tryd.underlying28 Hi.out Hz0.out Hz1.out Hz2.out rfl (by decide) _ m2 (L2.flatMap ndc) rfl H2.out.own ⟨wr.heap.size, 0, none⟩ 1 1 (ndc (⟨2, k, -1, -1⟩ : Nd)) rfl rfl HN1.out (one_ndc _) (by omega) (by unfold maxLen; omega) (by omega) H2.out.siz _ rfl ?_)
                intro g5 cap5 w5 hown5 hgr5 hat5 hlt5
                have H5 := hid (Ng.push H2.out hown5 hgr5)
                clear hown5 hgr5 hat5 hlt5))
              go_roundw
              case rel => exact ⟨k + 1, m2 + 1, _, L2 ++ [(⟨2, k, -1, -1⟩ : Nd)], by omega, by go_num, rfl, by omega, Hd, H5⟩
              case measure => simp [intOf]; omega
      · as_aux_lemma =>
          obtain rfl : k = n := by omega
          have Hd := hid (show L = listN p by rw [hE.out, Hr.out, Hpl.out, HL.out])
          obtain ⟨B, cc, hvv⟩ := own_any_slice hO.out.own
          subst hvv
          have hml := hO.out.len
          go_wp2_with fail
          go_ret
          rw [← Hd.out]
          subst hml
          exact ⟨B, cc, rfl, fun ex hex => EAt.own hO.out.own (fun g hg hm => by have := (hO.out.own.lt g hg).1; have := hex g hm; omega), by omega, hO.out.bel⟩
end Go.Proofs.YtfapgnbnfhpicaaDoor

namespace Go.Proofs.YtfapgnbnfhpicaaDoor
set_option linter.unusedVariables false

/-- The numbers below N at which f holds, ascending. -/
def rowP (N : Nat) (f : Nat → Bool) : List Int := ((List.range N).filter f).map Int.ofNat
/-- Strictly ascending, with elements from 0 to N - 1. -/
def RisP (N : Nat) (l : List Int) : Prop := l.Pairwise (· < ·) ∧ ∀ x ∈ l, 0 ≤ x ∧ x < (N : Int)
theorem mem_rowP {N : Nat} {f : Nat → Bool} {x : Int} : x ∈ rowP N f ↔ ∃ k : Nat, k < N ∧ f k = true ∧ x = (k : Int) := by
  unfold rowP
  simp only [List.mem_map, List.mem_filter, List.mem_range]
  constructor
  · rintro ⟨k, ⟨h1, h2⟩, h3⟩; exact ⟨k, h1, h2, h3.symm⟩
  · rintro ⟨k, h1, h2, h3⟩; exact ⟨k, ⟨h1, h2⟩, h3.symm⟩
theorem mem_rowP_nat {N : Nat} {f : Nat → Bool} {k : Nat} : ((k : Int) ∈ rowP N f) ↔ k < N ∧ f k = true := by
  rw [mem_rowP]
  constructor
  · rintro ⟨j, h1, h2, h3⟩
    obtain rfl : k = j := by omega
    exact ⟨h1, h2⟩
  · rintro ⟨h1, h2⟩; exact ⟨k, h1, h2, rfl⟩
theorem rowP_ris (N : Nat) (f : Nat → Bool) : RisP N (rowP N f) := by
  refine ⟨?_, fun x hx => ?_⟩
  · unfold rowP
    rw [List.pairwise_map]
    have h : (List.range N).Pairwise (· < ·) := List.pairwise_lt_range
    exact (h.filter f).imp (fun h => Int.ofNat_lt.2 h)
  · obtain ⟨k, h1, _, rfl⟩ := mem_rowP.1 hx
    omega
theorem asc_ext : ∀ {l m : List Int}, l.Pairwise (· < ·) → m.Pairwise (· < ·) → (∀ x, x ∈ l ↔ x ∈ m) → l = m := by
  intro l
  induction l with
  | nil =>
    intro m _ _ h
    cases m with
    | nil => rfl
    | cons y m => exact absurd ((h y).2 (List.mem_cons_self ..)) (by simp)
  | cons x l ih =>
    intro m hl hm h
    cases m with
    | nil => exact absurd ((h x).1 (List.mem_cons_self ..)) (by simp)
    | cons y m =>
      rw [List.pairwise_cons] at hl hm
      have hxy : x = y := by
        rcases List.mem_cons.1 ((h x).1 (List.mem_cons_self ..)) with e | e
        · exact e
        · rcases List.mem_cons.1 ((h y).2 (List.mem_cons_self ..)) with e2 | e2
          · exact e2.symm
          · have := hm.1 x e; have := hl.1 y e2; omega
      subst hxy
      rw [ih hl.2 hm.2 (fun z => ?_)]
      constructor
      · intro hz
        rcases List.mem_cons.1 ((h z).1 (List.mem_cons_of_mem _ hz)) with e | e
        · subst e; have := hl.1 z hz; omega
        · exact e
      · intro hz
        rcases List.mem_cons.1 ((h z).2 (List.mem_cons_of_mem _ hz)) with e | e
        · subst e; have := hm.1 z hz; omega
        · exact e
theorem rowP_of {N : Nat} {l : List Int} (h : RisP N l) : l = rowP N (fun k => decide ((k : Int) ∈ l)) := by
  refine asc_ext h.1 (rowP_ris N _).1 fun x => ?_
  rw [mem_rowP]
  constructor
  · intro hx
    have := h.2 x hx
    exact ⟨x.toNat, by omega, by rw [show ((x.toNat : Nat) : Int) = x by omega]; simpa using hx, by omega⟩
  · rintro ⟨k, _, h2, rfl⟩
    simpa using h2
theorem ris_row {N : Nat} {l : List Int} {f : Nat → Bool} (h : RisP N l) (hm : ∀ k, k < N → ((k : Int) ∈ l ↔ f k = true)) : l = rowP N f := by
  refine asc_ext h.1 (rowP_ris N _).1 fun x => ?_
  rw [mem_rowP]
  constructor
  · intro hx
    have := h.2 x hx
    have hk : x.toNat < N := by omega
    have he : ((x.toNat : Nat) : Int) = x := by omega
    exact ⟨x.toNat, hk, (hm _ hk).1 (by rw [he]; exact hx), he.symm⟩
  · rintro ⟨k, h1, h2, rfl⟩
    exact (hm k h1).2 h2
theorem rowP_congr {N : Nat} {f g : Nat → Bool} (h : ∀ k, k < N → f k = g k) : rowP N f = rowP N g := by
  unfold rowP
  rw [List.filter_congr (fun k hk => h k (List.mem_range.1 hk))]
theorem rowP_len (N : Nat) (f : Nat → Bool) : (rowP N f).length ≤ N := by
  unfold rowP
  rw [List.length_map]
  exact Nat.le_trans (List.length_filter_le _ _) (by simp)
theorem ris_len {N : Nat} {l : List Int} (h : RisP N l) : l.length ≤ N := by rw [rowP_of h]; exact rowP_len _ _
theorem RisP.nil (N : Nat) : RisP N [] := ⟨List.Pairwise.nil, by simp⟩

/-- Insert a number into an ascending list. -/
def insI : List Int → Int → List Int
  | [], n => [n]
  | y :: l, n => if y < n then y :: insI l n else if y = n then y :: l else n :: y :: l
theorem mem_insI {l : List Int} {n x : Int} : x ∈ insI l n ↔ x = n ∨ x ∈ l := by
  induction l with
  | nil => simp [insI]
  | cons y l ih =>
    unfold insI
    split
    · rw [List.mem_cons, ih, List.mem_cons]; grind
    · split
      · next h => subst h; simp
      · simp
theorem insI_asc {l : List Int} {n : Int} (h : l.Pairwise (· < ·)) : (insI l n).Pairwise (· < ·) := by
  induction l with
  | nil => simp [insI]
  | cons y l ih =>
    rw [List.pairwise_cons] at h
    unfold insI
    split
    · next hlt =>
      rw [List.pairwise_cons]
      refine ⟨fun x hx => ?_, ih h.2⟩
      rcases mem_insI.1 hx with rfl | hx
      · exact hlt
      · exact h.1 x hx
    · split
      · exact List.pairwise_cons.2 h
      · next h1 h2 =>
        refine List.pairwise_cons.2 ⟨fun x hx => ?_, List.pairwise_cons.2 h⟩
        rcases List.mem_cons.1 hx with rfl | hx
        · omega
        · have := h.1 x hx; omega
theorem insI_ris {N : Nat} {l : List Int} {n : Int} (h : RisP N l) (h0 : 0 ≤ n) (h1 : n < N) : RisP N (insI l n) :=
  ⟨insI_asc h.1, fun x hx => by rcases mem_insI.1 hx with rfl | hx; exact ⟨h0, h1⟩; exact h.2 x hx⟩
theorem insI_mem {l : List Int} {n : Int} (h : l.Pairwise (· < ·)) (hn : n ∈ l) : insI l n = l :=
  asc_ext (insI_asc h) h fun x => by rw [mem_insI]; exact ⟨fun h => by rcases h with rfl | h; exact hn; exact h, .inr⟩
/-- The loop that looks for the place. -/
theorem insI_at {l : List Int} {n : Int} {i : Nat} (hi : i ≤ l.length) (h : ∀ x ∈ l.take i, x < n) : insI l n = l.take i ++ insI (l.drop i) n := by
  induction i generalizing l with
  | zero => simp
  | succ i ih =>
    cases l with
    | nil => simp at hi
    | cons y l =>
      have hy : y < n := h y (by simp)
      rw [List.take_succ_cons, List.drop_succ_cons, List.cons_append, ← ih (by simpa using hi) (fun x hx => h x (by simp [hx]))]
      conv => lhs; unfold insI
      rw [if_pos hy]
theorem insI_end {l : List Int} {n : Int} (h : ∀ x ∈ l, x < n) : insI l n = l ++ [n] := by
  rw [insI_at (Nat.le_refl l.length) (by simpa using h)]; simp [insI]
theorem insI_hit {l : List Int} {n : Int} {i : Nat} (h : ∀ x ∈ l.take i, x < n) (he : l[i]? = some n) : insI l n = l := by
  have hi : i < l.length := (List.getElem?_eq_some_iff.1 he).1
  have hd : l.drop i = n :: l.drop (i + 1) := by rw [List.drop_eq_getElem_cons hi]; congr 1; exact (List.getElem?_eq_some_iff.1 he).2
  rw [insI_at (by omega) h, hd]
  conv => lhs; rhs; unfold insI
  rw [if_neg (by omega), if_pos rfl, ← hd, List.take_append_drop]
theorem insI_put {l : List Int} {n y : Int} {i : Nat} (h : ∀ x ∈ l.take i, x < n) (he : l[i]? = some y) (hy : n < y) : insI l n = l.take i ++ n :: l.drop i := by
  have hi : i < l.length := (List.getElem?_eq_some_iff.1 he).1
  have hd : l.drop i = y :: l.drop (i + 1) := by rw [List.drop_eq_getElem_cons hi]; congr 1; exact (List.getElem?_eq_some_iff.1 he).2
  rw [insI_at (by omega) h, hd]
  conv => lhs; rhs; unfold insI
  rw [if_neg (by omega), if_neg (by omega)]

/-- Go's loop over a list that must ascend. -/
def ascG (N : Nat) : Int → List Int → Bool
  | _, [] => true
  | p, a :: l => if a ≤ p then false else if (N : Int) ≤ a then false else ascG N a l
theorem ascG_iff {N : Nat} {p : Int} {l : List Int} : ascG N p l = true ↔ l.Pairwise (· < ·) ∧ ∀ x ∈ l, p < x ∧ x < (N : Int) := by
  induction l generalizing p with
  | nil => simp [ascG]
  | cons a l ih =>
    unfold ascG
    split
    · next h =>
      constructor
      · intro h; cases h
      · rintro ⟨_, h2⟩; have := h2 a (by simp); omega
    · split
      · next h =>
        constructor
        · intro h; cases h
        · rintro ⟨_, h2⟩; have := h2 a (by simp); omega
      · next h1 h2 =>
        rw [ih, List.pairwise_cons]
        constructor
        · rintro ⟨h3, h4⟩
          refine ⟨⟨fun x hx => (h4 x hx).1, h3⟩, fun x hx => ?_⟩
          rcases List.mem_cons.1 hx with rfl | hx
          · omega
          · have := h4 x hx; omega
        · rintro ⟨⟨h3, h4⟩, h5⟩
          exact ⟨h4, fun x hx => ⟨h3 x hx, (h5 x (List.mem_cons_of_mem _ hx)).2⟩⟩
def risB (N : Nat) (l : List Int) : Bool := ascG N (-1) l
theorem risB_iff {N : Nat} {l : List Int} : risB N l = true ↔ RisP N l := by
  unfold risB RisP
  rw [ascG_iff]
  constructor <;> (rintro ⟨h1, h2⟩; exact ⟨h1, fun x hx => by have := h2 x hx; omega⟩)

/-- The row of a list of lists. -/
def rw0 (S : List (List Int)) (a : Nat) : List Int := S.getD a []
theorem rw0_at {S : List (List Int)} {a : Nat} {l : List Int} (h : S[a]? = some l) : rw0 S a = l := by unfold rw0; rw [List.getD_eq_getElem?_getD, h]; rfl
def tot (S : List (List Int)) : Nat := (S.map List.length).sum
/-- For each number those in whose rows it is. -/
def revL (N : Nat) (S : List (List Int)) : List (List Int) := (List.range N).map fun b : Nat => rowP N fun a => decide ((b : Int) ∈ rw0 S a)
theorem revL_len (N : Nat) (S : List (List Int)) : (revL N S).length = N := by unfold revL; simp
theorem revL_at {N : Nat} {S : List (List Int)} {b : Nat} (h : b < N) : (revL N S)[b]? = some (rowP N fun a => decide ((b : Int) ∈ rw0 S a)) := by
  unfold revL; rw [List.getElem?_map, List.getElem?_range h]; rfl
theorem revL_rw0 {N : Nat} {S : List (List Int)} {b : Nat} (h : b < N) : rw0 (revL N S) b = rowP N fun a => decide ((b : Int) ∈ rw0 S a) := rw0_at (revL_at h)
theorem revL_ris (N : Nat) (S : List (List Int)) : ∀ l ∈ revL N S, RisP N l := by
  intro l hl
  unfold revL at hl
  obtain ⟨b, _, rfl⟩ := List.mem_map.1 hl
  exact rowP_ris _ _
theorem lists_ext {N : Nat} {S T : List (List Int)} (h1 : S.length = N) (h2 : T.length = N) (h : ∀ a, a < N → rw0 S a = rw0 T a) : S = T := by
  apply List.ext_getElem?
  intro a
  by_cases ha : a < N
  · have := h a ha
    unfold rw0 at this
    rw [List.getD_eq_getElem?_getD, List.getD_eq_getElem?_getD, List.getElem?_eq_getElem (by omega), List.getElem?_eq_getElem (by omega)] at this
    rw [List.getElem?_eq_getElem (by omega), List.getElem?_eq_getElem (by omega)]
    simpa using this
  · rw [List.getElem?_eq_none (by omega), List.getElem?_eq_none (by omega)]
theorem rw0_ris {N : Nat} {S : List (List Int)} (h : ∀ l ∈ S, RisP N l) (a : Nat) : RisP N (rw0 S a) := by
  unfold rw0
  rw [List.getD_eq_getElem?_getD]
  cases h2 : S[a]? with
  | none => exact RisP.nil N
  | some l => exact h l (List.mem_of_getElem? h2)
theorem rev_rev {N : Nat} {S : List (List Int)} (hl : S.length = N) (h : ∀ l ∈ S, RisP N l) : revL N (revL N S) = S := by
  refine lists_ext (revL_len _ _) hl fun a ha => ?_
  rw [revL_rw0 ha]
  refine (ris_row (rw0_ris h a) fun b hb => ?_).symm
  rw [revL_rw0 hb, decide_eq_true_eq, mem_rowP_nat, decide_eq_true_eq]
  exact ⟨fun h => ⟨ha, h⟩, fun h => h.2⟩
/-- Sums of rows, by columns. -/
theorem filter_sum (N : Nat) (f : Nat → Bool) : ((List.range N).filter f).length = ((List.range N).map fun k => if f k then 1 else 0).sum := by
  induction N with
  | zero => rfl
  | succ N ih =>
    rw [List.range_succ, List.filter_append, List.length_append, ih, List.map_append, List.sum_append]
    congr 1
    cases h : f N <;> simp [h]
theorem sum_add (N : Nat) (f g : Nat → Nat) : ((List.range N).map fun k => f k + g k).sum = ((List.range N).map f).sum + ((List.range N).map g).sum := by
  induction N with
  | zero => rfl
  | succ N ih => simp only [List.range_succ, List.map_append, List.sum_append, ih, List.map_cons, List.map_nil, List.sum_cons, List.sum_nil]; omega
theorem sum_swap (M N : Nat) (f : Nat → Nat → Nat) : ((List.range M).map fun a => ((List.range N).map fun b => f a b).sum).sum = ((List.range N).map fun b => ((List.range M).map fun a => f a b).sum).sum := by
  induction M with
  | zero => simp only [List.range_zero, List.map_nil, List.sum_nil]; induction N with
    | zero => rfl
    | succ N ih => simp only [List.range_succ, List.map_append, List.sum_append, ← ih]; rfl
  | succ M ih =>
    simp only [List.range_succ, List.map_append, List.sum_append, List.map_cons, List.map_nil, List.sum_cons, List.sum_nil, Nat.add_zero]
    rw [ih, sum_add]
theorem list_range {S : List (List Int)} {N : Nat} (hl : S.length = N) : S = (List.range N).map (rw0 S) := by
  refine lists_ext hl (by simp) fun a ha => ?_
  unfold rw0
  rw [List.getD_eq_getElem?_getD (l := List.map _ _), List.getElem?_map, List.getElem?_range ha]
  rfl
theorem tot_rev {N : Nat} {S : List (List Int)} (hl : S.length = N) (h : ∀ l ∈ S, RisP N l) : tot (revL N S) = tot S := by
  have e1 : tot (revL N S) = ((List.range N).map fun b : Nat => ((List.range N).map fun a : Nat => if decide ((b : Int) ∈ rw0 S a) then 1 else 0).sum).sum := by
    unfold tot revL
    rw [List.map_map]
    congr 1
    refine List.map_congr_left fun b hb => ?_
    simp only [Function.comp]
    unfold rowP
    rw [List.length_map, filter_sum]
  have e2 : tot S = ((List.range N).map fun a : Nat => ((List.range N).map fun b : Nat => if decide ((b : Int) ∈ rw0 S a) then 1 else 0).sum).sum := by
    unfold tot
    conv => lhs; rw [list_range hl]
    rw [List.map_map]
    congr 1
    refine List.map_congr_left fun a ha => ?_
    simp only [Function.comp]
    conv => lhs; rw [rowP_of (rw0_ris h a)]
    unfold rowP
    rw [List.length_map, filter_sum]
  rw [e1, e2, sum_swap]

/-- A valid graph. -/
structure ValG (N : Nat) (S P : List (List Int)) : Prop where
  some : 1 ≤ N
  few : N ≤ 256
  slen : S.length = N
  plen : P.length = N
  ris : ∀ l ∈ S, RisP N l
  most : tot S ≤ 1024
  back : revL N S = P
def validB (N : Nat) (S P : List (List Int)) : Bool :=
  decide (1 ≤ N) && (decide (N ≤ 256) && (decide (S.length = N) && (decide (P.length = N) && (S.all (risB N) && (decide (tot S ≤ 1024) && decide (revL N S = P))))))
theorem validB_iff {N : Nat} {S P : List (List Int)} : validB N S P = true ↔ ValG N S P := by
  unfold validB
  simp only [Bool.and_eq_true, decide_eq_true_eq, List.all_eq_true, risB_iff]
  constructor
  · rintro ⟨a, b, c, d, e, f, g⟩; exact ⟨a, b, c, d, e, f, g⟩
  · rintro ⟨a, b, c, d, e, f, g⟩; exact ⟨a, b, c, d, e, f, g⟩
theorem ValG.rev {N : Nat} {S P : List (List Int)} (h : ValG N S P) : ValG N P S := by
  have hb := h.back
  subst hb
  exact ⟨h.some, h.few, h.plen, h.slen, revL_ris _ _, by rw [tot_rev h.slen h.ris]; exact h.most, rev_rev h.slen h.ris⟩
theorem ValG.tot {N : Nat} {S P : List (List Int)} (h : ValG N S P) : tot P = tot S := by
  have hb := h.back
  subst hb
  exact tot_rev h.slen h.ris
theorem ValG.iff {N : Nat} {S P : List (List Int)} (h : ValG N S P) {a b : Nat} (ha : a < N) (hb : b < N) : (b : Int) ∈ rw0 S a ↔ (a : Int) ∈ rw0 P b := by
  have e := h.back
  subst e
  rw [revL_rw0 hb, mem_rowP_nat, decide_eq_true_eq]
  exact ⟨fun h => ⟨ha, h⟩, fun h => h.2⟩
theorem ValG.pris {N : Nat} {S P : List (List Int)} (h : ValG N S P) : ∀ l ∈ P, RisP N l := by
  have e := h.back; subst e; exact revL_ris _ _
/-- Both ways of saying it. -/
theorem ValG.mk2 {N : Nat} {S P : List (List Int)} (h1 : 1 ≤ N) (h2 : N ≤ 256) (h3 : S.length = N) (h4 : P.length = N) (h5 : ∀ l ∈ S, RisP N l) (h6 : ∀ l ∈ P, RisP N l) (h7 : Go.Proofs.YtfapgnbnfhpicaaDoor.tot S ≤ 1024)
    (h8 : ∀ a b : Nat, a < N → b < N → ((b : Int) ∈ rw0 S a ↔ (a : Int) ∈ rw0 P b)) : ValG N S P := by
  refine ⟨h1, h2, h3, h4, h5, h7, lists_ext (revL_len _ _) h4 fun b hb => ?_⟩
  rw [revL_rw0 hb]
  refine (ris_row (rw0_ris h6 b) fun a ha => ?_).symm
  rw [decide_eq_true_eq]
  exact (h8 a b ha hb).symm

/-- Paths. -/
inductive Rch (S : List (List Int)) (F : List Int) : Nat → Prop
  | start {a : Nat} : (a : Int) ∈ F → Rch S F a
  | step {a b : Nat} : Rch S F a → (b : Int) ∈ rw0 S a → Rch S F b
open Classical in
noncomputable def rchL (N : Nat) (S : List (List Int)) (F : List Int) : List Int := rowP N fun k => decide (Rch S F k)
theorem rchL_ris (N : Nat) (S : List (List Int)) (F : List Int) : RisP N (rchL N S F) := rowP_ris _ _
theorem mem_rchL {N : Nat} {S : List (List Int)} {F : List Int} {k : Nat} : ((k : Int) ∈ rchL N S F) ↔ k < N ∧ Rch S F k := by
  unfold rchL; rw [mem_rowP_nat]; simp
/-- What is reached, is contained in every closed set. -/
theorem Rch.least {S : List (List Int)} {F : List Int} {C : Nat → Prop} (h1 : ∀ a : Nat, (a : Int) ∈ F → C a) (h2 : ∀ a b : Nat, C a → (b : Int) ∈ rw0 S a → C b) {k : Nat} (h : Rch S F k) : C k := by
  induction h with
  | start h => exact h1 _ h
  | step _ h ih => exact h2 _ _ ih h
/-- A closed list of reached numbers, sorted, is the list of all that are reached. -/
theorem rchL_of {N : Nat} {S : List (List Int)} {F l : List Int} (hr : RisP N l) (h1 : ∀ x ∈ F, x ∈ l) (h2 : ∀ a b : Nat, (a : Int) ∈ l → (b : Int) ∈ rw0 S a → (b : Int) ∈ l) (h3 : ∀ k : Nat, (k : Int) ∈ l → Rch S F k) : l = rchL N S F := by
  classical
  refine ris_row hr fun k hk => ?_
  constructor
  · intro h; simpa using h3 k h
  · intro h
    have h : Rch S F k := by simpa using h
    exact h.least (C := fun k => (k : Int) ∈ l) (fun a ha => h1 _ ha) h2
/-- Reaching is transitive. -/
theorem rch_twice {N : Nat} {S : List (List Int)} {F : List Int} (hS : ∀ l ∈ S, RisP N l) (hF : ∀ x ∈ F, 0 ≤ x ∧ x < (N : Int)) : rchL N S (rchL N S F) = rchL N S F := by
  refine (rchL_of (rchL_ris N S F) (fun x hx => hx) (fun a b ha hb => ?_) (fun k hk => .start hk)).symm
  rw [mem_rchL] at ha ⊢
  have := (rw0_ris hS a).2 _ hb
  exact ⟨by omega, .step ha.2 hb⟩
theorem Rch.one {S : List (List Int)} {a b : Nat} (h : Rch S [(a : Int)] b) : ∀ {c : Nat}, Rch S [(b : Int)] c → Rch S [(a : Int)] c := by
  intro c hc
  refine hc.least (C := fun k => Rch S [(a : Int)] k) (fun x hx => ?_) (fun x y hx hy => .step hx hy)
  simp at hx
  obtain rfl : x = b := by omega
  exact h
theorem Rch.back {N : Nat} {S P : List (List Int)} (h : ValG N S P) {a b : Nat} (ha : a < N) (hr : Rch S [(a : Int)] b) : b < N ∧ Rch P [(b : Int)] a := by
  have : ∀ k : Nat, Rch S [(a : Int)] k → k < N ∧ Rch P [(k : Int)] a := by
    intro k hk
    refine hk.least (C := fun k => k < N ∧ Rch P [(k : Int)] a) (fun x hx => ?_) (fun x y hx hy => ?_)
    · simp at hx
      obtain rfl : x = a := by omega
      exact ⟨ha, .start (by simp)⟩
    · have hyN : y < N := by have := (rw0_ris h.ris x).2 _ hy; omega
      refine ⟨hyN, Rch.one (b := x) (.step (.start (by simp)) ((h.iff hx.1 hyN).1 hy)) hx.2⟩
  exact this b hr
theorem rch_back {N : Nat} {S P : List (List Int)} (h : ValG N S P) {a b : Nat} (ha : a < N) (hb : b < N) : ((b : Int) ∈ rchL N S [(a : Int)]) ↔ ((a : Int) ∈ rchL N P [(b : Int)]) := by
  rw [mem_rchL, mem_rchL]
  exact ⟨fun x => ⟨ha, (Rch.back h ha x.2).2⟩, fun x => ⟨hb, (Rch.back h.rev hb x.2).2⟩⟩
end Go.Proofs.YtfapgnbnfhpicaaDoor

namespace Go.Proofs.YtfapgnbnfhpicaaDoor
set_option maxRecDepth 20000
set_option linter.unusedVariables false
set_option linter.unusedSimpArgs false
open Go.ChangeShapes Go.WideShapes Go.ChangeAt Go.RowKit

/-- A list of numbers and where it lies. -/
structure RH where
  A : Option Addr
  n : Nat
  c : Nat
  l : List Int
def RH.v (x : RH) : Value := .slice x.A x.n x.c
structure RHok (w : World) (ex : List (Option Nat)) (x : RH) : Prop where
  lies : EAt w ex x.A (ints x.l)
  len : x.l.length = x.n
  few : x.n ≤ 9223372036854775807
theorem RHok.go {w w' : World} {ex ex' : List (Option Nat)} {x : RH} (h : RHok w ex x) (hg : Go2 w ex w' ex') : RHok w' ex' x := ⟨h.lies.go hg, h.len, h.few⟩
theorem RHok.below {w w' : World} {ex : List (Option Nat)} {x : RH} (h : RHok w ex x) (hb : Below w.heap.size w w') : RHok w' ex x := h.go (Go2.below hb)
theorem EAt.one {w : World} {ex : List (Option Nat)} {A : Option Addr} {xs : List Value} (h : EAt w ex A xs) {i : Nat} {u : Value} (hi : xs[i]? = some u) : ∃ ad : Addr, A = some ad ∧ Safe w ex ad.block ∧ w.cell? (ad.add i) = some u := by
  rcases h with rfl | ⟨ad, e, hs, hc⟩
  · simp at hi
  · exact ⟨ad, e, hs, hc i u hi⟩
theorem RHok.cell {w : World} {ex : List (Option Nat)} {x : RH} (h : RHok w ex x) {i : Nat} {a : Int} (hi : x.l[i]? = some a) : ∃ ad : Addr, x.A = some ad ∧ ad.block < w.heap.size ∧ w.cell? (ad.add i) = some (.int .i64 a) := by
  obtain ⟨ad, h1, h2, h3⟩ := h.lies.one (i := i) (u := .int .i64 a) (by unfold ints; rw [List.getElem?_map, hi]; rfl)
  exact ⟨ad, h1, h2.1, h3⟩
/-- A list of lists. -/
structure LH where
  A : Option Addr
  n : Nat
  c : Nat
  l : List RH
def LH.v (x : LH) : List (List Int) := x.l.map RH.l
structure LHok (w : World) (ex : List (Option Nat)) (x : LH) : Prop where
  lies : EAt w ex x.A (x.l.map RH.v)
  len : x.l.length = x.n
  few : x.n ≤ 9223372036854775807
  all : ∀ y ∈ x.l, RHok w ex y
theorem LHok.go {w w' : World} {ex ex' : List (Option Nat)} {x : LH} (h : LHok w ex x) (hg : Go2 w ex w' ex') : LHok w' ex' x := ⟨h.lies.go hg, h.len, h.few, fun y hy => (h.all y hy).go hg⟩
theorem LHok.below {w w' : World} {ex : List (Option Nat)} {x : LH} (h : LHok w ex x) (hb : Below w.heap.size w w') : LHok w' ex x := h.go (Go2.below hb)
theorem LHok.cell {w : World} {ex : List (Option Nat)} {x : LH} (h : LHok w ex x) {i : Nat} {y : RH} (hi : x.l[i]? = some y) : ∃ ad : Addr, x.A = some ad ∧ ad.block < w.heap.size ∧ w.cell? (ad.add i) = some (.slice y.A y.n y.c) := by
  obtain ⟨ad, h1, h2, h3⟩ := h.lies.one (i := i) (u := RH.v y) (by rw [List.getElem?_map, hi]; rfl)
  exact ⟨ad, h1, h2.1, h3⟩
theorem LH.vlen (x : LH) : x.v.length = x.l.length := by simp [LH.v]
theorem LH.at {x : LH} {i : Nat} {y : RH} (h : x.l[i]? = some y) : x.v[i]? = some y.l := by unfold LH.v; rw [List.getElem?_map, h]; rfl
theorem LH.rw {x : LH} {i : Nat} {y : RH} (h : x.l[i]? = some y) : rw0 x.v i = y.l := rw0_at (LH.at h)
/-- A graph. -/
structure GH where
  A : Option Addr
  n : Nat
  c : Nat
  ns : List Nd
  S : LH
  P : LH
def GH.a (x : GH) : Value := .agg #[.slice x.A x.n x.c, .slice x.S.A x.S.n x.S.c, .slice x.P.A x.P.n x.P.c]
structure GHok (w : World) (ex : List (Option Nat)) (x : GH) : Prop where
  lies : EAt w ex x.A (x.ns.flatMap ndc)
  len : x.ns.length = x.n
  few : x.n ≤ 9223372036854775807
  s : LHok w ex x.S
  p : LHok w ex x.P
theorem GHok.go {w w' : World} {ex ex' : List (Option Nat)} {x : GH} (h : GHok w ex x) (hg : Go2 w ex w' ex') : GHok w' ex' x := ⟨h.lies.go hg, h.len, h.few, h.s.go hg, h.p.go hg⟩
theorem GHok.below {w w' : World} {ex : List (Option Nat)} {x : GH} (h : GHok w ex x) (hb : Below w.heap.size w w') : GHok w' ex x := h.go (Go2.below hb)

theorem ascG_cons (N : Nat) (p a : Int) (l : List Int) : ascG N p (a :: l) = if a ≤ p then false else if (N : Int) ≤ a then false else ascG N a l := rfl
theorem drop_at {α : Type} {l : List α} {k : Nat} {a : α} (h : l[k]? = some a) : l.drop k = a :: l.drop (k + 1) := by
  obtain ⟨h1, h2⟩ := List.getElem?_eq_some_iff.1 h
  rw [List.drop_eq_getElem_cons h1, h2]
set_option maxHeartbeats 1600000 in
theorem asc_any (x : RH) (N : Nat) (ex : List (Option Nat)) (w : World) (h : RHok w ex x) (hN : N ≤ 9223372036854775807) :
    Calls Tryd.prog 37 #[.slice x.A x.n x.c, .int .i64 N] w fun e w' => e = .returned (.bool (risB N x.l)) ∧ w = w' := by
  have hn := h.few
  have HX := hid h
  have HL := hid h.len
  clear h
  obtain ⟨A, n, c, l⟩ := x
  simp only at *
  go_enter Tryd.func37, Tryd.ntmps37
  go_wp2_with fail
  go_loop [5, 7, 10] (fun pv _ iv => ∃ (k : Nat) (p : Int), k ≤ n ∧ iv = .int .i64 k ∧ pv = .int .i64 p ∧ Hid (risB N l = ascG N p (l.drop k))) (fun _ _ iv => n - (intOf iv).toNat)
  case atStart => exact ⟨0, -1, by omega, rfl, rfl, hid rfl⟩
  case round =>
    obtain ⟨k, p, hk, rfl, rfl, hE⟩ := hrel
    by_cases hlt : k < n
    · obtain ⟨a, ha, -⟩ := get_at HL.out hlt
      obtain ⟨ad, hA, had, hc⟩ := HX.out.cell ha
      simp only at hA
      subst hA
      have Hd := hid (drop_at ha)
      clear ha
      by_cases h1 : a ≤ p
      · have Hr := hid (show risB N l = false by rw [hE.out, Hd.out, ascG_cons, if_pos h1])
        go_wp2_with fail
        go_ret
        exact ⟨ret_b Hr.out, rfl⟩
      · by_cases h2 : (N : Int) ≤ a
        · have Hr := hid (show risB N l = false by rw [hE.out, Hd.out, ascG_cons, if_neg h1, if_pos h2])
          go_wp2_with fail
          go_ret
          exact ⟨ret_b Hr.out, rfl⟩
        · have Hr := hid (show risB N l = ascG N a (l.drop (k + 1)) by rw [hE.out, Hd.out, ascG_cons, if_neg h1, if_neg h2])
          go_wp2_with fail
          go_round
          case rel => exact ⟨k + 1, a, by omega, by go_num, rfl, Hr⟩
          case measure => simp [intOf]; omega
    · have Hr := hid (show risB N l = true by rw [hE.out, List.drop_of_length_le (by rw [HL.out]; omega)]; rfl)
      go_wp2_with fail
      go_ret
      exact ⟨ret_b Hr.out, rfl⟩
theorem tot_take {S : List (List Int)} {k : Nat} {l : List Int} (h : S[k]? = some l) : tot (S.take (k + 1)) = tot (S.take k) + l.length := by
  unfold tot; rw [List.take_add_one, h, List.map_append, List.sum_append]; simp
set_option maxHeartbeats 1600000 in
theorem count_any (x : LH) (N : Nat) (ex : List (Option Nat)) (w : World) (h : LHok w ex x) (hN : x.n ≤ 100000) (hr : ∀ y ∈ x.l, y.n ≤ 100000) :
    Calls Tryd.prog 38 #[.slice x.A x.n x.c] w fun e w' => e = .returned (.int .i64 (tot x.v : Nat)) ∧ w = w' := by
  have HX := hid h
  have HR := hid hr
  have HL := hid h.len
  have Hat := hid (fun (k : Nat) (y : RH) (hy : x.l[k]? = some y) => LH.at hy)
  have Hvl := hid (LH.vlen x)
  clear h hr
  generalize hv : LH.v x = v at *
  clear hv
  obtain ⟨A, n, c, l⟩ := x
  simp only at *
  go_enter Tryd.func38, Tryd.ntmps38
  go_wp2_with fail
  go_loop [3, 5, 8] (fun sv _ iv => ∃ (k t : Nat), k ≤ n ∧ iv = .int .i64 k ∧ sv = .int .i64 t ∧ t ≤ k * 100000 ∧ Hid (t = tot (v.take k))) (fun _ _ iv => n - (intOf iv).toNat)
  case atStart => exact ⟨0, 0, by omega, rfl, rfl, by omega, hid rfl⟩
  case round =>
    obtain ⟨k, t, hk, rfl, rfl, ht, hE⟩ := hrel
    by_cases hlt : k < n
    · obtain ⟨y, hy, hym⟩ := get_at HL.out hlt
      obtain ⟨ad, hA, had, hc⟩ := HX.out.cell hy
      simp only at hA
      subst hA
      have hyn := HR.out y hym
      have Ht := hid (show t + y.n = tot (v.take (k + 1)) by rw [tot_take (Hat.out k y hy), ← hE.out, (HX.out.all y hym).len])
      clear hy hym
      obtain ⟨yA, yn, yc, yl⟩ := y
      simp only at *
      go_wp2_with fail
      go_round
      case rel => exact ⟨k + 1, t + yn, by omega, by go_num, by go_num, by omega, Ht⟩
      case measure => simp [intOf]; omega
    · obtain rfl : k = n := by omega
      have Ht := hid (show t = tot v by rw [hE.out, List.take_of_length_le (by rw [Hvl.out, HL.out]; omega)])
      go_wp2_with fail
      go_ret
      exact ⟨ret_i (by rw [Ht.out]), rfl⟩
end Go.Proofs.YtfapgnbnfhpicaaDoor

namespace Go.Proofs.YtfapgnbnfhpicaaDoor
set_option maxRecDepth 20000
set_option linter.unusedVariables false
set_option linter.unusedSimpArgs false
open Go.ChangeShapes Go.WideShapes Go.ChangeAt Go.RowKit

section
variable {α : Type} [DecidableEq α]
def eqD (l m : List α) : Bool := decide (l = m)
theorem eqD_len {l m : List α} (h : l.length ≠ m.length) : eqD l m = false := by unfold eqD; rw [decide_eq_false_iff_not]; rintro rfl; exact h rfl
theorem eqD_no {l m : List α} {k : Nat} {a b : α} (ha : l[k]? = some a) (hb : m[k]? = some b) (h : a ≠ b) : eqD l m = false := by
  unfold eqD; rw [decide_eq_false_iff_not]; rintro rfl; rw [ha] at hb; exact h (Option.some.inj hb)
theorem eqD_yes {l m : List α} {n : Nat} (hl : l.length = n) (hm : m.length = n) (h : ∀ j, j < n → l[j]? = m[j]?) : eqD l m = true := by
  unfold eqD; rw [decide_eq_true_eq]
  apply List.ext_getElem?
  intro j
  by_cases hj : j < n
  · exact h j hj
  · rw [List.getElem?_eq_none (by omega), List.getElem?_eq_none (by omega)]
omit [DecidableEq α] in
theorem eqD_step {l m : List α} {k : Nat} {a b : α} (h : ∀ j, j < k → l[j]? = m[j]?) (ha : l[k]? = some a) (hb : m[k]? = some b) (e : a = b) : ∀ j, j < k + 1 → l[j]? = m[j]? := by
  intro j hj
  by_cases e2 : j = k
  · subst e2; rw [ha, hb, e]
  · exact h j (by omega)
end
/-- It returned this, and only draws were made. -/
def RetQ (w : World) (v : Value) (e : Ending) (w' : World) : Prop := e = .returned v ∧ ∃ q : Nat, w' = w.drewN q
theorem RetQ.mk {w : World} {b c : Bool} {q : Nat} (h : c = b) : RetQ w (.bool c) (.returned (.bool b)) (w.drewN q) := ⟨by rw [h], q, rfl⟩
theorem RetQ.mk2 {w : World} {b c : Bool} {q r : Nat} (h : c = b) : RetQ w (.bool c) (.returned (.bool b)) ((w.drewN q).drewN r) := ⟨by rw [h], q + r, World.drewN_drewN _ _ _⟩
theorem RetQ.mk0 {w : World} {b c : Bool} (h : c = b) : RetQ w (.bool c) (.returned (.bool b)) w := ⟨by rw [h], 0, rfl⟩
set_option maxHeartbeats 1600000 in
theorem equal_int (x y : RH) (ex ey : List (Option Nat)) (w : World) (hx : RHok w ex x) (hy : RHok w ey y) :
    Calls Tryd.prog 40 #[.slice x.A x.n x.c, .slice y.A y.n y.c] w (RetQ w (.bool (eqD x.l y.l))) := by
  have hn := hx.few
  have hm := hy.few
  have HX := hid hx
  have HY := hid hy
  have HL := hid hx.len
  have HM := hid hy.len
  clear hx hy
  obtain ⟨A, n, c, l⟩ := x
  obtain ⟨B, m, c2, l2⟩ := y
  simp only at *
  by_cases hlen : n = m
  · subst hlen
    go_enter Tryd.func40, Tryd.ntmps40
    go_wp2_with fail
    go_loopw [5, 13] (fun _ iv wr => ∃ (k q : Nat), k ≤ n ∧ iv = .int .i64 k ∧ wr = w.drewN q ∧ Hid (∀ j, j < k → l[j]? = l2[j]?)) (fun _ iv _ => n - (intOf iv).toNat)
    case atStart => exact ⟨0, 0, by omega, rfl, rfl, hid (fun j h => by omega)⟩
    case round =>
      obtain ⟨k, q, hk, rfl, rfl, hE⟩ := hrel
      by_cases hlt : k < n
      · obtain ⟨a, ha, -⟩ := get_at HL.out hlt
        obtain ⟨b, hb, -⟩ := get_at HM.out hlt
        obtain ⟨ad, hA, had, hc⟩ := HX.out.cell ha
        obtain ⟨ad2, hB, had2, hc2⟩ := HY.out.cell hb
        simp only at hA hB
        subst hA
        subst hB
        have Ha := hid ha
        have Hb := hid hb
        clear ha hb
        by_cases h1 : a = b
        · subst h1
          have Hr := hid (eqD_step hE.out Ha.out Hb.out rfl)
          clear hE
          go_wp2_with fail
          go_quiet (fail)
          go_wp2_with fail
          go_roundw
          case rel => exact ⟨k + 1, _, by omega, by go_num, rfl, Hr⟩
          case measure => simp [intOf]; omega
        · have Hr := hid (eqD_no Ha.out Hb.out h1)
          have t1 : (a == b) = false := by simpa using h1
          have t2 : (a != b) = true := by simpa using h1
          clear hE h1
          go_wp2_with fail
          go_quiet (fail)
          go_wp2_with fail
          go_ret
          exact RetQ.mk2 Hr.out
      · obtain rfl : k = n := by omega
        have Hr := hid (eqD_yes HL.out HM.out hE.out)
        clear hE
        go_wp2_with fail
        go_ret
        exact RetQ.mk Hr.out
  · have Hr := hid (eqD_len (l := l) (m := l2) (by rw [HL.out, HM.out]; exact hlen))
    have t1 : ((n : Int) == (m : Int)) = false := by simp; omega
    have t2 : ((n : Int) != (m : Int)) = true := by simp; omega
    clear hlen
    go_enter Tryd.func40, Tryd.ntmps40
    go_wp2_with fail
    go_ret
    exact RetQ.mk0 Hr.out
set_option maxHeartbeats 1600000 in
theorem refInts_any (x y : RH) (ex ey : List (Option Nat)) (w : World) (hx : RHok w ex x) (hy : RHok w ey y) :
    Calls Tryd.prog 6 #[.slice x.A x.n x.c, .slice y.A y.n y.c] w (RetQ w (.bool (eqD x.l y.l))) := by
  have hn := hx.few
  have hm := hy.few
  have HX := hid hx
  have HY := hid hy
  have HL := hid hx.len
  have HM := hid hy.len
  clear hx hy
  obtain ⟨A, n, c, l⟩ := x
  obtain ⟨B, m, c2, l2⟩ := y
  simp only at *
  by_cases hlen : n = m
  · subst hlen
    go_enter Tryd.func6, Tryd.ntmps6
    go_wp2_with fail
    go_loopw [5] (fun iv wr => ∃ (k q : Nat), k ≤ n ∧ iv = .int .i64 k ∧ wr = w.drewN q ∧ Hid (∀ j, j < k → l[j]? = l2[j]?)) (fun iv _ => n - (intOf iv).toNat)
    case atStart => exact ⟨0, 0, by omega, rfl, rfl, hid (fun j h => by omega)⟩
    case round =>
      obtain ⟨k, q, hk, rfl, rfl, hE⟩ := hrel
      by_cases hlt : k < n
      · obtain ⟨a, ha, -⟩ := get_at HL.out hlt
        obtain ⟨b, hb, -⟩ := get_at HM.out hlt
        obtain ⟨ad, hA, had, hc⟩ := HX.out.cell ha
        obtain ⟨ad2, hB, had2, hc2⟩ := HY.out.cell hb
        simp only at hA hB
        subst hA
        subst hB
        have Ha := hid ha
        have Hb := hid hb
        clear ha hb
        by_cases h1 : a = b
        · subst h1
          have Hr := hid (eqD_step hE.out Ha.out Hb.out rfl)
          clear hE
          go_wp2_with fail
          go_quiet (fail)
          go_wp2_with fail
          go_roundw
          case rel => exact ⟨k + 1, _, by omega, by go_num, rfl, Hr⟩
          case measure => simp [intOf]; omega
        · have Hr := hid (eqD_no Ha.out Hb.out h1)
          have t1 : (a == b) = false := by simpa using h1
          have t2 : (a != b) = true := by simpa using h1
          clear hE h1
          go_wp2_with fail
          go_quiet (fail)
          go_wp2_with fail
          go_ret
          exact RetQ.mk2 Hr.out
      · obtain rfl : k = n := by omega
        have Hr := hid (eqD_yes HL.out HM.out hE.out)
        clear hE
        go_wp2_with fail
        go_ret
        exact RetQ.mk Hr.out
  · have Hr := hid (eqD_len (l := l) (m := l2) (by rw [HL.out, HM.out]; exact hlen))
    have t1 : ((n : Int) == (m : Int)) = false := by simp; omega
    have t2 : ((n : Int) != (m : Int)) = true := by simp; omega
    clear hlen
    go_enter Tryd.func6, Tryd.ntmps6
    go_wp2_with fail
    go_ret
    exact RetQ.mk0 Hr.out
set_option maxHeartbeats 3200000 in
/-- EqualFunc over lists of lists, by Equal. -/
theorem equal_rows (x y : LH) (ex ey : List (Option Nat)) (w : World) (hx : LHok w ex x) (hy : LHok w ey y) :
    Calls Tryd.prog 39 #[.slice x.A x.n x.c, .slice y.A y.n y.c, .func (Fn.func 40) #[] #[]] w (RetQ w (.bool (eqD x.v y.v))) := by
  have hn := hx.few
  have hm := hy.few
  have HX := hid hx
  have HY := hid hy
  have HL := hid hx.len
  have HM := hid hy.len
  have HvL := hid (LH.vlen x)
  have HvM := hid (LH.vlen y)
  have HaX := hid (fun (k : Nat) (z : RH) (hz : x.l[k]? = some z) => LH.at hz)
  have HaY := hid (fun (k : Nat) (z : RH) (hz : y.l[k]? = some z) => LH.at hz)
  clear hx hy
  generalize hv : x.v = v at *
  generalize hv2 : y.v = v2 at *
  clear hv hv2
  obtain ⟨A, n, c, l⟩ := x
  obtain ⟨B, m, c2, l2⟩ := y
  simp only at *
  by_cases hlen : n = m
  · subst hlen
    go_enter Tryd.func39, Tryd.ntmps39
    go_wp2_with fail
    go_loopw [7, 8, 9, 17] (fun _ _ _ iv wr => ∃ (k q : Nat), k ≤ n ∧ iv = .int .i64 k ∧ wr = w.drewN q ∧ Hid (∀ j, j < k → v[j]? = v2[j]?)) (fun _ _ _ iv _ => n - (intOf iv).toNat)
    case atStart => exact ⟨0, 0, by omega, rfl, rfl, hid (fun j h => by omega)⟩
    case round =>
      obtain ⟨k, q, hk, rfl, rfl, hE⟩ := hrel
      by_cases hlt : k < n
      · obtain ⟨a, ha, ham⟩ := get_at HL.out hlt
        obtain ⟨b, hb, hbm⟩ := get_at HM.out hlt
        obtain ⟨ad, hA, had, hc⟩ := HX.out.cell ha
        obtain ⟨ad2, hB, had2, hc2⟩ := HY.out.cell hb
        simp only at hA hB
        subst hA
        subst hB
        have Ha := hid (HaX.out k a ha)
        have Hb := hid (HaY.out k b hb)
        have HC := hid (equal_int a b ex ey (w.drewN q) ((HX.out.all a ham).below (below_drewN (Below.refl _ _) q)) ((HY.out.all b hbm).below (below_drewN (Below.refl _ _) q)))
        clear ha hb ham hbm
        obtain ⟨aA, an, ac, al⟩ := a
        obtain ⟨bA, bn, bc, bl⟩ := b
        simp only at *
        by_cases h1 : al = bl
        · subst h1
          have Hr := hid (eqD_step hE.out Ha.out Hb.out rfl)
          have e1 : eqD al al = true := by unfold eqD; simp
          rw [e1] at HC
          clear hE e1
          go_wp2_with fail
          refine HC.out.mono ?_
          rintro e w' ⟨rfl, q2, rfl⟩
          go_wp2_with fail
          go_roundw
          case rel => exact ⟨k + 1, _, by omega, by go_num, rfl, Hr⟩
          case measure => simp [intOf]; omega
        · have Hr := hid (eqD_no Ha.out Hb.out h1)
          have e1 : eqD al bl = false := by unfold eqD; simpa using h1
          rw [e1] at HC
          clear hE h1 e1
          go_wp2_with fail
          refine HC.out.mono ?_
          rintro e w' ⟨rfl, q2, rfl⟩
          go_wp2_with fail
          go_ret
          exact RetQ.mk Hr.out
      · obtain rfl : k = n := by omega
        have Hr := hid (eqD_yes (HvL.out.trans HL.out) (HvM.out.trans HM.out) hE.out)
        clear hE
        go_wp2_with fail
        go_ret
        exact RetQ.mk Hr.out
  · have Hr := hid (eqD_len (l := v) (m := v2) (by rw [HvL.out, HvM.out, HL.out, HM.out]; exact hlen))
    have t1 : ((n : Int) == (m : Int)) = false := by simp; omega
    have t2 : ((n : Int) != (m : Int)) = true := by simp; omega
    clear hlen
    go_enter Tryd.func39, Tryd.ntmps39
    go_wp2_with fail
    go_ret
    exact RetQ.mk0 Hr.out
end Go.Proofs.YtfapgnbnfhpicaaDoor

namespace Go.Proofs.YtfapgnbnfhpicaaDoor
set_option maxRecDepth 20000
set_option linter.unusedVariables false
set_option linter.unusedSimpArgs false
open Go.ChangeShapes Go.WideShapes Go.ChangeAt Go.RowKit

theorem info3 : (Tryd.prog.info? 3).map (fun i => (i.zero, i.size, i.bytes)) = some (some (.int .i64 0), 1, 8) := by kernel_rfl
theorem info22 : (Tryd.prog.info? 35).map (fun i => (i.zero, i.size, i.bytes)) = some (some (.slice none 0 0), 1, 24) := by kernel_rfl
def upd (f : Nat → List Int) (i : Nat) (l : List Int) : Nat → List Int := fun j => if j = i then l else f j
theorem upd_at (f : Nat → List Int) (i : Nat) (l : List Int) : upd f i l i = l := by unfold upd; rw [if_pos rfl]
theorem upd_ne (f : Nat → List Int) {i j : Nat} (l : List Int) (h : j ≠ i) : upd f i l j = f j := by unfold upd; rw [if_neg h]
/-- Block M holds N slices, each of which owns its row, apart from the others. -/
def Mx (w : World) (M N : Nat) (f : Nat → List Int) : Prop :=
  ∃ vs : List Value, vs.length = N ∧ Fb w M vs.toArray 35 ∧ (∀ i v, vs[i]? = some v → w.ownsRow (M + 1) 3 1 v (f i).length (ints (f i))) ∧
    (∀ (i j : Nat) (u v : Value) (g : Nat), i ≠ j → vs[i]? = some u → vs[j]? = some v → u.ownBlock = some g → v.ownBlock ≠ some g)
section
variable {w w' : World} {M N : Nat} {f : Nat → List Int}
theorem Mx.lt (h : Mx w M N f) : M < w.heap.size := by obtain ⟨vs, h1, h2, h3, h4⟩ := h; exact h2.lt
theorem Mx.below (h : Mx w M N f) (hb : Below w.heap.size w w') : Mx w' M N f := by
  obtain ⟨vs, h1, h2, h3, h4⟩ := h
  exact ⟨vs, h1, h2.below hb h2.lt, fun i v hv => own_below (h3 i v hv) hb, h4⟩
theorem Mx.alloc (h : Mx w M N f) (o : Obj) : Mx (w.alloc o) M N f := h.below ((Below.refl _ _).alloc (Nat.le_refl _) o)
theorem Mx.congr {g : Nat → List Int} (h : Mx w M N f) (hg : ∀ i, i < N → f i = g i) : Mx w M N g := by
  obtain ⟨vs, h1, h2, h3, h4⟩ := h
  refine ⟨vs, h1, h2, fun i v hv => ?_, h4⟩
  have hi : i < N := by rw [← h1]; exact (List.getElem?_eq_some_iff.1 hv).1
  rw [← hg i hi]; exact h3 i v hv
/-- A world in which another block has been written. -/
theorem Mx.grown {row : Option Nat} (h : Mx w M N f) (hg : w.grownBy w' row) (hr : ∀ k, row = some k → k < M) : Mx w' M N f := by
  obtain ⟨vs, h1, h2, h3, h4⟩ := h
  refine ⟨vs, h1, h2.grown hg (fun e => by have := hr M e.symm; omega), fun i v hv => (h3 i v hv).kept hg ?_, h4⟩
  cases hb : v.ownBlock with
  | none => exact .inl rfl
  | some k => exact .inr (fun e => by have := hr k e.symm; have := ((h3 i v hv).lt k hb).1; omega)
theorem Mx.start (w : World) (N : Nat) : Mx (w.alloc (.cells (Array.replicate N (Value.slice none 0 0)) 35)) w.heap.size N (fun _ => []) := by
  refine ⟨List.replicate N (.slice none 0 0), by simp, by rw [List.toArray_replicate]; exact Fb.new _ _ _, fun i v hv => ?_, fun i j u v g _ hu hv hg => ?_⟩
  · obtain rfl := List.eq_of_mem_replicate (List.mem_of_getElem? hv)
    exact World.ownsRow_nil _ _ _ _
  · obtain rfl := List.eq_of_mem_replicate (List.mem_of_getElem? hu)
    simp [Value.ownBlock] at hg
/-- One slice. -/
theorem Mx.at (h : Mx w M N f) {i : Nat} (hi : i < N) : ∃ v, w.ownsRow (M + 1) 3 1 v (f i).length (ints (f i)) ∧ w.cell? ⟨M, i, none⟩ = some v ∧ w.frozen? ⟨M, i, none⟩ = false ∧ (∃ A c, v = .slice A (f i).length c) ∧
    (∀ w' : World, w.grownBy w' v.ownBlock → w'.cell? ⟨M, i, none⟩ = some v ∧ w'.frozen? ⟨M, i, none⟩ = false) ∧
    (∀ (w' : World) (u : Value) (l : List Int), w.grownBy w' v.ownBlock → w'.ownsRow (M + 1) 3 1 u l.length (ints l) → (∀ g, u.ownBlock = some g → v.ownBlock = some g ∨ w.heap.size ≤ g) →
      Mx (w'.setCell ⟨M, i, none⟩ u) M N (upd f i l)) := by
  obtain ⟨vs, h1, h2, h3, h4⟩ := h
  have hi' : i < vs.length := by omega
  have hv : vs[i]? = some vs[i] := List.getElem?_eq_getElem hi'
  have hown := h3 i _ hv
  have hc : ∀ {w' : World}, Fb w' M vs.toArray 35 → w'.cell? ⟨M, i, none⟩ = some vs[i] ∧ w'.frozen? ⟨M, i, none⟩ = false := fun h => ⟨by rw [h.cell]; simp, h.frozen i⟩
  have hM : ∀ {w' : World}, w.grownBy w' vs[i].ownBlock → Fb w' M vs.toArray 35 := fun hg => h2.grown hg (by
    intro e
    have := (hown.lt M e.symm).1
    omega)
  refine ⟨vs[i], hown, (hc h2).1, (hc h2).2, own_any_slice hown, fun w' hg => hc (hM hg), fun w' nv l hg ho hat => ?_⟩
  have hset := setCell_grown w' ⟨M, i, none⟩ nv
  have hfar : ∀ {v : Value} {n : Nat} {xs : List Value}, w'.ownsRow (M + 1) 3 1 v n xs → (w'.setCell ⟨M, i, none⟩ nv).ownsRow (M + 1) 3 1 v n xs := fun {v} {n} {xs} h => h.kept hset (by
    cases hb : v.ownBlock with
    | none => exact .inl rfl
    | some k => exact .inr (fun e => by injection e with e; have := (h.lt k hb).1; simp at e; omega))
  refine ⟨vs.set i nv, by simpa using h1, ?_, fun j v hj => ?_, fun a b u v g2 hab ha hb hg2 => ?_⟩
  · have := (hM hg).set i nv
    simpa using this
  · rw [List.getElem?_set] at hj
    by_cases e : i = j
    · subst e
      rw [if_pos rfl, if_pos hi'] at hj
      obtain rfl := Option.some.inj hj
      rw [upd_at]
      exact hfar ho
    · rw [if_neg e] at hj
      rw [upd_ne _ _ (Ne.symm e)]
      refine hfar ((h3 j v hj).kept hg ?_)
      cases hb : v.ownBlock with
      | none => exact .inl rfl
      | some k => exact .inr (fun e2 => h4 j i v vs[i] k (Ne.symm e) hj hv hb e2.symm)
  · have hnew : ∀ (j : Nat) (v : Value) (g : Nat), j ≠ i → vs[j]? = some v → nv.ownBlock = some g → v.ownBlock ≠ some g := by
      intro j v g hji hj hng he
      rcases hat g hng with h | h
      · exact h4 j i v vs[i] g hji hj hv he h
      · have := ((h3 j v hj).lt g he).2
        omega
    rw [List.getElem?_set] at ha hb
    by_cases e1 : i = a
    · subst e1
      rw [if_pos rfl, if_pos hi'] at ha
      rw [if_neg hab] at hb
      obtain rfl := Option.some.inj ha
      exact hnew b v g2 (Ne.symm hab) hb hg2
    · rw [if_neg e1] at ha
      by_cases e2 : i = b
      · subst e2
        rw [if_pos rfl, if_pos hi'] at hb
        obtain rfl := Option.some.inj hb
        intro e
        exact hnew a u g2 hab ha e hg2
      · rw [if_neg e2] at hb
        exact h4 a b u v g2 hab ha hb hg2
end
/-- The rows that a matrix holds, as a list of lists. -/
def rowsF (N : Nat) (f : Nat → List Int) : List (List Int) := (List.range N).map f
def rhOf (v : Value) (l : List Int) : RH := match v with
  | .slice A n c => ⟨A, n, c, l⟩
  | _ => ⟨none, 0, 0, l⟩
theorem Mx.lists {w : World} {M N : Nat} {f : Nat → List Int} (h : Mx w M N f) (hN : N ≤ 9223372036854775807) :
    ∃ y : LH, y.A = some ⟨M, 0, none⟩ ∧ y.n = N ∧ y.c = N ∧ y.v = rowsF N f ∧ ∀ ex : List (Option Nat), (∀ k, some k ∈ ex → k < M) → LHok w ex y := by
  obtain ⟨vs, h1, h2, h3, h4⟩ := h
  have hsl : ∀ i v, vs[i]? = some v → RH.v (rhOf v (f i)) = v ∧ (rhOf v (f i)).l = f i ∧ (rhOf v (f i)).n = (f i).length ∧ (f i).length ≤ 9223372036854775807 ∧ ∀ ex : List (Option Nat), (∀ k, some k ∈ ex → k < M) → EAt w ex (rhOf v (f i)).A (ints (f i)) := by
    intro i v hv
    have hown := h3 i v hv
    obtain ⟨A, c, rfl⟩ := own_any_slice hown
    refine ⟨rfl, rfl, rfl, ?_, fun ex hex => EAt.own hown fun g hg hm => ?_⟩
    · rcases hown.2 with ⟨e, h0⟩ | ⟨g, cap, cur, _, _, _, h5, h6, _⟩
      · rw [h0]; omega
      · unfold maxLen at h6; omega
    · have := hex g hm; have := (hown.lt g hg).1; omega
  let l := (List.range N).map fun i => rhOf (vs.getD i default) (f i)
  have hl : ∀ i, i < N → l[i]? = some (rhOf (vs.getD i default) (f i)) := fun i hi => by show ((List.range N).map _)[i]? = _; rw [List.getElem?_map, List.getElem?_range hi]; rfl
  have hget : ∀ i, i < N → vs[i]? = some (vs.getD i default) := fun i hi => by rw [List.getD_eq_getElem?_getD, List.getElem?_eq_getElem (by omega)]; rfl
  have hll : l.length = N := by simp [l]
  have hvs : l.map RH.v = vs := by
    apply List.ext_getElem?
    intro i
    by_cases hi : i < N
    · rw [List.getElem?_map, hl i hi, hget i hi]
      exact congrArg some (hsl i _ (hget i hi)).1
    · rw [List.getElem?_eq_none (by simp [l]; omega), List.getElem?_eq_none (by omega)]
  refine ⟨⟨some ⟨M, 0, none⟩, N, N, l⟩, rfl, rfl, rfl, ?_, fun ex hex => ⟨?_, hll, hN, fun y hy => ?_⟩⟩
  · show l.map RH.l = (List.range N).map f
    show ((List.range N).map _).map _ = _
    rw [List.map_map]
    refine List.map_congr_left fun i hi => ?_
    exact (hsl i _ (hget i (List.mem_range.1 hi))).2.1
  · show EAt w ex (some ⟨M, 0, none⟩) (l.map RH.v)
    rw [hvs]
    exact EAt.fb h2 (fun hm => by have := hex M hm; omega) (fun j u hu => by simpa using hu)
  · obtain ⟨i, hi, rfl⟩ := List.mem_map.1 hy
    have hi := List.mem_range.1 hi
    obtain ⟨e1, e2, e3, e4, e5⟩ := hsl i _ (hget i hi)
    exact ⟨by rw [e2]; exact e5 ex hex, by rw [e2, e3], by rw [e3]; exact e4⟩
/-- A list of lists came back, in new memory. -/
def RetLL (w : World) (v : List (List Int)) (e : Ending) (w' : World) : Prop :=
  ∃ y : LH, e = .returned (.slice y.A y.n y.c) ∧ y.v = v ∧ (∀ ex : List (Option Nat), (∀ k, some k ∈ ex → k < w.heap.size) → LHok w' ex y) ∧ Below w.heap.size w w'

theorem run_mkrows (n : Nat) (hn : n ≤ 100000) (w : World) :
    (Instr.makeSlice 29 (.int .i64 (n : Int)) (.int .i64 (n : Int))).run Tryd.prog w = .ok (.slice (some ⟨w.heap.size, 0, none⟩) n n) (w.alloc (.cells (Array.replicate n (Value.slice none 0 0)) 35)) := by
  obtain ⟨i, hi, hz0, hz1, hz2⟩ := info_parts info22
  have h := run_make (P := Tryd.prog) w 29 35 i (.slice none 0 0) Tryd.underlying29 hi hz0 .i64 .i64 n n (by omega) (by omega) (by rw [hz2]; omega) (by omega)
  rw [h, hz1]
  simp only [Int.toNat_natCast, Nat.mul_one]
  have e2 : madeCells (Value.slice none 0 0).cells n = Array.replicate n (Value.slice none 0 0) := by
    apply Array.toList_inj.1
    rw [show (Value.slice none 0 0).cells = #[Value.slice none 0 0] from rfl, toList_madeCells_one]
    simp
  rw [e2]
/-- What the loops of reversed have built. -/
def revF (S : List (List Int)) (k : Nat) (b : Nat) : List Int := rowP k fun a => decide ((b : Int) ∈ rw0 S a)
def revG (S : List (List Int)) (k : Nat) (l : List Int) (b : Nat) : List Int := revF S k b ++ (if (b : Int) ∈ l then [(k : Int)] else [])
theorem rowP_succ (k : Nat) (f : Nat → Bool) : rowP (k + 1) f = rowP k f ++ (if f k = true then [(k : Int)] else []) := by
  unfold rowP
  rw [List.range_succ, List.filter_append, List.map_append]
  congr 1
  by_cases h : f k = true <;> simp [h]
theorem revF_succ {S : List (List Int)} {k : Nat} {l : List Int} (h : S[k]? = some l) (b : Nat) : revF S (k + 1) b = revG S k l b := by
  unfold revF revG
  rw [rowP_succ, rw0_at h]
  unfold revF
  simp
theorem revG_nil (S : List (List Int)) (k : Nat) (b : Nat) : revG S k [] b = revF S k b := by unfold revG; simp
theorem revG_succ {S : List (List Int)} {k : Nat} {l : List Int} {j c : Nat} (hl : l.Pairwise (· < ·)) (hj : l[j]? = some (c : Int)) (b : Nat) : upd (revG S k (l.take j)) c (revG S k (l.take j) c ++ [(k : Int)]) b = revG S k (l.take (j + 1)) b := by
  have ht : l.take (j + 1) = l.take j ++ [(c : Int)] := by rw [List.take_add_one, hj]; rfl
  have hno : (c : Int) ∉ l.take j := by
    intro hm
    obtain ⟨i, hi, he⟩ := List.mem_iff_getElem.1 hm
    rw [List.getElem_take] at he
    obtain ⟨hj1, hj2⟩ := List.getElem?_eq_some_iff.1 hj
    have hij : i < j := by simp at hi; omega
    have := List.pairwise_iff_getElem.1 hl i j (by omega) hj1 hij
    omega
  by_cases e : b = c
  · subst e
    rw [upd_at, ht]
    unfold revG
    rw [if_neg hno, if_pos (by simp)]
    simp
  · rw [upd_ne _ _ e, ht]
    unfold revG
    have : ((b : Int) ∈ l.take j ++ [(c : Int)]) ↔ (b : Int) ∈ l.take j := by simp; omega
    simp only [this]
theorem revG_len (S : List (List Int)) (k : Nat) (l : List Int) (b : Nat) : (revG S k l b).length ≤ k + 1 := by
  unfold revG revF
  have := rowP_len k fun a => decide ((b : Int) ∈ rw0 S a)
  rw [List.length_append]
  split <;> simp <;> omega
theorem after_own {M : Nat} {w wr w5 : World} {o : Obj} {v : Value} (hB : Below M w wr) (hM : M ≤ wr.heap.size) (hg : (wr.alloc o).grownBy w5 v.ownBlock) (h : ∀ k, v.ownBlock = some k → M + 1 ≤ k) : Below M w w5 :=
  (hB.alloc hM o).grown hg (by rw [World.size_alloc]; omega) (fun k hk => by have := h k hk; omega)
theorem own_hat {w : World} {v : Value} {g n c : Nat} (h : v.ownBlock = some g ∨ g = w.heap.size) : ∀ k, (Value.slice (some ⟨g, 0, none⟩) n c).ownBlock = some k → v.ownBlock = some k ∨ w.heap.size ≤ k := by
  intro k hk
  simp only [Value.ownBlock, Option.some.injEq] at hk
  subst hk
  rcases h with h | h
  · exact .inl h
  · exact .inr (by omega)
theorem ints_snoc (l : List Int) (x : Int) : ints (l ++ [x]) = ints l ++ [Value.int .i64 x] := by simp [ints]
theorem one_int1 (x : Int) : ∀ u ∈ [Value.int .i64 x], u.oneCell' = true := by intro u hu; simp at hu; subst hu; rfl
theorem int_new (w : World) (x : Int) (t : Nat) : ∀ (j : Nat) (u : Value), [Value.int .i64 x][j]? = some u → (w.alloc (.cells #[.int .i64 x] t)).cell? ((⟨w.heap.size, 0, none⟩ : Addr).add j) = some u := by
  intro j u h
  have hb := Fb.new w #[.int .i64 x] t
  rw [add_of, hb.cell]
  simpa using h
set_option maxHeartbeats 3200000 in
theorem reversed_any (x : LH) (ex : List (Option Nat)) (w : World) (h : LHok w ex x) (hn : x.n ≤ 100000) (hris : ∀ l ∈ x.v, RisP x.n l) :
    Calls Tryd.prog 19 #[.slice x.A x.n x.c] w (RetLL w (revL x.n x.v)) := by
  obtain ⟨i1, hi, hz0, hz1, hz2⟩ := info_parts info3
  have Hi := hid hi; have Hz0 := hid hz0; have Hz1 := hid hz1; have Hz2 := hid hz2
  clear hi hz0 hz1 hz2
  have HX := hid h
  have HR := hid hris
  have HL := hid h.len
  have Hat := hid (fun (k : Nat) (z : RH) (hz : x.l[k]? = some z) => LH.at hz)
  clear h hris
  generalize hv : x.v = v at *
  clear hv
  obtain ⟨A, n, c, l⟩ := x
  simp only at *
  have hrow := run_mkrows n hn
  go_enter Tryd.func19, Tryd.ntmps19
  go_wp2_with fail
  have HM := hid (show Mx (w.alloc (.cells (Array.replicate n (Value.slice none 0 0)) 35)) w.heap.size n (revF v 0) from (Mx.start w n).congr (fun i _ => by unfold revF rowP; simp))
  have HB := hid ((Below.refl w.heap.size w).alloc (Nat.le_refl _) (.cells (Array.replicate n (Value.slice none 0 0)) 35))
  generalize w.alloc (.cells (Array.replicate n (Value.slice none 0 0)) 35) = w0 at HM HB ⊢
  clear hrow
  generalize hMd : w.heap.size = M at *
  go_loopw [4, 5, 7, 13, 20] (fun _ _ _ iv _ wr => ∃ k : Nat, k ≤ n ∧ iv = .int .i64 k ∧ Hid (Mx wr M n (revF v k)) ∧ Hid (Below M w wr)) (fun _ _ _ iv _ _ => n - (intOf iv).toNat)
  case atStart => exact ⟨0, by omega, rfl, HM, HB⟩
  case round =>
    clear HM HB
    obtain ⟨k, hk, rfl, hM, hB⟩ := hrel
    by_cases hlt : k < n
    · obtain ⟨y, hy, hym⟩ := get_at HL.out hlt
      have HPr := hid (HX.out.go (Go2.below (hMd ▸ hB.out)))
      obtain ⟨ad, hA, had, hc⟩ := HPr.out.cell hy
      simp only at hA
      subst hA
      have HY := hid (fun (u : World) (h : Below M w u) => (HX.out.go (Go2.below (hMd ▸ h))).all y hym)
      have Hyv := hid (Hat.out k y hy)
      have Hyr := hid (HR.out y.l (List.mem_of_getElem? (Hat.out k y hy)))
      have Hyl := hid ((HPr.out.all y hym).len)
      have hyn := (HPr.out.all y hym).few
      have hyn2 : y.n ≤ n := by have := ris_len Hyr.out; have := Hyl.out; omega
      clear hy hym HPr
      obtain ⟨yA, yn, yc, yl⟩ := y
      simp only at *
      go_wp2_with fail
      clear hc
      have HM2 := hid (show Mx wr M n (revG v k (yl.take 0)) from hM.out.congr (fun b _ => by rw [List.take_zero, revG_nil]))
      go_loopw [7, 20] (fun _ iv wr => ∃ j : Nat, j ≤ yn ∧ iv = .int .i64 j ∧ Hid (Mx wr M n (revG v k (yl.take j))) ∧ Hid (Below M w wr)) (fun _ iv _ => yn - (intOf iv).toNat)
      case atStart => exact ⟨0, by omega, rfl, HM2, hB⟩
      case round =>
        clear HM2 hM hB
        obtain ⟨j, hj, rfl, hM, hB⟩ := hrel
        by_cases hlt2 : j < yn
        · obtain ⟨a, ha, ham⟩ := get_at Hyl.out hlt2
          obtain ⟨ad2, hA2, had2, hc2⟩ := (HY.out _ hB.out).cell ha
          simp only at hA2
          subst hA2
          have har := Hyr.out.2 a ham
          obtain ⟨b, rfl⟩ := Int.eq_ofNat_of_zero_le har.1
          have hbn : b < n := by omega
          have Hst := hid (fun b2 : Nat => revG_succ (S := v) (k := k) Hyr.out.1 ha b2)
          have hlen := revG_len v k (yl.take j) b
          obtain ⟨rv, hown, hcell, hfr, ⟨rA, rc, hrv⟩, hkeep, hput⟩ := hM.out.at hbn
          have HMa := hid (hM.out.alloc (.cells #[.int .i64 (k : Int)] 3))
          obtain ⟨rv2, hown2, hcell2, hfr2, -, hkeep2, hput2⟩ := HMa.out.at hbn
          obtain rfl : rv = rv2 := by
            have := Below.cell (show Below wr.heap.size wr (wr.alloc (.cells #[.int .i64 (k : Int)] 3)) from (Below.refl _ _).alloc (Nat.le_refl _) _) (p := ⟨M, b, none⟩) hM.out.lt
            rw [hcell, hcell2] at this
            exact (Option.some.inj this).symm
          have HO := hid hown2
          have HP := hid hput2
          have HK := hid hkeep2
          have HN1 := hid (int_new wr (k : Int) 3)
          have hMl := hM.out.lt
          have HB1 := hid (below_step (W := wr) ((Below.refl wr.heap.size wr).alloc (Nat.le_refl _) (.cells #[.int .i64 (k : Int)] 3)) (Below.refl _ _))
          have Hbw := hid hB.out
          have Hrlt := hid (fun k2 (hk2 : rv.ownBlock = some k2) => (hown2.lt k2 hk2).1)
          have hszM : M + 1 ≤ wr.heap.size := hMl
          clear hown hfr hkeep hput hown2 hcell2 hfr2 hkeep2 hput2 ha ham hM hB HMa
          generalize revG v k (yl.take j) = F at *
          subst hrv
          go_wp2_with ((
            at_builtin
            go_must (refine wpList_append_lies _ rfl _ _ 35 rfl (M + 1) 3 i1 _ 1 8 Tryd.underlying35 Hi.out Hz0.out Hz1.out Hz2.out rfl (by decide) _ (F b).length (ints (F b)) rfl HO.out ⟨wr.heap.size, 0, none⟩ 1 1 [Value.int .i64 (k : Int)] rfl rfl HN1.out (one_int1 _) (by omega) (by unfold maxLen; omega) (by omega) (by simp; omega) _ rfl ?_)
            intro g5 cap5 w5 hown5 hgr5 hat5 hlt5
            obtain ⟨y0, y1⟩ := HK.out _ hgr5
            have H5 := hid (HP.out _ (.slice (some ⟨g5, 0, none⟩) ((F b).length + 1) cap5) (F b ++ [(k : Int)]) hgr5 (by rw [ints_snoc, List.length_append]; exact hown5) (own_hat hat5))
            have HB5 := hid (after_own Hbw.out (by omega) hgr5 Hrlt.out)
            clear hown5 hgr5 hat5 hlt5))
          go_roundw
          case rel => exact ⟨j + 1, by omega, by go_num, hid (H5.out.congr (fun b2 _ => Hst.out b2)), hid (HB5.out.setCell (by simp) _)⟩
          case measure => simp [intOf]; omega
        · obtain rfl : j = yn := by omega
          have HM3 := hid (show Mx wr M n (revF v (k + 1)) from hM.out.congr (fun b _ => by rw [List.take_of_length_le (by rw [Hyl.out]; omega), revF_succ Hyv.out]))
          clear hM
          go_wp2_with fail
          go_roundw
          case rel => exact ⟨k + 1, by omega, by go_num, HM3, hB⟩
          case measure => simp [intOf]; omega
    · obtain rfl : k = n := by omega
      obtain ⟨y, hy1, hy2, hy3, hy4, hy5⟩ := hM.out.lists (by omega)
      have HF := hid (show RetLL w (revL k v) (.returned (.slice (some ⟨M, 0, none⟩) k k)) wr from ⟨y, by rw [hy1, hy2, hy3], hy4, fun ex hex => hy5 ex (fun q hq => by have := hex q hq; omega), by rw [hMd]; exact hB.out⟩)
      clear hy1 hy2 hy3 hy4 hy5 hM hB
      go_wp2_with fail
      go_ret
      exact HF.out
end Go.Proofs.YtfapgnbnfhpicaaDoor

namespace Go.Proofs.YtfapgnbnfhpicaaDoor
set_option maxRecDepth 20000
set_option linter.unusedVariables false
set_option linter.unusedSimpArgs false
open Go.ChangeShapes Go.WideShapes Go.ChangeAt Go.RowKit

theorem Fb.thr {w : World} {g t : Nat} {a b c : Value} (h : Fb w g #[a, b, c] t) : w.cell? ⟨g, 0, none⟩ = some a ∧ w.cell? ⟨g, 1, none⟩ = some b ∧ w.cell? ⟨g, 2, none⟩ = some c := ⟨h.cell 0, h.cell 1, h.cell 2⟩
theorem RetQ.below {w w' : World} {v : Value} {e : Ending} (h : RetQ w v e w') : e = .returned v ∧ Below w.heap.size w w' := by
  obtain ⟨h1, q, rfl⟩ := h
  exact ⟨h1, below_drewN (Below.refl _ _) q⟩
/-- It returned this, and nothing old has changed. -/
def RetVb (w : World) (v : Value) (e : Ending) (w' : World) : Prop := e = .returned v ∧ Below w.heap.size w w'
theorem retVb_b {w w' : World} {b c : Bool} (h : c = b) (hb : Below w.heap.size w w') : RetVb w (.bool c) (.returned (.bool b)) w' := ⟨by rw [h], hb⟩
theorem retVb_i {w w' : World} {b c : Int} (h : c = b) (hb : Below w.heap.size w w') : RetVb w (.int .i64 c) (.returned (.int .i64 b)) w' := ⟨by rw [h], hb⟩
/-- A graph as argument: what stands while it is read. -/
structure GW (w : World) (G : Nat) (ex : List (Option Nat)) (x : GH) (v : World) : Prop where
  bel : Below w.heap.size w v
  box : Fb v G #[.slice x.A x.n x.c, .slice x.S.A x.S.n x.S.c, .slice x.P.A x.P.n x.P.c] 31
  g : GHok v ex x
theorem GW.below {w v v' : World} {G : Nat} {ex : List (Option Nat)} {x : GH} (h : GW w G ex x v) (hb : Below v.heap.size v v') : GW w G ex x v' :=
  ⟨below_step h.bel hb, h.box.below hb h.box.lt, h.g.below hb⟩
theorem GW.start {w : World} {ex : List (Option Nat)} {x : GH} (h : GHok w ex x) : GW w w.heap.size ex x (w.alloc (.cells #[.slice x.A x.n x.c, .slice x.S.A x.S.n x.S.c, .slice x.P.A x.P.n x.P.c] 31)) :=
  ⟨(Below.refl _ _).alloc (Nat.le_refl _) _, Fb.new _ _ _, h.below ((Below.refl _ _).alloc (Nat.le_refl _) _)⟩
theorem all_false {N : Nat} {S : List (List Int)} {k : Nat} {l : List Int} (h : S[k]? = some l) (hr : risB N l = false) : S.all (risB N) = false := by
  rw [List.all_eq_false]
  exact ⟨l, List.mem_of_getElem? h, by rw [hr]; simp⟩
theorem all_true {N n : Nat} {S : List (List Int)} (hn : S.length = n) (h : ∀ (j : Nat) (l : List Int), j < n → S[j]? = some l → risB N l = true) : S.all (risB N) = true := by
  rw [List.all_eq_true]
  intro l hl
  obtain ⟨j, hj, rfl⟩ := List.mem_iff_getElem.1 hl
  exact h j _ (by omega) (List.getElem?_eq_getElem hj)
theorem tot_le {S : List (List Int)} {N : Nat} (h : ∀ l ∈ S, l.length ≤ N) : tot S ≤ S.length * N := by
  induction S with
  | nil => simp [tot]
  | cons x S ih =>
    have h1 := h x (by simp)
    have h2 := ih (fun l hl => h l (by simp [hl]))
    unfold tot at *
    rw [List.map_cons, List.sum_cons, List.length_cons, Nat.add_mul]
    omega
set_option maxHeartbeats 6400000 in
theorem valid_graph (x : GH) (ex : List (Option Nat)) (w : World) (h : GHok w ex x) :
    Calls Tryd.prog 20 #[x.a] w (RetVb w (.bool (validB x.n x.S.v x.P.v))) := by
  have HG := hid (GW.start h)
  have hn0 := h.few
  have hs0 := h.s.few
  have hp0 := h.p.few
  have HL := hid h.s.len
  have HvS := hid ((LH.vlen x.S).trans h.s.len)
  have HvP := hid ((LH.vlen x.P).trans h.p.len)
  have Hat := hid (fun (k : Nat) (z : RH) (hz : x.S.l[k]? = some z) => LH.at hz)
  have HrS := hid (fun (v : World) (hv : GW w w.heap.size ex x v) (hr : ∀ l ∈ x.S.v, RisP x.S.n l) (hn : x.S.n ≤ 100000) => reversed_any x.S ex v hv.g.s hn hr)
  have HcS := hid (fun (v : World) (hv : GW w w.heap.size ex x v) (hr : ∀ l ∈ x.S.v, RisP x.S.n l) (hn : x.S.n ≤ 100000) => count_any x.S x.S.n ex v hv.g.s hn (fun y hy => by
    rw [← (hv.g.s.all y hy).len]
    have := ris_len (hr y.l (by obtain ⟨j, hj, rfl⟩ := List.mem_iff_getElem.1 hy; exact List.mem_of_getElem? (LH.at (List.getElem?_eq_getElem hj))))
    omega))
  have HeP := hid (fun (v : World) (hv : GW w w.heap.size ex x v) (y : LH) (hy : LHok v [] y) => equal_rows y x.P [] ex v hy hv.g.p)
  have hR : ∃ R, validB x.n x.S.v x.P.v = R := ⟨_, rfl⟩
  obtain ⟨R, hR⟩ := hR
  have Hv := hid (show R = (decide (1 ≤ x.n) && (decide (x.n ≤ 256) && (decide (x.S.v.length = x.n) && (decide (x.P.v.length = x.n) && (x.S.v.all (risB x.n) && (decide (tot x.S.v ≤ 1024) && decide (revL x.n x.S.v = x.P.v))))))) from hR.symm)
  rw [hR]
  unfold GH.a
  clear h hR
  have HK := hid (fun (v u : World) (h : GW w w.heap.size ex x v) (hb : Below v.heap.size v u) => h.below hb)
  generalize hsv : x.S.v = Sv at *
  generalize hpv : x.P.v = Pv at *
  clear hsv hpv
  obtain ⟨A, n, c, ns, ⟨SA, sn, sc, sl⟩, ⟨PA, pn, pc, pl⟩⟩ := x
  simp only at *
  go_enter Tryd.func20, Tryd.ntmps20
  have hG : ∃ G, w.heap.size = G := ⟨_, rfl⟩
  obtain ⟨G, hG⟩ := hG
  have HGe := hid hG
  rw [hG] at HG HrS HcS HeP HK
  clear hG
  by_cases h1 : 1 ≤ n
  · by_cases h2 : n ≤ 256
    · by_cases h3 : sn = n
      · by_cases h4 : pn = n
        · subst h3
          subst h4
          have Hv2 := hid (show R = (Sv.all (risB pn) && (decide (tot Sv ≤ 1024) && decide (revL pn Sv = Pv))) by rw [Hv.out, decide_eq_true h1, decide_eq_true h2, decide_eq_true HvS.out, decide_eq_true HvP.out]; rfl)
          clear Hv
          go_wp2_with fail
          rw [HGe.out]
          generalize w.alloc (.cells #[.slice A pn c, .slice SA pn sc, .slice PA pn pc] 31) = w0 at HG ⊢
          obtain ⟨c0, c1, c2⟩ := HG.out.box.thr
          have hGl := HG.out.box.lt
          go_loop [5, 32] (fun _ iv => ∃ k : Nat, k ≤ pn ∧ iv = .int .i64 k ∧ Hid (∀ (j : Nat) (l : List Int), j < k → Sv[j]? = some l → risB pn l = true)) (fun _ iv => pn - (intOf iv).toNat)
          case atStart => exact ⟨0, by omega, rfl, hid (fun j l h => by omega)⟩
          case round =>
            obtain ⟨k, hk, rfl, hE⟩ := hrel
            by_cases hlt : k < pn
            · obtain ⟨y, hy, hym⟩ := get_at HL.out hlt
              obtain ⟨ad, hA, had, hc⟩ := HG.out.g.s.cell hy
              simp only at hA
              subst hA
              have Hy := hid (Hat.out k y hy)
              have HC := hid (asc_any y pn ex w0 (HG.out.g.s.all y hym) (by omega))
              clear hy hym
              obtain ⟨yA, yn, yc, yl⟩ := y
              simp only at *
              cases hr : risB pn yl with
              | false =>
                as_aux_lemma =>
                  rw [hr] at HC
                  have Hr := hid (show R = false by rw [Hv2.out, all_false Hy.out hr]; rfl)
                  clear hr
                  go_wp2_with fail
                  refine HC.out.mono ?_
                  rintro e w1 ⟨rfl, rfl⟩
                  go_wp2_with fail
                  go_ret
                  exact retVb_b Hr.out HG.out.bel
              | true =>
                as_aux_lemma =>
                  rw [hr] at HC
                  have Hr := hid (show ∀ (j : Nat) (l : List Int), j < k + 1 → Sv[j]? = some l → risB pn l = true by
                    intro j l hj hl
                    by_cases e : j = k
                    · subst e
                      rw [Hy.out] at hl
                      rw [← Option.some.inj hl]
                      exact hr
                    · exact hE.out j l (by omega) hl)
                  clear hr hE
                  go_wp2_with fail
                  refine HC.out.mono ?_
                  rintro e w1 ⟨rfl, rfl⟩
                  go_wp2_with fail
                  go_round
                  case rel => exact ⟨k + 1, by omega, by go_num, Hr⟩
                  case measure => simp [intOf]; omega
            · obtain rfl : k = pn := by omega
              have Hall := hid (all_true HvS.out hE.out)
              have Hris := hid (show ∀ l ∈ Sv, RisP k l from fun l hl => risB_iff.1 (List.all_eq_true.1 Hall.out l hl))
              have Hv3 := hid (show R = (decide (tot Sv ≤ 1024) && decide (revL k Sv = Pv)) by rw [Hv2.out, Hall.out]; rfl)
              have htl : tot Sv ≤ k * 256 := by
                have := tot_le (S := Sv) (N := 256) (fun l hl => by have := ris_len (Hris.out l hl); omega)
                rw [HvS.out] at this; exact this
              have htl2 : tot Sv ≤ 65536 := by omega
              clear htl hE Hv2
              generalize tot Sv = t at *
              cases ht : decide (t ≤ 1024) with
              | false =>
                as_aux_lemma =>
                  have Hr := hid (show R = false by rw [Hv3.out, ht]; rfl)
                  have t1 : decide ((t : Int) ≤ 1024) = false := by simp at ht ⊢; omega
                  clear ht
                  go_wp2_with fail
                  go_quiet ((go_at_call 38; exact quiet_same (HcS.out _ (HK.out _ _ HG.out (below_drewN (Below.refl _ _) _)) Hris.out (by omega))))
                  go_wp2_with fail
                  go_ret
                  exact retVb_b Hr.out (below_drewN HG.out.bel _)
              | true =>
                as_aux_lemma =>
                  have Hr := hid (show R = eqD (revL k Sv) Pv by rw [Hv3.out, ht]; rfl)
                  have t1 : decide ((t : Int) ≤ 1024) = true := by simp at ht ⊢; omega
                  clear ht
                  have HKc := hid (fun (v : World) (h : GW w G ex ⟨A, k, c, ns, ⟨SA, k, sc, sl⟩, ⟨PA, k, pc, pl⟩⟩ v) => h.box.thr)
                  have HD := hid (fun (v : World) (h : GW w G ex ⟨A, k, c, ns, ⟨SA, k, sc, sl⟩, ⟨PA, k, pc, pl⟩⟩ v) => h.box.lt)
                  go_wp2_with fail
                  have hcur : GW w G ex ⟨A, k, c, ns, ⟨SA, k, sc, sl⟩, ⟨PA, k, pc, pl⟩⟩ w0.drew := HK.out _ _ HG.out (Below.refl _ _).drew
                  clear HG
                  go_region_law (
                    (go_simp
                     first
                     | (go_at_call 38
                        refine (HcS.out _ hcur Hris.out (by omega)).mono ?_
                        rintro e wn ⟨rfl, rfl⟩)
                     | (go_at_call 19
                        refine (HrS.out _ hcur Hris.out (by omega)).mono ?_
                        rintro e wn ⟨y, rfl, hyv, hyok, hbk⟩
                        have hcur := HK.out _ _ hcur hbk
                        obtain ⟨c0, c1, c2⟩ := HKc.out _ hcur
                        have hGl := HD.out _ hcur
                        have hyok := hyok [] (by simp)
                        have Hyv := hid hyv
                        have Hyok := hid hyok
                        clear hbk hyv hyok)
                     | (go_at_call 39
                        refine (HeP.out _ hcur _ Hyok.out).mono ?_
                        rw [Hyv.out]
                        rintro e wn ⟨rfl, q, rfl⟩)))
                  all_goals
                    go_wp2_with fail
                    go_ret
                    exact retVb_b Hr.out (below_drewN hcur.bel _)
        · as_aux_lemma =>
            have Hr := hid (show R = false by rw [Hv.out, decide_eq_false (p := Pv.length = n) (by rw [HvP.out]; exact h4)]; simp)
            have t1 : ((pn : Int) == (n : Int)) = false := by simp; omega
            have t2 : ((pn : Int) != (n : Int)) = true := by simp; omega
            subst h3
            clear h4
            go_wp2_with fail
            go_ret
            exact retVb_b Hr.out HG.out.bel
      · as_aux_lemma =>
          have Hr := hid (show R = false by rw [Hv.out, decide_eq_false (p := Sv.length = n) (by rw [HvS.out]; exact h3)]; simp)
          have t1 : ((sn : Int) == (n : Int)) = false := by simp; omega
          have t2 : ((sn : Int) != (n : Int)) = true := by simp; omega
          clear h3
          go_wp2_with fail
          go_ret
          exact retVb_b Hr.out HG.out.bel
    · as_aux_lemma =>
        have Hr := hid (show R = false by rw [Hv.out, decide_eq_false h2]; simp)
        go_wp2_with fail
        go_ret
        exact retVb_b Hr.out HG.out.bel
  · as_aux_lemma =>
      have Hr := hid (show R = false by rw [Hv.out, decide_eq_false h1]; simp)
      go_wp2_with fail
      go_ret
      exact retVb_b Hr.out HG.out.bel
end Go.Proofs.YtfapgnbnfhpicaaDoor

namespace Go.Proofs.YtfapgnbnfhpicaaDoor
set_option maxRecDepth 20000
set_option linter.unusedVariables false
set_option linter.unusedSimpArgs false
open Go.ChangeShapes Go.WideShapes Go.ChangeAt Go.RowKit

theorem info50 : (Tryd.prog.info? 53).map (fun i => (i.zero, i.size, i.bytes)) = some (some (.agg #[.int .i64 0, .int .i64 0, .int .i64 0, .int .i64 0]), 4, 32) := by kernel_rfl
/-- A copy came back, a row of its own. -/
def RetOw (w : World) (ty : TypeId) (k n : Nat) (xs : List Value) (e : Ending) (w' : World) : Prop :=
  ∃ (A : Option Addr) (c : Nat), e = .returned (.slice A n c) ∧ w'.ownsRow w.heap.size ty k (.slice A n c) n xs ∧ Below w.heap.size w w'
theorem one_ints (l : List Int) : ∀ u ∈ ints l, u.oneCell' = true := by
  intro u hu
  unfold ints at hu
  obtain ⟨x, _, rfl⟩ := List.mem_map.1 hu
  rfl
theorem own_mono1 {w : World} {b b2 : Nat} {ty : TypeId} {k : Nat} {v : Value} {n : Nat} {xs : List Value} (h : w.ownsRow b ty k v n xs) (hb : b2 ≤ b) : w.ownsRow b2 ty k v n xs := by
  obtain ⟨h1, h2⟩ := h
  refine ⟨h1, ?_⟩
  rcases h2 with h | ⟨g, cap, cur, e, hg, r⟩
  · exact .inl h
  · exact .inr ⟨g, cap, cur, e, by omega, r⟩
/-- What copied has copied. -/
def cpF (v : List (List Int)) (k : Nat) (b : Nat) : List Int := if b < k then rw0 v b else []
theorem cpF_zero (v : List (List Int)) (b : Nat) : cpF v 0 b = [] := by unfold cpF; rw [if_neg (by omega)]
theorem cpF_step {v : List (List Int)} {k : Nat} {l : List Int} (h : v[k]? = some l) (b : Nat) : upd (cpF v k) k l b = cpF v (k + 1) b := by
  by_cases e : b = k
  · subst e
    rw [upd_at]
    unfold cpF
    rw [if_pos (by omega), rw0_at h]
  · rw [upd_ne _ _ e]
    unfold cpF
    by_cases e2 : b < k
    · rw [if_pos e2, if_pos (by omega)]
    · rw [if_neg e2, if_neg (by omega)]
theorem cpF_all {v : List (List Int)} {n : Nat} (h : v.length = n) : rowsF n (cpF v n) = v := by
  conv => rhs; rw [list_range h]
  unfold rowsF
  refine List.map_congr_left fun b hb => ?_
  unfold cpF
  rw [if_pos (List.mem_range.1 hb)]
/-- The number of edges. -/
def edgN (N : Nat) (S P : List (List Int)) : Nat := if validB N S P then tot S else 0
theorem rows_small {x : LH} {w : World} {ex : List (Option Nat)} (h : LHok w ex x) {N : Nat} (hr : ∀ l ∈ x.v, RisP N l) : ∀ y ∈ x.l, y.n ≤ N := by
  intro y hy
  rw [← (h.all y hy).len]
  exact ris_len (hr y.l (by obtain ⟨j, hj, rfl⟩ := List.mem_iff_getElem.1 hy; exact List.mem_of_getElem? (LH.at (List.getElem?_eq_getElem hj))))
set_option maxHeartbeats 1600000 in
theorem edges_any (x : GH) (ex : List (Option Nat)) (w : World) (h : GHok w ex x) :
    Calls Tryd.prog 22 #[x.a] w (RetVb w (.int .i64 (edgN x.n x.S.v x.P.v : Nat))) := by
  have HG := hid (GW.start h)
  have HK := hid (fun (v u : World) (h : GW w w.heap.size ex x v) (hb : Below v.heap.size v u) => h.below hb)
  have HV := hid (fun (v : World) (h : GW w w.heap.size ex x v) => valid_graph x ex v h.g)
  have HC := hid (fun (v : World) (hv : GW w w.heap.size ex x v) (h2 : ValG x.n x.S.v x.P.v) => count_any x.S x.S.n ex v hv.g.s (by have := h2.slen; have := h2.few; have := LH.vlen x.S; have := h.s.len; omega) (fun y hy => by have := rows_small h.s h2.ris y hy; have := h2.few; omega))
  have Hb := hid (fun (v : World) (h : GW w w.heap.size ex x v) => h.box.thr)
  have Hbl := hid (fun (v : World) (h : GW w w.heap.size ex x v) => h.box.lt)
  have Hbb := hid (fun (v : World) (h : GW w w.heap.size ex x v) => h.bel)
  unfold GH.a at *
  clear h
  generalize hsv : x.S.v = Sv at *
  generalize hpv : x.P.v = Pv at *
  clear hsv hpv
  obtain ⟨A, n, c, ns, ⟨SA, sn, sc, sl⟩, ⟨PA, pn, pc, pl⟩⟩ := x
  simp only at *
  cases hv : validB n Sv Pv with
  | false =>
    have Hr := hid (show ((edgN n Sv Pv : Nat) : Int) = 0 by unfold edgN; rw [hv]; rfl)
    rw [hv] at HV
    go_enter Tryd.func22, Tryd.ntmps22
    obtain ⟨c0, c1, c2⟩ := Hb.out _ HG.out
    have hGl := Hbl.out _ HG.out
    go_wp2_with fail
    refine (HV.out _ HG.out).mono ?_
    rintro e w1 ⟨rfl, hb1⟩
    have HF := hid (Hbb.out _ (HK.out _ _ HG.out hb1))
    clear HG c0 c1 c2 hGl
    go_wp2_with fail
    go_ret
    exact retVb_i Hr.out HF.out
  | true =>
    have Hr := hid (show ((edgN n Sv Pv : Nat) : Int) = (tot Sv : Nat) by unfold edgN; rw [hv]; rfl)
    have Hval := hid (validB_iff.1 hv)
    rw [hv] at HV
    go_enter Tryd.func22, Tryd.ntmps22
    obtain ⟨c0, c1, c2⟩ := Hb.out _ HG.out
    have hGl := Hbl.out _ HG.out
    go_wp2_with fail
    refine (HV.out _ HG.out).mono ?_
    rintro e w1 ⟨rfl, hb1⟩
    have HG1 := hid (HK.out _ _ HG.out hb1)
    clear HG c0 c1 c2 hGl
    obtain ⟨c0, c1, c2⟩ := Hb.out _ HG1.out
    have hGl := Hbl.out _ HG1.out
    go_wp2_with fail
    refine (HC.out _ HG1.out Hval.out).mono ?_
    rintro e w2 ⟨rfl, rfl⟩
    go_wp2_with fail
    go_ret
    exact retVb_i Hr.out (Hbb.out _ HG1.out)
end Go.Proofs.YtfapgnbnfhpicaaDoor

namespace Go.Proofs.YtfapgnbnfhpicaaDoor
set_option maxRecDepth 20000
set_option linter.unusedVariables false
set_option linter.unusedSimpArgs false
open Go.ChangeShapes Go.WideShapes Go.ChangeAt Go.RowKit

/-- A graph and an error came back. -/
def RetGr (w : World) (ns : List Nd) (S P : List (List Int)) (er : Int) (e : Ending) (w' : World) : Prop :=
  ∃ y : GH, e = .returned (.tuple #[y.a, .int .i64 er]) ∧ y.ns = ns ∧ y.S.v = S ∧ y.P.v = P ∧ (∀ ex : List (Option Nat), (∀ k, some k ∈ ex → k < w.heap.size) → GHok w' ex y) ∧ Below w.heap.size w w'
def lh0 : LH := ⟨none, 0, 0, []⟩
def gh0 : GH := ⟨none, 0, 0, [], lh0, lh0⟩
theorem lh0_ok (w : World) (ex : List (Option Nat)) : LHok w ex lh0 := ⟨EAt.nil _ _ _, rfl, by show 0 ≤ _; omega, fun y hy => by simp [lh0] at hy⟩
theorem gh0_ok (w : World) (ex : List (Option Nat)) : GHok w ex gh0 := ⟨EAt.nil _ _ _, rfl, by show 0 ≤ _; omega, lh0_ok w ex, lh0_ok w ex⟩
theorem RetGr.none {w w' : World} (er : Int) (hb : Below w.heap.size w w') : RetGr w [] [] [] er (.returned (.tuple #[.agg #[.slice none 0 0, .slice none 0 0, .slice none 0 0], .int .i64 er])) w' :=
  ⟨gh0, rfl, rfl, rfl, rfl, fun ex _ => gh0_ok w' ex, hb⟩
theorem Fb.thrz {w : World} {g t : Nat} {a b c : Value} (h : Fb w g #[a, b, c] t) : w.frozen? ⟨g, 0, none⟩ = false ∧ w.frozen? ⟨g, 1, none⟩ = false ∧ w.frozen? ⟨g, 2, none⟩ = false := ⟨h.frozen 0, h.frozen 1, h.frozen 2⟩
/-- The result's cell beside the argument's. -/
structure GR (w : World) (G : Nat) (ex : List (Option Nat)) (x : GH) (v : World) : Prop where
  gw : GW w G ex x v
  res : Fb v (G + 1) #[.slice none 0 0, .slice none 0 0, .slice none 0 0] 31
  gle : G = w.heap.size
theorem GR.below {w v v' : World} {G : Nat} {ex : List (Option Nat)} {x : GH} (h : GR w G ex x v) (hb : Below v.heap.size v v') : GR w G ex x v' :=
  ⟨h.gw.below hb, h.res.below hb h.res.lt, h.gle⟩
theorem GR.start {w : World} {ex : List (Option Nat)} {x : GH} (h : GHok w ex x) : GR w w.heap.size ex x ((w.alloc (.cells #[.slice x.A x.n x.c, .slice x.S.A x.S.n x.S.c, .slice x.P.A x.P.n x.P.c] 31)).alloc (.cells #[.slice none 0 0, .slice none 0 0, .slice none 0 0] 31)) :=
  ⟨(GW.start h).below ((Below.refl _ _).alloc (Nat.le_refl _) _), by have := Fb.new (w.alloc (.cells #[.slice x.A x.n x.c, .slice x.S.A x.S.n x.S.c, .slice x.P.A x.P.n x.P.c] 31)) #[.slice none 0 0, .slice none 0 0, .slice none 0 0] 31; rwa [World.size_alloc] at this, rfl⟩
/-- What the result's cell holds last. -/
theorem GR.done {w v : World} {G : Nat} {ex : List (Option Nat)} {x : GH} (h : GR w G ex x v) (a b c : Value) {y : GH} (hy : ∀ ex : List (Option Nat), (∀ k, some k ∈ ex → k < w.heap.size + 2) → GHok v ex y) :
    (∀ ex : List (Option Nat), (∀ k, some k ∈ ex → k < w.heap.size) → GHok (((v.setCell ⟨G + 1, 0, none⟩ a).setCell ⟨G + 1, 1, none⟩ b).setCell ⟨G + 1, 2, none⟩ c) ex y) ∧ Below w.heap.size w (((v.setCell ⟨G + 1, 0, none⟩ a).setCell ⟨G + 1, 1, none⟩ b).setCell ⟨G + 1, 2, none⟩ c) := by
  have hg := h.gle
  refine ⟨fun ex hex => ?_, ((h.gw.bel.setCell (by simp; omega) _).setCell (by simp; omega) _).setCell (by simp; omega) _⟩
  have h1 := hy (some (G + 1) :: ex) (fun k hk => by
    rcases List.mem_cons.1 hk with e | e
    · injection e with e; omega
    · have := hex k e; omega)
  have hs : ∀ (u : World) (o : Nat) (z : Value), Go2 u (some (G + 1) :: ex) (u.setCell ⟨G + 1, o, none⟩ z) (some (G + 1) :: ex) := fun u o z => Go2.same (row := some (G + 1)) (setCell_grown u ⟨G + 1, o, none⟩ z) (.inr (by simp))
  exact (((h1.go (hs _ 0 a)).go (hs _ 1 b)).go (hs _ 2 c)).go (Go2.less _ (fun k hk => by simp [hk]))
theorem LHok.far {w : World} {ex : List (Option Nat)} {y : LH} {N : Nat} (h : ∀ ex : List (Option Nat), (∀ k, some k ∈ ex → k < N) → LHok w ex y) {M : Nat} (hM : M ≤ N) : ∀ ex : List (Option Nat), (∀ k, some k ∈ ex → k < M) → LHok w ex y :=
  fun ex hex => h ex (fun k hk => Nat.lt_of_lt_of_le (hex k hk) hM)
end Go.Proofs.YtfapgnbnfhpicaaDoor

namespace Go.Proofs.YtfapgnbnfhpicaaDoor
set_option maxRecDepth 20000
set_option linter.unusedVariables false
set_option linter.unusedSimpArgs false
open Go.ChangeShapes Go.WideShapes Go.ChangeAt Go.RowKit

/-- The numbers in order. -/
def srtI (l : List Int) : List Int := l.mergeSort fun x y => decide (x ≤ y)
theorem srtI_perm (l : List Int) : (srtI l).Perm l := List.mergeSort_perm _ _
theorem srtI_nil : srtI [] = [] := by unfold srtI; simp
theorem srtI_len (l : List Int) : (srtI l).length = l.length := (srtI_perm l).length_eq
theorem srtI_mem {l : List Int} {x : Int} : x ∈ srtI l ↔ x ∈ l := (srtI_perm l).mem_iff
theorem srtI_sorted (l : List Int) : (srtI l).Pairwise (· ≤ ·) := by
  have h := List.pairwise_mergeSort (le := fun x y : Int => decide (x ≤ y)) (fun a b c h1 h2 => by simp at *; omega) (fun a b => by simp; omega) l
  exact h.imp (fun h => by simpa using h)
theorem arr_get {l : List Int} {j : Nat} (h : j < l.length) : l.toArray[j]! = l[j] := by rw [getElem!_pos l.toArray j (by simpa using h)]; simp
theorem compact_mem {l : List Int} {x : Int} : x ∈ Lib.compact l ↔ x ∈ l := by
  unfold Lib.compact Lib.compactUpTo
  constructor
  · intro h
    obtain ⟨j, hj, rfl⟩ := List.mem_map.1 h
    have hj2 := List.mem_range.1 (List.mem_filter.1 hj).1
    rw [arr_get hj2]
    exact List.getElem_mem hj2
  · intro h
    obtain ⟨j, hj, he⟩ := List.mem_iff_getElem.1 h
    have key : ∀ k, ∀ hk : k < l.length, l[k] = x → ∃ i, i ≤ k ∧ ∃ hi : i < l.length, l[i] = x ∧ Lib.keeps l.toArray i = true := by
      intro k
      induction k with
      | zero => intro hk e; exact ⟨0, Nat.le_refl _, hk, e, by simp [Lib.keeps]⟩
      | succ k ih =>
        intro hk e
        by_cases e2 : l[k] = x
        · obtain ⟨i, h1, h2⟩ := ih (by omega) e2
          exact ⟨i, by omega, h2⟩
        · refine ⟨k + 1, Nat.le_refl _, hk, e, ?_⟩
          unfold Lib.keeps
          rw [decide_eq_true_eq]
          right
          rw [arr_get hk, show k + 1 - 1 = k from rfl, arr_get (by omega), e]
          exact fun h => e2 h.symm
    obtain ⟨i, _, hi, e, hk⟩ := key j hj he
    exact List.mem_map.2 ⟨i, List.mem_filter.2 ⟨List.mem_range.2 hi, hk⟩, by rw [arr_get hi, e]⟩
theorem compact_asc {l : List Int} (h : l.Pairwise (· ≤ ·)) : (Lib.compact l).Pairwise (· < ·) := by
  unfold Lib.compact Lib.compactUpTo
  rw [List.pairwise_map]
  have h1 : ((List.range l.length).filter (Lib.keeps l.toArray)).Pairwise (· < ·) := (List.pairwise_lt_range (n := l.length)).filter _
  refine (List.Pairwise.and_mem.1 h1).imp ?_
  rintro i j ⟨hi, hj, hij⟩
  have hi2 := List.mem_range.1 (List.mem_filter.1 hi).1
  have hj2 := List.mem_range.1 (List.mem_filter.1 hj).1
  have hk := (List.mem_filter.1 hj).2
  unfold Lib.keeps at hk
  rw [decide_eq_true_eq] at hk
  rcases hk with hk | hk
  · omega
  · rw [arr_get hj2, arr_get (show j - 1 < l.length by omega)] at hk
    rw [arr_get hi2, arr_get hj2]
    have ha : l[j - 1] ≤ l[j] := List.pairwise_iff_getElem.1 h (j - 1) j (by omega) hj2 (by omega)
    have hb : l[i] ≤ l[j - 1] := by
      by_cases e : i = j - 1
      · subst e; omega
      · exact List.pairwise_iff_getElem.1 h i (j - 1) hi2 (by omega) (by omega)
    omega
theorem compact_len (l : List Int) : (Lib.compact l).length ≤ l.length := by
  unfold Lib.compact Lib.compactUpTo
  rw [List.length_map]
  exact Nat.le_trans (List.length_filter_le _ _) (by simp)
/-- Sorted and compacted: the row of the numbers that occur. -/
theorem compact_row {N : Nat} {l : List Int} (h : ∀ x ∈ l, 0 ≤ x ∧ x < (N : Int)) : Lib.compact (srtI l) = rowP N fun b => decide ((b : Int) ∈ l) := by
  refine ris_row ⟨compact_asc (srtI_sorted l), fun x hx => h x (srtI_mem.1 (compact_mem.1 hx))⟩ fun k _ => ?_
  rw [compact_mem, srtI_mem, decide_eq_true_eq]
/-- The cells of a row that was written anew. -/
theorem put_own {w : World} {base g cap : Nat} {l ds : List Int} {n n2 : Nat} (h : w.ownsRow base 3 1 (.slice (some ⟨g, 0, none⟩) n cap) n (ints l)) (hn : n2 ≤ n) (hd : ds.length = n) (q : Nat) (os : Array Obj) :
    (Go.Sort.grow (Go.Sort.putRow (Value.int .i64) (Go.Sort.ahead w q) g 0 ds.toArray) os).ownsRow base 3 1 (.slice (some ⟨g, 0, none⟩) n2 cap) n2 (ints (ds.take n2)) ∧
    w.grownBy (Go.Sort.grow (Go.Sort.putRow (Value.int .i64) (Go.Sort.ahead w q) g 0 ds.toArray) os) (some g) := by
  rcases h.2 with ⟨e, _⟩ | ⟨g1, cap1, cur, e, hb, hg, hc1, hc2, hc3, _⟩
  · cases e
  · injection e with e1 _ e3
    injection e1 with e1
    injection e1 with e1
    subst e1
    subst e3
    have hlt : g < w.heap.size := (Array.getElem?_eq_some_iff.1 hg).1
    have hheap : (Go.Sort.grow (Go.Sort.putRow (Value.int .i64) (Go.Sort.ahead w q) g 0 ds.toArray) os).heap[g]? = some (.cells (Go.Sort.putCells (Value.int .i64) 0 ds.toArray cur) 3 (0, 0)) := by
      unfold Go.Sort.putRow
      rw [Go.Sort.heap_grow_old _ _ (by simp [Go.Sort.mapBlock, Go.Sort.ahead]; exact hlt)]
      simp only [Go.Sort.mapBlock, Go.Sort.ahead, Array.getElem?_modify, if_true, hg, Option.map_some, Go.Sort.onCells]
    refine ⟨⟨by unfold ints; rw [List.length_map, List.length_take]; omega, .inr ⟨g, cap, _, rfl, hb, hheap, by omega, hc2, by simp [Go.Sort.putCells]; omega, ?_⟩⟩, ?_⟩
    · apply List.ext_getElem?
      intro j
      by_cases hj : j < n2
      · rw [List.getElem?_take, if_pos (by omega), Array.getElem?_toList]
        unfold Go.Sort.putCells ints
        rw [Array.getElem?_mapIdx, Array.getElem?_eq_getElem (by omega), List.getElem?_map, List.getElem?_take, if_pos hj, List.getElem?_eq_getElem (by omega)]
        simp only [Option.map_some, Option.some.injEq]
        rw [if_pos ⟨Nat.zero_le _, by simp; omega⟩, Nat.sub_zero, arr_get (by omega)]
      · rw [List.getElem?_take, if_neg (by omega), List.getElem?_eq_none (by unfold ints; simp; omega)]
    · refine ⟨rfl, rfl, rfl, ?_, fun k hk hne => ?_⟩
      · simp [Go.Sort.grow, Go.Sort.putRow, Go.Sort.mapBlock, Go.Sort.ahead]
      · unfold Go.Sort.putRow
        rw [Go.Sort.heap_grow_old _ _ (by simp [Go.Sort.mapBlock, Go.Sort.ahead]; exact hk)]
        simp only [Go.Sort.mapBlock, Go.Sort.ahead, Array.getElem?_modify]
        rw [if_neg (by intro e; exact hne (by rw [e]))]
theorem holds_own {w : World} {base g cap n : Nat} {l : List Int} (h : w.ownsRow base 3 1 (.slice (some ⟨g, 0, none⟩) n cap) n (ints l)) (hl : l.length = n) : Go.Sort.Holds (Value.int .i64) w g 0 l.toArray ∧ g < w.heap.size ∧ n ≤ cap := by
  rcases h.2 with ⟨e, _⟩ | ⟨g1, cap1, cur, e, hb, hg, hc1, hc2, hc3, hx⟩
  · cases e
  · injection e with e1 _ e3
    injection e1 with e1
    injection e1 with e1
    subst e1
    subst e3
    refine ⟨fun j hj => ?_, (Array.getElem?_eq_some_iff.1 hg).1, hc1⟩
    have hj : j < l.length := by simpa using hj
    rw [Nat.zero_add, arr_get hj]
    refine ⟨?_, by simp [World.frozen?, hg]⟩
    have h1 : (cur.toList.take (n * 1))[j]? = some (.int .i64 l[j]) := by rw [hx]; unfold ints; rw [List.getElem?_map, List.getElem?_eq_getElem hj]; rfl
    rw [List.getElem?_take, if_pos (by omega)] at h1
    simp only [World.cell?, hg]
    simpa using h1
theorem grow_zero (w : World) : Go.Sort.grow w #[] = w := Go.Sort.grow_empty w
theorem sort_own {w : World} {base n c : Nat} {A : Option Addr} {l : List Int} (h : w.ownsRow base 3 1 (.slice A n c) n (ints l)) (hl : l.length = n) (hn : n ≤ 10000000) :
    Calls Tryd.prog 17 #[.slice A n c] w fun e w' => e = .returned (.tuple #[]) ∧ w'.ownsRow base 3 1 (.slice A n c) n (ints (srtI l)) ∧ w.grownBy w' (Value.slice A n c).ownBlock := by
  subst hl
  rcases h.2 with ⟨e, h0⟩ | ⟨g, cap, cur, e, hb, hg, hc1, hc2, hc3, _⟩
  · injection e with e1 e2 e3
    subst e1
    subst e3
    have hl0 : l = [] := List.length_eq_zero_iff.1 h0
    subst hl0
    refine (Tryd.slices_Sort_int_none none 0 w).mono ?_
    rintro e w' ⟨rfl, rfl⟩
    rw [srtI_nil]
    exact ⟨rfl, World.ownsRow_nil _ _ _ _, World.grownBy.refl _ _⟩
  · injection e with e1 _ e3
    subst e1
    subst e3
    obtain ⟨h1, h2, h3⟩ := holds_own h rfl
    refine (Tryd.slices_Sort_int g 0 c l w h1 h2 (by omega)).mono ?_
    rintro e w' ⟨rfl, q, os, rfl⟩
    obtain ⟨ho, hgr⟩ := put_own h (Nat.le_refl _) (srtI_len l) q os
    rw [List.take_of_length_le (by rw [srtI_len]; omega)] at ho
    exact ⟨rfl, ho, hgr⟩
theorem compact_own {w : World} {base n c : Nat} {A : Option Addr} {l : List Int} (h : w.ownsRow base 3 1 (.slice A n c) n (ints l)) (hl : l.length = n) (hn : n ≤ 10000000) :
    Calls Tryd.prog 18 #[.slice A n c] w fun e w' => e = .returned (.slice A (Lib.compact l).length c) ∧ w'.ownsRow base 3 1 (.slice A (Lib.compact l).length c) (Lib.compact l).length (ints (Lib.compact l)) ∧ w.grownBy w' (Value.slice A n c).ownBlock := by
  subst hl
  rcases h.2 with ⟨e, h0⟩ | ⟨g, cap, cur, e, hb, hg, hc1, hc2, hc3, _⟩
  · injection e with e1 e2 e3
    subst e1
    subst e3
    have hl0 : l = [] := List.length_eq_zero_iff.1 h0
    subst hl0
    refine (Tryd.slices_Compact_int_empty none 0 w).mono ?_
    rintro e w' ⟨rfl, rfl⟩
    exact ⟨rfl, World.ownsRow_nil _ _ _ _, World.grownBy.refl _ _⟩
  · injection e with e1 _ e3
    subst e1
    subst e3
    obtain ⟨h1, h2, h3⟩ := holds_own h rfl
    refine (Tryd.slices_Compact_int g 0 c l w h1 (by omega) h3).mono ?_
    rintro e w' ⟨rfl, q, rfl⟩
    have hcl := compact_len l
    obtain ⟨ho, hgr⟩ := put_own h hcl (ds := Lib.compact l ++ List.replicate (l.length - (Lib.compact l).length) 0) (by rw [List.length_append, List.length_replicate]; omega) q #[]
    rw [grow_zero] at ho hgr
    rw [List.take_left'  rfl] at ho
    exact ⟨rfl, ho, hgr⟩
end Go.Proofs.YtfapgnbnfhpicaaDoor

namespace Go.Proofs.YtfapgnbnfhpicaaDoor
set_option maxRecDepth 20000
set_option linter.unusedVariables false
set_option linter.unusedSimpArgs false
open Go.ChangeShapes Go.WideShapes Go.ChangeAt Go.RowKit

def agN (x : Nd) : Value := .agg #[.int .i64 x.kd, .int .i64 x.fn, .int .i64 x.bk, .int .i64 x.st]
def findAt (L : List Nd) (n : Nd) (i : Nat) : Option Int := if L[i]? = some n then some (i : Int) else none
/-- P7.2. -/
def findI (L : List Nd) (n : Nd) : Int := ((List.range L.length).findSome? (findAt L n)).getD (-1)
theorem find_no {L : List Nd} {n y : Nd} {i : Nat} (h : L[i]? = some y) (hne : y ≠ n) : findAt L n i = none := by unfold findAt; rw [h, if_neg (by simpa using hne)]
theorem find_yes {L : List Nd} {n : Nd} {i : Nat} (h : L[i]? = some n) : findAt L n i = some (i : Int) := by unfold findAt; rw [if_pos h]
theorem find_hit {L : List Nd} {n : Nd} {k : Nat} (h0 : (List.range k).findSome? (findAt L n) = none) (hk : k < L.length) (h : L[k]? = some n) : findI L n = k := by unfold findI; rw [some_hit h0 hk (find_yes h)]; rfl
theorem find_end {L : List Nd} {n : Nd} {k : Nat} (h0 : (List.range k).findSome? (findAt L n) = none) (hk : k = L.length) : findI L n = -1 := by subst hk; unfold findI; rw [h0]; rfl
theorem Nd.cells {w : World} {ex : List (Option Nat)} {A : Option Addr} {l : List Nd} (h : EAt w ex A (l.flatMap ndc)) {i : Nat} {x : Nd} (hx : l[i]? = some x) :
    ∃ ad : Addr, A = some ad ∧ ad.block < w.heap.size ∧ w.cell? (ad.add (i * 4)) = some (.int .i64 x.kd) ∧ w.cell? ⟨(ad.add (i * 4)).block, (ad.add (i * 4)).off + 1, none⟩ = some (.int .i64 x.fn) ∧
      w.cell? ⟨(ad.add (i * 4)).block, (ad.add (i * 4)).off + 2, none⟩ = some (.int .i64 x.bk) ∧ w.cell? ⟨(ad.add (i * 4)).block, (ad.add (i * 4)).off + 3, none⟩ = some (.int .i64 x.st) := by
  obtain ⟨ad, e, hs, hc⟩ := h.part ndc_len (by omega) hx
  exact ⟨ad, e, hs.1, hc 0 _ rfl, by rw [cell_next ad (i * 4) 0]; exact hc 1 _ rfl, by rw [cell_next ad (i * 4) 1]; exact hc 2 _ rfl, by rw [cell_next ad (i * 4) 2]; exact hc 3 _ rfl⟩
theorem list_few {L : List Nd} (h : L.length ≤ 200000) : L.length ≤ 200000 := h
end Go.Proofs.YtfapgnbnfhpicaaDoor

namespace Go.Proofs.YtfapgnbnfhpicaaDoor
set_option maxRecDepth 20000
set_option linter.unusedVariables false
set_option linter.unusedSimpArgs false
open Go.ChangeShapes Go.WideShapes Go.ChangeAt Go.RowKit

theorem laidOutT : laidOutB Tryd.prog = true := by kernel_rfl
theorem rowT : (53 : TypeId) < Tryd.prog.types.size := of_decide_eq_true (by kernel_rfl)
theorem wideT : (match Tryd.prog.underlying 53 with | some (.array _ _) | some (.struct _) => true | _ => false) = true := by rw [Tryd.underlying53]
theorem keyed : Maps.Keyed Tryd.prog 53 := Maps.Keyed.of_law (deep_law_laid laidOutT (m := 3) (by omega) rowT (by kernel_rfl) wideT)
theorem keyT : Tryd.prog.keyType 53 = true := by kernel_rfl
theorem cellsT : Tryd.prog.cellsOf 53 = 4 := by kernel_rfl
theorem cellsI : Tryd.prog.cellsOf 3 = 1 := by kernel_rfl
/-- All four numbers are Go's. -/
def wfN (y : Nd) : Prop := ((-9223372036854775808 ≤ y.kd ∧ y.kd ≤ 9223372036854775807) ∧ (-9223372036854775808 ≤ y.fn ∧ y.fn ≤ 9223372036854775807)) ∧ ((-9223372036854775808 ≤ y.bk ∧ y.bk ≤ 9223372036854775807) ∧ (-9223372036854775808 ≤ y.st ∧ y.st ≤ 9223372036854775807))
theorem wf_lit {x : Int} (h : -9223372036854775808 ≤ x ∧ x ≤ 9223372036854775807) : (Lit.int .i64 x).wf = true := by
  have m0 : IntKind.i64.min = -9223372036854775808 := by decide
  have m1 : IntKind.i64.max = 9223372036854775807 := by decide
  simp [Lit.wf, m0, m1]; omega
theorem key_node (y : Nd) (h : wfN y) : ∃ kl, keyOf Tryd.prog 53 (agN y) = some kl := by
  obtain ⟨m, hm⟩ : ∃ m, Tryd.prog.types.size + 1 = m + 1 + 1 := by
    have h : 53 < Tryd.prog.types.size := rowT
    generalize Tryd.prog.types.size = s at h
    exact ⟨s - 1, by have h : 53 < s := h; omega⟩
  have hf : (agN y).formed Tryd.prog 53 = true := by unfold agN; simp [Value.formed, Tryd.underlying53, cellsT]
  obtain ⟨⟨h1, h2⟩, h3, h4⟩ := h
  have e1 := wf_lit h1; have e2 := wf_lit h2; have e3 := wf_lit h3; have e4 := wf_lit h4
  apply Option.isSome_iff_exists.1
  unfold keyOf
  rw [Tryd.underlying53]
  simp only [keyT, hf, Bool.and_self, if_true]
  rw [hm]
  unfold agN
  simp [Program.keyLits, Tryd.underlying53, Tryd.underlying3, cellsT, cellsI, Value.cells, e1, e2, e3, e4]
/-- The first place of a node in a list, or 0. -/
def numN (L : List Nd) (x : Nd) : Nat := (L.findIdx? fun y => decide (y = x)).getD 0
theorem numN_nil (x : Nd) : numN [] x = 0 := rfl
theorem numN_snoc {L : List Nd} {x : Nd} (h : x ∉ L) (y : Nd) : numN (L ++ [x]) y = if y = x then L.length else numN L y := by
  unfold numN
  rw [List.findIdx?_append]
  by_cases e : y = x
  · subst e
    rw [if_pos rfl]
    have : L.findIdx? (fun z => decide (z = y)) = none := by
      rw [List.findIdx?_eq_none_iff]
      intro z hz
      simp
      rintro rfl
      exact h hz
    rw [this]
    simp
  · rw [if_neg e]
    have : [x].findIdx? (fun z => decide (z = y)) = none := by
      rw [List.findIdx?_eq_none_iff]
      intro z hz
      simp at hz
      subst hz
      simp
      exact fun h => e h.symm
    rw [this]
    cases L.findIdx? (fun z => decide (z = y)) <;> simp
theorem numN_lt {L : List Nd} (h : 1 ≤ L.length) (x : Nd) : numN L x < L.length := by
  unfold numN
  cases he : L.findIdx? (fun y => decide (y = x)) with
  | none => simp; omega
  | some i =>
    have := List.findIdx?_eq_some_iff_findIdx_eq.1 he
    simp
    exact this.1
/-- Block b is a map that says the number of each node of L, and 0 of all others. -/
def NMp (w : World) (b : Nat) (L : List Nd) : Prop :=
  ∃ (D : DataW Unit) (n : Nat), w.ownsMap Tryd.prog 53 (plainElem Tryd.prog 3) b n D ∧ n ≤ L.length ∧ Maps.IsMap D ∧ ∀ (y : Nd) (kl : Lit), keyOf Tryd.prog 53 (agN y) = some kl → D.atKey kl (.lit (.int .i64 0)) = .lit (.int .i64 (numN L y : Nat))
theorem zeroI (w : World) : (zeroValue 3).run Tryd.prog w = .ok (.int .i64 0) w := by kernel_rfl
section
variable {w w' : World} {b : Nat} {L : List Nd}
theorem NMp.made (w : World) : NMp (w.alloc (.map #[] 0)) w.heap.size [] :=
  ⟨.map [], 0, World.ownsMap_made w _ _ _, Nat.le_refl _, Maps.isMap_empty, fun y kl _ => by rw [numN_nil]; simp [DataW.atKey]⟩
theorem NMp.lt (h : NMp w b L) : b < w.heap.size := by obtain ⟨D, n, h, _⟩ := h; exact h.lt
theorem NMp.kept {row : Option Nat} (h : NMp w b L) (hg : w.grownBy w' row) (hne : some b ≠ row) : NMp w' b L := by
  obtain ⟨D, n, h, r⟩ := h
  exact ⟨D, n, h.kept hg hne, r⟩
theorem NMp.below (h : NMp w b L) (hb : Below w.heap.size w w') : NMp w' b L := h.kept (grown_of_below hb none) (by simp)
theorem NMp.look (h : NMp w b L) (y : Nd) (hy : wfN y) : (Instr.lookup 57 (.map (some b)) (agN y) false).run Tryd.prog w = .ok (.int .i64 (numN L y : Nat)) w := by
  obtain ⟨D, n, h, hn, hi, hD⟩ := h
  obtain ⟨kl, hk⟩ := key_node y hy
  obtain ⟨c, hrun, hat, _⟩ := h.lookup_int keyed Tryd.underlying57 Tryd.underlying3 (zeroI w) hk
  rw [hD y kl hk] at hat
  injection hat with hat
  injection hat with _ hat
  rw [hrun, ← hat]
theorem NMp.isMap (h : NMp w b L) : ∃ es clock, w.heap[b]? = some (.map es clock) := by
  obtain ⟨D, n, h, _⟩ := h
  obtain ⟨es, clock, h1, _⟩ := h
  exact ⟨es, clock, h1⟩
theorem NMp.put {ops : Array Oper} {rest : List Oper} {o : Oper} {a : Act} {Q : Exit → Act → World → Prop} (hg : o.guard = none) (m x v : Operand) (hop : o.op = Op.mapUpdate 57 m x v)
    (hm : a.eval m = .map (some b)) (h : NMp w b L) (hn : L.length < 1000000) (y : Nd) (hy : wfN y) (hno : y ∉ L) (hx : a.eval x = agN y) (hv : a.eval v = .int .i64 (L.length : Nat))
    (hK : ∀ w', NMp w' b (L ++ [y]) → w.grownBy w' (some b) → wpList Tryd.prog ops Q rest (a.put o.dst undef) w') : wpList Tryd.prog ops Q (o :: rest) a w := by
  obtain ⟨D, n, hO, hl, hi, hD⟩ := h
  obtain ⟨kl, hk⟩ := key_node y hy
  refine wpList_mapUpdate_own w hg m x v 57 hop 53 3 keyed Tryd.underlying57 (plainElem Tryd.prog 3) b n D hm hO (by unfold maxLen; omega) (agN y) (.int .i64 (L.length : Nat)) kl hx hv hk (.lit (.int .i64 (L.length : Nat))) [] (plainElem_int Tryd.underlying3 (wf_lit (by omega))) fun w' hO' hg' => hK w' ⟨D.put kl (.lit (.int .i64 (L.length : Nat))), n + 1, hO', by simp; omega, hi.put _ _, fun y' kl' hk' => ?_⟩ hg'
  rw [numN_snoc hno]
  by_cases e : y' = y
  · subst e
    obtain rfl := Option.some.inj (hk.symm.trans hk')
    rw [if_pos rfl, Maps.atKey_put_same hi (keyed.key hk)]
  · rw [if_neg e, Maps.atKey_put_other (fun h => ?_), hD y' kl' hk']
    subst h
    have := keyed.inj hk hk'
    unfold agN at this
    simp at this
    apply e
    cases y; cases y'
    simp at this
    simp [this]
end
set_option maxHeartbeats 1600000 in
theorem numbers_any (A : Option Addr) (n c : Nat) (L : List Nd) (w : World) (h : EAt w [] A (L.flatMap ndc)) (hl : L.length = n) (hn : n ≤ 100000) (hd : L.Nodup) (hw : ∀ y ∈ L, wfN y) :
    Calls Tryd.prog 15 #[.slice A n c] w fun e w' => ∃ b : Nat, e = .returned (.map (some b)) ∧ NMp w' b L ∧ w.heap.size ≤ b ∧ Below w.heap.size w w' := by
  have HE := hid h
  have HL := hid hl
  have HD := hid hd
  have HW := hid hw
  clear h hd hw hl
  have hmm := @run_makeMap Tryd.prog
  go_enter Tryd.func15, Tryd.ntmps15
  go_wp2_with fail
  have HM := hid (NMp.made w)
  have HB := hid ((Below.refl w.heap.size w).alloc (Nat.le_refl _) (.map #[] 0))
  clear hmm
  generalize w.alloc (.map #[] 0) = w0 at HM HB ⊢
  have hG : ∃ G, w.heap.size = G := ⟨_, rfl⟩
  obtain ⟨G, hG⟩ := hG
  have HGe := hid hG
  rw [hG] at HM ⊢
  clear hG
  go_loopw [4, 5, 9] (fun _ _ iv wr => ∃ k : Nat, k ≤ n ∧ iv = .int .i64 k ∧ Hid (NMp wr G (L.take k)) ∧ Hid (Below w.heap.size w wr)) (fun _ _ iv _ => n - (intOf iv).toNat)
  case atStart => exact ⟨0, by omega, rfl, hid (by rw [List.take_zero]; exact HM.out), HB⟩
  case round =>
    clear HM HB
    obtain ⟨k, hk, rfl, hM, hB⟩ := hrel
    by_cases hlt : k < n
    · obtain ⟨y, hy, hym⟩ := get_at HL.out hlt
      obtain ⟨ad, hA, had, hc1, hc2, hc3, hc4⟩ := Nd.cells (HE.out.go (Go2.below hB.out)) hy
      subst hA
      have Hyw := hid (HW.out y hym)
      have Htk := hid (show L.take (k + 1) = L.take k ++ [y] by rw [List.take_add_one, hy]; rfl)
      have Hlen := hid (show (L.take k).length = k by rw [List.length_take, HL.out]; omega)
      have Hno := hid (show y ∉ L.take k by
        intro hm
        obtain ⟨i, hi, he⟩ := List.mem_iff_getElem.1 hm
        rw [List.getElem_take] at he
        obtain ⟨h1, h2⟩ := List.getElem?_eq_some_iff.1 hy
        have hi2 : i < k := by rw [List.length_take] at hi; omega
        have := (List.nodup_iff_pairwise_ne.1 HD.out)
        exact (List.pairwise_iff_getElem.1 this i k (by omega) h1 hi2) (he.trans h2.symm))
      have ha := (Below.refl wr.heap.size wr).alloc (Nat.le_refl _) (.cells #[.int .i64 y.kd, .int .i64 y.fn, .int .i64 y.bk, .int .i64 y.st] 53)
      have HF := hid (Fb.new wr #[.int .i64 y.kd, .int .i64 y.fn, .int .i64 y.bk, .int .i64 y.st] 53)
      have HM2 := hid (hM.out.below ha)
      have HB2 := hid (below_step hB.out ha)
      clear hy hym ha hM hB
      obtain ⟨yk, yf, yb, ys⟩ := y
      simp only at *
      obtain ⟨g0, g1, g2, g3⟩ := Fb.four HF.out
      clear HF
      have hGn : w.heap.size ≤ G := by have := HGe.out; omega
      go_wp2_with ((
        at_mapUpdate
        go_must (refine NMp.put rfl _ _ _ rfl rfl HM2.out (by rw [Hlen.out]; omega) ⟨yk, yf, yb, ys⟩ Hyw.out Hno.out rfl (by rw [Hlen.out]; rfl) ?_)
        intro w5 hm5 hg5
        have HM5 := hid (Htk.out.symm ▸ hm5)
        have HB5 := hid (HB2.out.grown hg5 HB2.out.size (fun k hk => by injection hk with hk; omega))
        clear hm5 hg5 g0 g1 g2 g3))
      go_roundw
      case rel => exact ⟨k + 1, by omega, by go_num, HM5, HB5⟩
      case measure => simp [intOf]; omega
    · obtain rfl : k = n := by omega
      have HM3 := hid (show NMp wr G L from by have := hM.out; rw [List.take_of_length_le (by rw [HL.out]; omega)] at this; exact this)
      clear hM
      have hGn : w.heap.size ≤ G := by have := HGe.out; omega
      go_wp2_with fail
      go_ret
      exact ⟨G, rfl, HM3.out, hGn, hB.out⟩
end Go.Proofs.YtfapgnbnfhpicaaDoor

namespace Go.Proofs.YtfapgnbnfhpicaaDoor
set_option maxRecDepth 20000
set_option linter.unusedVariables false
set_option linter.unusedSimpArgs false
open Go.ChangeShapes Go.WideShapes Go.ChangeAt Go.RowKit

/-- The targets of edges from a, in their order. -/
def outF (E : List (Nat × Nat)) (a : Nat) : List Int := (E.filter fun e => e.1 == a).map fun e => (e.2 : Int)
theorem outF_snoc (E : List (Nat × Nat)) (a c b : Nat) : upd (outF E) a (outF E a ++ [(c : Int)]) b = outF (E ++ [(a, c)]) b := by
  by_cases e : b = a
  · subst e
    rw [upd_at]
    unfold outF
    simp
  · rw [upd_ne _ _ e]
    unfold outF
    have : (a == b) = false := by simp; exact fun h => e h.symm
    simp [this]
theorem outF_len (E : List (Nat × Nat)) (a : Nat) : (outF E a).length ≤ E.length := by
  unfold outF
  rw [List.length_map]
  exact List.length_filter_le _ _
theorem outF_mem {E : List (Nat × Nat)} {a : Nat} {x : Int} : x ∈ outF E a ↔ ∃ c : Nat, (a, c) ∈ E ∧ x = c := by
  unfold outF
  rw [List.mem_map]
  constructor
  · rintro ⟨⟨a', c⟩, he, rfl⟩
    rw [List.mem_filter] at he
    obtain ⟨h1, h2⟩ := he
    simp at h2
    subst h2
    exact ⟨c, h1, rfl⟩
  · rintro ⟨c, h1, rfl⟩
    exact ⟨(a, c), List.mem_filter.2 ⟨h1, by simp⟩, rfl⟩
theorem Mx.of {w : World} {M N : Nat} {f : Nat → List Int} (h : Mx w M N f) {i : Nat} (hi : i < N) {v : Value} (hc : w.cell? ⟨M, i, none⟩ = some v) :
    w.ownsRow (M + 1) 3 1 v (f i).length (ints (f i)) ∧ (∀ w' : World, w.grownBy w' v.ownBlock → w'.cell? ⟨M, i, none⟩ = some v ∧ w'.frozen? ⟨M, i, none⟩ = false) ∧
    (∀ (w' : World) (u : Value) (l : List Int), w.grownBy w' v.ownBlock → w'.ownsRow (M + 1) 3 1 u l.length (ints l) → (∀ g, u.ownBlock = some g → v.ownBlock = some g ∨ w.heap.size ≤ g) → Mx (w'.setCell ⟨M, i, none⟩ u) M N (upd f i l)) := by
  obtain ⟨v2, h1, h2, h3, h4, h5, h6⟩ := h.at hi
  obtain rfl : v = v2 := Option.some.inj (hc.symm.trans h2)
  exact ⟨h1, h5, h6⟩
theorem Mx.fb {w : World} {M N : Nat} {f : Nat → List Int} (h : Mx w M N f) {B t : Nat} {cs : Array Value} (hb : Fb w B cs t) (ht : t ≠ 35) : B ≠ M := by
  obtain ⟨vs, h1, h2, _⟩ := h
  rintro rfl
  unfold Fb at hb h2
  rw [hb] at h2
  injection h2 with h2
  injection h2 with _ h2
  exact ht h2
/-- What stands in blocks of other types stays. -/
def KeepF (w w' : World) : Prop := w.heap.size ≤ w'.heap.size ∧ ∀ (k : Nat) (cs : Array Value) (t : Nat), t ≠ 3 → t ≠ 35 → Fb w k cs t → Fb w' k cs t
theorem KeepF.trans {a b c : World} (h : KeepF a b) (h2 : KeepF b c) : KeepF a c := ⟨Nat.le_trans h.1 h2.1, fun k cs t h3 h22 hf => h2.2 k cs t h3 h22 (h.2 k cs t h3 h22 hf)⟩
theorem KeepF.below {a b : World} (h : Below a.heap.size a b) : KeepF a b := ⟨h.size, fun k cs t _ _ hf => hf.below h hf.lt⟩
/-- The builder as it stands: its block B, the map MB, the lists of successors in M. -/
structure Bls (w0 : World) (x : PH) (B MB M N : Nat) (L : List Nd) (E : List (Nat × Nat)) (w : World) : Prop where
  box : Fb w B #[.slice x.A x.n x.c, .map (some MB), .slice (some ⟨M, 0, none⟩) N N] 60
  map : NMp w MB L
  mx : Mx w M N (outF E)
  bel : Below w0.heap.size w0 w
  mle : w0.heap.size ≤ M
theorem Bls.below {w0 w w' : World} {x : PH} {B MB M N : Nat} {L : List Nd} {E : List (Nat × Nat)} (h : Bls w0 x B MB M N L E w) (hb : Below w.heap.size w w') : Bls w0 x B MB M N L E w' :=
  ⟨h.box.below hb h.box.lt, h.map.below hb, h.mx.below hb, below_step h.bel hb, h.mle⟩
theorem map_ne_own {w : World} {MB base ty size n : Nat} {v : Value} {xs : List Value} {L : List Nd} (hm : NMp w MB L) (h : w.ownsRow base ty size v n xs) : some MB ≠ v.ownBlock := by
  obtain ⟨es, clock, hm⟩ := hm.isMap
  rcases h.2 with ⟨rfl, _⟩ | ⟨g', cap, cur, rfl, _, hg, _⟩
  · simp [Value.ownBlock]
  · intro e
    simp only [Value.ownBlock, Option.some.injEq] at e
    subst e
    rw [hm] at hg
    cases hg
theorem Bls.push {w0 X w9 : World} {x : PH} {B MB M N : Nat} {L : List Nd} {E : List (Nat × Nat)} (h : Bls w0 x B MB M N L E X) {a c g cap : Nat} {rv : Value} (ha : a < N) (hrv : X.cell? ⟨M, a, none⟩ = some rv)
    (hown : w9.ownsRow (M + 1) 3 1 (.slice (some ⟨g, 0, none⟩) ((outF E a).length + 1) cap) ((outF E a).length + 1) (ints (outF E a) ++ [.int .i64 (c : Int)])) (hg : X.grownBy w9 rv.ownBlock) (hat : rv.ownBlock = some g ∨ g = X.heap.size) :
    ((w9.cell? ⟨M, a, none⟩ = some rv ∧ w9.frozen? ⟨M, a, none⟩ = false) ∧ Fb w9 B #[.slice x.A x.n x.c, .map (some MB), .slice (some ⟨M, 0, none⟩) N N] 60) ∧
    Bls w0 x B MB M N L (E ++ [(a, c)]) (w9.setCell ⟨M, a, none⟩ (.slice (some ⟨g, 0, none⟩) ((outF E a).length + 1) cap)) ∧
    KeepF X (w9.setCell ⟨M, a, none⟩ (.slice (some ⟨g, 0, none⟩) ((outF E a).length + 1) cap)) := by
  obtain ⟨ho, hk, hp⟩ := h.mx.of ha hrv
  have hkeep : ∀ (k : Nat) (cs : Array Value) (t : Nat), t ≠ 3 → t ≠ 35 → Fb X k cs t → Fb (w9.setCell ⟨M, a, none⟩ (.slice (some ⟨g, 0, none⟩) ((outF E a).length + 1) cap)) k cs t := fun k cs t h3 h22 hf =>
    (hf.grown hg (fb_ne_own hf ho h3)).far (by simpa using h.mx.fb hf h22) _
  refine ⟨⟨hk _ hg, h.box.grown hg (fb_ne_own h.box ho (by decide))⟩, ⟨hkeep B _ 60 (by decide) (by decide) h.box, ?_, ?_, ?_, h.mle⟩, ⟨by simpa [World.setCell] using hg.size, hkeep⟩⟩
  · refine (h.map.kept hg (map_ne_own h.map ho)).kept (setCell_grown w9 ⟨M, a, none⟩ _) ?_
    intro e
    injection e with e
    simp only at e
    obtain ⟨es, clock, hm⟩ := h.map.isMap
    obtain ⟨vs, h1, h2, _⟩ := h.mx
    unfold Fb at h2
    rw [← e, hm] at h2
    cases h2
  · have := hp w9 (.slice (some ⟨g, 0, none⟩) ((outF E a).length + 1) cap) (outF E a ++ [(c : Int)]) hg (by rw [ints_snoc, List.length_append]; exact hown) (own_hat hat)
    exact this.congr fun b _ => outF_snoc E a c b
  · exact (h.bel.grown hg h.bel.size (fun k hk2 => by have := (ho.lt k hk2).1; have := h.mle; omega)).setCell (by simpa using h.mle) _
theorem tcells9 {w : World} {M g a t : Nat} {u : Value} {cs : Array Value} (h : Fb (w.setCell ⟨M, a, none⟩ u) g cs t) (hne : g ≠ M) : Fb w g cs t := (Below.heap_setCell w ⟨M, a, none⟩ u g (by simpa using hne)).symm.trans h
def ag4 (y : Nd) : Array Value := #[.int .i64 y.kd, .int .i64 y.fn, .int .i64 y.bk, .int .i64 y.st]
theorem look_drewN {w : World} {MB : Nat} {L : List Nd} (h : NMp w MB L) (y : Nd) (hy : wfN y) (q : Nat) : (Instr.lookup 57 (.map (some MB)) (.agg #[.int .i64 y.kd, .int .i64 y.fn, .int .i64 y.bk, .int .i64 y.st]) false).run Tryd.prog (w.drewN q) = .ok (.int .i64 (numN L y : Nat)) (w.drewN q) :=
  (h.below (below_drewN (Below.refl _ _) q)).look y hy
set_option maxHeartbeats 6400000 in
theorem connect_any (w0 : World) (x : PH) (B MB M N : Nat) (L : List Nd) (E : List (Nat × Nat)) (w : World) (h : Bls w0 x B MB M N L E w) (hN : 1 ≤ N) (hL : L.length = N) (hE : E.length ≤ 1000000) (f t : Nd) (hf : wfN f) (ht : wfN t) :
    Calls Tryd.prog 32 #[.pointer (some ⟨B, 0, none⟩), agN f, agN t] w fun e w' => e = .returned (.tuple #[]) ∧ Bls w0 x B MB M N L (E ++ [(numN L f, numN L t)]) w' ∧ KeepF w w' := by
  obtain ⟨i1, hi, hz0, hz1, hz2⟩ := info_parts info3
  have Hi := hid hi; have Hz0 := hid hz0; have Hz1 := hid hz1; have Hz2 := hid hz2
  clear hi hz0 hz1 hz2
  have hb0 : Below w.heap.size w ((w.alloc (.cells #[.int .i64 f.kd, .int .i64 f.fn, .int .i64 f.bk, .int .i64 f.st] 53)).alloc (.cells #[.int .i64 t.kd, .int .i64 t.fn, .int .i64 t.bk, .int .i64 t.st] 53)) :=
    ((Below.refl _ _).alloc (Nat.le_refl _) _).alloc (by simp) _
  have H1 := hid (h.below hb0)
  have HK0 := hid (KeepF.below hb0)
  have HF := hid (((Fb.new w #[.int .i64 f.kd, .int .i64 f.fn, .int .i64 f.bk, .int .i64 f.st] 53).alloc (.cells #[.int .i64 t.kd, .int .i64 t.fn, .int .i64 t.bk, .int .i64 t.st] 53)))
  have HT := hid (show Fb ((w.alloc (.cells #[.int .i64 f.kd, .int .i64 f.fn, .int .i64 f.bk, .int .i64 f.st] 53)).alloc (.cells #[.int .i64 t.kd, .int .i64 t.fn, .int .i64 t.bk, .int .i64 t.st] 53)) (w.heap.size + 1) #[.int .i64 t.kd, .int .i64 t.fn, .int .i64 t.bk, .int .i64 t.st] 53 by
    have := Fb.new (w.alloc (.cells #[.int .i64 f.kd, .int .i64 f.fn, .int .i64 f.bk, .int .i64 f.st] 53)) #[.int .i64 t.kd, .int .i64 t.fn, .int .i64 t.bk, .int .i64 t.st] 53
    rwa [World.size_alloc] at this)
  have Ha := hid (show numN L f < N by rw [← hL]; exact numN_lt (by omega) f)
  have Hc := hid (show numN L t < N by rw [← hL]; exact numN_lt (by omega) t)
  have Hlf := hid (fun (u : World) (hu : NMp u MB L) (q : Nat) => look_drewN hu f hf q)
  have Hlt := hid (fun (u : World) (hu : NMp u MB L) (q : Nat) => look_drewN hu t ht q)
  clear h hb0
  obtain ⟨fk, ff, fb, fs⟩ := f
  obtain ⟨tk, tf, tb, ts⟩ := t
  unfold agN
  simp only at *
  generalize numN L ⟨fk, ff, fb, fs⟩ = a at *
  generalize numN L ⟨tk, tf, tb, ts⟩ = c at *
  go_enter Tryd.func32, Tryd.ntmps32
  go_wp2_with fail
  have hG : ∃ G, w.heap.size = G := ⟨_, rfl⟩
  obtain ⟨G, hG⟩ := hG
  rw [hG] at HF HT ⊢
  clear hG
  generalize (w.alloc (.cells #[.int .i64 fk, .int .i64 ff, .int .i64 fb, .int .i64 fs] 53)).alloc (.cells #[.int .i64 tk, .int .i64 tf, .int .i64 tb, .int .i64 ts] 53) = W at *
  obtain ⟨f0, f1, f2, f3⟩ := Fb.four HF.out
  obtain ⟨t0, t1, t2, t3⟩ := Fb.four HT.out
  obtain ⟨b0, b1, b2⟩ := H1.out.box.thr
  have hlf := Hlf.out W H1.out.map
  go_quiet (fail)
  clear f0 f1 f2 f3 hlf t0 t1 t2 t3 b0 b1 b2
  have H2 := hid (H1.out.below (below_drewN (Below.refl _ _) nq))
  have HK1 := hid (HK0.out.trans (KeepF.below (below_drewN (Below.refl W.heap.size W) nq)))
  have HT2 := hid (HT.out.drewN nq)
  clear HT HF H1 HK0 Hlf
  generalize W.drewN nq = X at *
  have hTl := HT2.out.lt
  obtain ⟨t0, t1, t2, t3⟩ := Fb.four HT2.out
  have hBl := H2.out.box.lt
  obtain ⟨b0, b1, b2⟩ := H2.out.box.thr
  have hMl := H2.out.mx.lt
  have hMl2 : M + 1 ≤ X.heap.size := hMl
  obtain ⟨rv, hown, hcell, hfr, ⟨rA, rc, hrv⟩, -, -⟩ := H2.out.mx.at Ha.out
  have HO := hid hown
  have Hcell := hid hcell
  have hlt := Hlt.out X H2.out.map 1
  change _ = Result.ok _ X.drew at hlt
  change Sem.run _ _ X.drew = _ at hlt
  have hlen := outF_len E a
  have hal : ∀ q o, ((X.drewN q).alloc o).cell? ⟨M, a, none⟩ = some rv := fun q o => by
    rw [World.cell?_alloc_lt (X.drewN q) o ⟨M, a, none⟩ (by exact hMl)]; exact hcell
  have HA := hid hal
  have HTf := hid HT2.out
  clear hown hal HT2 Hlt
  subst hrv
  have han := Ha.out
  have HSd := hid (show ∀ v : World, Below X.heap.size X v → (v.cell? ⟨B, 1, none⟩ = some (.map (some MB)) ∧ v.cell? ⟨B, 2, none⟩ = some (.slice (some ⟨M, 0, none⟩) N N)) ∧ (v.cell? ⟨G + 1, 0, none⟩ = some (.int .i64 tk) ∧ v.cell? ⟨G + 1, 1, none⟩ = some (.int .i64 tf) ∧ v.cell? ⟨G + 1, 2, none⟩ = some (.int .i64 tb) ∧ v.cell? ⟨G + 1, 3, none⟩ = some (.int .i64 ts)) from fun v hv =>
    ⟨⟨(hv.cell (p := ⟨B, 1, none⟩) hBl).trans b1, (hv.cell (p := ⟨B, 2, none⟩) hBl).trans b2⟩, (hv.cell (p := ⟨G + 1, 0, none⟩) hTl).trans t0, (hv.cell (p := ⟨G + 1, 1, none⟩) hTl).trans t1, (hv.cell (p := ⟨G + 1, 2, none⟩) hTl).trans t2, (hv.cell (p := ⟨G + 1, 3, none⟩) hTl).trans t3⟩)
  have HBM := hid (H2.out.mx.fb H2.out.box (by decide))
  have HGM := hid (H2.out.mx.fb HTf.out (by decide))
  go_wp2_with fail
  refine wp_region_noPanic ?_
  refine wp_region_held_drew (S := (fun v => (v.cell? ⟨B, 1, none⟩ = some (.map (some MB)) ∧ v.cell? ⟨B, 2, none⟩ = some (.slice (some ⟨M, 0, none⟩) N N)) ∧ (v.cell? ⟨G + 1, 0, none⟩ = some (.int .i64 tk) ∧ v.cell? ⟨G + 1, 1, none⟩ = some (.int .i64 tf) ∧ v.cell? ⟨G + 1, 2, none⟩ = some (.int .i64 tb) ∧ v.cell? ⟨G + 1, 3, none⟩ = some (.int .i64 ts)))) (by kernel_rfl) (HSd.out _ (Below.refl _ _).drew) (fun hHeld => ?_)
  refine wpAnyH_take (i := 0) (oi := _) (v := ?_) rfl (by kernel_rfl) (by kernel_rfl) (by kernel_rfl) (fun _ _ _ h => h) (Or.inl ⟨by rfl, ?_⟩) (by assumption) ?_
  rotate_left
  · (intro w hSw; (try dsimp only at hSw); go_simp; try with_reducible rfl)
  try simp only [Act.put, List.setIfInBounds_toArray, List.set_cons_zero, List.set_cons_succ]
  refine wpAnyH_take (i := 1) (oi := _) (v := ?_) rfl (by kernel_rfl) (by kernel_rfl) (by kernel_rfl) (fun _ _ _ h => h) (Or.inl ⟨by rfl, ?_⟩) (by assumption) ?_
  rotate_left
  · (intro w hSw; (try dsimp only at hSw); go_simp; try with_reducible rfl)
  try simp only [Act.put, List.setIfInBounds_toArray, List.set_cons_zero, List.set_cons_succ]
  refine wpAnyH_take (i := 2) (oi := _) (v := ?_) rfl (by kernel_rfl) (by kernel_rfl) (by kernel_rfl) (fun _ _ _ h => h) (Or.inl ⟨by rfl, ?_⟩) (by assumption) ?_
  rotate_left
  · (intro w hSw; (try dsimp only at hSw); go_simp; try with_reducible rfl)
  try simp only [Act.put, List.setIfInBounds_toArray, List.set_cons_zero, List.set_cons_succ]
  refine wpAnyH_take (i := 3) (oi := _) (v := ?_) rfl (by kernel_rfl) (by kernel_rfl) (by kernel_rfl) (fun _ _ _ h => h) (Or.inl ⟨by rfl, ?_⟩) (by assumption) ?_
  rotate_left
  · (intro w hSw; (try dsimp only at hSw); go_simp; try with_reducible rfl)
  try simp only [Act.put, List.setIfInBounds_toArray, List.set_cons_zero, List.set_cons_succ]
  refine wpAnyH_take (i := 4) (oi := _) (v := ?_) rfl (by kernel_rfl) (by kernel_rfl) (by kernel_rfl) (fun _ _ _ h => h) (Or.inl ⟨by rfl, ?_⟩) (by assumption) ?_
  rotate_left
  · (intro w hSw; (try dsimp only at hSw); go_simp; try with_reducible rfl)
  try simp only [Act.put, List.setIfInBounds_toArray, List.set_cons_zero, List.set_cons_succ]
  refine wpAnyH_take (i := 5) (oi := _) (v := ?_) rfl (by kernel_rfl) (by kernel_rfl) (by kernel_rfl) (fun _ _ _ h => h) (Or.inl ⟨by rfl, ?_⟩) (by assumption) ?_
  rotate_left
  · (intro w hSw; (try dsimp only at hSw); go_simp; try with_reducible rfl)
  try simp only [Act.put, List.setIfInBounds_toArray, List.set_cons_zero, List.set_cons_succ]
  refine wpAnyH_take (i := 6) (oi := _) (v := ?_) rfl (by kernel_rfl) (by kernel_rfl) (by kernel_rfl) (fun _ _ _ h => h) (Or.inl ⟨by rfl, ?_⟩) (by assumption) ?_
  rotate_left
  · (intro w hSw; (try dsimp only at hSw); go_simp; try with_reducible rfl)
  try simp only [Act.put, List.setIfInBounds_toArray, List.set_cons_zero, List.set_cons_succ]
  refine wpAnyH_take (i := 7) (oi := _) (v := ?_) rfl (by kernel_rfl) (by kernel_rfl) (by kernel_rfl) (fun _ _ _ h => h) (Or.inl ⟨by rfl, ?_⟩) (by assumption) ?_
  rotate_left
  · (intro w hSw; (try dsimp only at hSw); go_simp; try with_reducible rfl)
  try simp only [Act.put, List.setIfInBounds_toArray, List.set_cons_zero, List.set_cons_succ]
  refine wpAnyH_take (i := 8) (oi := _) (v := ?_) rfl (by kernel_rfl) (by kernel_rfl) (by kernel_rfl) (fun _ _ _ h => h) (Or.inl ⟨by rfl, ?_⟩) (by assumption) ?_
  rotate_left
  · (intro w hSw; (try dsimp only at hSw); go_simp; try with_reducible rfl)
  try simp only [Act.put, List.setIfInBounds_toArray, List.set_cons_zero, List.set_cons_succ]
  refine wpAnyH_take (i := 9) (oi := _) (v := ?_) rfl (by kernel_rfl) (by kernel_rfl) (by kernel_rfl) (fun _ _ _ h => h) (Or.inl ⟨by rfl, ?_⟩) (by assumption) ?_
  rotate_left
  · (intro w hSw; (try dsimp only at hSw); go_simp; try with_reducible rfl)
  try simp only [Act.put, List.setIfInBounds_toArray, List.set_cons_zero, List.set_cons_succ]
  refine wpAnyH_take (i := 10) (oi := _) (v := ?_) rfl (by kernel_rfl) (by kernel_rfl) (by kernel_rfl) (fun _ _ _ h => h) (Or.inl ⟨by rfl, ?_⟩) (by assumption) ?_
  rotate_left
  · (intro w hSw; (try dsimp only at hSw); go_simp; try with_reducible rfl)
  try simp only [Act.put, List.setIfInBounds_toArray, List.set_cons_zero, List.set_cons_succ]
  refine wpAnyH_take (i := 12) (oi := _) (v := ?_) rfl (by kernel_rfl) (by kernel_rfl) (by kernel_rfl) (fun _ _ _ h => h) (Or.inl ⟨by rfl, ?_⟩) (by assumption) ?_
  rotate_left
  · (intro w hSw; (try dsimp only at hSw); go_simp; try with_reducible rfl)
  try simp only [Act.put, List.setIfInBounds_toArray, List.set_cons_zero, List.set_cons_succ]
  refine wpAnyH_take (i := 13) (oi := _) (v := ?_) rfl (by kernel_rfl) (by kernel_rfl) (by kernel_rfl) (fun _ _ _ h => h) (Or.inl ⟨by rfl, ?_⟩) (by assumption) ?_
  rotate_left
  · (intro w hSw; (try dsimp only at hSw); go_simp; try with_reducible rfl)
  try simp only [Act.put, List.setIfInBounds_toArray, List.set_cons_zero, List.set_cons_succ]
  refine wpAnyH_take (i := 14) (oi := _) (v := ?_) rfl (by kernel_rfl) (by kernel_rfl) (by kernel_rfl) (fun _ _ _ h => h) (Or.inl ⟨by rfl, ?_⟩) (by assumption) ?_
  rotate_left
  · (intro w hSw; (try dsimp only at hSw); go_simp; try with_reducible rfl)
  try simp only [Act.put, List.setIfInBounds_toArray, List.set_cons_zero, List.set_cons_succ]
  refine wpAnyH_take (i := 15) (oi := _) (v := ?_) rfl (by kernel_rfl) (by kernel_rfl) (by kernel_rfl) (fun _ _ _ h => h) (Or.inl ⟨by rfl, ?_⟩) (by assumption) ?_
  rotate_left
  · (intro w hSw; (try dsimp only at hSw); go_simp; try with_reducible rfl)
  try simp only [Act.put, List.setIfInBounds_toArray, List.set_cons_zero, List.set_cons_succ]
  refine wpAnyH_take (i := 16) (oi := _) (v := ?_) rfl (by kernel_rfl) (by kernel_rfl) (by kernel_rfl) (fun _ _ _ h => h) (Or.inl ⟨by rfl, ?_⟩) (by assumption) ?_
  rotate_left
  · (intro w hSw; (try dsimp only at hSw); go_simp; try with_reducible rfl)
  try simp only [Act.put, List.setIfInBounds_toArray, List.set_cons_zero, List.set_cons_succ]
  refine wpAnyH_ready (rs := [11, 17]) (by kernel_rfl) (by simp) ?_
  refine AllReadyH.cons (o := _) rfl (fun K hK => ?_) ?_
  ·
    go_simp
    refine hK.out _ _ ?_ (fun hHeld => ?_)
    · ((try dsimp only); (first | (with_reducible exact HSd.out _ (Below.refl _ _).drew) | (exact HSd.out _ ((Below.refl _ _).drew.alloc (by simp) _)) | assumption | (exact HS9.out) | (exact HS9s.out _)))
    clear hK K
    try simp only [Act.put, List.setIfInBounds_toArray, List.set_cons_zero, List.set_cons_succ]
    refine wpAnyH_ready (rs := [17]) (by kernel_rfl) (by simp) ?_
    refine AllReadyH.cons (o := _) rfl (fun K hK => ?_) ?_
    ·
      go_simp
      refine hK.out _ _ ?_ (fun hHeld => ?_)
      · ((try dsimp only); (first | (with_reducible exact HSd.out _ (Below.refl _ _).drew) | (exact HSd.out _ ((Below.refl _ _).drew.alloc (by simp) _)) | assumption | (exact HS9.out) | (exact HS9s.out _)))
      clear hK K
      try simp only [Act.put, List.setIfInBounds_toArray, List.set_cons_zero, List.set_cons_succ]
      refine wpAnyH_ready (rs := [18]) (by kernel_rfl) (by simp) ?_
      refine AllReadyH.cons (o := _) rfl (fun K hK => ?_) ?_
      ·
        go_simp
        refine hK.out _ _ ?_ (fun hHeld => ?_)
        · ((try dsimp only); (first | (with_reducible exact HSd.out _ (Below.refl _ _).drew) | (exact HSd.out _ ((Below.refl _ _).drew.alloc (by simp) _)) | assumption | (exact HS9.out) | (exact HS9s.out _)))
        clear hK K
        try simp only [Act.put, List.setIfInBounds_toArray, List.set_cons_zero, List.set_cons_succ]
        refine wpAnyH_ready (rs := [19]) (by kernel_rfl) (by simp) ?_
        refine AllReadyH.cons (o := _) rfl (fun K hK => ?_) ?_
        ·
          ((refine step_append_lies _ (by rfl) _ _ 35 (by rfl) (M + 1) 3 i1 _ 1 8 Tryd.underlying35 Hi.out Hz0.out Hz1.out Hz2.out (by rfl) (by decide) (.slice rA (outF E a).length rc) (outF E a).length (ints (outF E a)) (by rfl) (by exact own_below HO.out ((below_drewN (Below.refl _ _) 1).alloc (by simp) _))
                    ⟨_, 0, none⟩ 1 1 [Value.int .i64 (c : Int)] (by rfl) rfl (by exact int_new _ _ _) (one_int1 _) (by decide) (by unfold maxLen; omega) (by omega) (by simp; omega) _ rfl ?_))
          intro g9 cap9 w9 hown9 hgr9 hat9 hlt9
          obtain ⟨⟨⟨y0, y1⟩, hbx⟩, h9, hk9⟩ := Bls.push (H2.out.below ((below_drewN (Below.refl _ _) 1).alloc (by simp) _)) Ha.out (HA.out 1 _) hown9 hgr9 hat9
          have H9 := hid h9
          have HK9 := hid (HK1.out.trans ((KeepF.below ((below_drewN (Below.refl _ _) 1).alloc (by simp) _)).trans hk9))
          obtain ⟨u0, u1, u2⟩ := hbx.thr
          have hul := hbx.lt
          have HT9 := hk9.2 (G + 1) _ 53 (by decide) (by decide) (HTf.out.below ((below_drewN (Below.refl _ _) 1).alloc (by simp) _) HTf.out.lt)
          have HS9 := hid (And.intro (And.intro u1 u2) (Fb.four (tcells9 HT9 HGM.out)))
          have HS9s := hid (fun u => And.intro (And.intro ((cell_far (p := ⟨M, a, none⟩) (q := ⟨B, 1, none⟩) HBM.out u).trans u1) ((cell_far (p := ⟨M, a, none⟩) (q := ⟨B, 2, none⟩) HBM.out u).trans u2)) (Fb.four ((tcells9 HT9 HGM.out).far (p := ⟨M, a, none⟩) HGM.out u)))
          clear HT9 hown9 hgr9 hat9 hlt9 h9 hk9 hbx
          refine hK.out _ _ ?_ (fun hHeld => ?_)
          · ((try dsimp only); (first | (with_reducible exact HSd.out _ (Below.refl _ _).drew) | (exact HSd.out _ ((Below.refl _ _).drew.alloc (by simp) _)) | assumption | (exact HS9.out) | (exact HS9s.out _)))
          clear hK K
          try simp only [Act.put, List.setIfInBounds_toArray, List.set_cons_zero, List.set_cons_succ]
          refine wpAnyH_take (i := 20) (oi := _) (v := ?_) rfl (by kernel_rfl) (by kernel_rfl) (by kernel_rfl) (fun _ _ _ h => h) (Or.inl ⟨by rfl, ?_⟩) (by assumption) ?_
          rotate_left
          · (intro w hSw; (try dsimp only at hSw); go_simp; try with_reducible rfl)
          try simp only [Act.put, List.setIfInBounds_toArray, List.set_cons_zero, List.set_cons_succ]
          refine wpAnyH_ready (rs := [21]) (by kernel_rfl) (by simp) ?_
          refine AllReadyH.cons (o := _) rfl (fun K hK => ?_) ?_
          ·
            go_simp
            refine hK.out _ _ ?_ (fun hHeld => ?_)
            · ((try dsimp only); (first | (with_reducible exact HSd.out _ (Below.refl _ _).drew) | (exact HSd.out _ ((Below.refl _ _).drew.alloc (by simp) _)) | assumption | (exact HS9.out) | (exact HS9s.out _)))
            clear hK K
            try simp only [Act.put, List.setIfInBounds_toArray, List.set_cons_zero, List.set_cons_succ]
            refine wpAnyH_done (by kernel_rfl) ?_ _
            refine NoPanic.normal ?_
            go_wp2_with fail
            refine bodyPost_end (v := .tuple #[]) (by simp [results, Tryd.results32]) rfl ⟨rfl, H9.out, HK9.out⟩
          exact AllReadyH.nil
        exact AllReadyH.nil
      exact AllReadyH.nil
    exact AllReadyH.nil
  refine AllReadyH.cons (o := _) rfl (fun K hK => ?_) ?_
  ·
    go_simp
    refine hK.out _ _ ?_ (fun hHeld => ?_)
    · ((try dsimp only); (first | (with_reducible exact HSd.out _ (Below.refl _ _).drew) | (exact HSd.out _ ((Below.refl _ _).drew.alloc (by simp) _)) | assumption | (exact HS9.out) | (exact HS9s.out _)))
    clear hK K
    try simp only [Act.put, List.setIfInBounds_toArray, List.set_cons_zero, List.set_cons_succ]
    refine wpAnyH_ready (rs := [11, 18]) (by kernel_rfl) (by simp) ?_
    refine AllReadyH.cons (o := _) rfl (fun K hK => ?_) ?_
    ·
      go_simp
      refine hK.out _ _ ?_ (fun hHeld => ?_)
      · ((try dsimp only); (first | (with_reducible exact HSd.out _ (Below.refl _ _).drew) | (exact HSd.out _ ((Below.refl _ _).drew.alloc (by simp) _)) | assumption | (exact HS9.out) | (exact HS9s.out _)))
      clear hK K
      try simp only [Act.put, List.setIfInBounds_toArray, List.set_cons_zero, List.set_cons_succ]
      refine wpAnyH_ready (rs := [18]) (by kernel_rfl) (by simp) ?_
      refine AllReadyH.cons (o := _) rfl (fun K hK => ?_) ?_
      ·
        go_simp
        refine hK.out _ _ ?_ (fun hHeld => ?_)
        · ((try dsimp only); (first | (with_reducible exact HSd.out _ (Below.refl _ _).drew) | (exact HSd.out _ ((Below.refl _ _).drew.alloc (by simp) _)) | assumption | (exact HS9.out) | (exact HS9s.out _)))
        clear hK K
        try simp only [Act.put, List.setIfInBounds_toArray, List.set_cons_zero, List.set_cons_succ]
        refine wpAnyH_ready (rs := [19]) (by kernel_rfl) (by simp) ?_
        refine AllReadyH.cons (o := _) rfl (fun K hK => ?_) ?_
        ·
          ((refine step_append_lies _ (by rfl) _ _ 35 (by rfl) (M + 1) 3 i1 _ 1 8 Tryd.underlying35 Hi.out Hz0.out Hz1.out Hz2.out (by rfl) (by decide) (.slice rA (outF E a).length rc) (outF E a).length (ints (outF E a)) (by rfl) (by exact own_below HO.out ((below_drewN (Below.refl _ _) 1).alloc (by simp) _))
                    ⟨_, 0, none⟩ 1 1 [Value.int .i64 (c : Int)] (by rfl) rfl (by exact int_new _ _ _) (one_int1 _) (by decide) (by unfold maxLen; omega) (by omega) (by simp; omega) _ rfl ?_))
          intro g9 cap9 w9 hown9 hgr9 hat9 hlt9
          obtain ⟨⟨⟨y0, y1⟩, hbx⟩, h9, hk9⟩ := Bls.push (H2.out.below ((below_drewN (Below.refl _ _) 1).alloc (by simp) _)) Ha.out (HA.out 1 _) hown9 hgr9 hat9
          have H9 := hid h9
          have HK9 := hid (HK1.out.trans ((KeepF.below ((below_drewN (Below.refl _ _) 1).alloc (by simp) _)).trans hk9))
          obtain ⟨u0, u1, u2⟩ := hbx.thr
          have hul := hbx.lt
          have HT9 := hk9.2 (G + 1) _ 53 (by decide) (by decide) (HTf.out.below ((below_drewN (Below.refl _ _) 1).alloc (by simp) _) HTf.out.lt)
          have HS9 := hid (And.intro (And.intro u1 u2) (Fb.four (tcells9 HT9 HGM.out)))
          have HS9s := hid (fun u => And.intro (And.intro ((cell_far (p := ⟨M, a, none⟩) (q := ⟨B, 1, none⟩) HBM.out u).trans u1) ((cell_far (p := ⟨M, a, none⟩) (q := ⟨B, 2, none⟩) HBM.out u).trans u2)) (Fb.four ((tcells9 HT9 HGM.out).far (p := ⟨M, a, none⟩) HGM.out u)))
          clear HT9 hown9 hgr9 hat9 hlt9 h9 hk9 hbx
          refine hK.out _ _ ?_ (fun hHeld => ?_)
          · ((try dsimp only); (first | (with_reducible exact HSd.out _ (Below.refl _ _).drew) | (exact HSd.out _ ((Below.refl _ _).drew.alloc (by simp) _)) | assumption | (exact HS9.out) | (exact HS9s.out _)))
          clear hK K
          try simp only [Act.put, List.setIfInBounds_toArray, List.set_cons_zero, List.set_cons_succ]
          refine wpAnyH_take (i := 20) (oi := _) (v := ?_) rfl (by kernel_rfl) (by kernel_rfl) (by kernel_rfl) (fun _ _ _ h => h) (Or.inl ⟨by rfl, ?_⟩) (by assumption) ?_
          rotate_left
          · (intro w hSw; (try dsimp only at hSw); go_simp; try with_reducible rfl)
          try simp only [Act.put, List.setIfInBounds_toArray, List.set_cons_zero, List.set_cons_succ]
          refine wpAnyH_ready (rs := [21]) (by kernel_rfl) (by simp) ?_
          refine AllReadyH.cons (o := _) rfl (fun K hK => ?_) ?_
          ·
            go_simp
            refine hK.out _ _ ?_ (fun hHeld => ?_)
            · ((try dsimp only); (first | (with_reducible exact HSd.out _ (Below.refl _ _).drew) | (exact HSd.out _ ((Below.refl _ _).drew.alloc (by simp) _)) | assumption | (exact HS9.out) | (exact HS9s.out _)))
            clear hK K
            try simp only [Act.put, List.setIfInBounds_toArray, List.set_cons_zero, List.set_cons_succ]
            refine wpAnyH_done (by kernel_rfl) ?_ _
            refine NoPanic.normal ?_
            go_wp2_with fail
            refine bodyPost_end (v := .tuple #[]) (by simp [results, Tryd.results32]) rfl ⟨rfl, H9.out, HK9.out⟩
          exact AllReadyH.nil
        exact AllReadyH.nil
      exact AllReadyH.nil
    refine AllReadyH.cons (o := _) rfl (fun K hK => ?_) ?_
    ·
      go_simp
      refine hK.out _ _ ?_ (fun hHeld => ?_)
      · ((try dsimp only); (first | (with_reducible exact HSd.out _ (Below.refl _ _).drew) | (exact HSd.out _ ((Below.refl _ _).drew.alloc (by simp) _)) | assumption | (exact HS9.out) | (exact HS9s.out _)))
      clear hK K
      try simp only [Act.put, List.setIfInBounds_toArray, List.set_cons_zero, List.set_cons_succ]
      refine wpAnyH_ready (rs := [11]) (by kernel_rfl) (by simp) ?_
      refine AllReadyH.cons (o := _) rfl (fun K hK => ?_) ?_
      ·
        go_simp
        refine hK.out _ _ ?_ (fun hHeld => ?_)
        · ((try dsimp only); (first | (with_reducible exact HSd.out _ (Below.refl _ _).drew) | (exact HSd.out _ ((Below.refl _ _).drew.alloc (by simp) _)) | assumption | (exact HS9.out) | (exact HS9s.out _)))
        clear hK K
        try simp only [Act.put, List.setIfInBounds_toArray, List.set_cons_zero, List.set_cons_succ]
        refine wpAnyH_ready (rs := [19]) (by kernel_rfl) (by simp) ?_
        refine AllReadyH.cons (o := _) rfl (fun K hK => ?_) ?_
        ·
          ((refine step_append_lies _ (by rfl) _ _ 35 (by rfl) (M + 1) 3 i1 _ 1 8 Tryd.underlying35 Hi.out Hz0.out Hz1.out Hz2.out (by rfl) (by decide) (.slice rA (outF E a).length rc) (outF E a).length (ints (outF E a)) (by rfl) (by exact own_below HO.out ((below_drewN (Below.refl _ _) 1).alloc (by simp) _))
                    ⟨_, 0, none⟩ 1 1 [Value.int .i64 (c : Int)] (by rfl) rfl (by exact int_new _ _ _) (one_int1 _) (by decide) (by unfold maxLen; omega) (by omega) (by simp; omega) _ rfl ?_))
          intro g9 cap9 w9 hown9 hgr9 hat9 hlt9
          obtain ⟨⟨⟨y0, y1⟩, hbx⟩, h9, hk9⟩ := Bls.push (H2.out.below ((below_drewN (Below.refl _ _) 1).alloc (by simp) _)) Ha.out (HA.out 1 _) hown9 hgr9 hat9
          have H9 := hid h9
          have HK9 := hid (HK1.out.trans ((KeepF.below ((below_drewN (Below.refl _ _) 1).alloc (by simp) _)).trans hk9))
          obtain ⟨u0, u1, u2⟩ := hbx.thr
          have hul := hbx.lt
          have HT9 := hk9.2 (G + 1) _ 53 (by decide) (by decide) (HTf.out.below ((below_drewN (Below.refl _ _) 1).alloc (by simp) _) HTf.out.lt)
          have HS9 := hid (And.intro (And.intro u1 u2) (Fb.four (tcells9 HT9 HGM.out)))
          have HS9s := hid (fun u => And.intro (And.intro ((cell_far (p := ⟨M, a, none⟩) (q := ⟨B, 1, none⟩) HBM.out u).trans u1) ((cell_far (p := ⟨M, a, none⟩) (q := ⟨B, 2, none⟩) HBM.out u).trans u2)) (Fb.four ((tcells9 HT9 HGM.out).far (p := ⟨M, a, none⟩) HGM.out u)))
          clear HT9 hown9 hgr9 hat9 hlt9 h9 hk9 hbx
          refine hK.out _ _ ?_ (fun hHeld => ?_)
          · ((try dsimp only); (first | (with_reducible exact HSd.out _ (Below.refl _ _).drew) | (exact HSd.out _ ((Below.refl _ _).drew.alloc (by simp) _)) | assumption | (exact HS9.out) | (exact HS9s.out _)))
          clear hK K
          try simp only [Act.put, List.setIfInBounds_toArray, List.set_cons_zero, List.set_cons_succ]
          refine wpAnyH_take (i := 20) (oi := _) (v := ?_) rfl (by kernel_rfl) (by kernel_rfl) (by kernel_rfl) (fun _ _ _ h => h) (Or.inl ⟨by rfl, ?_⟩) (by assumption) ?_
          rotate_left
          · (intro w hSw; (try dsimp only at hSw); go_simp; try with_reducible rfl)
          try simp only [Act.put, List.setIfInBounds_toArray, List.set_cons_zero, List.set_cons_succ]
          refine wpAnyH_ready (rs := [21]) (by kernel_rfl) (by simp) ?_
          refine AllReadyH.cons (o := _) rfl (fun K hK => ?_) ?_
          ·
            go_simp
            refine hK.out _ _ ?_ (fun hHeld => ?_)
            · ((try dsimp only); (first | (with_reducible exact HSd.out _ (Below.refl _ _).drew) | (exact HSd.out _ ((Below.refl _ _).drew.alloc (by simp) _)) | assumption | (exact HS9.out) | (exact HS9s.out _)))
            clear hK K
            try simp only [Act.put, List.setIfInBounds_toArray, List.set_cons_zero, List.set_cons_succ]
            refine wpAnyH_done (by kernel_rfl) ?_ _
            refine NoPanic.normal ?_
            go_wp2_with fail
            refine bodyPost_end (v := .tuple #[]) (by simp [results, Tryd.results32]) rfl ⟨rfl, H9.out, HK9.out⟩
          exact AllReadyH.nil
        exact AllReadyH.nil
      exact AllReadyH.nil
    exact AllReadyH.nil
  exact AllReadyH.nil
end Go.Proofs.YtfapgnbnfhpicaaDoor

namespace Go.Proofs.YtfapgnbnfhpicaaDoor
set_option maxRecDepth 20000
set_option linter.unusedVariables false
set_option linter.unusedSimpArgs false
open Go.ChangeShapes Go.WideShapes Go.ChangeAt Go.RowKit

/-- The first place of a name, or -1. -/
def nmI (ns : List ByteArray) (s : ByteArray) : Int := match ns.findIdx? fun x => decide (x = s) with
  | some i => (i : Int)
  | none => -1
theorem nmI_hit {ns : List ByteArray} {s : ByteArray} {k : Nat} (h : ∀ (j : Nat) (x : ByteArray), j < k → ns[j]? = some x → x ≠ s) (hk : ns[k]? = some s) : nmI ns s = k := by
  unfold nmI
  have : ns.findIdx? (fun x => decide (x = s)) = some k := by
    rw [List.findIdx?_eq_some_iff_getElem]
    obtain ⟨h1, h2⟩ := List.getElem?_eq_some_iff.1 hk
    exact ⟨h1, by simp [h2], fun j hj => by simpa using h j _ hj (List.getElem?_eq_getElem (by omega))⟩
  rw [this]
theorem nmI_end {ns : List ByteArray} {s : ByteArray} {n : Nat} (hn : ns.length = n) (h : ∀ (j : Nat) (x : ByteArray), j < n → ns[j]? = some x → x ≠ s) : nmI ns s = -1 := by
  unfold nmI
  have : ns.findIdx? (fun x => decide (x = s)) = none := by
    rw [List.findIdx?_eq_none_iff]
    intro x hx
    obtain ⟨j, hj, rfl⟩ := List.mem_iff_getElem.1 hx
    simpa using h j _ (by omega) (List.getElem?_eq_getElem hj)
  rw [this]
theorem str_ne {a b : ByteArray} (h : a ≠ b) : (a.toList == b.toList) = false := by
  have : a.toList ≠ b.toList := fun e => h (by
    apply list_ext2
    rw [← toList_data, ← toList_data, e])
  simpa using this
set_option maxHeartbeats 1600000 in
theorem blockIs_any (s nm : ByteArray) (A : Option Addr) (n c p : Nat) (w : World) (hp : w.cell? ⟨p, 0, none⟩ = some (.string s)) (hpl : p < w.heap.size) :
    Calls Tryd.prog 82 #[.agg #[.string nm, .slice A n c], .pointer (some ⟨p, 0, none⟩)] w fun e w' => e = .returned (.bool (decide (nm = s))) ∧ Below w.heap.size w w' := by
  have HB := hid ((Below.refl w.heap.size w).alloc (Nat.le_refl _) (.cells #[.string nm, .slice A n c] 73))
  by_cases e : nm = s
  · subst e
    have Hr := hid (show decide (nm = nm) = true by simp)
    go_enter Tryd.func82, Tryd.ntmps82
    go_wp2_with fail
    go_ret
    exact ⟨ret_b Hr.out, HB.out⟩
  · have t1 := str_ne e
    have Hr := hid (show decide (nm = s) = false by simpa using e)
    clear e
    go_enter Tryd.func82, Tryd.ntmps82
    go_wp2_with fail
    go_ret
    exact ⟨ret_b Hr.out, HB.out⟩
set_option maxHeartbeats 1600000 in
theorem idxB_any (A : Option Addr) (n c : Nat) (l : List BH) (s : ByteArray) (p : Nat) (ex : List (Option Nat)) (w : World) (h : EAt w ex A (l.flatMap bhc)) (hl : l.length = n) (hn : n ≤ 1000) (hp : w.cell? ⟨p, 0, none⟩ = some (.string s)) (hpl : p < w.heap.size) :
    Calls Tryd.prog 81 #[.slice A n c, .func (Fn.func 82) #[] #[.pointer (some ⟨p, 0, none⟩)]] w fun e w' => e = .returned (.int .i64 (nmI (l.map BH.name) s)) ∧ Below w.heap.size w w' := by
  have HE := hid h
  have HL := hid hl
  have HP := hid (And.intro hp hpl)
  have HN := hid (show (l.map BH.name).length = n by rw [List.length_map, hl])
  have Hnm := hid (fun (k : Nat) (y : BH) (hy : l[k]? = some y) => show (l.map BH.name)[k]? = some y.name by rw [List.getElem?_map, hy]; rfl)
  clear h hp hpl hl
  generalize hns : l.map BH.name = ns at *
  clear hns
  go_enter Tryd.func81, Tryd.ntmps81
  go_wp2_with fail
  go_loopw [5, 8] (fun _ iv wr => ∃ k : Nat, k ≤ n ∧ iv = .int .i64 k ∧ Hid (∀ (j : Nat) (x : ByteArray), j < k → ns[j]? = some x → x ≠ s) ∧ Hid (Below w.heap.size w wr)) (fun _ iv _ => n - (intOf iv).toNat)
  case atStart => exact ⟨0, by omega, rfl, hid (fun j x h => by omega), hid (Below.refl _ _)⟩
  case round =>
    obtain ⟨k, hk, rfl, hE, hB⟩ := hrel
    by_cases hlt : k < n
    · obtain ⟨y, hy, hym⟩ := get_at HL.out hlt
      obtain ⟨ad, hA, had, hc1, hc2⟩ := BH.cells (HE.out.go (Go2.below hB.out)) hy
      subst hA
      have Hy := hid (Hnm.out k y hy)
      have HC := hid (blockIs_any s y.name y.A y.n y.c p wr ((hB.out.cell (p := ⟨p, 0, none⟩) HP.out.2).trans HP.out.1) (Nat.lt_of_lt_of_le HP.out.2 hB.out.size))
      clear hy hym
      obtain ⟨ynm, yA, yn, yc, yl⟩ := y
      simp only at *
      go_wp2_with fail
      refine HC.out.mono ?_
      rintro e w1 ⟨rfl, hb1⟩
      have HB1 := hid (below_step hB.out hb1)
      clear hb1 hB HC
      cases hd : decide (ynm = s) with
      | true =>
        as_aux_lemma =>
          have Hr := hid (nmI_hit hE.out (by rw [Hy.out]; exact congrArg some (of_decide_eq_true hd)))
          clear hd
          go_wp2_with fail
          go_ret
          exact ⟨ret_i Hr.out, HB1.out⟩
      | false =>
        as_aux_lemma =>
          have Hr := hid (show ∀ (j : Nat) (x : ByteArray), j < k + 1 → ns[j]? = some x → x ≠ s by
            intro j x hj hx
            by_cases e : j = k
            · subst e
              rw [Hy.out] at hx
              rw [← Option.some.inj hx]
              exact of_decide_eq_false hd
            · exact hE.out j x (by omega) hx)
          clear hd
          go_wp2_with fail
          go_roundw
          case rel => exact ⟨k + 1, by omega, by go_num, Hr, HB1⟩
          case measure => simp [intOf]; omega
    · obtain rfl : k = n := by omega
      have Hr := hid (nmI_end HN.out hE.out)
      go_wp2_with fail
      go_ret
      exact ⟨ret_i Hr.out, hB.out⟩
set_option maxHeartbeats 1600000 in
theorem blockIx_any (A : Option Addr) (n c : Nat) (l : List BH) (s : ByteArray) (ex : List (Option Nat)) (w : World) (h : EAt w ex A (l.flatMap bhc)) (hl : l.length = n) (hn : n ≤ 1000) :
    Calls Tryd.prog 53 #[.slice A n c, .string s] w fun e w' => e = .returned (.int .i64 (nmI (l.map BH.name) s)) ∧ Below w.heap.size w w' := by
  have hb := (Below.refl w.heap.size w).alloc (Nat.le_refl _) (.cells #[.string s] 9)
  have HB := hid hb
  have hf := Fb.new w #[.string s] 9
  have HC := hid (idxB_any A n c l s w.heap.size ex _ (h.go (Go2.below hb)) hl hn hf.onec hf.lt)
  clear h hb hf
  go_enter Tryd.func53, Tryd.ntmps53
  go_wp2_with fail
  refine HC.out.mono ?_
  rintro e w1 ⟨rfl, hb1⟩
  have HB1 := hid (below_step HB.out hb1)
  go_wp2_with fail
  go_ret
  exact ⟨rfl, HB1.out⟩
set_option maxHeartbeats 1600000 in
theorem funcIs_any (s nm : ByteArray) (A : Option Addr) (n c p : Nat) (w : World) (hp : w.cell? ⟨p, 0, none⟩ = some (.string s)) (hpl : p < w.heap.size) :
    Calls Tryd.prog 84 #[.agg #[.string nm, .slice A n c], .pointer (some ⟨p, 0, none⟩)] w fun e w' => e = .returned (.bool (decide (nm = s))) ∧ Below w.heap.size w w' := by
  have HB := hid ((Below.refl w.heap.size w).alloc (Nat.le_refl _) (.cells #[.string nm, .slice A n c] 48))
  by_cases e : nm = s
  · subst e
    have Hr := hid (show decide (nm = nm) = true by simp)
    go_enter Tryd.func84, Tryd.ntmps84
    go_wp2_with fail
    go_ret
    exact ⟨ret_b Hr.out, HB.out⟩
  · have t1 := str_ne e
    have Hr := hid (show decide (nm = s) = false by simpa using e)
    clear e
    go_enter Tryd.func84, Tryd.ntmps84
    go_wp2_with fail
    go_ret
    exact ⟨ret_b Hr.out, HB.out⟩
set_option maxHeartbeats 1600000 in
theorem idxF_any (A : Option Addr) (n c : Nat) (l : List FH) (s : ByteArray) (p : Nat) (ex : List (Option Nat)) (w : World) (h : EAt w ex A (l.flatMap fhc)) (hl : l.length = n) (hn : n ≤ 1000) (hp : w.cell? ⟨p, 0, none⟩ = some (.string s)) (hpl : p < w.heap.size) :
    Calls Tryd.prog 83 #[.slice A n c, .func (Fn.func 84) #[] #[.pointer (some ⟨p, 0, none⟩)]] w fun e w' => e = .returned (.int .i64 (nmI (l.map FH.name) s)) ∧ Below w.heap.size w w' := by
  have HE := hid h
  have HL := hid hl
  have HP := hid (And.intro hp hpl)
  have HN := hid (show (l.map FH.name).length = n by rw [List.length_map, hl])
  have Hnm := hid (fun (k : Nat) (y : FH) (hy : l[k]? = some y) => show (l.map FH.name)[k]? = some y.name by rw [List.getElem?_map, hy]; rfl)
  clear h hp hpl hl
  generalize hns : l.map FH.name = ns at *
  clear hns
  go_enter Tryd.func83, Tryd.ntmps83
  go_wp2_with fail
  go_loopw [5, 8] (fun _ iv wr => ∃ k : Nat, k ≤ n ∧ iv = .int .i64 k ∧ Hid (∀ (j : Nat) (x : ByteArray), j < k → ns[j]? = some x → x ≠ s) ∧ Hid (Below w.heap.size w wr)) (fun _ iv _ => n - (intOf iv).toNat)
  case atStart => exact ⟨0, by omega, rfl, hid (fun j x h => by omega), hid (Below.refl _ _)⟩
  case round =>
    obtain ⟨k, hk, rfl, hE, hB⟩ := hrel
    by_cases hlt : k < n
    · obtain ⟨y, hy, hym⟩ := get_at HL.out hlt
      obtain ⟨ad, hA, had, hc1, hc2⟩ := FH.cells (HE.out.go (Go2.below hB.out)) hy
      subst hA
      have Hy := hid (Hnm.out k y hy)
      have HC := hid (funcIs_any s y.name y.A y.n y.c p wr ((hB.out.cell (p := ⟨p, 0, none⟩) HP.out.2).trans HP.out.1) (Nat.lt_of_lt_of_le HP.out.2 hB.out.size))
      clear hy hym
      obtain ⟨ynm, yA, yn, yc, yl⟩ := y
      simp only at *
      go_wp2_with fail
      refine HC.out.mono ?_
      rintro e w1 ⟨rfl, hb1⟩
      have HB1 := hid (below_step hB.out hb1)
      clear hb1 hB HC
      cases hd : decide (ynm = s) with
      | true =>
        as_aux_lemma =>
          have Hr := hid (nmI_hit hE.out (by rw [Hy.out]; exact congrArg some (of_decide_eq_true hd)))
          clear hd
          go_wp2_with fail
          go_ret
          exact ⟨ret_i Hr.out, HB1.out⟩
      | false =>
        as_aux_lemma =>
          have Hr := hid (show ∀ (j : Nat) (x : ByteArray), j < k + 1 → ns[j]? = some x → x ≠ s by
            intro j x hj hx
            by_cases e : j = k
            · subst e
              rw [Hy.out] at hx
              rw [← Option.some.inj hx]
              exact of_decide_eq_false hd
            · exact hE.out j x (by omega) hx)
          clear hd
          go_wp2_with fail
          go_roundw
          case rel => exact ⟨k + 1, by omega, by go_num, Hr, HB1⟩
          case measure => simp [intOf]; omega
    · obtain rfl : k = n := by omega
      have Hr := hid (nmI_end HN.out hE.out)
      go_wp2_with fail
      go_ret
      exact ⟨ret_i Hr.out, hB.out⟩
set_option maxHeartbeats 1600000 in
theorem funcIx_any (A : Option Addr) (n c : Nat) (l : List FH) (s : ByteArray) (ex : List (Option Nat)) (w : World) (h : EAt w ex A (l.flatMap fhc)) (hl : l.length = n) (hn : n ≤ 1000) :
    Calls Tryd.prog 55 #[.slice A n c, .string s] w fun e w' => e = .returned (.int .i64 (nmI (l.map FH.name) s)) ∧ Below w.heap.size w w' := by
  have hb := (Below.refl w.heap.size w).alloc (Nat.le_refl _) (.cells #[.string s] 9)
  have HB := hid hb
  have hf := Fb.new w #[.string s] 9
  have HC := hid (idxF_any A n c l s w.heap.size ex _ (h.go (Go2.below hb)) hl hn hf.onec hf.lt)
  clear h hb hf
  go_enter Tryd.func55, Tryd.ntmps55
  go_wp2_with fail
  refine HC.out.mono ?_
  rintro e w1 ⟨rfl, hb1⟩
  have HB1 := hid (below_step HB.out hb1)
  go_wp2_with fail
  go_ret
  exact ⟨rfl, HB1.out⟩
end Go.Proofs.YtfapgnbnfhpicaaDoor

namespace Go.Proofs.YtfapgnbnfhpicaaDoor
set_option maxRecDepth 20000
set_option linter.unusedVariables false
set_option linter.unusedSimpArgs false
open Go.ChangeShapes Go.WideShapes Go.ChangeAt Go.RowKit

set_option maxHeartbeats 1600000 in
theorem stmtNode_any (a b c : Int) (w : World) : Calls Tryd.prog 33 #[.int .i64 a, .int .i64 b, .int .i64 c] w fun e w' => e = .returned (.agg #[.int .i64 3, .int .i64 a, .int .i64 b, .int .i64 c]) ∧ Below w.heap.size w w' := by
  go_enter Tryd.func33, Tryd.ntmps33
  go_wp2_with fail
  refine bodyPost_ret (v := .agg #[.int .i64 3, .int .i64 a, .int .i64 b, .int .i64 c]) (by simp [results, Tryd.results33, go_sem]) rfl ⟨rfl, ?_⟩
  exact (Below.refl _ _).alloc (Nat.le_refl _) _
set_option maxHeartbeats 1600000 in
theorem entryNode_any (a : Int) (w : World) : Calls Tryd.prog 56 #[.int .i64 a] w fun e w' => e = .returned (.agg #[.int .i64 1, .int .i64 a, .int .i64 (-1), .int .i64 (-1)]) ∧ Below w.heap.size w w' := by
  go_enter Tryd.func56, Tryd.ntmps56
  go_wp2_with fail
  refine bodyPost_ret (v := .agg #[.int .i64 1, .int .i64 a, .int .i64 (-1), .int .i64 (-1)]) (by simp [results, Tryd.results56, go_sem]) rfl ⟨rfl, ?_⟩
  exact (Below.refl _ _).alloc (Nat.le_refl _) _
set_option maxHeartbeats 1600000 in
theorem exitNode_any (a : Int) (w : World) : Calls Tryd.prog 54 #[.int .i64 a] w fun e w' => e = .returned (.agg #[.int .i64 2, .int .i64 a, .int .i64 (-1), .int .i64 (-1)]) ∧ Below w.heap.size w w' := by
  go_enter Tryd.func54, Tryd.ntmps54
  go_wp2_with fail
  refine bodyPost_ret (v := .agg #[.int .i64 2, .int .i64 a, .int .i64 (-1), .int .i64 (-1)]) (by simp [results, Tryd.results54, go_sem]) rfl ⟨rfl, ?_⟩
  exact (Below.refl _ _).alloc (Nat.le_refl _) _

/-- The edges that begin at a statement's node, and the one by which a call returns. -/
def stE (p : List Fnc) (bs : List Blk) (f b j : Nat) (t : Stm) : List (Nd × Nd) :=
  if t.op == 7 || t.op == 8 then t.ts.map fun s => (⟨3, f, b, j⟩, ⟨3, f, nmI (bs.map Blk.name) s, 0⟩)
  else if t.op == 9 then [(⟨3, f, b, j⟩, ⟨2, f, -1, -1⟩)]
  else if t.op == 3 then [(⟨3, f, b, j⟩, ⟨1, nmI (p.map Fnc.name) (t.ts.getD 0 ByteArray.empty), -1, -1⟩), (⟨2, nmI (p.map Fnc.name) (t.ts.getD 0 ByteArray.empty), -1, -1⟩, ⟨4, f, b, j⟩)]
  else [(⟨3, f, b, j⟩, ⟨3, f, b, (j : Int) + 1⟩)]
def numE (L : List Nd) (e : Nd × Nd) : Nat × Nat := (numN L e.1, numN L e.2)
theorem nmI_bd (ns : List ByteArray) (s : ByteArray) : -1 ≤ nmI ns s ∧ nmI ns s ≤ ns.length := by
  unfold nmI
  cases h : ns.findIdx? (fun x => decide (x = s)) with
  | none => simp
  | some i => have := (List.findIdx?_eq_some_iff_findIdx_eq.1 h).1; simp; omega
/-- The builder, and the box of a node beside it. -/
structure Ls1 (w0 : World) (x : PH) (B MB M N G : Nat) (L : List Nd) (nd : Nd) (E : List (Nat × Nat)) (w : World) : Prop where
  bls : Bls w0 x B MB M N L E w
  nb : Fb w G #[.int .i64 nd.kd, .int .i64 nd.fn, .int .i64 nd.bk, .int .i64 nd.st] 53
theorem Ls1.below {w0 w w' : World} {x : PH} {B MB M N G : Nat} {L : List Nd} {nd : Nd} {E : List (Nat × Nat)} (h : Ls1 w0 x B MB M N G L nd E w) (hb : Below w.heap.size w w') : Ls1 w0 x B MB M N G L nd E w' :=
  ⟨h.bls.below hb, h.nb.below hb h.nb.lt⟩
theorem Ls1.conn {w0 w : World} {x : PH} {B MB M N G : Nat} {L : List Nd} {nd : Nd} {E : List (Nat × Nat)} (h : Ls1 w0 x B MB M N G L nd E w) (hN : 1 ≤ N) (hL : L.length = N) (hE : E.length ≤ 1000000) (f t : Nd) (hf : wfN f) (ht : wfN t) :
    Calls Tryd.prog 32 #[.pointer (some ⟨B, 0, none⟩), .agg #[.int .i64 f.kd, .int .i64 f.fn, .int .i64 f.bk, .int .i64 f.st], .agg #[.int .i64 t.kd, .int .i64 t.fn, .int .i64 t.bk, .int .i64 t.st]] w
      fun e w' => e = .returned (.tuple #[]) ∧ Ls1 w0 x B MB M N G L nd (E ++ [numE L (f, t)]) w' ∧ KeepF w w' :=
  (connect_any w0 x B MB M N L E w h.bls hN hL hE f t hf ht).mono fun _ _ ⟨h1, h2, h3⟩ => ⟨h1, ⟨h2, h3.2 G _ 53 (by decide) (by decide) h.nb⟩, h3⟩
theorem wf_small {k f b s : Int} (h1 : -10 ≤ k ∧ k ≤ 1000000) (h2 : -10 ≤ f ∧ f ≤ 1000000) (h3 : -10 ≤ b ∧ b ≤ 1000000) (h4 : -10 ≤ s ∧ s ≤ 1000000) : wfN ⟨k, f, b, s⟩ := by
  unfold wfN; simp only; omega
/-- The same with the statement's box. -/
structure Ls2 (w0 : World) (x : PH) (B MB M N G H : Nat) (L : List Nd) (nd : Nd) (s : SH) (E : List (Nat × Nat)) (w : World) : Prop where
  ls : Ls1 w0 x B MB M N G L nd E w
  sb : Fb w H #[.int .i64 s.t.op, .string s.t.d, .slice s.A s.n s.c, .slice s.B s.m s.c2] 79
theorem Ls2.below {w0 w w' : World} {x : PH} {B MB M N G H : Nat} {L : List Nd} {nd : Nd} {s : SH} {E : List (Nat × Nat)} (h : Ls2 w0 x B MB M N G H L nd s E w) (hb : Below w.heap.size w w') : Ls2 w0 x B MB M N G H L nd s E w' :=
  ⟨h.ls.below hb, h.sb.below hb h.sb.lt⟩
theorem Ls2.conn {w0 w : World} {x : PH} {B MB M N G H : Nat} {L : List Nd} {nd : Nd} {s : SH} {E : List (Nat × Nat)} (h : Ls2 w0 x B MB M N G H L nd s E w) (hN : 1 ≤ N) (hL : L.length = N) (hE : E.length ≤ 1000000) (f t : Nd) (hf : wfN f) (ht : wfN t) :
    Calls Tryd.prog 32 #[.pointer (some ⟨B, 0, none⟩), .agg #[.int .i64 f.kd, .int .i64 f.fn, .int .i64 f.bk, .int .i64 f.st], .agg #[.int .i64 t.kd, .int .i64 t.fn, .int .i64 t.bk, .int .i64 t.st]] w
      fun e w' => e = .returned (.tuple #[]) ∧ Ls2 w0 x B MB M N G H L nd s (E ++ [numE L (f, t)]) w' ∧ KeepF w w' :=
  (h.ls.conn hN hL hE f t hf ht).mono fun _ _ ⟨h1, h2, h3⟩ => ⟨h1, ⟨h2, h3.2 H _ 79 (by decide) (by decide) h.sb⟩, h3⟩

theorem prog_stm2 {w : World} {ex : List (Option Nat)} {x : PH} (h : PHok w ex x) {f b j : Nat} {F : Fnc} {B : Blk} {t : Stm} (h1 : x.p[f]? = some F) (h2 : F.bs[b]? = some B) (h3 : B.ss[j]? = some t) :
    ∃ (y : FH) (z : BH) (s : SH), x.l[f]? = some y ∧ y ∈ x.l ∧ y.l[b]? = some z ∧ z ∈ y.l ∧ z.l[j]? = some s ∧ s ∈ z.l ∧ s.t = t ∧ y.f = F ∧ z.b = B := by
  unfold PH.p at h1
  rw [List.getElem?_map] at h1
  obtain ⟨y, hy, rfl⟩ := Option.map_eq_some_iff.1 h1
  change (y.l.map BH.b)[b]? = some B at h2
  rw [List.getElem?_map] at h2
  obtain ⟨z, hz, rfl⟩ := Option.map_eq_some_iff.1 h2
  change (z.l.map SH.t)[j]? = some t at h3
  rw [List.getElem?_map] at h3
  obtain ⟨s, hs, rfl⟩ := Option.map_eq_some_iff.1 h3
  exact ⟨y, z, s, hy, List.mem_of_getElem? hy, hz, List.mem_of_getElem? hz, hs, List.mem_of_getElem? hs, rfl, rfl, rfl⟩
theorem ts_snoc {L : List Nd} {E : List (Nat × Nat)} {g : ByteArray → Nd × Nd} {ts : List ByteArray} {k : Nat} {s : ByteArray} (h : ts[k]? = some s) : (E ++ ((ts.take k).map g).map (numE L)) ++ [numE L (g s)] = E ++ ((ts.take (k + 1)).map g).map (numE L) := by
  rw [List.take_add_one, h]; simp

def gE (bs : List Blk) (f b j : Nat) (s : ByteArray) : Nd × Nd := (⟨3, f, b, j⟩, ⟨3, f, nmI (bs.map Blk.name) s, 0⟩)

set_option maxHeartbeats 16000000 in
theorem leaveStmt_any (w0 : World) (x : PH) (ex : List (Option Nat)) (B MB M N : Nat) (L : List Nd) (E : List (Nat × Nat)) (w : World) (h : Bls w0 x B MB M N L E w) (hx : PHok w0 ex x) (hN : 1 ≤ N) (hL : L.length = N) (hE : E.length ≤ 900000)
    (f b j : Nat) (F : Fnc) (Bk : Blk) (t : Stm) (h1 : x.p[f]? = some F) (h2 : F.bs[b]? = some Bk) (h3 : Bk.ss[j]? = some t) (hts : (t.op == 3) = true → t.ts ≠ []) :
    Calls Tryd.prog 34 #[.pointer (some ⟨B, 0, none⟩), .agg #[.int .i64 3, .int .i64 f, .int .i64 b, .int .i64 j]] w
      fun e w' => e = .returned (.tuple #[]) ∧ Bls w0 x B MB M N L (E ++ (stE x.p F.bs f b j t).map (numE L)) w' ∧ KeepF w w' := by
  obtain ⟨y, z, s, hy, hym, hz, hzm, hs, hsm, rfl, rfl, rfl⟩ := prog_stm2 hx h1 h2 h3
  have hb0 := (Below.refl w.heap.size w).alloc (Nat.le_refl _) (.cells #[.int .i64 3, .int .i64 (f : Int), .int .i64 (b : Int), .int .i64 (j : Int)] 53)
  have hL1 : Ls1 w0 x B MB M N w.heap.size L ⟨3, f, b, j⟩ E (w.alloc (.cells #[.int .i64 3, .int .i64 (f : Int), .int .i64 (b : Int), .int .i64 (j : Int)] 53)) := ⟨h.below hb0, Fb.new _ _ _⟩
  have HK0 := hid (KeepF.below hb0)
  have HL1 := hid hL1
  have HPx := hid (fun (v : World) (hv : Below w0.heap.size w0 v) => hx.go (Go2.below hv))
  have hPr := hx.go (Go2.below hL1.bls.bel)
  have Hy := hid hy; have Hz := hid hz; have Hs := hid hs
  have Hym := hid hym; have Hzm := hid hzm; have Hsm := hid hsm
  obtain ⟨ad1, hA1, had1, hc1, hc2⟩ := FH.cells hPr.lies hy
  obtain ⟨ad2, hA2, had2, hd1, hd2⟩ := BH.cells (hPr.all y hym).lies hz
  obtain ⟨ad3, hA3, had3, he1, he2, he3, he4⟩ := SH.cells ((hPr.all y hym).all z hzm).lies hs
  have hxn := hPr.few
  have hyn := (hPr.all y hym).few
  have hzn := ((hPr.all y hym).all z hzm).few
  have hfn : f < x.n := by rw [← hPr.len]; exact (List.getElem?_eq_some_iff.1 hy).1
  have hbn : b < y.n := by rw [← (hPr.all y hym).len]; exact (List.getElem?_eq_some_iff.1 hz).1
  have hjn : j < z.n := by rw [← ((hPr.all y hym).all z hzm).len]; exact (List.getElem?_eq_some_iff.1 hs).1
  have Hbln := hid (hPr.all y hym).len
  have Hpln := hid hPr.len
  have hsm2 := (((hPr.all y hym).all z hzm).all s hsm).targets.few
  have Hsln := hid ((((hPr.all y hym).all z hzm).all s hsm).targets.len)
  have HTs := hid (fun (v : World) (hv : Below w0.heap.size w0 v) => ((((HPx.out v hv).all y Hym.out).all z Hzm.out).all s Hsm.out).targets.lies)
  have HBl := hid (fun (v : World) (hv : Below w0.heap.size w0 v) => ((HPx.out v hv).all y Hym.out).lies)
  have HPl := hid (fun (v : World) (hv : Below w0.heap.size w0 v) => (HPx.out v hv).lies)
  have Hbmap := hid (show y.l.map BH.name = y.f.bs.map Blk.name by show _ = (y.l.map BH.b).map Blk.name; rw [List.map_map]; rfl)
  have Hpmap := hid (show x.l.map FH.name = x.p.map Fnc.name by show _ = (x.l.map FH.f).map Fnc.name; rw [List.map_map]; rfl)
  have Hts := hid hts
  clear h hx hPr hL1 hb0 hy hz hs hym hzm hsm h1 h2 h3 hts
  have hG : ∃ G, w.heap.size = G := ⟨_, rfl⟩
  obtain ⟨G, hG⟩ := hG
  rw [hG] at HL1
  have HGe := hid hG
  clear hG
  generalize hpp : x.p = pp at *
  generalize hyf : y.f = yf at *
  clear hpp hyf
  obtain ⟨xA, xn, xc, xl⟩ := x
  obtain ⟨ynm, yA, yn, yc, yl⟩ := y
  obtain ⟨znm, zA, zn, zc, zl⟩ := z
  simp only at *
  subst hA1
  subst hA2
  subst hA3
  go_enter Tryd.func34, Tryd.ntmps34
  have had1' := had1; have had2' := had2; have had3' := had3
  rw [← add_block ad1 (f * 2)] at had1'
  rw [← add_block ad2 (b * 2)] at had2'
  rw [← add_block ad3 (j * 4)] at had3'
  go_wp2_with fail
  rw [HGe.out] at *
  generalize w.alloc (.cells #[.int .i64 3, .int .i64 (f : Int), .int .i64 (b : Int), .int .i64 (j : Int)] 53) = W at *
  obtain ⟨n0, n1, n2, n3⟩ := Fb.four HL1.out.nb
  obtain ⟨b0, b1, b2⟩ := HL1.out.bls.box.thr
  simp only at n0 n1 n2 n3
  go_quiet (fail)
  clear n0 n1 n2 n3 b0 b1 b2
  have hbw : Below W.heap.size W (W.drewN nq) := below_drewN (Below.refl _ _) nq
  have HL2 := hid (HL1.out.below hbw)
  have HK2 := hid (HK0.out.trans (KeepF.below hbw))
  have Hhc := hid (And.intro (And.intro hc1 hc2) (And.intro (And.intro hd1 hd2) (And.intro (And.intro he1 he2) (And.intro he3 he4))))
  clear hbw HL1 HK0 hc1 hc2 hd1 hd2 he1 he2 he3 he4
  have Hx2 := hid (show (((W.drewN nq).cell? (ad1.add (f * 2)) = some (.string ynm) ∧ (W.drewN nq).cell? ⟨(ad1.add (f * 2)).block, (ad1.add (f * 2)).off + 1, none⟩ = some (.slice (some ad2) yn yc)) ∧ ((W.drewN nq).cell? (ad2.add (b * 2)) = some (.string znm) ∧ (W.drewN nq).cell? ⟨(ad2.add (b * 2)).block, (ad2.add (b * 2)).off + 1, none⟩ = some (.slice (some ad3) zn zc)) ∧
    ((W.drewN nq).cell? (ad3.add (j * 4)) = some (.int .i64 s.t.op) ∧ (W.drewN nq).cell? ⟨(ad3.add (j * 4)).block, (ad3.add (j * 4)).off + 1, none⟩ = some (.string s.t.d)) ∧ ((W.drewN nq).cell? ⟨(ad3.add (j * 4)).block, (ad3.add (j * 4)).off + 2, none⟩ = some (.slice s.A s.n s.c) ∧ (W.drewN nq).cell? ⟨(ad3.add (j * 4)).block, (ad3.add (j * 4)).off + 3, none⟩ = some (.slice s.B s.m s.c2))) ∧
    (ad1.block < (W.drewN nq).heap.size ∧ ad2.block < (W.drewN nq).heap.size ∧ ad3.block < (W.drewN nq).heap.size) from ⟨Hhc.out, had1, had2, had3⟩)
  clear Hhc had1 had2 had3 had1' had2' had3'
  generalize W.drewN nq = X at *
  obtain ⟨⟨⟨hc1, hc2⟩, ⟨hd1, hd2⟩, ⟨he1, he2⟩, he3, he4⟩, had1, had2, had3⟩ := Hx2.out
  have had1' : (ad1.add (f * 2)).block < X.heap.size := by rw [add_block]; exact had1
  have had2' : (ad2.add (b * 2)).block < X.heap.size := by rw [add_block]; exact had2
  have had3' : (ad3.add (j * 4)).block < X.heap.size := by rw [add_block]; exact had3
  obtain ⟨n0, n1, n2, n3⟩ := Fb.four HL2.out.nb
  obtain ⟨b0, b1, b2⟩ := HL2.out.bls.box.thr
  have hnl := HL2.out.nb.lt
  simp only at n0 n1 n2 n3
  go_wp2_with fail
  go_cut [5] (fun a wc => ∃ g : Nat, a = .pointer (some ⟨g, 0, none⟩) ∧ Hid (Fb wc g #[.int .i64 s.t.op, .string s.t.d, .slice s.A s.n s.c, .slice s.B s.m s.c2] 79 ∧ Below X.heap.size X wc))
  case first =>
    have HZ1 := hid (And.intro (Fb.drewN (Fb.new X #[.int .i64 s.t.op, .string s.t.d, .slice s.A s.n s.c, .slice s.B s.m s.c2] 79) 1) (below_drewN ((Below.refl X.heap.size X).alloc (Nat.le_refl _) (.cells #[.int .i64 s.t.op, .string s.t.d, .slice s.A s.n s.c, .slice s.B s.m s.c2] 79)) 1))
    go_region
    go_wp2_with fail
    go_meet
    exact ⟨_, rfl, HZ1⟩
  case rest =>
    clear hc1 hc2 hd1 hd2 he1 he2 he3 he4 had1 had2 had3 had1' had2' had3' n0 n1 n2 n3 b0 b1 b2 hnl Hx2
    obtain ⟨Hb, rfl, HZ⟩ := hcut
    have HL3 := hid (show Ls2 w0 ⟨some ad1, xn, xc, xl⟩ B MB M N G Hb L ⟨3, f, b, j⟩ s E wc from ⟨HL2.out.below HZ.out.2, HZ.out.1⟩)
    have HK3 := hid (HK2.out.trans (KeepF.below HZ.out.2))
    clear HZ HL2 HK2
    have HKb := hid (fun (E : List (Nat × Nat)) (v u : World) (h : Ls2 w0 ⟨some ad1, xn, xc, xl⟩ B MB M N G Hb L ⟨3, f, b, j⟩ s E v) (hb : Below v.heap.size v u) => h.below hb)
    have HNb := hid (fun (E : List (Nat × Nat)) (v : World) (h : Ls2 w0 ⟨some ad1, xn, xc, xl⟩ B MB M N G Hb L ⟨3, f, b, j⟩ s E v) => h.ls.nb)
    have HSb := hid (fun (E : List (Nat × Nat)) (v : World) (h : Ls2 w0 ⟨some ad1, xn, xc, xl⟩ B MB M N G Hb L ⟨3, f, b, j⟩ s E v) => h.sb)
    have HBb := hid (fun (E : List (Nat × Nat)) (v : World) (h : Ls2 w0 ⟨some ad1, xn, xc, xl⟩ B MB M N G Hb L ⟨3, f, b, j⟩ s E v) => h.ls.bls.box)
    have HBl2 := hid (fun (E : List (Nat × Nat)) (v : World) (h : Ls2 w0 ⟨some ad1, xn, xc, xl⟩ B MB M N G Hb L ⟨3, f, b, j⟩ s E v) => HBl.out v h.ls.bls.bel)
    have HPl2 := hid (fun (E : List (Nat × Nat)) (v : World) (h : Ls2 w0 ⟨some ad1, xn, xc, xl⟩ B MB M N G Hb L ⟨3, f, b, j⟩ s E v) => HPl.out v h.ls.bls.bel)
    have HTs2 := hid (fun (E : List (Nat × Nat)) (v : World) (h : Ls2 w0 ⟨some ad1, xn, xc, xl⟩ B MB M N G Hb L ⟨3, f, b, j⟩ s E v) => HTs.out v h.ls.bls.bel)
    have HEn := hid (fun (E : List (Nat × Nat)) (v : World) (h : Ls2 w0 ⟨some ad1, xn, xc, xl⟩ B MB M N G Hb L ⟨3, f, b, j⟩ s E v) => h.ls.bls)
    have HCo := hid (fun (E : List (Nat × Nat)) (v : World) (h : Ls2 w0 ⟨some ad1, xn, xc, xl⟩ B MB M N G Hb L ⟨3, f, b, j⟩ s E v) (hE : E.length ≤ 1000000) (f t : Nd) (hf : wfN f) (ht : wfN t) => h.conn hN hL hE f t hf ht)
    simp only at HNb HSb HBb HTs2 HBl2 HPl2
    clear HBl HPl HTs HPx
    have hst : ∃ st, s.t = st := ⟨_, rfl⟩
    obtain ⟨st, hst⟩ := hst
    obtain ⟨sA, sn, sc, sB, sm, sd, st2⟩ := s
    simp only at *
    subst hst
    obtain ⟨op, dd, us, ts⟩ := st2
    simp only at *
    obtain ⟨s0, s1, s2, s3⟩ := Fb.four (HSb.out _ _ HL3.out)
    have Hwn := hid (wf_small (k := 3) (f := (f : Int)) (b := (b : Int)) (s := (j : Int)) (by omega) (by omega) (by omega) (by omega))
    have HB113 := hid (fun (E : List (Nat × Nat)) (v : World) (h : Ls2 w0 ⟨some ad1, xn, xc, xl⟩ B MB M N G Hb L ⟨3, f, b, j⟩ ⟨sA, sn, sc, sB, sm, sd, ⟨op, dd, us, ts⟩⟩ E v) (nm : ByteArray) => show Calls Tryd.prog 53 #[.slice (some ad2) yn yc, .string nm] v (fun e w' => e = .returned (.int .i64 (nmI (yf.bs.map Blk.name) nm)) ∧ Below v.heap.size v w') by rw [← Hbmap.out]; exact blockIx_any (some ad2) yn yc yl nm ex v (HBl2.out _ _ h) Hbln.out (by omega))
    have HB115 := hid (fun (E : List (Nat × Nat)) (v : World) (h : Ls2 w0 ⟨some ad1, xn, xc, xl⟩ B MB M N G Hb L ⟨3, f, b, j⟩ ⟨sA, sn, sc, sB, sm, sd, ⟨op, dd, us, ts⟩⟩ E v) (nm : ByteArray) => show Calls Tryd.prog 55 #[.slice (some ad1) xn xc, .string nm] v (fun e w' => e = .returned (.int .i64 (nmI (pp.map Fnc.name) nm)) ∧ Below v.heap.size v w') by rw [← Hpmap.out]; exact funcIx_any (some ad1) xn xc xl nm ex v (HPl2.out _ _ h) Hpln.out (by omega))
    have Hbd := hid (fun nm => show -10 ≤ nmI (yf.bs.map Blk.name) nm ∧ nmI (yf.bs.map Blk.name) nm ≤ 1000000 by have := nmI_bd (yf.bs.map Blk.name) nm; rw [← Hbmap.out] at this ⊢; rw [List.length_map, Hbln.out] at this; omega)
    have Hpd := hid (fun nm => show -10 ≤ nmI (pp.map Fnc.name) nm ∧ nmI (pp.map Fnc.name) nm ≤ 1000000 by have := nmI_bd (pp.map Fnc.name) nm; rw [← Hpmap.out] at this ⊢; rw [List.length_map, Hpln.out] at this; omega)
    clear HBl2 HPl2 Hbmap Hpmap Hbln Hpln
    cases h7 : (op == 7) with
    | true =>
      as_aux_lemma =>
        have Hst := hid (show stE pp yf.bs f b j ⟨op, dd, us, ts⟩ = ts.map (gE yf.bs f b j) by unfold stE; simp only; rw [h7]; rfl)
        go_wp2_with fail
        clear s0 s1 s2 s3
        go_loopw [7, 48] (fun _ iv wr => ∃ k : Nat, k ≤ sm ∧ iv = .int .i64 k ∧ Hid (Ls2 w0 ⟨some ad1, xn, xc, xl⟩ B MB M N G Hb L ⟨3, f, b, j⟩ ⟨sA, sn, sc, sB, sm, sd, ⟨op, dd, us, ts⟩⟩ (E ++ ((ts.take k).map (gE yf.bs f b j)).map (numE L)) wr) ∧ Hid (KeepF w wr)) (fun _ iv _ => sm - (intOf iv).toNat)
        case atStart => exact ⟨0, by omega, rfl, hid (by simpa using HL3.out), HK3⟩
        case round =>
          clear HL3 HK3
          obtain ⟨k, hkk, rfl, hL, hk⟩ := hrel
          by_cases hlt : k < sm
          · obtain ⟨nm, hnm, -⟩ := get_at Hsln.out hlt
            obtain ⟨ad4, hA4, had4, hc4⟩ := (HTs2.out _ _ hL.out).one (i := k) (u := .string nm) (by rw [List.getElem?_map, hnm]; rfl)
            subst hA4
            have had4l := had4.1
            have Hnm := hid hnm
            have Hwt := hid (wf_small (k := 3) (f := (f : Int)) (b := nmI (yf.bs.map Blk.name) nm) (s := 0) (by omega) (by omega) (Hbd.out nm) (by omega))
            have HEl := hid (show (E ++ ((ts.take k).map (gE yf.bs f b j)).map (numE L)).length ≤ 1000000 by rw [List.length_append, List.length_map, List.length_map, List.length_take]; omega)
            have Hsn := hid (ts_snoc (L := L) (E := E) (g := gE yf.bs f b j) hnm)
            clear hnm had4
            generalize E ++ ((ts.take k).map (gE yf.bs f b j)).map (numE L) = E1 at *
            go_wp2_with fail
            clear hc4 had4l
            have hcur := HKb.out _ _ _ hL.out (Below.refl _ _).drew
            have hkf := hk.out.trans (KeepF.below (Below.refl _ _).drew)
            obtain ⟨n0, n1, n2, n3⟩ := Fb.four (HNb.out _ _ hcur)
            obtain ⟨s0, s1, s2, s3⟩ := Fb.four (HSb.out _ _ hcur)
            obtain ⟨b0, b1, b2⟩ := (HBb.out _ _ hcur).thr
            have hGl := (HNb.out _ _ hcur).lt
            have hHl := (HSb.out _ _ hcur).lt
            have hBl := (HBb.out _ _ hcur).lt
            go_region_law (
              (go_simp
               first
              | (go_at_call 53
                 refine (HB113.out _ _ hcur nm).mono ?_
                 rintro e wn ⟨rfl, hbk⟩
                 have hcur := HKb.out _ _ _ hcur hbk
                 have hkf := hkf.trans (KeepF.below hbk)
                 obtain ⟨n0, n1, n2, n3⟩ := Fb.four (HNb.out _ _ hcur)
                 obtain ⟨s0, s1, s2, s3⟩ := Fb.four (HSb.out _ _ hcur)
                 obtain ⟨b0, b1, b2⟩ := (HBb.out _ _ hcur).thr
                 have hGl := (HNb.out _ _ hcur).lt
                 have hHl := (HSb.out _ _ hcur).lt
                 have hBl := (HBb.out _ _ hcur).lt
                 clear hbk)
              | (go_at_call 33
                 refine (stmtNode_any _ _ _ _).mono ?_
                 rintro e wn ⟨rfl, hbk⟩
                 have hcur := HKb.out _ _ _ hcur hbk
                 have hkf := hkf.trans (KeepF.below hbk)
                 obtain ⟨n0, n1, n2, n3⟩ := Fb.four (HNb.out _ _ hcur)
                 obtain ⟨s0, s1, s2, s3⟩ := Fb.four (HSb.out _ _ hcur)
                 obtain ⟨b0, b1, b2⟩ := (HBb.out _ _ hcur).thr
                 have hGl := (HNb.out _ _ hcur).lt
                 have hHl := (HSb.out _ _ hcur).lt
                 have hBl := (HBb.out _ _ hcur).lt
                 clear hbk)
              | (go_at_call 32
                 refine (HCo.out _ _ hcur HEl.out ⟨3, f, b, j⟩ ⟨3, f, nmI (yf.bs.map Blk.name) nm, 0⟩ Hwn.out Hwt.out).mono ?_
                 rintro e wn ⟨rfl, hcur, hk77⟩
                 have hkf := hkf.trans hk77
                 obtain ⟨n0, n1, n2, n3⟩ := Fb.four (HNb.out _ _ hcur)
                 obtain ⟨s0, s1, s2, s3⟩ := Fb.four (HSb.out _ _ hcur)
                 obtain ⟨b0, b1, b2⟩ := (HBb.out _ _ hcur).thr
                 have hGl := (HNb.out _ _ hcur).lt
                 have hHl := (HSb.out _ _ hcur).lt
                 have hBl := (HBb.out _ _ hcur).lt
                 clear hk77)))
            all_goals
              clear n0 n1 n2 n3 s0 s1 s2 s3 b0 b1 b2 hGl hHl hBl
              have hcur2 := hid (Hsn.out ▸ hcur)
              have hkf2 := hid hkf
              clear hcur hkf
              go_wp2_with fail
              go_roundw
              case rel => exact ⟨k + 1, by omega, by go_num, hcur2, hkf2⟩
              case measure => simp [intOf]; omega
          · obtain rfl : k = sm := by omega
            have HF := hid (show Bls w0 ⟨some ad1, xn, xc, xl⟩ B MB M N L (E ++ (stE pp yf.bs f b j ⟨op, dd, us, ts⟩).map (numE L)) wr from by
              have := HEn.out _ _ hL.out
              rw [List.take_of_length_le (by rw [Hsln.out]; omega)] at this
              rw [Hst.out]; exact this)
            clear hL
            go_wp2_with fail
            exact bodyPost_end (v := .tuple #[]) (by simp [results, Tryd.results34]) rfl ⟨rfl, HF.out, hk.out⟩
    | false =>
      cases h8 : (op == 8) with
      | true =>
        as_aux_lemma =>
          have Hst := hid (show stE pp yf.bs f b j ⟨op, dd, us, ts⟩ = ts.map (gE yf.bs f b j) by unfold stE; simp only; rw [h7, h8]; rfl)
          go_wp2_with fail
          clear s0 s1 s2 s3
          go_loopw [7, 48] (fun _ iv wr => ∃ k : Nat, k ≤ sm ∧ iv = .int .i64 k ∧ Hid (Ls2 w0 ⟨some ad1, xn, xc, xl⟩ B MB M N G Hb L ⟨3, f, b, j⟩ ⟨sA, sn, sc, sB, sm, sd, ⟨op, dd, us, ts⟩⟩ (E ++ ((ts.take k).map (gE yf.bs f b j)).map (numE L)) wr) ∧ Hid (KeepF w wr)) (fun _ iv _ => sm - (intOf iv).toNat)
          case atStart => exact ⟨0, by omega, rfl, hid (by simpa using HL3.out), HK3⟩
          case round =>
            clear HL3 HK3
            obtain ⟨k, hkk, rfl, hL, hk⟩ := hrel
            by_cases hlt : k < sm
            · obtain ⟨nm, hnm, -⟩ := get_at Hsln.out hlt
              obtain ⟨ad4, hA4, had4, hc4⟩ := (HTs2.out _ _ hL.out).one (i := k) (u := .string nm) (by rw [List.getElem?_map, hnm]; rfl)
              subst hA4
              have had4l := had4.1
              have Hnm := hid hnm
              have Hwt := hid (wf_small (k := 3) (f := (f : Int)) (b := nmI (yf.bs.map Blk.name) nm) (s := 0) (by omega) (by omega) (Hbd.out nm) (by omega))
              have HEl := hid (show (E ++ ((ts.take k).map (gE yf.bs f b j)).map (numE L)).length ≤ 1000000 by rw [List.length_append, List.length_map, List.length_map, List.length_take]; omega)
              have Hsn := hid (ts_snoc (L := L) (E := E) (g := gE yf.bs f b j) hnm)
              clear hnm had4
              generalize E ++ ((ts.take k).map (gE yf.bs f b j)).map (numE L) = E1 at *
              go_wp2_with fail
              clear hc4 had4l
              have hcur := HKb.out _ _ _ hL.out (Below.refl _ _).drew
              have hkf := hk.out.trans (KeepF.below (Below.refl _ _).drew)
              obtain ⟨n0, n1, n2, n3⟩ := Fb.four (HNb.out _ _ hcur)
              obtain ⟨s0, s1, s2, s3⟩ := Fb.four (HSb.out _ _ hcur)
              obtain ⟨b0, b1, b2⟩ := (HBb.out _ _ hcur).thr
              have hGl := (HNb.out _ _ hcur).lt
              have hHl := (HSb.out _ _ hcur).lt
              have hBl := (HBb.out _ _ hcur).lt
              go_region_law (
                (go_simp
                 first
                | (go_at_call 53
                   refine (HB113.out _ _ hcur nm).mono ?_
                   rintro e wn ⟨rfl, hbk⟩
                   have hcur := HKb.out _ _ _ hcur hbk
                   have hkf := hkf.trans (KeepF.below hbk)
                   obtain ⟨n0, n1, n2, n3⟩ := Fb.four (HNb.out _ _ hcur)
                   obtain ⟨s0, s1, s2, s3⟩ := Fb.four (HSb.out _ _ hcur)
                   obtain ⟨b0, b1, b2⟩ := (HBb.out _ _ hcur).thr
                   have hGl := (HNb.out _ _ hcur).lt
                   have hHl := (HSb.out _ _ hcur).lt
                   have hBl := (HBb.out _ _ hcur).lt
                   clear hbk)
                | (go_at_call 33
                   refine (stmtNode_any _ _ _ _).mono ?_
                   rintro e wn ⟨rfl, hbk⟩
                   have hcur := HKb.out _ _ _ hcur hbk
                   have hkf := hkf.trans (KeepF.below hbk)
                   obtain ⟨n0, n1, n2, n3⟩ := Fb.four (HNb.out _ _ hcur)
                   obtain ⟨s0, s1, s2, s3⟩ := Fb.four (HSb.out _ _ hcur)
                   obtain ⟨b0, b1, b2⟩ := (HBb.out _ _ hcur).thr
                   have hGl := (HNb.out _ _ hcur).lt
                   have hHl := (HSb.out _ _ hcur).lt
                   have hBl := (HBb.out _ _ hcur).lt
                   clear hbk)
                | (go_at_call 32
                   refine (HCo.out _ _ hcur HEl.out ⟨3, f, b, j⟩ ⟨3, f, nmI (yf.bs.map Blk.name) nm, 0⟩ Hwn.out Hwt.out).mono ?_
                   rintro e wn ⟨rfl, hcur, hk77⟩
                   have hkf := hkf.trans hk77
                   obtain ⟨n0, n1, n2, n3⟩ := Fb.four (HNb.out _ _ hcur)
                   obtain ⟨s0, s1, s2, s3⟩ := Fb.four (HSb.out _ _ hcur)
                   obtain ⟨b0, b1, b2⟩ := (HBb.out _ _ hcur).thr
                   have hGl := (HNb.out _ _ hcur).lt
                   have hHl := (HSb.out _ _ hcur).lt
                   have hBl := (HBb.out _ _ hcur).lt
                   clear hk77)))
              all_goals
                clear n0 n1 n2 n3 s0 s1 s2 s3 b0 b1 b2 hGl hHl hBl
                have hcur2 := hid (Hsn.out ▸ hcur)
                have hkf2 := hid hkf
                clear hcur hkf
                go_wp2_with fail
                go_roundw
                case rel => exact ⟨k + 1, by omega, by go_num, hcur2, hkf2⟩
                case measure => simp [intOf]; omega
            · obtain rfl : k = sm := by omega
              have HF := hid (show Bls w0 ⟨some ad1, xn, xc, xl⟩ B MB M N L (E ++ (stE pp yf.bs f b j ⟨op, dd, us, ts⟩).map (numE L)) wr from by
                have := HEn.out _ _ hL.out
                rw [List.take_of_length_le (by rw [Hsln.out]; omega)] at this
                rw [Hst.out]; exact this)
              clear hL
              go_wp2_with fail
              exact bodyPost_end (v := .tuple #[]) (by simp [results, Tryd.results34]) rfl ⟨rfl, HF.out, hk.out⟩
      | false =>
        cases h9 : (op == 9) with
        | true =>
          as_aux_lemma =>
            have Hst := hid (show stE pp yf.bs f b j ⟨op, dd, us, ts⟩ = [(⟨3, f, b, j⟩, ⟨2, f, -1, -1⟩)] by unfold stE; simp only; rw [h7, h8, h9]; rfl)
            have hL := HL3
            have hk := HK3
            have hjw : IntKind.i64.wrap ((j : Int) + 1) = (j : Int) + 1 := IntWalk.i64_in _ (by omega)
            go_wp2_with fail
            clear s0 s1 s2 s3 HL3 HK3
            have hcur := HKb.out _ _ _ hL.out (Below.refl _ _).drew
            have hkf := hk.out.trans (KeepF.below (Below.refl _ _).drew)
            obtain ⟨n0, n1, n2, n3⟩ := Fb.four (HNb.out _ _ hcur)
            obtain ⟨s0, s1, s2, s3⟩ := Fb.four (HSb.out _ _ hcur)
            obtain ⟨b0, b1, b2⟩ := (HBb.out _ _ hcur).thr
            have hGl := (HNb.out _ _ hcur).lt
            have hHl := (HSb.out _ _ hcur).lt
            have hBl := (HBb.out _ _ hcur).lt
            go_region_law (
              (go_simp
               first
                | (go_at_call 54
                   refine (exitNode_any _ _).mono ?_
                   rintro e wn ⟨rfl, hbk⟩
                   have hcur := HKb.out _ _ _ hcur hbk
                   have hkf := hkf.trans (KeepF.below hbk)
                   obtain ⟨n0, n1, n2, n3⟩ := Fb.four (HNb.out _ _ hcur)
                   obtain ⟨s0, s1, s2, s3⟩ := Fb.four (HSb.out _ _ hcur)
                   obtain ⟨b0, b1, b2⟩ := (HBb.out _ _ hcur).thr
                   have hGl := (HNb.out _ _ hcur).lt
                   have hHl := (HSb.out _ _ hcur).lt
                   have hBl := (HBb.out _ _ hcur).lt
                   clear hbk)
                | (go_at_call 32
                   refine (HCo.out _ _ hcur (by omega) ⟨3, f, b, j⟩ ⟨2, f, -1, -1⟩ Hwn.out (wf_small (by omega) (by omega) (by omega) (by omega))).mono ?_
                   rintro e wn ⟨rfl, hcur, hk77⟩
                   have hkf := hkf.trans hk77
                   obtain ⟨n0, n1, n2, n3⟩ := Fb.four (HNb.out _ _ hcur)
                   obtain ⟨s0, s1, s2, s3⟩ := Fb.four (HSb.out _ _ hcur)
                   obtain ⟨b0, b1, b2⟩ := (HBb.out _ _ hcur).thr
                   have hGl := (HNb.out _ _ hcur).lt
                   have hHl := (HSb.out _ _ hcur).lt
                   have hBl := (HBb.out _ _ hcur).lt
                   clear hk77)))
            all_goals
              have HF := hid (show Bls w0 ⟨some ad1, xn, xc, xl⟩ B MB M N L (E ++ (stE pp yf.bs f b j ⟨op, dd, us, ts⟩).map (numE L)) _ from by rw [Hst.out]; exact HEn.out _ _ hcur)
              clear n0 n1 n2 n3 s0 s1 s2 s3 b0 b1 b2 hGl hHl hBl
              go_wp2_with fail
              exact bodyPost_end (v := .tuple #[]) (by simp [results, Tryd.results34]) rfl ⟨rfl, HF.out, hkf⟩
        | false =>
          cases h3 : (op == 3) with
          | true =>
            as_aux_lemma =>
              have hne := Hts.out h3
              have hlen0 : 0 < sm := by rw [← Hsln.out]; exact List.length_pos_iff.2 hne
              obtain ⟨nm, hnm, -⟩ := get_at Hsln.out hlen0
              have Hst := hid (show stE pp yf.bs f b j ⟨op, dd, us, ts⟩ = [(⟨3, f, b, j⟩, ⟨1, nmI (pp.map Fnc.name) nm, -1, -1⟩), (⟨2, nmI (pp.map Fnc.name) nm, -1, -1⟩, ⟨4, f, b, j⟩)] by
                unfold stE; simp only; rw [h7, h8, h9, h3, show ts.getD 0 ByteArray.empty = nm by rw [List.getD_eq_getElem?_getD, hnm]; rfl]; rfl)
              obtain ⟨ad4, hA4, had4, hc4⟩ := (HTs2.out _ _ HL3.out).one (i := 0) (u := .string nm) (by rw [List.getElem?_map, hnm]; rfl)
              subst hA4
              rw [show ad4.add 0 = ad4 by unfold Addr.add; simp] at hc4
              have Hw1 := hid (wf_small (k := 1) (f := nmI (pp.map Fnc.name) nm) (b := -1) (s := -1) (by omega) (Hpd.out nm) (by omega) (by omega))
              have Hw2 := hid (wf_small (k := 2) (f := nmI (pp.map Fnc.name) nm) (b := -1) (s := -1) (by omega) (Hpd.out nm) (by omega) (by omega))
              have Hw4 := hid (wf_small (k := 4) (f := (f : Int)) (b := (b : Int)) (s := (j : Int)) (by omega) (by omega) (by omega) (by omega))
              have Hnc := hid (fun (v : World) (h : Ls2 w0 ⟨some ad1, xn, xc, xl⟩ B MB M N G Hb L ⟨3, f, b, j⟩ ⟨sA, sn, sc, some ad4, sm, sd, ⟨op, dd, us, ts⟩⟩ E v) => (show ad4.block < v.heap.size ∧ v.cell? ad4 = some (.string nm) by
                obtain ⟨ad5, hA5, had5, hc5⟩ := (HTs2.out _ _ h).one (i := 0) (u := .string nm) (by rw [List.getElem?_map, hnm]; rfl)
                obtain rfl := Option.some.inj hA5
                rw [show ad4.add 0 = ad4 by unfold Addr.add; simp] at hc5
                exact ⟨had5.1, hc5⟩))
              clear hnm hc4 had4 hne
              have hcIe : ∃ cI, nmI (pp.map Fnc.name) nm = cI := ⟨_, rfl⟩
              obtain ⟨cI, hcIe⟩ := hcIe
              have HB115n := hid (fun (v : World) (h : Ls2 w0 ⟨some ad1, xn, xc, xl⟩ B MB M N G Hb L ⟨3, f, b, j⟩ ⟨sA, sn, sc, some ad4, sm, sd, ⟨op, dd, us, ts⟩⟩ E v) => HB115.out E v h nm)
              rw [hcIe] at Hst Hw1 Hw2 HB115n
              clear hcIe
              have hL := HL3
              have hk := HK3
              clear HL3 HK3
              go_upto_region 15 with fail
              clear s0 s1 s2 s3
              go_cut [8] (fun v wd => v = .int .i64 cI ∧ Hid (Ls2 w0 ⟨some ad1, xn, xc, xl⟩ B MB M N G Hb L ⟨3, f, b, j⟩ ⟨sA, sn, sc, some ad4, sm, sd, ⟨op, dd, us, ts⟩⟩ E wd) ∧ Hid (KeepF w wd))
              case first =>
                have hcur := HKb.out _ _ _ hL.out (Below.refl _ _).drew
                have hkf := hk.out.trans (KeepF.below (Below.refl _ _).drew)
                obtain ⟨n0, n1, n2, n3⟩ := Fb.four (HNb.out _ _ hcur)
                obtain ⟨s0, s1, s2, s3⟩ := Fb.four (HSb.out _ _ hcur)
                obtain ⟨b0, b1, b2⟩ := (HBb.out _ _ hcur).thr
                have hGl := (HNb.out _ _ hcur).lt
                have hHl := (HSb.out _ _ hcur).lt
                have hBl := (HBb.out _ _ hcur).lt
                obtain ⟨hnl, hnc⟩ := Hnc.out _ hcur
                go_region_law (
                  (go_simp
                   first
                  | (go_at_call 55
                     refine (HB115n.out _ hcur).mono ?_
                     rintro e wn ⟨rfl, hbk⟩
                     have hcur := HKb.out _ _ _ hcur hbk
                     have hkf := hkf.trans (KeepF.below hbk)
                     obtain ⟨n0, n1, n2, n3⟩ := Fb.four (HNb.out _ _ hcur)
                     obtain ⟨s0, s1, s2, s3⟩ := Fb.four (HSb.out _ _ hcur)
                     obtain ⟨b0, b1, b2⟩ := (HBb.out _ _ hcur).thr
                     have hGl := (HNb.out _ _ hcur).lt
                     have hHl := (HSb.out _ _ hcur).lt
                     have hBl := (HBb.out _ _ hcur).lt
                     clear hbk)))
                all_goals
                  clear n0 n1 n2 n3 s0 s1 s2 s3 b0 b1 b2 hGl hHl hBl
                  go_wp2_with fail
                  go_meet
                  exact ⟨rfl, hid hcur, hid hkf⟩
              case rest =>
                clear hL hk
                obtain ⟨rfl, hL, hk⟩ := hcut
                go_upto_region 16 with fail
                go_cut [] (fun wd => Hid (Ls2 w0 ⟨some ad1, xn, xc, xl⟩ B MB M N G Hb L ⟨3, f, b, j⟩ ⟨sA, sn, sc, some ad4, sm, sd, ⟨op, dd, us, ts⟩⟩ (E ++ [numE L (⟨3, f, b, j⟩, ⟨1, cI, -1, -1⟩)]) wd) ∧ Hid (KeepF w wd))
                case first =>
                  have hcur := HKb.out _ _ _ hL.out (Below.refl _ _).drew
                  have hkf := hk.out.trans (KeepF.below (Below.refl _ _).drew)
                  obtain ⟨n0, n1, n2, n3⟩ := Fb.four (HNb.out _ _ hcur)
                  obtain ⟨s0, s1, s2, s3⟩ := Fb.four (HSb.out _ _ hcur)
                  obtain ⟨b0, b1, b2⟩ := (HBb.out _ _ hcur).thr
                  have hGl := (HNb.out _ _ hcur).lt
                  have hHl := (HSb.out _ _ hcur).lt
                  have hBl := (HBb.out _ _ hcur).lt
                  go_region_law (
                    (go_simp
                     first
                    | (go_at_call 56
                       refine (entryNode_any _ _).mono ?_
                       rintro e wn ⟨rfl, hbk⟩
                       have hcur := HKb.out _ _ _ hcur hbk
                       have hkf := hkf.trans (KeepF.below hbk)
                       obtain ⟨n0, n1, n2, n3⟩ := Fb.four (HNb.out _ _ hcur)
                       obtain ⟨s0, s1, s2, s3⟩ := Fb.four (HSb.out _ _ hcur)
                       obtain ⟨b0, b1, b2⟩ := (HBb.out _ _ hcur).thr
                       have hGl := (HNb.out _ _ hcur).lt
                       have hHl := (HSb.out _ _ hcur).lt
                       have hBl := (HBb.out _ _ hcur).lt
                       clear hbk)
                    | (go_at_call 32
                       refine (HCo.out _ _ hcur (by omega) ⟨3, f, b, j⟩ ⟨1, cI, -1, -1⟩ Hwn.out Hw1.out).mono ?_
                       rintro e wn ⟨rfl, hcur, hk77⟩
                       have hkf := hkf.trans hk77
                       obtain ⟨n0, n1, n2, n3⟩ := Fb.four (HNb.out _ _ hcur)
                       obtain ⟨s0, s1, s2, s3⟩ := Fb.four (HSb.out _ _ hcur)
                       obtain ⟨b0, b1, b2⟩ := (HBb.out _ _ hcur).thr
                       have hGl := (HNb.out _ _ hcur).lt
                       have hHl := (HSb.out _ _ hcur).lt
                       have hBl := (HBb.out _ _ hcur).lt
                       clear hk77)))
                  all_goals
                    clear n0 n1 n2 n3 s0 s1 s2 s3 b0 b1 b2 hGl hHl hBl
                    go_wp2_with fail
                    go_meet
                    exact ⟨hid hcur, hid hkf⟩
                case rest =>
                  clear hL hk
                  obtain ⟨hL, hk⟩ := hcut
                  have HEl := hid (show (E ++ [numE L (⟨3, f, b, j⟩, ⟨1, cI, -1, -1⟩)]).length ≤ 1000000 by simp; omega)
                  go_upto_region 17 with fail
                  have hcur := HKb.out _ _ _ hL.out (Below.refl _ _).drew
                  have hkf := hk.out.trans (KeepF.below (Below.refl _ _).drew)
                  obtain ⟨n0, n1, n2, n3⟩ := Fb.four (HNb.out _ _ hcur)
                  obtain ⟨s0, s1, s2, s3⟩ := Fb.four (HSb.out _ _ hcur)
                  obtain ⟨b0, b1, b2⟩ := (HBb.out _ _ hcur).thr
                  have hGl := (HNb.out _ _ hcur).lt
                  have hHl := (HSb.out _ _ hcur).lt
                  have hBl := (HBb.out _ _ hcur).lt
                  go_region_law (
                    (go_simp
                     first
                    | (go_at_call 54
                       refine (exitNode_any _ _).mono ?_
                       rintro e wn ⟨rfl, hbk⟩
                       have hcur := HKb.out _ _ _ hcur hbk
                       have hkf := hkf.trans (KeepF.below hbk)
                       obtain ⟨n0, n1, n2, n3⟩ := Fb.four (HNb.out _ _ hcur)
                       obtain ⟨s0, s1, s2, s3⟩ := Fb.four (HSb.out _ _ hcur)
                       obtain ⟨b0, b1, b2⟩ := (HBb.out _ _ hcur).thr
                       have hGl := (HNb.out _ _ hcur).lt
                       have hHl := (HSb.out _ _ hcur).lt
                       have hBl := (HBb.out _ _ hcur).lt
                       clear hbk)
                    | (go_at_call 32
                       refine (HCo.out _ _ hcur HEl.out ⟨2, cI, -1, -1⟩ ⟨4, f, b, j⟩ Hw2.out Hw4.out).mono ?_
                       rintro e wn ⟨rfl, hcur, hk77⟩
                       have hkf := hkf.trans hk77
                       obtain ⟨n0, n1, n2, n3⟩ := Fb.four (HNb.out _ _ hcur)
                       obtain ⟨s0, s1, s2, s3⟩ := Fb.four (HSb.out _ _ hcur)
                       obtain ⟨b0, b1, b2⟩ := (HBb.out _ _ hcur).thr
                       have hGl := (HNb.out _ _ hcur).lt
                       have hHl := (HSb.out _ _ hcur).lt
                       have hBl := (HBb.out _ _ hcur).lt
                       clear hk77)))
                  all_goals
                    have HF := hid (show Bls w0 ⟨some ad1, xn, xc, xl⟩ B MB M N L (E ++ (stE pp yf.bs f b j ⟨op, dd, us, ts⟩).map (numE L)) _ from by
                      rw [Hst.out]; have := HEn.out _ _ hcur; rw [List.append_assoc] at this; exact this)
                    clear n0 n1 n2 n3 s0 s1 s2 s3 b0 b1 b2 hGl hHl hBl
                    go_wp2_with fail
                    exact bodyPost_end (v := .tuple #[]) (by simp [results, Tryd.results34]) rfl ⟨rfl, HF.out, hkf⟩
          | false =>
            as_aux_lemma =>
              have Hst := hid (show stE pp yf.bs f b j ⟨op, dd, us, ts⟩ = [(⟨3, f, b, j⟩, ⟨3, f, b, (j : Int) + 1⟩)] by unfold stE; simp only; rw [h7, h8, h9, h3]; rfl)
              have hL := HL3
              have hk := HK3
              have hjw : IntKind.i64.wrap ((j : Int) + 1) = (j : Int) + 1 := IntWalk.i64_in _ (by omega)
              go_wp2_with fail
              clear s0 s1 s2 s3 HL3 HK3
              have hcur := HKb.out _ _ _ hL.out (Below.refl _ _).drew
              have hkf := hk.out.trans (KeepF.below (Below.refl _ _).drew)
              obtain ⟨n0, n1, n2, n3⟩ := Fb.four (HNb.out _ _ hcur)
              obtain ⟨s0, s1, s2, s3⟩ := Fb.four (HSb.out _ _ hcur)
              obtain ⟨b0, b1, b2⟩ := (HBb.out _ _ hcur).thr
              have hGl := (HNb.out _ _ hcur).lt
              have hHl := (HSb.out _ _ hcur).lt
              have hBl := (HBb.out _ _ hcur).lt
              go_region_law (
                (go_simp
                 first
                  | (go_at_call 33
                     refine (stmtNode_any _ _ _ _).mono ?_
                     rintro e wn ⟨rfl, hbk⟩
                     have hcur := HKb.out _ _ _ hcur hbk
                     have hkf := hkf.trans (KeepF.below hbk)
                     obtain ⟨n0, n1, n2, n3⟩ := Fb.four (HNb.out _ _ hcur)
                     obtain ⟨s0, s1, s2, s3⟩ := Fb.four (HSb.out _ _ hcur)
                     obtain ⟨b0, b1, b2⟩ := (HBb.out _ _ hcur).thr
                     have hGl := (HNb.out _ _ hcur).lt
                     have hHl := (HSb.out _ _ hcur).lt
                     have hBl := (HBb.out _ _ hcur).lt
                     clear hbk)
                  | (go_at_call 32
                     refine (HCo.out _ _ hcur (by omega) ⟨3, f, b, j⟩ ⟨3, f, b, (j : Int) + 1⟩ Hwn.out (wf_small (by omega) (by omega) (by omega) (by omega))).mono ?_
                     rintro e wn ⟨rfl, hcur, hk77⟩
                     have hkf := hkf.trans hk77
                     obtain ⟨n0, n1, n2, n3⟩ := Fb.four (HNb.out _ _ hcur)
                     obtain ⟨s0, s1, s2, s3⟩ := Fb.four (HSb.out _ _ hcur)
                     obtain ⟨b0, b1, b2⟩ := (HBb.out _ _ hcur).thr
                     have hGl := (HNb.out _ _ hcur).lt
                     have hHl := (HSb.out _ _ hcur).lt
                     have hBl := (HBb.out _ _ hcur).lt
                     clear hk77)))
              all_goals
                have HF := hid (show Bls w0 ⟨some ad1, xn, xc, xl⟩ B MB M N L (E ++ (stE pp yf.bs f b j ⟨op, dd, us, ts⟩).map (numE L)) _ from by rw [Hst.out]; exact HEn.out _ _ hcur)
                clear n0 n1 n2 n3 s0 s1 s2 s3 b0 b1 b2 hGl hHl hBl
                go_wp2_with fail
                exact bodyPost_end (v := .tuple #[]) (by simp [results, Tryd.results34]) rfl ⟨rfl, HF.out, hkf⟩

/-- The edges that leave adds. -/
def lvE (p : List Fnc) (n : Nd) : List (Nd × Nd) :=
  if n.kd == 1 then [(n, ⟨3, n.fn, 0, 0⟩)]
  else if n.kd == 3 then (match p[n.fn.toNat]? with | some F => (match F.bs[n.bk.toNat]? with | some b => (match b.ss[n.st.toNat]? with | some t => stE p F.bs n.fn.toNat n.bk.toNat n.st.toNat t | none => []) | none => []) | none => [])
  else if n.kd == 4 then [(n, ⟨3, n.fn, n.bk, n.st + 1⟩)]
  else []
end Go.Proofs.YtfapgnbnfhpicaaDoor

namespace Go.Proofs.YtfapgnbnfhpicaaDoor
set_option maxRecDepth 20000
set_option linter.unusedVariables false
set_option linter.unusedSimpArgs false
open Go.ChangeShapes Go.WideShapes Go.ChangeAt Go.RowKit

/-- A node of a program. -/
inductive NdOk (p : List Fnc) : Nd → Prop
  | entry (f : Nat) : f ≤ 1000 → NdOk p ⟨1, f, -1, -1⟩
  | exit (f : Nat) : f ≤ 1000 → NdOk p ⟨2, f, -1, -1⟩
  | stmt (f b j : Nat) (F : Fnc) (B : Blk) (t : Stm) : p[f]? = some F → F.bs[b]? = some B → B.ss[j]? = some t → ((t.op == 3) = true → t.ts ≠ []) → NdOk p ⟨3, f, b, j⟩
  | retn (f b j : Nat) : f ≤ 1000 → b ≤ 1000 → j ≤ 1000 → NdOk p ⟨4, f, b, j⟩
theorem lv_stmt {p : List Fnc} {f b j : Nat} {F : Fnc} {B : Blk} {t : Stm} (h1 : p[f]? = some F) (h2 : F.bs[b]? = some B) (h3 : B.ss[j]? = some t) : lvE p ⟨3, f, b, j⟩ = stE p F.bs f b j t := by
  unfold lvE
  simp [h1, h2, h3]
set_option maxHeartbeats 6400000 in
theorem leave_any (w0 : World) (x : PH) (ex : List (Option Nat)) (B MB M N : Nat) (L : List Nd) (E : List (Nat × Nat)) (w : World) (h : Bls w0 x B MB M N L E w) (hx : PHok w0 ex x) (hN : 1 ≤ N) (hL : L.length = N) (hE : E.length ≤ 900000)
    (n : Nd) (hn : NdOk x.p n) :
    Calls Tryd.prog 16 #[.pointer (some ⟨B, 0, none⟩), .agg #[.int .i64 n.kd, .int .i64 n.fn, .int .i64 n.bk, .int .i64 n.st]] w
      fun e w' => e = .returned (.tuple #[]) ∧ Bls w0 x B MB M N L (E ++ (lvE x.p n).map (numE L)) w' ∧ KeepF w w' := by
  have hb0 := (Below.refl w.heap.size w).alloc (Nat.le_refl _) (.cells #[.int .i64 n.kd, .int .i64 n.fn, .int .i64 n.bk, .int .i64 n.st] 53)
  have hL1 : Ls1 w0 x B MB M N w.heap.size L n E (w.alloc (.cells #[.int .i64 n.kd, .int .i64 n.fn, .int .i64 n.bk, .int .i64 n.st] 53)) := ⟨h.below hb0, Fb.new _ _ _⟩
  have HK0 := hid (KeepF.below hb0)
  have HL1 := hid hL1
  have HX := hid hx
  clear h hL1 hb0 hx
  have hG : ∃ G, w.heap.size = G := ⟨_, rfl⟩
  obtain ⟨G, hG⟩ := hG
  rw [hG] at HL1
  have HGe := hid hG
  clear hG
  cases hn with
  | entry f hf =>
    as_aux_lemma =>
      have HCo := hid (fun (E : List (Nat × Nat)) (v : World) (h : Ls1 w0 x B MB M N G L ⟨1, f, -1, -1⟩ E v) (hE : E.length ≤ 1000000) (a t : Nd) (ha : wfN a) (ht : wfN t) => h.conn hN hL hE a t ha ht)
      have HKb := hid (fun (E : List (Nat × Nat)) (v u : World) (h : Ls1 w0 x B MB M N G L ⟨1, f, -1, -1⟩ E v) (hb : Below v.heap.size v u) => h.below hb)
      have HNb := hid (fun (E : List (Nat × Nat)) (v : World) (h : Ls1 w0 x B MB M N G L ⟨1, f, -1, -1⟩ E v) => h.nb)
      have Hst := hid (show (lvE x.p ⟨1, f, -1, -1⟩).map (numE L) = [numE L (⟨1, f, -1, -1⟩, ⟨3, f, 0, 0⟩)] by unfold lvE; rfl)
      simp only at *
      obtain ⟨n0, n1, n2, n3⟩ := Fb.four (HNb.out _ _ HL1.out)
      have hGl := (HNb.out _ _ HL1.out).lt
      go_enter Tryd.func16, Tryd.ntmps16
      rw [← HGe.out] at n0 n1 n2 n3 hGl
      go_wp2_with fail
      clear n0 n1 n2 n3 hGl
      rw [HGe.out]
      generalize w.alloc (.cells #[.int .i64 1, .int .i64 (f : Int), .int .i64 (-1), .int .i64 (-1)] 53) = W at *
      have hcur := HKb.out _ _ _ HL1.out (Below.refl _ _).drew
      have hkf := HK0.out.trans (KeepF.below (Below.refl _ _).drew)
      obtain ⟨n0, n1, n2, n3⟩ := Fb.four (HNb.out _ _ hcur)
      have hGl := (HNb.out _ _ hcur).lt
      clear HL1 HK0
      go_region_law (
        (go_simp
         first
         | (go_at_call 33
            refine (stmtNode_any _ _ _ _).mono ?_
            rintro e wn ⟨rfl, hbk⟩
            have hcur := HKb.out _ _ _ hcur hbk
            have hkf := hkf.trans (KeepF.below hbk)
            obtain ⟨n0, n1, n2, n3⟩ := Fb.four (HNb.out _ _ hcur)
            have hGl := (HNb.out _ _ hcur).lt
            clear hbk)
         | (go_at_call 32
            refine (HCo.out _ _ hcur (by omega) ⟨1, f, -1, -1⟩ ⟨3, f, 0, 0⟩ (wf_small (by omega) (by omega) (by omega) (by omega)) (wf_small (by omega) (by omega) (by omega) (by omega))).mono ?_
            rintro e wn ⟨rfl, hcur, hk77⟩
            have hkf := hkf.trans hk77
            obtain ⟨n0, n1, n2, n3⟩ := Fb.four (HNb.out _ _ hcur)
            have hGl := (HNb.out _ _ hcur).lt
            clear hk77)))
      all_goals
        have HF := hid (show Bls w0 x B MB M N L (E ++ (lvE x.p ⟨1, f, -1, -1⟩).map (numE L)) _ from by rw [Hst.out]; exact hcur.bls)
        clear n0 n1 n2 n3 hGl
        go_wp2_with fail
        exact bodyPost_end (v := .tuple #[]) (by simp [results, Tryd.results16]) rfl ⟨rfl, HF.out, hkf⟩
  | exit f hf =>
    as_aux_lemma =>
      have Hst := hid (show (lvE x.p ⟨2, f, -1, -1⟩).map (numE L) = [] by unfold lvE; rfl)
      obtain ⟨n0, n1, n2, n3⟩ := Fb.four HL1.out.nb
      have hGl := HL1.out.nb.lt
      have HF := hid (show Bls w0 x B MB M N L (E ++ (lvE x.p ⟨2, f, -1, -1⟩).map (numE L)) _ from by rw [Hst.out, List.append_nil]; exact HL1.out.bls)
      simp only at *
      go_enter Tryd.func16, Tryd.ntmps16
      rw [← HGe.out] at n0 n1 n2 n3 hGl
      go_wp2_with fail
      exact bodyPost_end (v := .tuple #[]) (by simp [results, Tryd.results16]) rfl ⟨rfl, HF.out, HK0.out⟩
  | stmt f b j F Bk t h1 h2 h3 hts =>
    as_aux_lemma =>
      have Hst := hid (lv_stmt h1 h2 h3)
      have HC := hid (fun (v : World) (hv : Bls w0 x B MB M N L E v) => leaveStmt_any w0 x ex B MB M N L E v hv HX.out hN hL hE f b j F Bk t h1 h2 h3 hts)
      clear h1 h2 h3 hts
      obtain ⟨n0, n1, n2, n3⟩ := Fb.four HL1.out.nb
      have hGl := HL1.out.nb.lt
      simp only at *
      go_enter Tryd.func16, Tryd.ntmps16
      rw [← HGe.out] at n0 n1 n2 n3 hGl
      go_wp2_with fail
      clear n0 n1 n2 n3 hGl
      refine (HC.out _ HL1.out.bls).mono ?_
      rintro e w2 ⟨rfl, h2, hk2⟩
      have HF := hid (show Bls w0 x B MB M N L (E ++ (lvE x.p ⟨3, f, b, j⟩).map (numE L)) w2 from by rw [Hst.out]; exact h2)
      have HK2 := hid (HK0.out.trans hk2)
      clear h2 hk2 HC HL1
      go_wp2_with fail
      exact bodyPost_end (v := .tuple #[]) (by simp [results, Tryd.results16]) rfl ⟨rfl, HF.out, HK2.out⟩
  | retn f b j hf hb hj =>
    as_aux_lemma =>
      have HCo := hid (fun (E : List (Nat × Nat)) (v : World) (h : Ls1 w0 x B MB M N G L ⟨4, f, b, j⟩ E v) (hE : E.length ≤ 1000000) (a t : Nd) (ha : wfN a) (ht : wfN t) => h.conn hN hL hE a t ha ht)
      have HKb := hid (fun (E : List (Nat × Nat)) (v u : World) (h : Ls1 w0 x B MB M N G L ⟨4, f, b, j⟩ E v) (hb : Below v.heap.size v u) => h.below hb)
      have HNb := hid (fun (E : List (Nat × Nat)) (v : World) (h : Ls1 w0 x B MB M N G L ⟨4, f, b, j⟩ E v) => h.nb)
      have Hst := hid (show (lvE x.p ⟨4, f, b, j⟩).map (numE L) = [numE L (⟨4, f, b, j⟩, ⟨3, f, b, (j : Int) + 1⟩)] by unfold lvE; rfl)
      have hjw : IntKind.i64.wrap ((j : Int) + 1) = (j : Int) + 1 := IntWalk.i64_in _ (by omega)
      simp only at *
      obtain ⟨n0, n1, n2, n3⟩ := Fb.four (HNb.out _ _ HL1.out)
      have hGl := (HNb.out _ _ HL1.out).lt
      go_enter Tryd.func16, Tryd.ntmps16
      rw [← HGe.out] at n0 n1 n2 n3 hGl
      go_wp2_with fail
      clear n0 n1 n2 n3 hGl
      rw [HGe.out]
      generalize w.alloc (.cells #[.int .i64 4, .int .i64 (f : Int), .int .i64 (b : Int), .int .i64 (j : Int)] 53) = W at *
      have hcur := HKb.out _ _ _ HL1.out (Below.refl _ _).drew
      have hkf := HK0.out.trans (KeepF.below (Below.refl _ _).drew)
      obtain ⟨n0, n1, n2, n3⟩ := Fb.four (HNb.out _ _ hcur)
      have hGl := (HNb.out _ _ hcur).lt
      clear HL1 HK0
      go_region_law (
        (go_simp
         first
         | (go_at_call 33
            refine (stmtNode_any _ _ _ _).mono ?_
            rintro e wn ⟨rfl, hbk⟩
            have hcur := HKb.out _ _ _ hcur hbk
            have hkf := hkf.trans (KeepF.below hbk)
            obtain ⟨n0, n1, n2, n3⟩ := Fb.four (HNb.out _ _ hcur)
            have hGl := (HNb.out _ _ hcur).lt
            clear hbk)
         | (go_at_call 32
            refine (HCo.out _ _ hcur (by omega) ⟨4, f, b, j⟩ ⟨3, f, b, (j : Int) + 1⟩ (wf_small (by omega) (by omega) (by omega) (by omega)) (wf_small (by omega) (by omega) (by omega) (by omega))).mono ?_
            rintro e wn ⟨rfl, hcur, hk77⟩
            have hkf := hkf.trans hk77
            obtain ⟨n0, n1, n2, n3⟩ := Fb.four (HNb.out _ _ hcur)
            have hGl := (HNb.out _ _ hcur).lt
            clear hk77)))
      all_goals
        have HF := hid (show Bls w0 x B MB M N L (E ++ (lvE x.p ⟨4, f, b, j⟩).map (numE L)) _ from by rw [Hst.out]; exact hcur.bls)
        clear n0 n1 n2 n3 hGl
        go_wp2_with fail
        exact bodyPost_end (v := .tuple #[]) (by simp [results, Tryd.results16]) rfl ⟨rfl, HF.out, hkf⟩
end Go.Proofs.YtfapgnbnfhpicaaDoor
