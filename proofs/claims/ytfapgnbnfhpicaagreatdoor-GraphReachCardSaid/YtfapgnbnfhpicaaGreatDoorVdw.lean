/- The package's Valid. -/
import Derived.Test.YtfapgnbnfhpicaaGreatDoorVdv
namespace Go.Proofs.YtfapgnbnfhpicaaGreatDoor
set_option maxRecDepth 20000
set_option linter.unusedVariables false
set_option linter.unusedSimpArgs false
open Go.ChangeShapes Go.WideShapes Go.ChangeAt Go.RowKit

theorem ret_b {a b : Bool} (h : a = b) : Ending.returned (.bool b) = Ending.returned (.bool a) := by rw [h]
theorem wi_nat (n h : Nat) : wiB (n : Int) 1 (h : Int) = (decide (1 ≤ n) && decide (n ≤ h)) := by
  unfold wiB
  rw [decide_eq_decide.2 (show (1 : Int) ≤ (n : Int) ↔ 1 ≤ n by omega), decide_eq_decide.2 (show (n : Int) ≤ (h : Int) ↔ n ≤ h by omega)]
theorem stm_off {o : Int} (h : ¬ (1 ≤ o ∧ o ≤ 9)) (d : ByteArray) (us ts : List ByteArray) : stmB ⟨o, d, us, ts⟩ = false := by
  unfold stmB okP
  simp only
  rw [if_neg (by omega), if_neg (by omega), if_neg (by omega), if_neg (by omega), if_neg (by omega), if_neg (by omega), if_neg (by omega)]
  simp
set_option maxHeartbeats 1600000 in
theorem validStmt_any (x : SH) (ex : List (Option Nat)) (w : World) (h : SHok w ex x) (hs : Shp w) :
    Calls Tryz.prog 178 #[.agg #[.int .i64 x.t.op, .string x.t.d, .slice x.A x.n x.c, .slice x.B x.m x.c2]] w fun e w' => e = .returned (.bool (stmB x.t)) ∧ Below w.heap.size w w' := by
  obtain ⟨A, n, c, B, m, c2, ⟨o, d, us, ts⟩⟩ := x
  have ha := h.arg
  simp only at ha
  by_cases h1 : 1 ≤ o ∧ o ≤ 9
  · rcases (show o = 1 ∨ o = 2 ∨ o = 3 ∨ o = 4 ∨ o = 5 ∨ o = 6 ∨ o = 7 ∨ o = 8 ∨ o = 9 by omega) with rfl | rfl | rfl | rfl | rfl | rfl | rfl | rfl | rfl
    · exact validStmt_1 d A n c B m c2 us ts w ha hs
    · exact validStmt_2 d A n c B m c2 us ts w ha hs
    · exact validStmt_3 d A n c B m c2 us ts w ha hs
    · exact validStmt_4 d A n c B m c2 us ts w ha hs
    · exact validStmt_5 d A n c B m c2 us ts w ha hs
    · exact validStmt_6 d A n c B m c2 us ts w ha hs
    · exact validStmt_7 d A n c B m c2 us ts w ha hs
    · exact validStmt_8 d A n c B m c2 us ts w ha hs
    · exact validStmt_9 d A n c B m c2 us ts w ha hs
  · have Hr := hid (stm_off h1 d us ts)
    have hw : wiB o 1 9 = false := by unfold wiB; rw [Bool.and_eq_false_iff]; simp; omega
    have HB := hid ((Below.refl w.heap.size w).alloc (Nat.le_refl _) (.cells #[.int .i64 o, .string d, .slice A n c, .slice B m c2] 68))
    clear h ha h1
    go_enter Tryz.func178, Tryz.ntmps178
    go_wp2_with fail
    refine (within_any _ _ _ _).mono ?_
    rintro e w2 ⟨rfl, rfl⟩
    go_wp2_with fail
    go_ret
    exact ⟨ret_b Hr.out, HB.out⟩
theorem allS_any_t {l : List SH} {k : Nat} {y : SH} (h : (l.take k).all (fun y => stmB y.t) = true) (hy : l[k]? = some y) (hp : stmB y.t = true) : (l.take (k + 1)).all (fun y => stmB y.t) = true := take_all (p := fun y : SH => stmB y.t) h hy hp
theorem allS_any_n {l : List SH} {k : Nat} {y : SH} (hy : l[k]? = some y) (hp : stmB y.t = false) : l.all (fun y => stmB y.t) = false := all_no (p := fun y : SH => stmB y.t) hy hp
set_option maxHeartbeats 1600000 in
theorem allS_any (x : BH) (ex : List (Option Nat)) (w : World) (h : BHok w ex x) (hs : Shp w) :
    Calls Tryz.prog 177 #[.slice x.A x.n x.c, .func (Fn.func 178) #[] #[]] w fun e w' => e = .returned (.bool (x.l.all fun y => stmB y.t)) ∧ Below w.heap.size w w' := by
  have HX := hid h
  have Hs := hid hs
  have hn := h.few
  have HL := hid h.len
  have hpos := hs.pos0
  clear h hs
  obtain ⟨nm, A, n, c, l⟩ := x
  simp only at hn HL
  go_enter Tryz.func177, Tryz.ntmps177
  go_wp2_with fail
  go_loopw [6, 9] (fun _ iv wr => ∃ k : Nat, k ≤ n ∧ iv = .int .i64 k ∧ Hid ((l.take k).all (fun y => stmB y.t) = true) ∧ Hid (Below w.heap.size w wr)) (fun _ iv _ => n - (intOf iv).toNat)
  case atStart => exact ⟨0, by omega, rfl, hid rfl, Below.refl _ _⟩
  case round =>
    obtain ⟨k, hk, rfl, hX, hB⟩ := hrel
    by_cases hlt : k < n
    · obtain ⟨y, hy, hym⟩ := get_at HL.out hlt
      have HPr := hid (HX.out.go (Go2.below hB.out))
      obtain ⟨ad, hA, had, hcs⟩ := SH.cells HPr.out.lies hy
      have Hy := hid (HPr.out.all y hym)
      have Hget := hid hy
      simp only at hA
      subst hA
      have hz := hB.out.size
      have hb2 := (Below.refl wr.heap.size wr).alloc (Nat.le_refl _) (.cells #[.int .i64 y.t.op, .string y.t.d, .slice y.A y.n y.c, .slice y.B y.m y.c2] 68)
      have Hy2 := hid (Hy.out.go (Go2.below hb2))
      have Hs2 := hid ((Hs.out.keep (hB.out.block 1 hpos)).keep (hb2.block 1 (by omega)))
      have HB2 := hid (below_step hB.out hb2)
      clear hy hym HPr hb2 Hy
      obtain ⟨hc1, hc2, hc3, hc4⟩ := hcs
      go_wp2_with fail
      refine (validStmt_any y ex _ Hy2.out Hs2.out).mono ?_
      rintro e w2 ⟨rfl, hb2⟩
      have HB3 := hid (below_step HB2.out hb2)
      clear hb2 Hy2 Hs2 HB2 hc1 hc2 hc3 hc4 had hz
      cases hv : (stmB y.t) with
      | false =>
        as_aux_lemma =>
          have Hr := hid (allS_any_n Hget.out hv)
          clear hv
          go_wp2_with fail
          go_ret
          exact ⟨ret_b Hr.out, HB3.out⟩
      | true =>
        as_aux_lemma =>
          have Hr := hid (allS_any_t hX.out Hget.out hv)
          clear hv
          go_wp2_with fail
          go_roundw
          case rel => exact ⟨k + 1, by omega, by go_num, Hr, HB3⟩
          case measure => simp [intOf]; omega
    · as_aux_lemma =>
        obtain rfl : k = n := by omega
        have Hr := hid (show (l.all fun y => stmB y.t) = true by rw [← List.take_length (l := l), HL.out]; exact hX.out)
        go_wp2_with fail
        go_ret
        exact ⟨ret_b Hr.out, hB.out⟩
set_option maxHeartbeats 1600000 in
theorem validBlock_any (x : BH) (ex : List (Option Nat)) (w : World) (h : BHok w ex x) (hs : Shp w) :
    Calls Tryz.prog 158 #[.agg #[.string x.name, .slice x.A x.n x.c]] w fun e w' => e = .returned (.bool (blkB x.b)) ∧ Below w.heap.size w w' := by
  obtain ⟨nm, A, n, c, l⟩ := x
  have hb2 := (Below.refl w.heap.size w).alloc (Nat.le_refl _) (.cells #[.string nm, .slice A n c] 65)
  have HX := hid (h.go (Go2.below hb2))
  have Hs := hid (hs.keep (hb2.block 1 hs.pos0))
  have Hf := hid (Fb.new w #[.string nm, .slice A n c] 65)
  have HB := hid hb2
  have Hnm := hid (show nm.size ≤ maxLen by have := h.small; simp only at this; unfold maxLen; omega)
  have Hl := hid (show l.length = n from h.len)
  have Hp := hid (show blkB (BH.b ⟨nm, A, n, c, l⟩) = (nameB nm && wiB n 1 32 && l.all fun y => stmB y.t) by
    rw [show wiB (n : Int) 1 32 = (decide (1 ≤ n) && decide (n ≤ 32)) from wi_nat n 32]; unfold blkB; simp [BH.b, Hl.out, List.all_map, Function.comp_def, Bool.and_assoc])
  have hn := h.few
  simp only at hn
  clear hb2 h hs
  go_enter Tryz.func158, Tryz.ntmps158
  go_wp2_with fail
  refine (devIsName_any nm _ Hnm.out).mono ?_
  rintro e w2 ⟨rfl, rfl⟩
  cases hv : nameB nm with
  | false =>
    as_aux_lemma =>
      have Hr := hid (Hp.out.trans (show (nameB nm && wiB n 1 32 && l.all fun y => stmB y.t) = false by rw [hv]; rfl))
      clear hv
      go_wp2_with fail
      go_ret
      exact ⟨ret_b Hr.out, HB.out⟩
  | true =>
    have Hv := hid hv
    clear hv
    obtain ⟨a0, a1⟩ := Hf.out.twoc
    go_wp2_with fail
    refine (within_any _ _ _ _).mono ?_
    rintro e w3 ⟨rfl, rfl⟩
    cases hx : wiB n 1 32 with
    | false =>
      as_aux_lemma =>
        have Hr := hid (Hp.out.trans (by rw [hx]; simp : _ = false))
        clear hx
        go_wp2_with fail
        go_ret
        exact ⟨ret_b Hr.out, HB.out⟩
    | true =>
      have Hr := hid (Hp.out.trans (by rw [hx, Hv.out]; rfl : _ = l.all fun y => stmB y.t))
      clear hx
      go_wp2_with fail
      refine (allS_any ⟨nm, A, n, c, l⟩ ex _ HX.out Hs.out).mono ?_
      rintro e w4 ⟨rfl, hb4⟩
      have HB4 := hid (below_step HB.out hb4)
      clear hb4
      cases hy : (l.all fun y => stmB y.t) with
      | false =>
        as_aux_lemma =>
          rw [hy] at Hr
          clear hy
          go_wp2_with fail
          go_ret
          exact ⟨ret_b Hr.out, HB4.out⟩
      | true =>
        as_aux_lemma =>
          rw [hy] at Hr
          clear hy
          go_wp2_with fail
          go_ret
          exact ⟨ret_b Hr.out, HB4.out⟩
theorem allB_any_t {l : List BH} {k : Nat} {y : BH} (h : (l.take k).all (fun y => blkB y.b) = true) (hy : l[k]? = some y) (hp : blkB y.b = true) : (l.take (k + 1)).all (fun y => blkB y.b) = true := take_all (p := fun y : BH => blkB y.b) h hy hp
theorem allB_any_n {l : List BH} {k : Nat} {y : BH} (hy : l[k]? = some y) (hp : blkB y.b = false) : l.all (fun y => blkB y.b) = false := all_no (p := fun y : BH => blkB y.b) hy hp
set_option maxHeartbeats 1600000 in
theorem allB_any (x : FH) (ex : List (Option Nat)) (w : World) (h : FHok w ex x) (hs : Shp w) :
    Calls Tryz.prog 157 #[.slice x.A x.n x.c, .func (Fn.func 158) #[] #[]] w fun e w' => e = .returned (.bool (x.l.all fun y => blkB y.b)) ∧ Below w.heap.size w w' := by
  have HX := hid h
  have Hs := hid hs
  have hn := h.few
  have HL := hid h.len
  have hpos := hs.pos0
  clear h hs
  obtain ⟨nm, A, n, c, l⟩ := x
  simp only at hn HL
  go_enter Tryz.func157, Tryz.ntmps157
  go_wp2_with fail
  go_loopw [6, 9] (fun _ iv wr => ∃ k : Nat, k ≤ n ∧ iv = .int .i64 k ∧ Hid ((l.take k).all (fun y => blkB y.b) = true) ∧ Hid (Below w.heap.size w wr)) (fun _ iv _ => n - (intOf iv).toNat)
  case atStart => exact ⟨0, by omega, rfl, hid rfl, Below.refl _ _⟩
  case round =>
    obtain ⟨k, hk, rfl, hX, hB⟩ := hrel
    by_cases hlt : k < n
    · obtain ⟨y, hy, hym⟩ := get_at HL.out hlt
      have HPr := hid (HX.out.go (Go2.below hB.out))
      obtain ⟨ad, hA, had, hcs⟩ := BH.cells HPr.out.lies hy
      have Hy := hid (HPr.out.all y hym)
      have Hget := hid hy
      simp only at hA
      subst hA
      have hz := hB.out.size
      have hb2 := (Below.refl wr.heap.size wr).alloc (Nat.le_refl _) (.cells #[.string y.name, .slice y.A y.n y.c] 65)
      have Hy2 := hid (Hy.out.go (Go2.below hb2))
      have Hs2 := hid ((Hs.out.keep (hB.out.block 1 hpos)).keep (hb2.block 1 (by omega)))
      have HB2 := hid (below_step hB.out hb2)
      clear hy hym HPr hb2 Hy
      obtain ⟨hc1, hc2⟩ := hcs
      go_wp2_with fail
      refine (validBlock_any y ex _ Hy2.out Hs2.out).mono ?_
      rintro e w2 ⟨rfl, hb2⟩
      have HB3 := hid (below_step HB2.out hb2)
      clear hb2 Hy2 Hs2 HB2 hc1 hc2 had hz
      cases hv : (blkB y.b) with
      | false =>
        as_aux_lemma =>
          have Hr := hid (allB_any_n Hget.out hv)
          clear hv
          go_wp2_with fail
          go_ret
          exact ⟨ret_b Hr.out, HB3.out⟩
      | true =>
        as_aux_lemma =>
          have Hr := hid (allB_any_t hX.out Hget.out hv)
          clear hv
          go_wp2_with fail
          go_roundw
          case rel => exact ⟨k + 1, by omega, by go_num, Hr, HB3⟩
          case measure => simp [intOf]; omega
    · as_aux_lemma =>
        obtain rfl : k = n := by omega
        have Hr := hid (show (l.all fun y => blkB y.b) = true by rw [← List.take_length (l := l), HL.out]; exact hX.out)
        go_wp2_with fail
        go_ret
        exact ⟨ret_b Hr.out, hB.out⟩
set_option maxHeartbeats 1600000 in
theorem validFunc_any (x : FH) (ex : List (Option Nat)) (w : World) (h : FHok w ex x) (hs : Shp w) :
    Calls Tryz.prog 131 #[.agg #[.string x.name, .slice x.A x.n x.c]] w fun e w' => e = .returned (.bool (fncB x.f)) ∧ Below w.heap.size w w' := by
  obtain ⟨nm, A, n, c, l⟩ := x
  have hb2 := (Below.refl w.heap.size w).alloc (Nat.le_refl _) (.cells #[.string nm, .slice A n c] 62)
  have HX := hid (h.go (Go2.below hb2))
  have Hs := hid (hs.keep (hb2.block 1 hs.pos0))
  have Hf := hid (Fb.new w #[.string nm, .slice A n c] 62)
  have HB := hid hb2
  have Hnm := hid (show nm.size ≤ maxLen by have := h.small; simp only at this; unfold maxLen; omega)
  have Hl := hid (show l.length = n from h.len)
  have Hp := hid (show fncB (FH.f ⟨nm, A, n, c, l⟩) = (nameB nm && wiB n 1 16 && l.all fun y => blkB y.b) by
    rw [show wiB (n : Int) 1 16 = (decide (1 ≤ n) && decide (n ≤ 16)) from wi_nat n 16]; unfold fncB; simp [FH.f, Hl.out, List.all_map, Function.comp_def, Bool.and_assoc])
  have hn := h.few
  simp only at hn
  clear hb2 h hs
  go_enter Tryz.func131, Tryz.ntmps131
  go_wp2_with fail
  refine (devIsName_any nm _ Hnm.out).mono ?_
  rintro e w2 ⟨rfl, rfl⟩
  cases hv : nameB nm with
  | false =>
    as_aux_lemma =>
      have Hr := hid (Hp.out.trans (show (nameB nm && wiB n 1 16 && l.all fun y => blkB y.b) = false by rw [hv]; rfl))
      clear hv
      go_wp2_with fail
      go_ret
      exact ⟨ret_b Hr.out, HB.out⟩
  | true =>
    have Hv := hid hv
    clear hv
    obtain ⟨a0, a1⟩ := Hf.out.twoc
    go_wp2_with fail
    refine (within_any _ _ _ _).mono ?_
    rintro e w3 ⟨rfl, rfl⟩
    cases hx : wiB n 1 16 with
    | false =>
      as_aux_lemma =>
        have Hr := hid (Hp.out.trans (by rw [hx]; simp : _ = false))
        clear hx
        go_wp2_with fail
        go_ret
        exact ⟨ret_b Hr.out, HB.out⟩
    | true =>
      have Hr := hid (Hp.out.trans (by rw [hx, Hv.out]; rfl : _ = l.all fun y => blkB y.b))
      clear hx
      go_wp2_with fail
      refine (allB_any ⟨nm, A, n, c, l⟩ ex _ HX.out Hs.out).mono ?_
      rintro e w4 ⟨rfl, hb4⟩
      have HB4 := hid (below_step HB.out hb4)
      clear hb4
      cases hy : (l.all fun y => blkB y.b) with
      | false =>
        as_aux_lemma =>
          rw [hy] at Hr
          clear hy
          go_wp2_with fail
          go_ret
          exact ⟨ret_b Hr.out, HB4.out⟩
      | true =>
        as_aux_lemma =>
          rw [hy] at Hr
          clear hy
          go_wp2_with fail
          go_ret
          exact ⟨ret_b Hr.out, HB4.out⟩
theorem allF_any_t {l : List FH} {k : Nat} {y : FH} (h : (l.take k).all (fun y => fncB y.f) = true) (hy : l[k]? = some y) (hp : fncB y.f = true) : (l.take (k + 1)).all (fun y => fncB y.f) = true := take_all (p := fun y : FH => fncB y.f) h hy hp
theorem allF_any_n {l : List FH} {k : Nat} {y : FH} (hy : l[k]? = some y) (hp : fncB y.f = false) : l.all (fun y => fncB y.f) = false := all_no (p := fun y : FH => fncB y.f) hy hp
set_option maxHeartbeats 1600000 in
theorem allF_any (x : PH) (ex : List (Option Nat)) (w : World) (h : PHok w ex x) (hs : Shp w) :
    Calls Tryz.prog 130 #[.slice x.A x.n x.c, .func (Fn.func 131) #[] #[]] w fun e w' => e = .returned (.bool (x.l.all fun y => fncB y.f)) ∧ Below w.heap.size w w' := by
  have HX := hid h
  have Hs := hid hs
  have hn := h.few
  have HL := hid h.len
  have hpos := hs.pos0
  clear h hs
  obtain ⟨A, n, c, l⟩ := x
  simp only at hn HL
  go_enter Tryz.func130, Tryz.ntmps130
  go_wp2_with fail
  go_loopw [6, 9] (fun _ iv wr => ∃ k : Nat, k ≤ n ∧ iv = .int .i64 k ∧ Hid ((l.take k).all (fun y => fncB y.f) = true) ∧ Hid (Below w.heap.size w wr)) (fun _ iv _ => n - (intOf iv).toNat)
  case atStart => exact ⟨0, by omega, rfl, hid rfl, Below.refl _ _⟩
  case round =>
    obtain ⟨k, hk, rfl, hX, hB⟩ := hrel
    by_cases hlt : k < n
    · obtain ⟨y, hy, hym⟩ := get_at HL.out hlt
      have HPr := hid (HX.out.go (Go2.below hB.out))
      obtain ⟨ad, hA, had, hcs⟩ := FH.cells HPr.out.lies hy
      have Hy := hid (HPr.out.all y hym)
      have Hget := hid hy
      simp only at hA
      subst hA
      have hz := hB.out.size
      have hb2 := (Below.refl wr.heap.size wr).alloc (Nat.le_refl _) (.cells #[.string y.name, .slice y.A y.n y.c] 62)
      have Hy2 := hid (Hy.out.go (Go2.below hb2))
      have Hs2 := hid ((Hs.out.keep (hB.out.block 1 hpos)).keep (hb2.block 1 (by omega)))
      have HB2 := hid (below_step hB.out hb2)
      clear hy hym HPr hb2 Hy
      obtain ⟨hc1, hc2⟩ := hcs
      go_wp2_with fail
      refine (validFunc_any y ex _ Hy2.out Hs2.out).mono ?_
      rintro e w2 ⟨rfl, hb2⟩
      have HB3 := hid (below_step HB2.out hb2)
      clear hb2 Hy2 Hs2 HB2 hc1 hc2 had hz
      cases hv : (fncB y.f) with
      | false =>
        as_aux_lemma =>
          have Hr := hid (allF_any_n Hget.out hv)
          clear hv
          go_wp2_with fail
          go_ret
          exact ⟨ret_b Hr.out, HB3.out⟩
      | true =>
        as_aux_lemma =>
          have Hr := hid (allF_any_t hX.out Hget.out hv)
          clear hv
          go_wp2_with fail
          go_roundw
          case rel => exact ⟨k + 1, by omega, by go_num, Hr, HB3⟩
          case measure => simp [intOf]; omega
    · as_aux_lemma =>
        obtain rfl : k = n := by omega
        have Hr := hid (show (l.all fun y => fncB y.f) = true by rw [← List.take_length (l := l), HL.out]; exact hX.out)
        go_wp2_with fail
        go_ret
        exact ⟨ret_b Hr.out, hB.out⟩
set_option maxHeartbeats 1600000 in
theorem devValid_any (x : PH) (ex : List (Option Nat)) (w : World) (h : PHok w ex x) (hs : Shp w) :
    Calls Tryz.prog 89 #[.agg #[.slice x.A x.n x.c]] w fun e w' => e = .returned (.bool (prgB x.p)) ∧ Below w.heap.size w w' := by
  obtain ⟨A, n, c, l⟩ := x
  have hb2 := (Below.refl w.heap.size w).alloc (Nat.le_refl _) (.cells #[.slice A n c] 44)
  have HX := hid (h.go (Go2.below hb2))
  have Hs := hid (hs.keep (hb2.block 1 hs.pos0))
  have Hf := hid (Fb.new w #[.slice A n c] 44)
  have HB := hid hb2
  have Hl := hid (show l.length = n from h.len)
  have Hp := hid (show prgB (PH.p ⟨A, n, c, l⟩) = (wiB n 1 8 && l.all fun y => fncB y.f) by
    rw [show wiB (n : Int) 1 8 = (decide (1 ≤ n) && decide (n ≤ 8)) from wi_nat n 8]; unfold prgB; simp [PH.p, Hl.out, List.all_map, Function.comp_def])
  have hn := h.few
  simp only at hn
  clear hb2 h hs
  go_enter Tryz.func89, Tryz.ntmps89
  go_wp2_with fail
  refine (within_any _ _ _ _).mono ?_
  rintro e w3 ⟨rfl, rfl⟩
  have a0 := Hf.out.onec
  cases hx : wiB n 1 8 with
  | false =>
    as_aux_lemma =>
      have Hr := hid (Hp.out.trans (by rw [hx]; simp : _ = false))
      clear hx
      go_wp2_with fail
      go_ret
      exact ⟨ret_b Hr.out, HB.out⟩
  | true =>
    have Hr := hid (Hp.out.trans (by rw [hx]; rfl : _ = l.all fun y => fncB y.f))
    clear hx
    go_wp2_with fail
    refine (allF_any ⟨A, n, c, l⟩ ex _ HX.out Hs.out).mono ?_
    rintro e w4 ⟨rfl, hb4⟩
    have HB4 := hid (below_step HB.out hb4)
    clear hb4
    cases hy : (l.all fun y => fncB y.f) with
    | false =>
      as_aux_lemma =>
        rw [hy] at Hr
        clear hy
        go_wp2_with fail
        go_ret
        exact ⟨ret_b Hr.out, HB4.out⟩
    | true =>
      as_aux_lemma =>
        rw [hy] at Hr
        clear hy
        go_wp2_with fail
        go_ret
        exact ⟨ret_b Hr.out, HB4.out⟩
end Go.Proofs.YtfapgnbnfhpicaaGreatDoor
