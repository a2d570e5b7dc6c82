/- The package's Valid: isWithin, all, validStmt, validBlock, validFunc. -/
import Derived.Test.YtfapgnbnfhpicaaGreatDoorKw
import Derived.Test.YtfapgnbnfhpicaaGreatDoorVlp
import Derived.Test.YtfapgnbnfhpicaaGreatDoorDp1
namespace Go.Proofs.YtfapgnbnfhpicaaGreatDoor
set_option maxRecDepth 20000
set_option linter.unusedVariables false
set_option linter.unusedSimpArgs false
open Go.ChangeShapes Go.WideShapes Go.ChangeAt Go.RowKit

def wiB (n l h : Int) : Bool := decide (l ≤ n) && decide (n ≤ h)
theorem within_any (n l h : Int) (w : World) : Calls Tryz.prog 129 #[.int .i64 n, .int .i64 l, .int .i64 h] w fun e w' => e = .returned (.bool (wiB n l h)) ∧ w = w' := by
  unfold wiB
  cases h1 : decide (l ≤ n) with
  | false =>
    go_enter Tryz.func129, Tryz.ntmps129
    go_wp2
    go_ret
    exact ⟨rfl, rfl⟩
  | true =>
    cases h2 : decide (n ≤ h) with
    | false =>
      go_enter Tryz.func129, Tryz.ntmps129
      go_wp2
      go_ret
      exact ⟨rfl, rfl⟩
    | true =>
      go_enter Tryz.func129, Tryz.ntmps129
      go_wp2
      go_ret
      exact ⟨rfl, rfl⟩

set_option maxHeartbeats 1600000 in
theorem allStr_any (A : Option Addr) (n c : Nat) (l : List ByteArray) (w : World) (hA : SArg w A n l) :
    Calls Tryz.prog 185 #[.slice A n c, .func (Fn.func 156) #[] #[]] w fun e w' => e = .returned (.bool (l.all nameB)) ∧ Below w.heap.size w w' := by
  have HA := hid hA
  have hn := hA.few
  have HL := hid hA.len
  clear hA
  go_enter Tryz.func185, Tryz.ntmps185
  go_wp2_with fail
  go_loopw [6, 9] (fun _ iv wr => ∃ k : Nat, k ≤ n ∧ iv = .int .i64 k ∧ Hid ((l.take k).all nameB = true) ∧ Hid (Below w.heap.size w wr)) (fun _ iv _ => n - (intOf iv).toNat)
  case atStart => exact ⟨0, by omega, rfl, hid rfl, Below.refl _ _⟩
  case round =>
    obtain ⟨k, hk, rfl, hX, hB⟩ := hrel
    by_cases hlt : k < n
    · obtain ⟨ad, rfl, hb, hc, hs⟩ := (HA.out.below hB.out).cell hlt
      have Hget := hid (show l[k]? = some (l.getD k ByteArray.empty) by rw [List.getD_eq_getElem?_getD, List.getElem?_eq_getElem (by have := HL.out; omega)]; rfl)
      generalize l.getD k ByteArray.empty = y at *
      go_wp2_with fail
      refine (devIsName_any y _ (by unfold maxLen; omega)).mono ?_
      rintro e w2 ⟨rfl, rfl⟩
      cases hy : nameB y with
      | false =>
        as_aux_lemma =>
          have Hr := hid (all_no (p := nameB) Hget.out hy)
          clear hy
          go_wp2_with fail
          go_ret
          exact ⟨by rw [Hr.out]; rfl, hB.out⟩
      | true =>
        as_aux_lemma =>
          have Hr := hid (take_all (p := nameB) hX.out Hget.out hy)
          clear hy
          go_wp2_with fail
          go_roundw
          case rel => exact ⟨k + 1, by omega, by go_num, Hr, hB⟩
          case measure => simp [intOf]; omega
    · as_aux_lemma =>
        obtain rfl : k = n := by omega
        have Hr := hid (show l.all nameB = true by rw [← List.take_length (l := l), HL.out]; exact hX.out)
        go_wp2_with fail
        go_ret
        exact ⟨by rw [Hr.out]; rfl, hB.out⟩

theorem Shp.pos0 {w : World} (h : Shp w) : 1 < w.heap.size := World.block_lt_of_cell? w _ (h 0 _ rfl)
/-- What validStmt asks of the fields, given a shape. -/
def vwB (df : Bool) (lo hi tg : Int) (t : Stm) : Bool :=
  (if df then nameB t.d else decide (t.d = ⟨#[]⟩)) && (wiB (t.us.length : Nat) lo hi && (t.us.all nameB && (((t.ts.length : Nat) : Int) == tg && t.ts.all nameB)))
theorem shp5 {w : World} (h : Shp w) (j : Nat) {k : ByteArray} {d : Bool} {l m t : Int} (hs : (shpCells.drop (5 * j)).take 5 = shp k d l m t) :
    w.cell? ⟨1, 5 * j, none⟩ = some (.string k) ∧ w.cell? ⟨1, 5 * j + 1, none⟩ = some (.bool d) ∧ w.cell? ⟨1, 5 * j + 2, none⟩ = some (.int .i64 l) ∧ w.cell? ⟨1, 5 * j + 3, none⟩ = some (.int .i64 m) ∧ w.cell? ⟨1, 5 * j + 4, none⟩ = some (.int .i64 t) := by
  have key : ∀ i, i < 5 → ∀ u, (shp k d l m t)[i]? = some u → shpCells[5 * j + i]? = some u := by
    intro i hi u hu
    rw [← hs, List.getElem?_take, if_pos hi, List.getElem?_drop] at hu
    exact hu
  exact ⟨h _ _ (key 0 (by omega) _ rfl), h _ _ (key 1 (by omega) _ rfl), h _ _ (key 2 (by omega) _ rfl), h _ _ (key 3 (by omega) _ rfl), h _ _ (key 4 (by omega) _ rfl)⟩
theorem stm_is1 (d : ByteArray) (us ts : List ByteArray) : stmB ⟨1, d, us, ts⟩ = vwB true 0 4 0 ⟨1, d, us, ts⟩ := by
  unfold stmB namesB vwB wiB okP
  simp only
  generalize us.all nameB = x
  generalize ts.all nameB = y
  generalize nameB d = z
  generalize decide (d = ⟨#[]⟩) = v
  generalize us.length = a
  generalize ts.length = b
  rw [Bool.eq_iff_iff]
  cases x <;> cases y <;> cases z <;> cases v <;> simp <;> omega
theorem stm_is2 (d : ByteArray) (us ts : List ByteArray) : stmB ⟨2, d, us, ts⟩ = vwB false 1 4 0 ⟨2, d, us, ts⟩ := by
  unfold stmB namesB vwB wiB okP
  simp only
  generalize us.all nameB = x
  generalize ts.all nameB = y
  generalize nameB d = z
  generalize decide (d = ⟨#[]⟩) = v
  generalize us.length = a
  generalize ts.length = b
  rw [Bool.eq_iff_iff]
  cases x <;> cases y <;> cases z <;> cases v <;> simp <;> omega
theorem stm_is3 (d : ByteArray) (us ts : List ByteArray) : stmB ⟨3, d, us, ts⟩ = vwB false 0 0 1 ⟨3, d, us, ts⟩ := by
  unfold stmB namesB vwB wiB okP
  simp only
  generalize us.all nameB = x
  generalize ts.all nameB = y
  generalize nameB d = z
  generalize decide (d = ⟨#[]⟩) = v
  generalize us.length = a
  generalize ts.length = b
  rw [Bool.eq_iff_iff]
  cases x <;> cases y <;> cases z <;> cases v <;> simp <;> omega
theorem stm_is4 (d : ByteArray) (us ts : List ByteArray) : stmB ⟨4, d, us, ts⟩ = vwB true 0 0 0 ⟨4, d, us, ts⟩ := by
  unfold stmB namesB vwB wiB okP
  simp only
  generalize us.all nameB = x
  generalize ts.all nameB = y
  generalize nameB d = z
  generalize decide (d = ⟨#[]⟩) = v
  generalize us.length = a
  generalize ts.length = b
  rw [Bool.eq_iff_iff]
  cases x <;> cases y <;> cases z <;> cases v <;> simp <;> omega
theorem stm_is5 (d : ByteArray) (us ts : List ByteArray) : stmB ⟨5, d, us, ts⟩ = vwB false 1 1 0 ⟨5, d, us, ts⟩ := by
  unfold stmB namesB vwB wiB okP
  simp only
  generalize us.all nameB = x
  generalize ts.all nameB = y
  generalize nameB d = z
  generalize decide (d = ⟨#[]⟩) = v
  generalize us.length = a
  generalize ts.length = b
  rw [Bool.eq_iff_iff]
  cases x <;> cases y <;> cases z <;> cases v <;> simp <;> omega
theorem stm_is6 (d : ByteArray) (us ts : List ByteArray) : stmB ⟨6, d, us, ts⟩ = vwB true 0 0 0 ⟨6, d, us, ts⟩ := by
  unfold stmB namesB vwB wiB okP
  simp only
  generalize us.all nameB = x
  generalize ts.all nameB = y
  generalize nameB d = z
  generalize decide (d = ⟨#[]⟩) = v
  generalize us.length = a
  generalize ts.length = b
  rw [Bool.eq_iff_iff]
  cases x <;> cases y <;> cases z <;> cases v <;> simp <;> omega
theorem stm_is7 (d : ByteArray) (us ts : List ByteArray) : stmB ⟨7, d, us, ts⟩ = vwB false 0 0 1 ⟨7, d, us, ts⟩ := by
  unfold stmB namesB vwB wiB okP
  simp only
  generalize us.all nameB = x
  generalize ts.all nameB = y
  generalize nameB d = z
  generalize decide (d = ⟨#[]⟩) = v
  generalize us.length = a
  generalize ts.length = b
  rw [Bool.eq_iff_iff]
  cases x <;> cases y <;> cases z <;> cases v <;> simp <;> omega
theorem stm_is8 (d : ByteArray) (us ts : List ByteArray) : stmB ⟨8, d, us, ts⟩ = vwB false 1 1 2 ⟨8, d, us, ts⟩ := by
  unfold stmB namesB vwB wiB okP
  simp only
  generalize us.all nameB = x
  generalize ts.all nameB = y
  generalize nameB d = z
  generalize decide (d = ⟨#[]⟩) = v
  generalize us.length = a
  generalize ts.length = b
  rw [Bool.eq_iff_iff]
  cases x <;> cases y <;> cases z <;> cases v <;> simp <;> omega
theorem stm_is9 (d : ByteArray) (us ts : List ByteArray) : stmB ⟨9, d, us, ts⟩ = vwB false 0 0 0 ⟨9, d, us, ts⟩ := by
  unfold stmB namesB vwB wiB okP
  simp only
  generalize us.all nameB = x
  generalize ts.all nameB = y
  generalize nameB d = z
  generalize decide (d = ⟨#[]⟩) = v
  generalize us.length = a
  generalize ts.length = b
  rw [Bool.eq_iff_iff]
  cases x <;> cases y <;> cases z <;> cases v <;> simp <;> omega
set_option maxHeartbeats 6400000 in
theorem validStmt_1 (d : ByteArray) (A : Option Addr) (n c : Nat) (B : Option Addr) (m c2 : Nat) (us ts : List ByteArray) (w : World) (h : StArg w 1 d A n B m ⟨1, d, us, ts⟩) (hs : Shp w) :
    Calls Tryz.prog 178 #[.agg #[.int .i64 1, .string d, .slice A n c, .slice B m c2]] w fun e w' => e = .returned (.bool (stmB ⟨1, d, us, ts⟩)) ∧ Below w.heap.size w w' := by
  rw [stm_is1]
  obtain ⟨hU, hT, -, -, hd⟩ := h
  simp only at hU hT
  have Hd := hid (show d.size ≤ maxLen by unfold maxLen; omega)
  have hb2 := ((Below.refl w.heap.size w).alloc (Nat.le_refl _) (.cells #[.int .i64 1, .string d, .slice A n c, .slice B m c2] 68)).alloc (by rw [World.size_alloc]; omega) (.cells (shp noB true 0 4 0).toArray 214)
  have Hf := hid ((Fb.new w #[.int .i64 1, .string d, .slice A n c, .slice B m c2] 68).alloc (.cells (shp noB true 0 4 0).toArray 214))
  have Hg := hid (show Fb ((w.alloc (.cells #[.int .i64 1, .string d, .slice A n c, .slice B m c2] 68)).alloc (.cells (shp noB true 0 4 0).toArray 214)) (w.heap.size + 1) (shp noB true 0 4 0).toArray 214 by have := Fb.new (w.alloc (.cells #[.int .i64 1, .string d, .slice A n c, .slice B m c2] 68)) (shp noB true 0 4 0).toArray 214; rwa [World.size_alloc] at this)
  have HU := hid (hU.below hb2)
  have HT := hid (hT.below hb2)
  have HB := hid hb2
  have HLU := hid (show us.length = n from hU.len)
  have HLT := hid (show ts.length = m from hT.len)
  obtain ⟨z0, z1, z2, z3, z4⟩ := shp5 hs 1 (k := noB) (d := true) (l := 0) (m := 4) (t := 0) rfl
  have z0 : w.cell? ⟨1, 5, none⟩ = some (.string noB) := z0
  have z1 : w.cell? ⟨1, 6, none⟩ = some (.bool true) := z1
  have z2 : w.cell? ⟨1, 7, none⟩ = some (.int .i64 0) := z2
  have z3 : w.cell? ⟨1, 8, none⟩ = some (.int .i64 4) := z3
  have z4 : w.cell? ⟨1, 9, none⟩ = some (.int .i64 0) := z4
  have hw0 : wiB 1 1 9 = true := by decide
  have hn0 := hU.few
  have hm0 := hT.few
  have hpos := hs.pos0
  clear hU hT hb2 hs
  go_enter Tryz.func178, Tryz.ntmps178
  go_wp2_with fail
  refine (within_any _ _ _ _).mono ?_
  rintro e w2 ⟨rfl, rfl⟩
  obtain ⟨a0, a1, a2, a3⟩ := Fb.four Hf.out
  have b1 : _ = some (Value.bool true) := Hg.out.cell 1
  have b2 : _ = some (Value.int .i64 0) := Hg.out.cell 2
  have b3 : _ = some (Value.int .i64 4) := Hg.out.cell 3
  have b4 : _ = some (Value.int .i64 0) := Hg.out.cell 4
  go_wp2_with fail
  skip
  refine (devIsName_any d _ Hd.out).mono ?_
  rintro e w2 ⟨rfl, rfl⟩
  cases hv : nameB d with
  | false =>
    as_aux_lemma =>
      have Hr := hid (show vwB true 0 4 0 ⟨1, d, us, ts⟩ = false by unfold vwB; simp only [hv]; rfl)
      clear hv
      go_wp2_with fail
      go_ret
      exact ⟨by rw [Hr.out]; rfl, HB.out⟩
  | true =>
    have Hv := hid hv
    clear hv
    go_wp2_with fail
    refine (within_any _ _ _ _).mono ?_
    rintro e w3 ⟨rfl, rfl⟩
    cases hx : wiB n 0 4 with
    | false =>
      as_aux_lemma =>
        have Hr := hid (show vwB true 0 4 0 ⟨1, d, us, ts⟩ = false by unfold vwB; simp only [HLU.out, hx]; simp)
        clear hx
        go_wp2_with fail
        go_ret
        exact ⟨by rw [Hr.out]; rfl, HB.out⟩
    | true =>
      have Hx := hid hx
      clear hx
      go_wp2_with fail
      refine (allStr_any A n c us _ HU.out).mono ?_
      rintro e w4 ⟨rfl, hb4⟩
      have Hf4 := hid (Hf.out.below hb4 Hf.out.lt)
      have Hg4 := hid (Hg.out.below hb4 Hg.out.lt)
      have HT4 := hid (HT.out.below hb4)
      have HB4 := hid (below_step HB.out hb4)
      clear hb4 a0 a1 a2 a3 b1 b2 b3 b4 Hf Hg HT HB HU
      obtain ⟨a0, a1, a2, a3⟩ := Fb.four Hf4.out
      have b4 : _ = some (Value.int .i64 0) := Hg4.out.cell 4
      cases hu : us.all nameB with
      | false =>
        as_aux_lemma =>
          have Hr := hid (show vwB true 0 4 0 ⟨1, d, us, ts⟩ = false by unfold vwB; simp only [HLU.out, hu]; simp)
          clear hu
          go_wp2_with fail
          go_ret
          exact ⟨by rw [Hr.out]; rfl, HB4.out⟩
      | true =>
        have Hu := hid hu
        clear hu
        cases hm : ((m : Int) == 0) with
        | false =>
          as_aux_lemma =>
            have Hr := hid (show vwB true 0 4 0 ⟨1, d, us, ts⟩ = false by unfold vwB; simp only [HLT.out, hm]; simp)
            go_wp2_with fail
            go_ret
            exact ⟨by rw [Hr.out]; rfl, HB4.out⟩
        | true =>
          as_aux_lemma =>
            have Hr := hid (show vwB true 0 4 0 ⟨1, d, us, ts⟩ = ts.all nameB by unfold vwB; simp only [HLU.out, HLT.out, hm, Hx.out, Hu.out, Hv.out]; simp)
            go_wp2_with fail
            refine (allStr_any B m c2 ts _ HT4.out).mono ?_
            rintro e w5 ⟨rfl, hb5⟩
            have HB5 := hid (below_step HB4.out hb5)
            clear hb5 hm
            cases hy : ts.all nameB with
            | false =>
              rw [hy] at Hr
              clear hy
              go_wp2_with fail
              go_ret
              exact ⟨by rw [Hr.out]; rfl, HB5.out⟩
            | true =>
              rw [hy] at Hr
              clear hy
              go_wp2_with fail
              go_ret
              exact ⟨by rw [Hr.out]; rfl, HB5.out⟩
set_option maxHeartbeats 6400000 in
theorem validStmt_2 (d : ByteArray) (A : Option Addr) (n c : Nat) (B : Option Addr) (m c2 : Nat) (us ts : List ByteArray) (w : World) (h : StArg w 2 d A n B m ⟨2, d, us, ts⟩) (hs : Shp w) :
    Calls Tryz.prog 178 #[.agg #[.int .i64 2, .string d, .slice A n c, .slice B m c2]] w fun e w' => e = .returned (.bool (stmB ⟨2, d, us, ts⟩)) ∧ Below w.heap.size w w' := by
  rw [stm_is2]
  obtain ⟨hU, hT, -, -, hd⟩ := h
  simp only at hU hT
  have Hd := hid (show d.size ≤ maxLen by unfold maxLen; omega)
  have hb2 := ((Below.refl w.heap.size w).alloc (Nat.le_refl _) (.cells #[.int .i64 2, .string d, .slice A n c, .slice B m c2] 68)).alloc (by rw [World.size_alloc]; omega) (.cells (shp kwUse false 1 4 0).toArray 214)
  have Hf := hid ((Fb.new w #[.int .i64 2, .string d, .slice A n c, .slice B m c2] 68).alloc (.cells (shp kwUse false 1 4 0).toArray 214))
  have Hg := hid (show Fb ((w.alloc (.cells #[.int .i64 2, .string d, .slice A n c, .slice B m c2] 68)).alloc (.cells (shp kwUse false 1 4 0).toArray 214)) (w.heap.size + 1) (shp kwUse false 1 4 0).toArray 214 by have := Fb.new (w.alloc (.cells #[.int .i64 2, .string d, .slice A n c, .slice B m c2] 68)) (shp kwUse false 1 4 0).toArray 214; rwa [World.size_alloc] at this)
  have HU := hid (hU.below hb2)
  have HT := hid (hT.below hb2)
  have HB := hid hb2
  have HLU := hid (show us.length = n from hU.len)
  have HLT := hid (show ts.length = m from hT.len)
  obtain ⟨z0, z1, z2, z3, z4⟩ := shp5 hs 2 (k := kwUse) (d := false) (l := 1) (m := 4) (t := 0) rfl
  have z0 : w.cell? ⟨1, 10, none⟩ = some (.string kwUse) := z0
  have z1 : w.cell? ⟨1, 11, none⟩ = some (.bool false) := z1
  have z2 : w.cell? ⟨1, 12, none⟩ = some (.int .i64 1) := z2
  have z3 : w.cell? ⟨1, 13, none⟩ = some (.int .i64 4) := z3
  have z4 : w.cell? ⟨1, 14, none⟩ = some (.int .i64 0) := z4
  have hw0 : wiB 2 1 9 = true := by decide
  have hn0 := hU.few
  have hm0 := hT.few
  have hpos := hs.pos0
  clear hU hT hb2 hs
  go_enter Tryz.func178, Tryz.ntmps178
  go_wp2_with fail
  refine (within_any _ _ _ _).mono ?_
  rintro e w2 ⟨rfl, rfl⟩
  obtain ⟨a0, a1, a2, a3⟩ := Fb.four Hf.out
  have b1 : _ = some (Value.bool false) := Hg.out.cell 1
  have b2 : _ = some (Value.int .i64 1) := Hg.out.cell 2
  have b3 : _ = some (Value.int .i64 4) := Hg.out.cell 3
  have b4 : _ = some (Value.int .i64 0) := Hg.out.cell 4
  have he1 : (d.toList == ([] : List UInt8)) = decide (d = ⟨#[]⟩) := empty_list d
  have he2 : (d.toList == (⟨#[]⟩ : ByteArray).toList) = decide (d = ⟨#[]⟩) := by rw [show ((⟨#[]⟩ : ByteArray).toList) = [] from toList_data _]; exact empty_list d
  cases hv : decide (d = ⟨#[]⟩) with
  | false =>
    as_aux_lemma =>
      have Hr := hid (show vwB false 1 4 0 ⟨2, d, us, ts⟩ = false by unfold vwB; simp only [hv]; rfl)
      rw [hv] at he1 he2
      clear hv
      go_wp2_with fail
      go_ret
      exact ⟨by rw [Hr.out]; rfl, HB.out⟩
  | true =>
    have Hv := hid hv
    rw [hv] at he1 he2
    clear hv
    go_wp2_with fail
    skip
    refine (within_any _ _ _ _).mono ?_
    rintro e w3 ⟨rfl, rfl⟩
    cases hx : wiB n 1 4 with
    | false =>
      as_aux_lemma =>
        have Hr := hid (show vwB false 1 4 0 ⟨2, d, us, ts⟩ = false by unfold vwB; simp only [HLU.out, hx]; simp)
        clear hx
        go_wp2_with fail
        go_ret
        exact ⟨by rw [Hr.out]; rfl, HB.out⟩
    | true =>
      have Hx := hid hx
      clear hx
      go_wp2_with fail
      refine (allStr_any A n c us _ HU.out).mono ?_
      rintro e w4 ⟨rfl, hb4⟩
      have Hf4 := hid (Hf.out.below hb4 Hf.out.lt)
      have Hg4 := hid (Hg.out.below hb4 Hg.out.lt)
      have HT4 := hid (HT.out.below hb4)
      have HB4 := hid (below_step HB.out hb4)
      clear hb4 a0 a1 a2 a3 b1 b2 b3 b4 Hf Hg HT HB HU
      obtain ⟨a0, a1, a2, a3⟩ := Fb.four Hf4.out
      have b4 : _ = some (Value.int .i64 0) := Hg4.out.cell 4
      cases hu : us.all nameB with
      | false =>
        as_aux_lemma =>
          have Hr := hid (show vwB false 1 4 0 ⟨2, d, us, ts⟩ = false by unfold vwB; simp only [HLU.out, hu]; simp)
          clear hu
          go_wp2_with fail
          go_ret
          exact ⟨by rw [Hr.out]; rfl, HB4.out⟩
      | true =>
        have Hu := hid hu
        clear hu
        cases hm : ((m : Int) == 0) with
        | false =>
          as_aux_lemma =>
            have Hr := hid (show vwB false 1 4 0 ⟨2, d, us, ts⟩ = false by unfold vwB; simp only [HLT.out, hm]; simp)
            go_wp2_with fail
            go_ret
            exact ⟨by rw [Hr.out]; rfl, HB4.out⟩
        | true =>
          as_aux_lemma =>
            have Hr := hid (show vwB false 1 4 0 ⟨2, d, us, ts⟩ = ts.all nameB by unfold vwB; simp only [HLU.out, HLT.out, hm, Hx.out, Hu.out, Hv.out]; simp)
            go_wp2_with fail
            refine (allStr_any B m c2 ts _ HT4.out).mono ?_
            rintro e w5 ⟨rfl, hb5⟩
            have HB5 := hid (below_step HB4.out hb5)
            clear hb5 hm
            cases hy : ts.all nameB with
            | false =>
              rw [hy] at Hr
              clear hy
              go_wp2_with fail
              go_ret
              exact ⟨by rw [Hr.out]; rfl, HB5.out⟩
            | true =>
              rw [hy] at Hr
              clear hy
              go_wp2_with fail
              go_ret
              exact ⟨by rw [Hr.out]; rfl, HB5.out⟩
set_option maxHeartbeats 6400000 in
theorem validStmt_3 (d : ByteArray) (A : Option Addr) (n c : Nat) (B : Option Addr) (m c2 : Nat) (us ts : List ByteArray) (w : World) (h : StArg w 3 d A n B m ⟨3, d, us, ts⟩) (hs : Shp w) :
    Calls Tryz.prog 178 #[.agg #[.int .i64 3, .string d, .slice A n c, .slice B m c2]] w fun e w' => e = .returned (.bool (stmB ⟨3, d, us, ts⟩)) ∧ Below w.heap.size w w' := by
  rw [stm_is3]
  obtain ⟨hU, hT, -, -, hd⟩ := h
  simp only at hU hT
  have Hd := hid (show d.size ≤ maxLen by unfold maxLen; omega)
  have hb2 := ((Below.refl w.heap.size w).alloc (Nat.le_refl _) (.cells #[.int .i64 3, .string d, .slice A n c, .slice B m c2] 68)).alloc (by rw [World.size_alloc]; omega) (.cells (shp kwCall false 0 0 1).toArray 214)
  have Hf := hid ((Fb.new w #[.int .i64 3, .string d, .slice A n c, .slice B m c2] 68).alloc (.cells (shp kwCall false 0 0 1).toArray 214))
  have Hg := hid (show Fb ((w.alloc (.cells #[.int .i64 3, .string d, .slice A n c, .slice B m c2] 68)).alloc (.cells (shp kwCall false 0 0 1).toArray 214)) (w.heap.size + 1) (shp kwCall false 0 0 1).toArray 214 by have := Fb.new (w.alloc (.cells #[.int .i64 3, .string d, .slice A n c, .slice B m c2] 68)) (shp kwCall false 0 0 1).toArray 214; rwa [World.size_alloc] at this)
  have HU := hid (hU.below hb2)
  have HT := hid (hT.below hb2)
  have HB := hid hb2
  have HLU := hid (show us.length = n from hU.len)
  have HLT := hid (show ts.length = m from hT.len)
  obtain ⟨z0, z1, z2, z3, z4⟩ := shp5 hs 3 (k := kwCall) (d := false) (l := 0) (m := 0) (t := 1) rfl
  have z0 : w.cell? ⟨1, 15, none⟩ = some (.string kwCall) := z0
  have z1 : w.cell? ⟨1, 16, none⟩ = some (.bool false) := z1
  have z2 : w.cell? ⟨1, 17, none⟩ = some (.int .i64 0) := z2
  have z3 : w.cell? ⟨1, 18, none⟩ = some (.int .i64 0) := z3
  have z4 : w.cell? ⟨1, 19, none⟩ = some (.int .i64 1) := z4
  have hw0 : wiB 3 1 9 = true := by decide
  have hn0 := hU.few
  have hm0 := hT.few
  have hpos := hs.pos0
  clear hU hT hb2 hs
  go_enter Tryz.func178, Tryz.ntmps178
  go_wp2_with fail
  refine (within_any _ _ _ _).mono ?_
  rintro e w2 ⟨rfl, rfl⟩
  obtain ⟨a0, a1, a2, a3⟩ := Fb.four Hf.out
  have b1 : _ = some (Value.bool false) := Hg.out.cell 1
  have b2 : _ = some (Value.int .i64 0) := Hg.out.cell 2
  have b3 : _ = some (Value.int .i64 0) := Hg.out.cell 3
  have b4 : _ = some (Value.int .i64 1) := Hg.out.cell 4
  have he1 : (d.toList == ([] : List UInt8)) = decide (d = ⟨#[]⟩) := empty_list d
  have he2 : (d.toList == (⟨#[]⟩ : ByteArray).toList) = decide (d = ⟨#[]⟩) := by rw [show ((⟨#[]⟩ : ByteArray).toList) = [] from toList_data _]; exact empty_list d
  cases hv : decide (d = ⟨#[]⟩) with
  | false =>
    as_aux_lemma =>
      have Hr := hid (show vwB false 0 0 1 ⟨3, d, us, ts⟩ = false by unfold vwB; simp only [hv]; rfl)
      rw [hv] at he1 he2
      clear hv
      go_wp2_with fail
      go_ret
      exact ⟨by rw [Hr.out]; rfl, HB.out⟩
  | true =>
    have Hv := hid hv
    rw [hv] at he1 he2
    clear hv
    go_wp2_with fail
    skip
    refine (within_any _ _ _ _).mono ?_
    rintro e w3 ⟨rfl, rfl⟩
    cases hx : wiB n 0 0 with
    | false =>
      as_aux_lemma =>
        have Hr := hid (show vwB false 0 0 1 ⟨3, d, us, ts⟩ = false by unfold vwB; simp only [HLU.out, hx]; simp)
        clear hx
        go_wp2_with fail
        go_ret
        exact ⟨by rw [Hr.out]; rfl, HB.out⟩
    | true =>
      have Hx := hid hx
      clear hx
      go_wp2_with fail
      refine (allStr_any A n c us _ HU.out).mono ?_
      rintro e w4 ⟨rfl, hb4⟩
      have Hf4 := hid (Hf.out.below hb4 Hf.out.lt)
      have Hg4 := hid (Hg.out.below hb4 Hg.out.lt)
      have HT4 := hid (HT.out.below hb4)
      have HB4 := hid (below_step HB.out hb4)
      clear hb4 a0 a1 a2 a3 b1 b2 b3 b4 Hf Hg HT HB HU
      obtain ⟨a0, a1, a2, a3⟩ := Fb.four Hf4.out
      have b4 : _ = some (Value.int .i64 1) := Hg4.out.cell 4
      cases hu : us.all nameB with
      | false =>
        as_aux_lemma =>
          have Hr := hid (show vwB false 0 0 1 ⟨3, d, us, ts⟩ = false by unfold vwB; simp only [HLU.out, hu]; simp)
          clear hu
          go_wp2_with fail
          go_ret
          exact ⟨by rw [Hr.out]; rfl, HB4.out⟩
      | true =>
        have Hu := hid hu
        clear hu
        cases hm : ((m : Int) == 1) with
        | false =>
          as_aux_lemma =>
            have Hr := hid (show vwB false 0 0 1 ⟨3, d, us, ts⟩ = false by unfold vwB; simp only [HLT.out, hm]; simp)
            go_wp2_with fail
            go_ret
            exact ⟨by rw [Hr.out]; rfl, HB4.out⟩
        | true =>
          as_aux_lemma =>
            have Hr := hid (show vwB false 0 0 1 ⟨3, d, us, ts⟩ = ts.all nameB by unfold vwB; simp only [HLU.out, HLT.out, hm, Hx.out, Hu.out, Hv.out]; simp)
            go_wp2_with fail
            refine (allStr_any B m c2 ts _ HT4.out).mono ?_
            rintro e w5 ⟨rfl, hb5⟩
            have HB5 := hid (below_step HB4.out hb5)
            clear hb5 hm
            cases hy : ts.all nameB with
            | false =>
              rw [hy] at Hr
              clear hy
              go_wp2_with fail
              go_ret
              exact ⟨by rw [Hr.out]; rfl, HB5.out⟩
            | true =>
              rw [hy] at Hr
              clear hy
              go_wp2_with fail
              go_ret
              exact ⟨by rw [Hr.out]; rfl, HB5.out⟩
set_option maxHeartbeats 6400000 in
theorem validStmt_4 (d : ByteArray) (A : Option Addr) (n c : Nat) (B : Option Addr) (m c2 : Nat) (us ts : List ByteArray) (w : World) (h : StArg w 4 d A n B m ⟨4, d, us, ts⟩) (hs : Shp w) :
    Calls Tryz.prog 178 #[.agg #[.int .i64 4, .string d, .slice A n c, .slice B m c2]] w fun e w' => e = .returned (.bool (stmB ⟨4, d, us, ts⟩)) ∧ Below w.heap.size w w' := by
  rw [stm_is4]
  obtain ⟨hU, hT, -, -, hd⟩ := h
  simp only at hU hT
  have Hd := hid (show d.size ≤ maxLen by unfold maxLen; omega)
  have hb2 := ((Below.refl w.heap.size w).alloc (Nat.le_refl _) (.cells #[.int .i64 4, .string d, .slice A n c, .slice B m c2] 68)).alloc (by rw [World.size_alloc]; omega) (.cells (shp kwSource true 0 0 0).toArray 214)
  have Hf := hid ((Fb.new w #[.int .i64 4, .string d, .slice A n c, .slice B m c2] 68).alloc (.cells (shp kwSource true 0 0 0).toArray 214))
  have Hg := hid (show Fb ((w.alloc (.cells #[.int .i64 4, .string d, .slice A n c, .slice B m c2] 68)).alloc (.cells (shp kwSource true 0 0 0).toArray 214)) (w.heap.size + 1) (shp kwSource true 0 0 0).toArray 214 by have := Fb.new (w.alloc (.cells #[.int .i64 4, .string d, .slice A n c, .slice B m c2] 68)) (shp kwSource true 0 0 0).toArray 214; rwa [World.size_alloc] at this)
  have HU := hid (hU.below hb2)
  have HT := hid (hT.below hb2)
  have HB := hid hb2
  have HLU := hid (show us.length = n from hU.len)
  have HLT := hid (show ts.length = m from hT.len)
  obtain ⟨z0, z1, z2, z3, z4⟩ := shp5 hs 4 (k := kwSource) (d := true) (l := 0) (m := 0) (t := 0) rfl
  have z0 : w.cell? ⟨1, 20, none⟩ = some (.string kwSource) := z0
  have z1 : w.cell? ⟨1, 21, none⟩ = some (.bool true) := z1
  have z2 : w.cell? ⟨1, 22, none⟩ = some (.int .i64 0) := z2
  have z3 : w.cell? ⟨1, 23, none⟩ = some (.int .i64 0) := z3
  have z4 : w.cell? ⟨1, 24, none⟩ = some (.int .i64 0) := z4
  have hw0 : wiB 4 1 9 = true := by decide
  have hn0 := hU.few
  have hm0 := hT.few
  have hpos := hs.pos0
  clear hU hT hb2 hs
  go_enter Tryz.func178, Tryz.ntmps178
  go_wp2_with fail
  refine (within_any _ _ _ _).mono ?_
  rintro e w2 ⟨rfl, rfl⟩
  obtain ⟨a0, a1, a2, a3⟩ := Fb.four Hf.out
  have b1 : _ = some (Value.bool true) := Hg.out.cell 1
  have b2 : _ = some (Value.int .i64 0) := Hg.out.cell 2
  have b3 : _ = some (Value.int .i64 0) := Hg.out.cell 3
  have b4 : _ = some (Value.int .i64 0) := Hg.out.cell 4
  go_wp2_with fail
  skip
  refine (devIsName_any d _ Hd.out).mono ?_
  rintro e w2 ⟨rfl, rfl⟩
  cases hv : nameB d with
  | false =>
    as_aux_lemma =>
      have Hr := hid (show vwB true 0 0 0 ⟨4, d, us, ts⟩ = false by unfold vwB; simp only [hv]; rfl)
      clear hv
      go_wp2_with fail
      go_ret
      exact ⟨by rw [Hr.out]; rfl, HB.out⟩
  | true =>
    have Hv := hid hv
    clear hv
    go_wp2_with fail
    refine (within_any _ _ _ _).mono ?_
    rintro e w3 ⟨rfl, rfl⟩
    cases hx : wiB n 0 0 with
    | false =>
      as_aux_lemma =>
        have Hr := hid (show vwB true 0 0 0 ⟨4, d, us, ts⟩ = false by unfold vwB; simp only [HLU.out, hx]; simp)
        clear hx
        go_wp2_with fail
        go_ret
        exact ⟨by rw [Hr.out]; rfl, HB.out⟩
    | true =>
      have Hx := hid hx
      clear hx
      go_wp2_with fail
      refine (allStr_any A n c us _ HU.out).mono ?_
      rintro e w4 ⟨rfl, hb4⟩
      have Hf4 := hid (Hf.out.below hb4 Hf.out.lt)
      have Hg4 := hid (Hg.out.below hb4 Hg.out.lt)
      have HT4 := hid (HT.out.below hb4)
      have HB4 := hid (below_step HB.out hb4)
      clear hb4 a0 a1 a2 a3 b1 b2 b3 b4 Hf Hg HT HB HU
      obtain ⟨a0, a1, a2, a3⟩ := Fb.four Hf4.out
      have b4 : _ = some (Value.int .i64 0) := Hg4.out.cell 4
      cases hu : us.all nameB with
      | false =>
        as_aux_lemma =>
          have Hr := hid (show vwB true 0 0 0 ⟨4, d, us, ts⟩ = false by unfold vwB; simp only [HLU.out, hu]; simp)
          clear hu
          go_wp2_with fail
          go_ret
          exact ⟨by rw [Hr.out]; rfl, HB4.out⟩
      | true =>
        have Hu := hid hu
        clear hu
        cases hm : ((m : Int) == 0) with
        | false =>
          as_aux_lemma =>
            have Hr := hid (show vwB true 0 0 0 ⟨4, d, us, ts⟩ = false by unfold vwB; simp only [HLT.out, hm]; simp)
            go_wp2_with fail
            go_ret
            exact ⟨by rw [Hr.out]; rfl, HB4.out⟩
        | true =>
          as_aux_lemma =>
            have Hr := hid (show vwB true 0 0 0 ⟨4, d, us, ts⟩ = ts.all nameB by unfold vwB; simp only [HLU.out, HLT.out, hm, Hx.out, Hu.out, Hv.out]; simp)
            go_wp2_with fail
            refine (allStr_any B m c2 ts _ HT4.out).mono ?_
            rintro e w5 ⟨rfl, hb5⟩
            have HB5 := hid (below_step HB4.out hb5)
            clear hb5 hm
            cases hy : ts.all nameB with
            | false =>
              rw [hy] at Hr
              clear hy
              go_wp2_with fail
              go_ret
              exact ⟨by rw [Hr.out]; rfl, HB5.out⟩
            | true =>
              rw [hy] at Hr
              clear hy
              go_wp2_with fail
              go_ret
              exact ⟨by rw [Hr.out]; rfl, HB5.out⟩
set_option maxHeartbeats 6400000 in
theorem validStmt_5 (d : ByteArray) (A : Option Addr) (n c : Nat) (B : Option Addr) (m c2 : Nat) (us ts : List ByteArray) (w : World) (h : StArg w 5 d A n B m ⟨5, d, us, ts⟩) (hs : Shp w) :
    Calls Tryz.prog 178 #[.agg #[.int .i64 5, .string d, .slice A n c, .slice B m c2]] w fun e w' => e = .returned (.bool (stmB ⟨5, d, us, ts⟩)) ∧ Below w.heap.size w w' := by
  rw [stm_is5]
  obtain ⟨hU, hT, -, -, hd⟩ := h
  simp only at hU hT
  have Hd := hid (show d.size ≤ maxLen by unfold maxLen; omega)
  have hb2 := ((Below.refl w.heap.size w).alloc (Nat.le_refl _) (.cells #[.int .i64 5, .string d, .slice A n c, .slice B m c2] 68)).alloc (by rw [World.size_alloc]; omega) (.cells (shp kwSink false 1 1 0).toArray 214)
  have Hf := hid ((Fb.new w #[.int .i64 5, .string d, .slice A n c, .slice B m c2] 68).alloc (.cells (shp kwSink false 1 1 0).toArray 214))
  have Hg := hid (show Fb ((w.alloc (.cells #[.int .i64 5, .string d, .slice A n c, .slice B m c2] 68)).alloc (.cells (shp kwSink false 1 1 0).toArray 214)) (w.heap.size + 1) (shp kwSink false 1 1 0).toArray 214 by have := Fb.new (w.alloc (.cells #[.int .i64 5, .string d, .slice A n c, .slice B m c2] 68)) (shp kwSink false 1 1 0).toArray 214; rwa [World.size_alloc] at this)
  have HU := hid (hU.below hb2)
  have HT := hid (hT.below hb2)
  have HB := hid hb2
  have HLU := hid (show us.length = n from hU.len)
  have HLT := hid (show ts.length = m from hT.len)
  obtain ⟨z0, z1, z2, z3, z4⟩ := shp5 hs 5 (k := kwSink) (d := false) (l := 1) (m := 1) (t := 0) rfl
  have z0 : w.cell? ⟨1, 25, none⟩ = some (.string kwSink) := z0
  have z1 : w.cell? ⟨1, 26, none⟩ = some (.bool false) := z1
  have z2 : w.cell? ⟨1, 27, none⟩ = some (.int .i64 1) := z2
  have z3 : w.cell? ⟨1, 28, none⟩ = some (.int .i64 1) := z3
  have z4 : w.cell? ⟨1, 29, none⟩ = some (.int .i64 0) := z4
  have hw0 : wiB 5 1 9 = true := by decide
  have hn0 := hU.few
  have hm0 := hT.few
  have hpos := hs.pos0
  clear hU hT hb2 hs
  go_enter Tryz.func178, Tryz.ntmps178
  go_wp2_with fail
  refine (within_any _ _ _ _).mono ?_
  rintro e w2 ⟨rfl, rfl⟩
  obtain ⟨a0, a1, a2, a3⟩ := Fb.four Hf.out
  have b1 : _ = some (Value.bool false) := Hg.out.cell 1
  have b2 : _ = some (Value.int .i64 1) := Hg.out.cell 2
  have b3 : _ = some (Value.int .i64 1) := Hg.out.cell 3
  have b4 : _ = some (Value.int .i64 0) := Hg.out.cell 4
  have he1 : (d.toList == ([] : List UInt8)) = decide (d = ⟨#[]⟩) := empty_list d
  have he2 : (d.toList == (⟨#[]⟩ : ByteArray).toList) = decide (d = ⟨#[]⟩) := by rw [show ((⟨#[]⟩ : ByteArray).toList) = [] from toList_data _]; exact empty_list d
  cases hv : decide (d = ⟨#[]⟩) with
  | false =>
    as_aux_lemma =>
      have Hr := hid (show vwB false 1 1 0 ⟨5, d, us, ts⟩ = false by unfold vwB; simp only [hv]; rfl)
      rw [hv] at he1 he2
      clear hv
      go_wp2_with fail
      go_ret
      exact ⟨by rw [Hr.out]; rfl, HB.out⟩
  | true =>
    have Hv := hid hv
    rw [hv] at he1 he2
    clear hv
    go_wp2_with fail
    skip
    refine (within_any _ _ _ _).mono ?_
    rintro e w3 ⟨rfl, rfl⟩
    cases hx : wiB n 1 1 with
    | false =>
      as_aux_lemma =>
        have Hr := hid (show vwB false 1 1 0 ⟨5, d, us, ts⟩ = false by unfold vwB; simp only [HLU.out, hx]; simp)
        clear hx
        go_wp2_with fail
        go_ret
        exact ⟨by rw [Hr.out]; rfl, HB.out⟩
    | true =>
      have Hx := hid hx
      clear hx
      go_wp2_with fail
      refine (allStr_any A n c us _ HU.out).mono ?_
      rintro e w4 ⟨rfl, hb4⟩
      have Hf4 := hid (Hf.out.below hb4 Hf.out.lt)
      have Hg4 := hid (Hg.out.below hb4 Hg.out.lt)
      have HT4 := hid (HT.out.below hb4)
      have HB4 := hid (below_step HB.out hb4)
      clear hb4 a0 a1 a2 a3 b1 b2 b3 b4 Hf Hg HT HB HU
      obtain ⟨a0, a1, a2, a3⟩ := Fb.four Hf4.out
      have b4 : _ = some (Value.int .i64 0) := Hg4.out.cell 4
      cases hu : us.all nameB with
      | false =>
        as_aux_lemma =>
          have Hr := hid (show vwB false 1 1 0 ⟨5, d, us, ts⟩ = false by unfold vwB; simp only [HLU.out, hu]; simp)
          clear hu
          go_wp2_with fail
          go_ret
          exact ⟨by rw [Hr.out]; rfl, HB4.out⟩
      | true =>
        have Hu := hid hu
        clear hu
        cases hm : ((m : Int) == 0) with
        | false =>
          as_aux_lemma =>
            have Hr := hid (show vwB false 1 1 0 ⟨5, d, us, ts⟩ = false by unfold vwB; simp only [HLT.out, hm]; simp)
            go_wp2_with fail
            go_ret
            exact ⟨by rw [Hr.out]; rfl, HB4.out⟩
        | true =>
          as_aux_lemma =>
            have Hr := hid (show vwB false 1 1 0 ⟨5, d, us, ts⟩ = ts.all nameB by unfold vwB; simp only [HLU.out, HLT.out, hm, Hx.out, Hu.out, Hv.out]; simp)
            go_wp2_with fail
            refine (allStr_any B m c2 ts _ HT4.out).mono ?_
            rintro e w5 ⟨rfl, hb5⟩
            have HB5 := hid (below_step HB4.out hb5)
            clear hb5 hm
            cases hy : ts.all nameB with
            | false =>
              rw [hy] at Hr
              clear hy
              go_wp2_with fail
              go_ret
              exact ⟨by rw [Hr.out]; rfl, HB5.out⟩
            | true =>
              rw [hy] at Hr
              clear hy
              go_wp2_with fail
              go_ret
              exact ⟨by rw [Hr.out]; rfl, HB5.out⟩
set_option maxHeartbeats 6400000 in
theorem validStmt_6 (d : ByteArray) (A : Option Addr) (n c : Nat) (B : Option Addr) (m c2 : Nat) (us ts : List ByteArray) (w : World) (h : StArg w 6 d A n B m ⟨6, d, us, ts⟩) (hs : Shp w) :
    Calls Tryz.prog 178 #[.agg #[.int .i64 6, .string d, .slice A n c, .slice B m c2]] w fun e w' => e = .returned (.bool (stmB ⟨6, d, us, ts⟩)) ∧ Below w.heap.size w w' := by
  rw [stm_is6]
  obtain ⟨hU, hT, -, -, hd⟩ := h
  simp only at hU hT
  have Hd := hid (show d.size ≤ maxLen by unfold maxLen; omega)
  have hb2 := ((Below.refl w.heap.size w).alloc (Nat.le_refl _) (.cells #[.int .i64 6, .string d, .slice A n c, .slice B m c2] 68)).alloc (by rw [World.size_alloc]; omega) (.cells (shp kwSanitize true 0 0 0).toArray 214)
  have Hf := hid ((Fb.new w #[.int .i64 6, .string d, .slice A n c, .slice B m c2] 68).alloc (.cells (shp kwSanitize true 0 0 0).toArray 214))
  have Hg := hid (show Fb ((w.alloc (.cells #[.int .i64 6, .string d, .slice A n c, .slice B m c2] 68)).alloc (.cells (shp kwSanitize true 0 0 0).toArray 214)) (w.heap.size + 1) (shp kwSanitize true 0 0 0).toArray 214 by have := Fb.new (w.alloc (.cells #[.int .i64 6, .string d, .slice A n c, .slice B m c2] 68)) (shp kwSanitize true 0 0 0).toArray 214; rwa [World.size_alloc] at this)
  have HU := hid (hU.below hb2)
  have HT := hid (hT.below hb2)
  have HB := hid hb2
  have HLU := hid (show us.length = n from hU.len)
  have HLT := hid (show ts.length = m from hT.len)
  obtain ⟨z0, z1, z2, z3, z4⟩ := shp5 hs 6 (k := kwSanitize) (d := true) (l := 0) (m := 0) (t := 0) rfl
  have z0 : w.cell? ⟨1, 30, none⟩ = some (.string kwSanitize) := z0
  have z1 : w.cell? ⟨1, 31, none⟩ = some (.bool true) := z1
  have z2 : w.cell? ⟨1, 32, none⟩ = some (.int .i64 0) := z2
  have z3 : w.cell? ⟨1, 33, none⟩ = some (.int .i64 0) := z3
  have z4 : w.cell? ⟨1, 34, none⟩ = some (.int .i64 0) := z4
  have hw0 : wiB 6 1 9 = true := by decide
  have hn0 := hU.few
  have hm0 := hT.few
  have hpos := hs.pos0
  clear hU hT hb2 hs
  go_enter Tryz.func178, Tryz.ntmps178
  go_wp2_with fail
  refine (within_any _ _ _ _).mono ?_
  rintro e w2 ⟨rfl, rfl⟩
  obtain ⟨a0, a1, a2, a3⟩ := Fb.four Hf.out
  have b1 : _ = some (Value.bool true) := Hg.out.cell 1
  have b2 : _ = some (Value.int .i64 0) := Hg.out.cell 2
  have b3 : _ = some (Value.int .i64 0) := Hg.out.cell 3
  have b4 : _ = some (Value.int .i64 0) := Hg.out.cell 4
  go_wp2_with fail
  skip
  refine (devIsName_any d _ Hd.out).mono ?_
  rintro e w2 ⟨rfl, rfl⟩
  cases hv : nameB d with
  | false =>
    as_aux_lemma =>
      have Hr := hid (show vwB true 0 0 0 ⟨6, d, us, ts⟩ = false by unfold vwB; simp only [hv]; rfl)
      clear hv
      go_wp2_with fail
      go_ret
      exact ⟨by rw [Hr.out]; rfl, HB.out⟩
  | true =>
    have Hv := hid hv
    clear hv
    go_wp2_with fail
    refine (within_any _ _ _ _).mono ?_
    rintro e w3 ⟨rfl, rfl⟩
    cases hx : wiB n 0 0 with
    | false =>
      as_aux_lemma =>
        have Hr := hid (show vwB true 0 0 0 ⟨6, d, us, ts⟩ = false by unfold vwB; simp only [HLU.out, hx]; simp)
        clear hx
        go_wp2_with fail
        go_ret
        exact ⟨by rw [Hr.out]; rfl, HB.out⟩
    | true =>
      have Hx := hid hx
      clear hx
      go_wp2_with fail
      refine (allStr_any A n c us _ HU.out).mono ?_
      rintro e w4 ⟨rfl, hb4⟩
      have Hf4 := hid (Hf.out.below hb4 Hf.out.lt)
      have Hg4 := hid (Hg.out.below hb4 Hg.out.lt)
      have HT4 := hid (HT.out.below hb4)
      have HB4 := hid (below_step HB.out hb4)
      clear hb4 a0 a1 a2 a3 b1 b2 b3 b4 Hf Hg HT HB HU
      obtain ⟨a0, a1, a2, a3⟩ := Fb.four Hf4.out
      have b4 : _ = some (Value.int .i64 0) := Hg4.out.cell 4
      cases hu : us.all nameB with
      | false =>
        as_aux_lemma =>
          have Hr := hid (show vwB true 0 0 0 ⟨6, d, us, ts⟩ = false by unfold vwB; simp only [HLU.out, hu]; simp)
          clear hu
          go_wp2_with fail
          go_ret
          exact ⟨by rw [Hr.out]; rfl, HB4.out⟩
      | true =>
        have Hu := hid hu
        clear hu
        cases hm : ((m : Int) == 0) with
        | false =>
          as_aux_lemma =>
            have Hr := hid (show vwB true 0 0 0 ⟨6, d, us, ts⟩ = false by unfold vwB; simp only [HLT.out, hm]; simp)
            go_wp2_with fail
            go_ret
            exact ⟨by rw [Hr.out]; rfl, HB4.out⟩
        | true =>
          as_aux_lemma =>
            have Hr := hid (show vwB true 0 0 0 ⟨6, d, us, ts⟩ = ts.all nameB by unfold vwB; simp only [HLU.out, HLT.out, hm, Hx.out, Hu.out, Hv.out]; simp)
            go_wp2_with fail
            refine (allStr_any B m c2 ts _ HT4.out).mono ?_
            rintro e w5 ⟨rfl, hb5⟩
            have HB5 := hid (below_step HB4.out hb5)
            clear hb5 hm
            cases hy : ts.all nameB with
            | false =>
              rw [hy] at Hr
              clear hy
              go_wp2_with fail
              go_ret
              exact ⟨by rw [Hr.out]; rfl, HB5.out⟩
            | true =>
              rw [hy] at Hr
              clear hy
              go_wp2_with fail
              go_ret
              exact ⟨by rw [Hr.out]; rfl, HB5.out⟩
set_option maxHeartbeats 6400000 in
theorem validStmt_7 (d : ByteArray) (A : Option Addr) (n c : Nat) (B : Option Addr) (m c2 : Nat) (us ts : List ByteArray) (w : World) (h : StArg w 7 d A n B m ⟨7, d, us, ts⟩) (hs : Shp w) :
    Calls Tryz.prog 178 #[.agg #[.int .i64 7, .string d, .slice A n c, .slice B m c2]] w fun e w' => e = .returned (.bool (stmB ⟨7, d, us, ts⟩)) ∧ Below w.heap.size w w' := by
  rw [stm_is7]
  obtain ⟨hU, hT, -, -, hd⟩ := h
  simp only at hU hT
  have Hd := hid (show d.size ≤ maxLen by unfold maxLen; omega)
  have hb2 := ((Below.refl w.heap.size w).alloc (Nat.le_refl _) (.cells #[.int .i64 7, .string d, .slice A n c, .slice B m c2] 68)).alloc (by rw [World.size_alloc]; omega) (.cells (shp kwGoto false 0 0 1).toArray 214)
  have Hf := hid ((Fb.new w #[.int .i64 7, .string d, .slice A n c, .slice B m c2] 68).alloc (.cells (shp kwGoto false 0 0 1).toArray 214))
  have Hg := hid (show Fb ((w.alloc (.cells #[.int .i64 7, .string d, .slice A n c, .slice B m c2] 68)).alloc (.cells (shp kwGoto false 0 0 1).toArray 214)) (w.heap.size + 1) (shp kwGoto false 0 0 1).toArray 214 by have := Fb.new (w.alloc (.cells #[.int .i64 7, .string d, .slice A n c, .slice B m c2] 68)) (shp kwGoto false 0 0 1).toArray 214; rwa [World.size_alloc] at this)
  have HU := hid (hU.below hb2)
  have HT := hid (hT.below hb2)
  have HB := hid hb2
  have HLU := hid (show us.length = n from hU.len)
  have HLT := hid (show ts.length = m from hT.len)
  obtain ⟨z0, z1, z2, z3, z4⟩ := shp5 hs 7 (k := kwGoto) (d := false) (l := 0) (m := 0) (t := 1) rfl
  have z0 : w.cell? ⟨1, 35, none⟩ = some (.string kwGoto) := z0
  have z1 : w.cell? ⟨1, 36, none⟩ = some (.bool false) := z1
  have z2 : w.cell? ⟨1, 37, none⟩ = some (.int .i64 0) := z2
  have z3 : w.cell? ⟨1, 38, none⟩ = some (.int .i64 0) := z3
  have z4 : w.cell? ⟨1, 39, none⟩ = some (.int .i64 1) := z4
  have hw0 : wiB 7 1 9 = true := by decide
  have hn0 := hU.few
  have hm0 := hT.few
  have hpos := hs.pos0
  clear hU hT hb2 hs
  go_enter Tryz.func178, Tryz.ntmps178
  go_wp2_with fail
  refine (within_any _ _ _ _).mono ?_
  rintro e w2 ⟨rfl, rfl⟩
  obtain ⟨a0, a1, a2, a3⟩ := Fb.four Hf.out
  have b1 : _ = some (Value.bool false) := Hg.out.cell 1
  have b2 : _ = some (Value.int .i64 0) := Hg.out.cell 2
  have b3 : _ = some (Value.int .i64 0) := Hg.out.cell 3
  have b4 : _ = some (Value.int .i64 1) := Hg.out.cell 4
  have he1 : (d.toList == ([] : List UInt8)) = decide (d = ⟨#[]⟩) := empty_list d
  have he2 : (d.toList == (⟨#[]⟩ : ByteArray).toList) = decide (d = ⟨#[]⟩) := by rw [show ((⟨#[]⟩ : ByteArray).toList) = [] from toList_data _]; exact empty_list d
  cases hv : decide (d = ⟨#[]⟩) with
  | false =>
    as_aux_lemma =>
      have Hr := hid (show vwB false 0 0 1 ⟨7, d, us, ts⟩ = false by unfold vwB; simp only [hv]; rfl)
      rw [hv] at he1 he2
      clear hv
      go_wp2_with fail
      go_ret
      exact ⟨by rw [Hr.out]; rfl, HB.out⟩
  | true =>
    have Hv := hid hv
    rw [hv] at he1 he2
    clear hv
    go_wp2_with fail
    skip
    refine (within_any _ _ _ _).mono ?_
    rintro e w3 ⟨rfl, rfl⟩
    cases hx : wiB n 0 0 with
    | false =>
      as_aux_lemma =>
        have Hr := hid (show vwB false 0 0 1 ⟨7, d, us, ts⟩ = false by unfold vwB; simp only [HLU.out, hx]; simp)
        clear hx
        go_wp2_with fail
        go_ret
        exact ⟨by rw [Hr.out]; rfl, HB.out⟩
    | true =>
      have Hx := hid hx
      clear hx
      go_wp2_with fail
      refine (allStr_any A n c us _ HU.out).mono ?_
      rintro e w4 ⟨rfl, hb4⟩
      have Hf4 := hid (Hf.out.below hb4 Hf.out.lt)
      have Hg4 := hid (Hg.out.below hb4 Hg.out.lt)
      have HT4 := hid (HT.out.below hb4)
      have HB4 := hid (below_step HB.out hb4)
      clear hb4 a0 a1 a2 a3 b1 b2 b3 b4 Hf Hg HT HB HU
      obtain ⟨a0, a1, a2, a3⟩ := Fb.four Hf4.out
      have b4 : _ = some (Value.int .i64 1) := Hg4.out.cell 4
      cases hu : us.all nameB with
      | false =>
        as_aux_lemma =>
          have Hr := hid (show vwB false 0 0 1 ⟨7, d, us, ts⟩ = false by unfold vwB; simp only [HLU.out, hu]; simp)
          clear hu
          go_wp2_with fail
          go_ret
          exact ⟨by rw [Hr.out]; rfl, HB4.out⟩
      | true =>
        have Hu := hid hu
        clear hu
        cases hm : ((m : Int) == 1) with
        | false =>
          as_aux_lemma =>
            have Hr := hid (show vwB false 0 0 1 ⟨7, d, us, ts⟩ = false by unfold vwB; simp only [HLT.out, hm]; simp)
            go_wp2_with fail
            go_ret
            exact ⟨by rw [Hr.out]; rfl, HB4.out⟩
        | true =>
          as_aux_lemma =>
            have Hr := hid (show vwB false 0 0 1 ⟨7, d, us, ts⟩ = ts.all nameB by unfold vwB; simp only [HLU.out, HLT.out, hm, Hx.out, Hu.out, Hv.out]; simp)
            go_wp2_with fail
            refine (allStr_any B m c2 ts _ HT4.out).mono ?_
            rintro e w5 ⟨rfl, hb5⟩
            have HB5 := hid (below_step HB4.out hb5)
            clear hb5 hm
            cases hy : ts.all nameB with
            | false =>
              rw [hy] at Hr
              clear hy
              go_wp2_with fail
              go_ret
              exact ⟨by rw [Hr.out]; rfl, HB5.out⟩
            | true =>
              rw [hy] at Hr
              clear hy
              go_wp2_with fail
              go_ret
              exact ⟨by rw [Hr.out]; rfl, HB5.out⟩
set_option maxHeartbeats 6400000 in
theorem validStmt_8 (d : ByteArray) (A : Option Addr) (n c : Nat) (B : Option Addr) (m c2 : Nat) (us ts : List ByteArray) (w : World) (h : StArg w 8 d A n B m ⟨8, d, us, ts⟩) (hs : Shp w) :
    Calls Tryz.prog 178 #[.agg #[.int .i64 8, .string d, .slice A n c, .slice B m c2]] w fun e w' => e = .returned (.bool (stmB ⟨8, d, us, ts⟩)) ∧ Below w.heap.size w w' := by
  rw [stm_is8]
  obtain ⟨hU, hT, -, -, hd⟩ := h
  simp only at hU hT
  have Hd := hid (show d.size ≤ maxLen by unfold maxLen; omega)
  have hb2 := ((Below.refl w.heap.size w).alloc (Nat.le_refl _) (.cells #[.int .i64 8, .string d, .slice A n c, .slice B m c2] 68)).alloc (by rw [World.size_alloc]; omega) (.cells (shp kwBranch false 1 1 2).toArray 214)
  have Hf := hid ((Fb.new w #[.int .i64 8, .string d, .slice A n c, .slice B m c2] 68).alloc (.cells (shp kwBranch false 1 1 2).toArray 214))
  have Hg := hid (show Fb ((w.alloc (.cells #[.int .i64 8, .string d, .slice A n c, .slice B m c2] 68)).alloc (.cells (shp kwBranch false 1 1 2).toArray 214)) (w.heap.size + 1) (shp kwBranch false 1 1 2).toArray 214 by have := Fb.new (w.alloc (.cells #[.int .i64 8, .string d, .slice A n c, .slice B m c2] 68)) (shp kwBranch false 1 1 2).toArray 214; rwa [World.size_alloc] at this)
  have HU := hid (hU.below hb2)
  have HT := hid (hT.below hb2)
  have HB := hid hb2
  have HLU := hid (show us.length = n from hU.len)
  have HLT := hid (show ts.length = m from hT.len)
  obtain ⟨z0, z1, z2, z3, z4⟩ := shp5 hs 8 (k := kwBranch) (d := false) (l := 1) (m := 1) (t := 2) rfl
  have z0 : w.cell? ⟨1, 40, none⟩ = some (.string kwBranch) := z0
  have z1 : w.cell? ⟨1, 41, none⟩ = some (.bool false) := z1
  have z2 : w.cell? ⟨1, 42, none⟩ = some (.int .i64 1) := z2
  have z3 : w.cell? ⟨1, 43, none⟩ = some (.int .i64 1) := z3
  have z4 : w.cell? ⟨1, 44, none⟩ = some (.int .i64 2) := z4
  have hw0 : wiB 8 1 9 = true := by decide
  have hn0 := hU.few
  have hm0 := hT.few
  have hpos := hs.pos0
  clear hU hT hb2 hs
  go_enter Tryz.func178, Tryz.ntmps178
  go_wp2_with fail
  refine (within_any _ _ _ _).mono ?_
  rintro e w2 ⟨rfl, rfl⟩
  obtain ⟨a0, a1, a2, a3⟩ := Fb.four Hf.out
  have b1 : _ = some (Value.bool false) := Hg.out.cell 1
  have b2 : _ = some (Value.int .i64 1) := Hg.out.cell 2
  have b3 : _ = some (Value.int .i64 1) := Hg.out.cell 3
  have b4 : _ = some (Value.int .i64 2) := Hg.out.cell 4
  have he1 : (d.toList == ([] : List UInt8)) = decide (d = ⟨#[]⟩) := empty_list d
  have he2 : (d.toList == (⟨#[]⟩ : ByteArray).toList) = decide (d = ⟨#[]⟩) := by rw [show ((⟨#[]⟩ : ByteArray).toList) = [] from toList_data _]; exact empty_list d
  cases hv : decide (d = ⟨#[]⟩) with
  | false =>
    as_aux_lemma =>
      have Hr := hid (show vwB false 1 1 2 ⟨8, d, us, ts⟩ = false by unfold vwB; simp only [hv]; rfl)
      rw [hv] at he1 he2
      clear hv
      go_wp2_with fail
      go_ret
      exact ⟨by rw [Hr.out]; rfl, HB.out⟩
  | true =>
    have Hv := hid hv
    rw [hv] at he1 he2
    clear hv
    go_wp2_with fail
    skip
    refine (within_any _ _ _ _).mono ?_
    rintro e w3 ⟨rfl, rfl⟩
    cases hx : wiB n 1 1 with
    | false =>
      as_aux_lemma =>
        have Hr := hid (show vwB false 1 1 2 ⟨8, d, us, ts⟩ = false by unfold vwB; simp only [HLU.out, hx]; simp)
        clear hx
        go_wp2_with fail
        go_ret
        exact ⟨by rw [Hr.out]; rfl, HB.out⟩
    | true =>
      have Hx := hid hx
      clear hx
      go_wp2_with fail
      refine (allStr_any A n c us _ HU.out).mono ?_
      rintro e w4 ⟨rfl, hb4⟩
      have Hf4 := hid (Hf.out.below hb4 Hf.out.lt)
      have Hg4 := hid (Hg.out.below hb4 Hg.out.lt)
      have HT4 := hid (HT.out.below hb4)
      have HB4 := hid (below_step HB.out hb4)
      clear hb4 a0 a1 a2 a3 b1 b2 b3 b4 Hf Hg HT HB HU
      obtain ⟨a0, a1, a2, a3⟩ := Fb.four Hf4.out
      have b4 : _ = some (Value.int .i64 2) := Hg4.out.cell 4
      cases hu : us.all nameB with
      | false =>
        as_aux_lemma =>
          have Hr := hid (show vwB false 1 1 2 ⟨8, d, us, ts⟩ = false by unfold vwB; simp only [HLU.out, hu]; simp)
          clear hu
          go_wp2_with fail
          go_ret
          exact ⟨by rw [Hr.out]; rfl, HB4.out⟩
      | true =>
        have Hu := hid hu
        clear hu
        cases hm : ((m : Int) == 2) with
        | false =>
          as_aux_lemma =>
            have Hr := hid (show vwB false 1 1 2 ⟨8, d, us, ts⟩ = false by unfold vwB; simp only [HLT.out, hm]; simp)
            go_wp2_with fail
            go_ret
            exact ⟨by rw [Hr.out]; rfl, HB4.out⟩
        | true =>
          as_aux_lemma =>
            have Hr := hid (show vwB false 1 1 2 ⟨8, d, us, ts⟩ = ts.all nameB by unfold vwB; simp only [HLU.out, HLT.out, hm, Hx.out, Hu.out, Hv.out]; simp)
            go_wp2_with fail
            refine (allStr_any B m c2 ts _ HT4.out).mono ?_
            rintro e w5 ⟨rfl, hb5⟩
            have HB5 := hid (below_step HB4.out hb5)
            clear hb5 hm
            cases hy : ts.all nameB with
            | false =>
              rw [hy] at Hr
              clear hy
              go_wp2_with fail
              go_ret
              exact ⟨by rw [Hr.out]; rfl, HB5.out⟩
            | true =>
              rw [hy] at Hr
              clear hy
              go_wp2_with fail
              go_ret
              exact ⟨by rw [Hr.out]; rfl, HB5.out⟩
set_option maxHeartbeats 6400000 in
theorem validStmt_9 (d : ByteArray) (A : Option Addr) (n c : Nat) (B : Option Addr) (m c2 : Nat) (us ts : List ByteArray) (w : World) (h : StArg w 9 d A n B m ⟨9, d, us, ts⟩) (hs : Shp w) :
    Calls Tryz.prog 178 #[.agg #[.int .i64 9, .string d, .slice A n c, .slice B m c2]] w fun e w' => e = .returned (.bool (stmB ⟨9, d, us, ts⟩)) ∧ Below w.heap.size w w' := by
  rw [stm_is9]
  obtain ⟨hU, hT, -, -, hd⟩ := h
  simp only at hU hT
  have Hd := hid (show d.size ≤ maxLen by unfold maxLen; omega)
  have hb2 := ((Below.refl w.heap.size w).alloc (Nat.le_refl _) (.cells #[.int .i64 9, .string d, .slice A n c, .slice B m c2] 68)).alloc (by rw [World.size_alloc]; omega) (.cells (shp kwReturn false 0 0 0).toArray 214)
  have Hf := hid ((Fb.new w #[.int .i64 9, .string d, .slice A n c, .slice B m c2] 68).alloc (.cells (shp kwReturn false 0 0 0).toArray 214))
  have Hg := hid (show Fb ((w.alloc (.cells #[.int .i64 9, .string d, .slice A n c, .slice B m c2] 68)).alloc (.cells (shp kwReturn false 0 0 0).toArray 214)) (w.heap.size + 1) (shp kwReturn false 0 0 0).toArray 214 by have := Fb.new (w.alloc (.cells #[.int .i64 9, .string d, .slice A n c, .slice B m c2] 68)) (shp kwReturn false 0 0 0).toArray 214; rwa [World.size_alloc] at this)
  have HU := hid (hU.below hb2)
  have HT := hid (hT.below hb2)
  have HB := hid hb2
  have HLU := hid (show us.length = n from hU.len)
  have HLT := hid (show ts.length = m from hT.len)
  obtain ⟨z0, z1, z2, z3, z4⟩ := shp5 hs 9 (k := kwReturn) (d := false) (l := 0) (m := 0) (t := 0) rfl
  have z0 : w.cell? ⟨1, 45, none⟩ = some (.string kwReturn) := z0
  have z1 : w.cell? ⟨1, 46, none⟩ = some (.bool false) := z1
  have z2 : w.cell? ⟨1, 47, none⟩ = some (.int .i64 0) := z2
  have z3 : w.cell? ⟨1, 48, none⟩ = some (.int .i64 0) := z3
  have z4 : w.cell? ⟨1, 49, none⟩ = some (.int .i64 0) := z4
  have hw0 : wiB 9 1 9 = true := by decide
  have hn0 := hU.few
  have hm0 := hT.few
  have hpos := hs.pos0
  clear hU hT hb2 hs
  go_enter Tryz.func178, Tryz.ntmps178
  go_wp2_with fail
  refine (within_any _ _ _ _).mono ?_
  rintro e w2 ⟨rfl, rfl⟩
  obtain ⟨a0, a1, a2, a3⟩ := Fb.four Hf.out
  have b1 : _ = some (Value.bool false) := Hg.out.cell 1
  have b2 : _ = some (Value.int .i64 0) := Hg.out.cell 2
  have b3 : _ = some (Value.int .i64 0) := Hg.out.cell 3
  have b4 : _ = some (Value.int .i64 0) := Hg.out.cell 4
  have he1 : (d.toList == ([] : List UInt8)) = decide (d = ⟨#[]⟩) := empty_list d
  have he2 : (d.toList == (⟨#[]⟩ : ByteArray).toList) = decide (d = ⟨#[]⟩) := by rw [show ((⟨#[]⟩ : ByteArray).toList) = [] from toList_data _]; exact empty_list d
  cases hv : decide (d = ⟨#[]⟩) with
  | false =>
    as_aux_lemma =>
      have Hr := hid (show vwB false 0 0 0 ⟨9, d, us, ts⟩ = false by unfold vwB; simp only [hv]; rfl)
      rw [hv] at he1 he2
      clear hv
      go_wp2_with fail
      go_ret
      exact ⟨by rw [Hr.out]; rfl, HB.out⟩
  | true =>
    have Hv := hid hv
    rw [hv] at he1 he2
    clear hv
    go_wp2_with fail
    skip
    refine (within_any _ _ _ _).mono ?_
    rintro e w3 ⟨rfl, rfl⟩
    cases hx : wiB n 0 0 with
    | false =>
      as_aux_lemma =>
        have Hr := hid (show vwB false 0 0 0 ⟨9, d, us, ts⟩ = false by unfold vwB; simp only [HLU.out, hx]; simp)
        clear hx
        go_wp2_with fail
        go_ret
        exact ⟨by rw [Hr.out]; rfl, HB.out⟩
    | true =>
      have Hx := hid hx
      clear hx
      go_wp2_with fail
      refine (allStr_any A n c us _ HU.out).mono ?_
      rintro e w4 ⟨rfl, hb4⟩
      have Hf4 := hid (Hf.out.below hb4 Hf.out.lt)
      have Hg4 := hid (Hg.out.below hb4 Hg.out.lt)
      have HT4 := hid (HT.out.below hb4)
      have HB4 := hid (below_step HB.out hb4)
      clear hb4 a0 a1 a2 a3 b1 b2 b3 b4 Hf Hg HT HB HU
      obtain ⟨a0, a1, a2, a3⟩ := Fb.four Hf4.out
      have b4 : _ = some (Value.int .i64 0) := Hg4.out.cell 4
      cases hu : us.all nameB with
      | false =>
        as_aux_lemma =>
          have Hr := hid (show vwB false 0 0 0 ⟨9, d, us, ts⟩ = false by unfold vwB; simp only [HLU.out, hu]; simp)
          clear hu
          go_wp2_with fail
          go_ret
          exact ⟨by rw [Hr.out]; rfl, HB4.out⟩
      | true =>
        have Hu := hid hu
        clear hu
        cases hm : ((m : Int) == 0) with
        | false =>
          as_aux_lemma =>
            have Hr := hid (show vwB false 0 0 0 ⟨9, d, us, ts⟩ = false by unfold vwB; simp only [HLT.out, hm]; simp)
            go_wp2_with fail
            go_ret
            exact ⟨by rw [Hr.out]; rfl, HB4.out⟩
        | true =>
          as_aux_lemma =>
            have Hr := hid (show vwB false 0 0 0 ⟨9, d, us, ts⟩ = ts.all nameB by unfold vwB; simp only [HLU.out, HLT.out, hm, Hx.out, Hu.out, Hv.out]; simp)
            go_wp2_with fail
            refine (allStr_any B m c2 ts _ HT4.out).mono ?_
            rintro e w5 ⟨rfl, hb5⟩
            have HB5 := hid (below_step HB4.out hb5)
            clear hb5 hm
            cases hy : ts.all nameB with
            | false =>
              rw [hy] at Hr
              clear hy
              go_wp2_with fail
              go_ret
              exact ⟨by rw [Hr.out]; rfl, HB5.out⟩
            | true =>
              rw [hy] at Hr
              clear hy
              go_wp2_with fail
              go_ret
              exact ⟨by rw [Hr.out]; rfl, HB5.out⟩
end Go.Proofs.YtfapgnbnfhpicaaGreatDoor
